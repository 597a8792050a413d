/- The law ExprSubstitutes. Conditions: the readings; the table of kinds. -/
import Derived.Test.YthbbjiagfpnabaaDoorExR
import Derived.Test.YthbbjiagfpnabaaDoorExW
namespace Go.Proofs.YthbbjiagfpnabaaDoor.Tok
open Go Go.RowKit

theorem lin_new (w : World) (a : Ln) : (w.alloc (.cells #[strV a.sym, strV a.minus, .int .i64 a.num] 40)).heap[w.heap.size]? = some (.cells #[strV a.sym, strV a.minus, .int .i64 a.num] 40 (0, 0)) := heap_alloc_new w _
/-- a slice of one named value, made by the call -/
theorem nm_one (w : World) (m : Nm) (hm : m.Short) : NmsAt (w.heap.size + 1) (w.alloc (.cells #[strV m.name, strV m.lin.sym, strV m.lin.minus, .int .i64 m.lin.num] 54)) (.slice (some ⟨w.heap.size, 0, none⟩) 1 1) [m] := by
  have h := heap_alloc_new w (.cells #[strV m.name, strV m.lin.sym, strV m.lin.minus, .int .i64 m.lin.num] 54)
  obtain ⟨c1, -, -⟩ := cells_of h
  refine ⟨_, 1, rfl, ⟨by simp, by simp⟩, fun x hx => by rw [List.mem_singleton] at hx; subst hx; exact hm, fun _ => ⟨_, 0, rfl, Nat.lt_succ_self _, fun j x hj => ?_⟩⟩
  have : j = 0 := by have := (List.getElem?_eq_some_iff.1 hj).1; simpa using this
  subst this
  cases hj
  exact ⟨c1 0 _ rfl, c1 1 _ rfl, c1 2 _ rfl, c1 3 _ rfl⟩
set_option maxHeartbeats 4000000 in
set_option maxRecDepth 100000 in
theorem law_sub (B : Nat) (v : Value) (ns : List Nd) (s : List UInt8) (n : Int) (w : World) (h : NdsAt B w v ns) (hB : B ≤ w.heap.size) (hs : s.length ≤ 140737488351232) (hK : KindsAt w) :
    Calls Tryd.prog 7 #[v, strV s, .int .i64 n] w fun e w' => e = .returned (.bool true) ∧ Below w.heap.size w w' := by
  have C0 := Lib.hid (example_any w hK)
  have CV := Lib.hid (fun W (hb : Below w.heap.size w W) => value_any B v (.slice none 0 0) ns [] W (h.below (hb.mono hB)) ((NmsAt.nil W).more (Nat.zero_le _)) (Nat.le_trans hB hb.size) (hK.up hb))
  have CW := Lib.hid (fun W u (hb : Below w.heap.size w W) (hu : NmsAt W.heap.size W u [numNm s n]) => value_any W.heap.size v u ns [numNm s n] W ((h.below (hb.mono hB)).more (Nat.le_trans hB hb.size)) hu (Nat.le_refl _) (hK.up hb))
  obtain ⟨A, n0, c0, rfl, -, -, hnm0, -⟩ := h.opens
  have hok := fun (h1 : (valueL ns []).2.1 = 0) => (value_ok (l := []) (fun m hm => absurd hm (by simp)) hnm0.out h1).1
  have hwf := value_wf (ns := ns)
  have hone := value_one (ns := ns) (nm := s) (n := n)
  clear hnm0
  have hz1 := value_zero (ns := ns) (l := [])
  have hsub := value_sub (ns := ns) (nm := s) (n := n)
  clear h hK
  generalize valueL ns [] = r1 at CV hz1 hsub hok hwf
  generalize valueL ns [numNm s n] = r2 at CW hsub hone
  obtain ⟨a, f1, g1⟩ := r1
  obtain ⟨b, f2, g2⟩ := r2
  have HZ := Lib.hid hz1
  have HSUB := Lib.hid hsub
  have HSZ := Lib.hid hs
  have HOK := Lib.hid hok
  have HONE := Lib.hid hone
  have HWF := Lib.hid hwf
  unfold faultV at CV CW
  dsimp only at CV CW HZ HSUB HOK HONE HWF
  clear hz1 hsub hs hok hone hwf
  go_enter Tryd.func7, Tryd.ntmps7
  go_wp2_with fail
  refine C0.out.mono ?_
  rintro e W1 ⟨rfl, hb1⟩
  have HB1 := Lib.hid hb1
  clear hb1 C0
  go_wp2_with fail
  refine (CV.out _ HB1.out).mono ?_
  rintro e W2 ⟨rfl, hb2⟩
  have HB2 := Lib.hid (HB1.out.trans (hb2.mono HB1.out.size))
  clear hb2 CV
  unfold Ln.v
  go_wp2_with fail
  obtain ⟨P, hP⟩ : ∃ P, P = W2.heap.size := ⟨_, rfl⟩
  have hb3 : Below W2.heap.size W2 (((W2.alloc (.cells #[strV a.sym, strV a.minus, .int .i64 a.num] 40)).alloc (.cells #[.int .i64 f1, .int .i64 g1] 26)).alloc (.cells #[strV s, strV [], strV [], .int .i64 n] 54)) := (((Below.refl _ _).alloc (Nat.le_refl _) _).alloc (by simp) _).alloc (by simp; omega) _
  have hx : (((W2.alloc (.cells #[strV a.sym, strV a.minus, .int .i64 a.num] 40)).alloc (.cells #[.int .i64 f1, .int .i64 g1] 26)).alloc (.cells #[strV s, strV [], strV [], .int .i64 n] 54)).heap[P]? = some (.cells #[strV a.sym, strV a.minus, .int .i64 a.num] 40 (0, 0)) := by rw [hP]; exact heap_allocL _ (heap_allocL _ (heap_alloc_new _ _))
  have hy : (((W2.alloc (.cells #[strV a.sym, strV a.minus, .int .i64 a.num] 40)).alloc (.cells #[.int .i64 f1, .int .i64 g1] 26)).alloc (.cells #[strV s, strV [], strV [], .int .i64 n] 54)).heap[P + 1]? = some (.cells #[.int .i64 f1, .int .i64 g1] 26 (0, 0)) := by rw [hP]; exact heap_allocL _ (heap_newM _ _ _)
  have hnm := nm_one ((W2.alloc (.cells #[strV a.sym, strV a.minus, .int .i64 a.num] 40)).alloc (.cells #[.int .i64 f1, .int .i64 g1] 26)) (numNm s n) ⟨HSZ.out, by show 0 ≤ _; omega, by show 0 ≤ _; omega⟩
  rw [World.size_alloc, World.size_alloc, ← hP] at hnm
  have hnm2 : NmsAt (P + 1 + 1 + 1) (((W2.alloc (.cells #[strV a.sym, strV a.minus, .int .i64 a.num] 40)).alloc (.cells #[.int .i64 f1, .int .i64 g1] 26)).alloc (.cells #[strV s, strV [], strV [], .int .i64 n] 54)) (.slice (some ⟨P + 1 + 1, 0, none⟩) 1 1) [numNm s n] := hnm
  have HB3 := Lib.hid (HB2.out.trans (hb3.mono HB2.out.size))
  have hsz3 : (((W2.alloc (.cells #[strV a.sym, strV a.minus, .int .i64 a.num] 40)).alloc (.cells #[.int .i64 f1, .int .i64 g1] 26)).alloc (.cells #[strV s, strV [], strV [], .int .i64 n] 54)).heap.size = P + 1 + 1 + 1 := by rw [hP]; simp
  obtain ⟨W3, hW3⟩ : ∃ W3, W3 = (((W2.alloc (.cells #[strV a.sym, strV a.minus, .int .i64 a.num] 40)).alloc (.cells #[.int .i64 f1, .int .i64 g1] 26)).alloc (.cells #[strV s, strV [], strV [], .int .i64 n] 54)) := ⟨_, rfl⟩
  rw [← hW3] at hx hy hnm2 HB3 hsz3
  rw [← hP, show (((W2.alloc (.cells #[.string { data := a.sym.toArray }, .string { data := a.minus.toArray }, .int .i64 a.num] 40)).alloc (.cells #[.int .i64 f1, .int .i64 g1] 26)).alloc (.cells #[strV s, .string { data := #[] }, .string { data := #[] }, .int .i64 n] 54)) = W3 from hW3.symm]
  refine (CW.out W3 _ HB3.out (by rw [hsz3]; exact hnm2)).mono ?_
  rintro e W4 ⟨rfl, hb4⟩
  unfold Ln.v
  have HB4 := Lib.hid (HB3.out.trans (hb4.mono HB3.out.size))
  obtain ⟨x1, x2, x3⟩ := cells_of ((hb4.block _ (lt_of_block hx)).trans hx)
  obtain ⟨y1, y2, y3⟩ := cells_of ((hb4.block _ (lt_of_block hy)).trans hy)
  have a0 : W4.cell? ⟨P, 0, none⟩ = some (strV a.sym) := x1 0 _ rfl
  have a1 : W4.cell? ⟨P, 1, none⟩ = some (strV a.minus) := x1 1 _ rfl
  have a2 : W4.cell? ⟨P, 2, none⟩ = some (.int .i64 a.num) := x1 2 _ rfl
  have q0 := x2 0
  have q1 := x2 1
  have q2 := x2 2
  have b0 : W4.cell? ⟨P + 1, 0, none⟩ = some (.int .i64 f1) := y1 0 _ rfl
  have HP4 := Lib.hid (show w.heap.size ≤ P by rw [hP]; exact HB2.out.size)
  clear hb3 hb4 hx hy hnm hnm2 hP hW3 hsz3 x1 x2 y1 y2 CW
  by_cases h1 : f1 = 0
  · by_cases h2 : f2 = 0
    · have hb := HSUB.out h1 h2
      obtain ⟨o1, o2⟩ := HOK.out h1
      obtain ⟨hnn, o3, o4⟩ := HONE.out h2
      have hwf := HWF.out h1
      have HNN := Lib.hid hnn
      clear hnn
      unfold Wf at hwf
      subst h1 h2
      obtain ⟨sa, ma, na⟩ := a
      unfold subN at hb
      dsimp only at hb a0 a1 a2 o1 o2 hwf
      have HWE := Lib.hid hwf
      clear hwf HWF HOK HONE HSUB HZ
      by_cases hs1 : sa = s
      · subst hs1
        rw [if_pos rfl] at hb
        dsimp only at hb
        by_cases hs2 : ma = sa
        · exact absurd (HWE.out hs2.symm) HNN.out
        · rw [if_neg hs2] at hb
          subst hb
          have e1 : (ma == sa) = false := beq_eq_false_iff_ne.2 hs2
          clear hs2
          dsimp only
          go_wp2_with fail
          go_ret
          exact ⟨rfl, (((HB4.out.setCell (p := ⟨P, 0, none⟩) HP4.out _).setCell (p := ⟨P, 2, none⟩) HP4.out _).alloc (by simp only [World.size_setCell]; exact HB4.out.size) _).alloc (by simp only [World.size_alloc, World.size_setCell]; have := HB4.out.size; omega) _⟩
      · rw [if_neg hs1] at hb
        dsimp only at hb
        have e0 : (sa == s) = false := beq_eq_false_iff_ne.2 hs1
        clear hs1
        by_cases hs2 : ma = s
        · subst hs2
          rw [if_pos rfl] at hb
          subst hb
          dsimp only
          go_wp2_with fail
          go_ret
          exact ⟨rfl, (((HB4.out.setCell (p := ⟨P, 1, none⟩) HP4.out _).setCell (p := ⟨P, 2, none⟩) HP4.out _).alloc (by simp only [World.size_setCell]; exact HB4.out.size) _).alloc (by simp only [World.size_alloc, World.size_setCell]; have := HB4.out.size; omega) _⟩
        · rw [if_neg hs2] at hb
          subst hb
          have e1 : (ma == s) = false := beq_eq_false_iff_ne.2 hs2
          clear hs2
          dsimp only
          go_wp2_with fail
          go_ret
          exact ⟨rfl, (HB4.out.alloc HB4.out.size _).alloc (by rw [World.size_alloc]; have := HB4.out.size; omega) _⟩
    · subst h1
      have n2 : (f2 == 0) = false := beq_eq_false_iff_ne.2 h2
      have n3 : (f2 != 0) = true := by simp [bne, n2]
      clear h2
      go_wp2_with fail
      go_ret
      exact ⟨rfl, (HB4.out.alloc HB4.out.size _).alloc (by rw [World.size_alloc]; have := HB4.out.size; omega) _⟩
  · have hz := HZ.out h1
    have n2 : (f1 == 0) = false := beq_eq_false_iff_ne.2 h1
    have n3 : (f1 != 0) = true := by simp [bne, n2]
    subst hz
    unfold zeroL at a0 a1 a2
    dsimp only at a0 a1 a2
    clear h1
    go_wp2_with fail
    go_ret
    exact ⟨rfl, (HB4.out.alloc HB4.out.size _).alloc (by rw [World.size_alloc]; have := HB4.out.size; omega) _⟩
end Go.Proofs.YthbbjiagfpnabaaDoor.Tok
