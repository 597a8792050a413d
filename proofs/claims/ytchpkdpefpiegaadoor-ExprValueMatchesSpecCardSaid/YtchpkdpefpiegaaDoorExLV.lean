/- The law ExprValueMatchesSpec. Conditions: the readings; the table of kinds. -/
import Derived.Test.YtchpkdpefpiegaaDoorExR
import Derived.Test.YtchpkdpefpiegaaDoorExZB
import Derived.Test.YtchpkdpefpiegaaDoorExZQ
namespace Go.Proofs.YtchpkdpefpiegaaDoor.Tok
open Go Go.RowKit

/-- the boxes of the law: the value, its fault, the fault that is wanted -/
structure LvB (P Q : Nat) (a : Ln) (f g : Int × Int) (w : World) : Prop where
  a : w.heap[P]? = some (.cells #[strV a.sym, strV a.minus, .int .i64 a.num] 40 (0, 0))
  f : w.heap[P + 1]? = some (.cells #[.int .i64 f.1, .int .i64 f.2] 26 (0, 0))
  g : w.heap[Q]? = some (.cells #[.int .i64 g.1, .int .i64 g.2] 26 (0, 0))
theorem LvB.up {P Q : Nat} {a : Ln} {f g : Int × Int} {w w' : World} (h : LvB P Q a f g w) (hb : Below w.heap.size w w') : LvB P Q a f g w' :=
  ⟨(hb.block _ (lt_of_block h.a)).trans h.a, (hb.block _ (lt_of_block h.f)).trans h.f, (hb.block _ (lt_of_block h.g)).trans h.g⟩
theorem LvB.opens {P Q : Nat} {a : Ln} {f g : Int × Int} {w : World} (h : LvB P Q a f g w) : (w.cell? ⟨P, 0, none⟩ = some (strV a.sym) ∧ w.cell? ⟨P, 1, none⟩ = some (strV a.minus) ∧ w.cell? ⟨P, 2, none⟩ = some (.int .i64 a.num)) ∧
    (w.cell? ⟨P + 1, 0, none⟩ = some (.int .i64 f.1) ∧ w.cell? ⟨P + 1, 1, none⟩ = some (.int .i64 f.2)) ∧ (w.cell? ⟨Q, 0, none⟩ = some (.int .i64 g.1) ∧ w.cell? ⟨Q, 1, none⟩ = some (.int .i64 g.2)) ∧
    (w.frozen? ⟨Q, 0, none⟩ = false ∧ w.frozen? ⟨Q, 1, none⟩ = false) ∧ P < w.heap.size ∧ P + 1 < w.heap.size ∧ Q < w.heap.size := by
  obtain ⟨r1, r2, r3⟩ := cells_of h.a
  obtain ⟨q1, q2, q3⟩ := cells_of h.f
  obtain ⟨p1, p2, p3⟩ := cells_of h.g
  exact ⟨⟨r1 0 _ rfl, r1 1 _ rfl, r1 2 _ rfl⟩, ⟨q1 0 _ rfl, q1 1 _ rfl⟩, ⟨p1 0 _ rfl, p1 1 _ rfl⟩, ⟨p2 0, p2 1⟩, r3, q3, p3⟩
set_option maxRecDepth 100000 in
set_option maxHeartbeats 4000000 in
theorem law_value (B : Nat) (v u : Value) (ns : List Nd) (l : List Nm) (w : World) (h : NdsAt B w v ns) (hu : NmsAt B w u l) (hB : B ≤ w.heap.size) (hK : KindsAt w) :
    Calls Tryd.prog 4 #[v, u] w fun e w' => e = .returned (.bool true) ∧ Below w.heap.size w w' := by
  have C0 := Lib.hid (example_any w hK)
  have CV := Lib.hid (fun W (hb : Below w.heap.size w W) => value_any B v u ns l W (h.below (hb.mono hB)) (hu.below (hb.mono hB)) (Nat.le_trans hB hb.size) (hK.up hb))
  have CF := Lib.hid (fun W (hb : Below w.heap.size w W) => exprFault_any B v ns W (h.below (hb.mono hB)) (Nat.le_trans hB hb.size))
  have CD := Lib.hid (fun W (hb : Below w.heap.size w W) => validate_any B v ns W (h.below (hb.mono hB)) (Nat.le_trans hB hb.size) (hK.up hb))
  have CN := Lib.hid (fun W (hb : Below w.heap.size w W) => namedFault_any B u l W (hu.below (hb.mono hB)) (Nat.le_trans hB hb.size))
  have CE := Lib.hid (fun W (hb : Below w.heap.size w W) hv hf => refValue_any B v u ns l W (h.below (hb.mono hB)) (hu.below (hb.mono hB)) (Nat.le_trans hB hb.size) hv hf)
  obtain ⟨A, n, c, rfl, -⟩ := h.opens
  obtain ⟨A2, n2, c2, rfl, -⟩ := hu.opens
  have hv0 := validL_cases ns
  have hf0 := validSymL_cases l
  have e1 : (validL ns).1 ≠ 0 → valueL ns l = (zeroL, validL ns) := fun h => by unfold valueL; rw [if_pos h]
  have e2 : validL ns = (0, 0) → (validSymL l).1 ≠ 0 → valueL ns l = (zeroL, validSymL l) := fun h h2 => by unfold valueL; rw [if_neg (by rw [h]; simp), if_pos h2]
  clear h hu hK hB
  generalize valueL ns l = r at CV CE e1 e2
  generalize validL ns = vf at CF CD CE hv0 e1 e2
  generalize validSymL l = sf at CN CE hf0 e2
  obtain ⟨a, f⟩ := r
  obtain ⟨v1, v2⟩ := vf
  obtain ⟨s1, s2⟩ := sf
  obtain ⟨f1, f2⟩ := f
  have HV0 := Lib.hid hv0
  have HF0 := Lib.hid hf0
  have HE1 := Lib.hid e1
  have HE2 := Lib.hid e2
  unfold faultV at CV CF CD CN CE
  dsimp only at CV CF CD CN CE HV0 HF0 HE1 HE2
  clear hv0 hf0 e1 e2
  go_enter Tryd.func4, Tryd.ntmps4
  go_wp2_with fail
  refine C0.out.mono ?_
  rintro e W1 ⟨rfl, hb1⟩
  have HB1 := Lib.hid hb1
  clear hb1 C0
  go_wp2_with fail
  refine (CV.out _ HB1.out).mono ?_
  rintro e W2 ⟨rfl, hb2⟩
  have HB2 := Lib.hid (HB1.out.trans (hb2.mono HB1.out.size))
  clear hb2 CV
  unfold Ln.v
  go_wp2_with fail
  obtain ⟨P, hP⟩ : ∃ P, P = W2.heap.size := ⟨_, rfl⟩
  have hb3 : Below W2.heap.size W2 ((W2.alloc (.cells #[strV a.sym, strV a.minus, .int .i64 a.num] 40)).alloc (.cells #[.int .i64 f1, .int .i64 f2] 26)) := ((Below.refl _ _).alloc (Nat.le_refl _) _).alloc (by simp) _
  have HB3 := Lib.hid (HB2.out.trans (hb3.mono HB2.out.size))
  have hx : ((W2.alloc (.cells #[strV a.sym, strV a.minus, .int .i64 a.num] 40)).alloc (.cells #[.int .i64 f1, .int .i64 f2] 26)).heap[P]? = some (.cells #[strV a.sym, strV a.minus, .int .i64 a.num] 40 (0, 0)) := by rw [hP]; exact heap_allocL _ (heap_alloc_new _ _)
  have hy : ((W2.alloc (.cells #[strV a.sym, strV a.minus, .int .i64 a.num] 40)).alloc (.cells #[.int .i64 f1, .int .i64 f2] 26)).heap[P + 1]? = some (.cells #[.int .i64 f1, .int .i64 f2] 26 (0, 0)) := by rw [hP]; exact heap_newM _ _ _
  have HXY := Lib.hid (And.intro hx hy)
  rw [← hP]
  have hPw : w.heap.size ≤ P := by rw [hP]; exact HB2.out.size
  clear hb3 hx hy hP
  refine (CF.out _ HB3.out).mono ?_
  rintro e W4 ⟨rfl, hb4⟩
  have HB4 := Lib.hid (HB3.out.trans (hb4.mono HB3.out.size))
  have hx := (hb4.block _ (lt_of_block HXY.out.1)).trans HXY.out.1
  have hy := (hb4.block _ (lt_of_block HXY.out.2)).trans HXY.out.2
  have hb5 : Below W4.heap.size W4 (W4.alloc (.cells #[.int .i64 v1, .int .i64 v2] 26)) := (Below.refl _ _).alloc (Nat.le_refl _) _
  have HB5 := Lib.hid (HB4.out.trans (hb5.mono HB4.out.size))
  have HL5 := Lib.hid (show LvB P W4.heap.size a (f1, f2) (v1, v2) (W4.alloc (.cells #[.int .i64 v1, .int .i64 v2] 26)) from ⟨heap_allocL _ hx, heap_allocL _ hy, heap_alloc_new _ _⟩)
  have hPQ : P + 1 < W4.heap.size := lt_of_block hy
  clear hb4 hb5 hx hy CF HXY
  go_wp2_with fail
  obtain ⟨Q, hQ⟩ : ∃ Q, Q = W4.heap.size := ⟨_, rfl⟩
  obtain ⟨V, hV⟩ : ∃ V, V = (W4.alloc (.cells #[.int .i64 v1, .int .i64 v2] 26)) := ⟨_, rfl⟩
  rw [← hQ, ← hV] at HL5
  rw [← hV] at HB5
  rw [← hQ] at hPQ
  rw [← hQ, ← hV]
  clear hQ hV HB4
  have KS := Lib.hid (show ∀ W', Below V.heap.size V W' → (W'.cell? ⟨Q, 0, none⟩ = some (.int .i64 v1) ∧ W'.cell? ⟨Q, 1, none⟩ = some (.int .i64 v2)) from fun W' hb => (HL5.out.up hb).opens.2.2.1)
  have hcur : Below V.heap.size V V.drew := (Below.refl _ _).drew
  have HCU0 := Lib.hid hcur
  go_region_held3 (fun W' => W'.cell? ⟨Q, 0, none⟩ = some (.int .i64 v1) ∧ W'.cell? ⟨Q, 1, none⟩ = some (.int .i64 v2))
    (first | exact KS.out _ hcur)
    ((go_at_call 18; refine (CD.out _ (HB5.out.trans (hcur.mono HB5.out.size))).mono ?_; rintro e W5 ⟨rfl, hb5⟩; have hcur := hcur.trans (hb5.mono hcur.size); have HCU := Lib.hid hcur))
  have HL6 := Lib.hid (HL5.out.up HCU.out)
  have HB6 := Lib.hid (HB5.out.trans (HCU.out.mono HB5.out.size))
  clear CD KS HCU0
  by_cases hv0 : v1 = 0
  · subst hv0
    obtain rfl : v2 = 0 := by rcases HV0.out with h | h; · injection h
                              · exact absurd rfl h
    obtain ⟨⟨a0, a1, a2⟩, ⟨b0, b1⟩, ⟨g0, g1⟩, ⟨g2, g3⟩, hP1, hP2, hQ1⟩ := HL6.out.opens
    go_wp2_with fail
    refine (CN.out _ HB6.out).mono ?_
    rintro e W7 ⟨rfl, hb7⟩
    have HL7 := Lib.hid (HL6.out.up hb7)
    have HB7 := Lib.hid (HB6.out.trans (hb7.mono HB6.out.size))
    clear a0 a1 a2 b0 b1 g0 g1 g2 g3 hP1 hP2 hQ1 hb7 CN
    obtain ⟨⟨a0, a1, a2⟩, ⟨b0, b1⟩, ⟨g0, g1⟩, ⟨g2, g3⟩, hP1, hP2, hQ1⟩ := HL7.out.opens
    by_cases hs0 : s1 = 0
    · subst hs0
      obtain rfl : s2 = 0 := by rcases HF0.out with h | h; · injection h
                                · exact absurd rfl h
      have HL8 := Lib.hid (show LvB P Q a (f1, f2) (0, 0) ((W7.setCell ⟨Q, 0, none⟩ (.int .i64 0)).setCell ⟨Q, 1, none⟩ (.int .i64 0)) by
        have e1 := heap_setCell_same W7 Q 0 _ _ (.int .i64 0) HL7.out.g
        have e2 := heap_setCell_same _ Q 1 _ _ (.int .i64 0) e1
        refine ⟨?_, ?_, e2⟩
        · rw [heap_setCell_other _ _ _ _ (by dsimp only; omega), heap_setCell_other _ _ _ _ (by dsimp only; omega)]; exact HL7.out.a
        · rw [heap_setCell_other _ _ _ _ (by dsimp only; omega), heap_setCell_other _ _ _ _ (by dsimp only; omega)]; exact HL7.out.f)
      have hsz : ((W7.setCell ⟨Q, 0, none⟩ (.int .i64 0)).setCell ⟨Q, 1, none⟩ (.int .i64 0)).heap.size = W7.heap.size := by rw [World.size_setCell, World.size_setCell]
      have hQw : w.heap.size ≤ Q := by omega
      have HB8 := Lib.hid (show Below w.heap.size w ((W7.setCell ⟨Q, 0, none⟩ (.int .i64 0)).setCell ⟨Q, 1, none⟩ (.int .i64 0)) from (HB7.out.setCell (p := ⟨Q, 0, none⟩) hQw _).setCell (p := ⟨Q, 1, none⟩) hQw _)
      go_wp2_with fail
      refine (CE.out _ HB8.out (by first | rfl | trivial) (by first | rfl | trivial)).mono ?_
      rintro e W9 ⟨rfl, hb9⟩
      have HL9 := Lib.hid (HL8.out.up hb9)
      have HB9 := Lib.hid (HB8.out.trans (hb9.mono HB8.out.size))
      clear a0 a1 a2 b0 b1 g0 g1 g2 g3 hP1 hP2 hQ1 hb9 CE
      obtain ⟨⟨a0, a1, a2⟩, ⟨b0, b1⟩, ⟨g0, g1⟩, ⟨g2, g3⟩, hP1, hP2, hQ1⟩ := HL9.out.opens
      unfold Ln.v
      go_wp2_with fail
      go_ret
      exact ⟨rfl, ((HB9.out.setCell (p := ⟨Q, 0, none⟩) hQw _).setCell (p := ⟨Q, 1, none⟩) hQw _).alloc (by rw [World.size_setCell, World.size_setCell]; exact HB9.out.size) _⟩
    · have hs1 : (s1 == 0) = false := beq_eq_false_iff_ne.2 hs0
      have hs2 : (s1 != 0) = true := by simp [bne, hs1]
      have hQw : w.heap.size ≤ Q := by omega
      have HE := HE2.out (by first | rfl | trivial) hs0
      injection HE with ea ef
      injection ef with ef1 ef2
      subst ea ef1 ef2
      replace a0 : W7.cell? ⟨P, 0, none⟩ = some (strV []) := a0
      replace a1 : W7.cell? ⟨P, 1, none⟩ = some (strV []) := a1
      replace a2 : W7.cell? ⟨P, 2, none⟩ = some (.int .i64 0) := a2
      clear hs0
      go_wp2_with fail
      go_ret
      exact ⟨rfl, (HB7.out.setCell (p := ⟨Q, 0, none⟩) hQw _).setCell (p := ⟨Q, 1, none⟩) hQw _⟩
  · have hv1 : (v1 == 0) = false := beq_eq_false_iff_ne.2 hv0
    have hv2 : (v1 != 0) = true := by simp [bne, hv1]
    have HE := HE1.out hv0
    injection HE with ea ef
    injection ef with ef1 ef2
    subst ea ef1 ef2
    obtain ⟨⟨a0, a1, a2⟩, ⟨b0, b1⟩, ⟨g0, g1⟩, ⟨g2, g3⟩, hP1, hP2, hQ1⟩ := HL6.out.opens
    replace a0 : W5.cell? ⟨P, 0, none⟩ = some (strV []) := a0
    replace a1 : W5.cell? ⟨P, 1, none⟩ = some (strV []) := a1
    replace a2 : W5.cell? ⟨P, 2, none⟩ = some (.int .i64 0) := a2
    clear hv0
    go_wp2_with fail
    go_ret
    exact ⟨rfl, HB6.out⟩
end Go.Proofs.YtchpkdpefpiegaaDoor.Tok
