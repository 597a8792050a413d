/- The reference's plus: the sum of two linear values. -/
import Derived.Test.YtchpkdpefpiegaaDoorExZJ
import Derived.Test.YtchpkdpefpiegaaDoorExZK
namespace Go.Proofs.YtchpkdpefpiegaaDoor.Tok
open Go Go.RowKit

/-- the boxes of plus: both values, the result's, the sum's -/
def plW (w : World) (a b : Ln) (n : Int) : World := (((w.alloc (.cells #[strV a.sym, strV a.minus, .int .i64 a.num] 40)).alloc (.cells #[strV b.sym, strV b.minus, .int .i64 b.num] 40)).alloc (.cells #[strV [], strV [], .int .i64 0] 40)).alloc (.cells #[.slice none 0 0, .slice none 0 0, .int .i64 n] 119)
theorem plW_below (w : World) (a b : Ln) (n : Int) : Below w.heap.size w (plW w a b n) := ((((Below.refl _ _).alloc (Nat.le_refl _) _).alloc (by simp) _).alloc (by simp; omega) _).alloc (by simp; omega) _
theorem plW_size (w : World) (a b : Ln) (n : Int) : (plW w a b n).heap.size = w.heap.size + 4 := by unfold plW; simp
/-- the boxes, the sum reading as l -/
structure PlB (w0 : World) (a b : Ln) (x y z : Value) (w : World) : Prop where
  a : w.heap[w0.heap.size]? = some (.cells #[strV a.sym, strV a.minus, .int .i64 a.num] 40 (0, 0))
  b : w.heap[w0.heap.size + 1]? = some (.cells #[strV b.sym, strV b.minus, .int .i64 b.num] 40 (0, 0))
  r : w.heap[w0.heap.size + 2]? = some (.cells #[strV [], strV [], .int .i64 0] 40 (0, 0))
  s : w.heap[w0.heap.size + 3]? = some (.cells #[x, y, z] 119 (0, 0))
  low : Below w0.heap.size w0 w
theorem heap_new3 (w : World) (o1 o2 o3 o4 : Obj) : ((((w.alloc o1).alloc o2).alloc o3).alloc o4).heap[w.heap.size + 3]? = some o4 := by
  have := heap_alloc_new (((w.alloc o1).alloc o2).alloc o3) o4
  rw [World.size_alloc, World.size_alloc, World.size_alloc] at this
  exact this
theorem plW_box (w : World) (a b : Ln) (n : Int) : PlB w a b (.slice none 0 0) (.slice none 0 0) (.int .i64 n) (plW w a b n) :=
  ⟨heap_allocL _ (heap_allocL _ (heap_allocL _ (heap_alloc_new _ _))), heap_allocL _ (heap_allocL _ (heap_new1 _ _ _)), heap_allocL _ (heap_new2 _ _ _ _), heap_new3 _ _ _ _ _, plW_below w a b n⟩
section
variable {w0 w w' : World} {a b : Ln} {x y z : Value}
theorem PlB.up (h : PlB w0 a b x y z w) (hb : Below w.heap.size w w') : PlB w0 a b x y z w' :=
  ⟨(hb.block _ (lt_of_block h.a)).trans h.a, (hb.block _ (lt_of_block h.b)).trans h.b, (hb.block _ (lt_of_block h.r)).trans h.r, (hb.block _ (lt_of_block h.s)).trans h.s, h.low.trans (hb.mono h.low.size)⟩
theorem PlB.set (h : PlB w0 a b x y z w) (x' y' z' : Value) : PlB w0 a b x' y' z' (((w.setCell ⟨w0.heap.size + 3, 0, none⟩ x').setCell ⟨w0.heap.size + 3, 1, none⟩ y').setCell ⟨w0.heap.size + 3, 2, none⟩ z') := by
  have e1 := heap_setCell_same w (w0.heap.size + 3) 0 _ _ x' h.s
  have e2 := heap_setCell_same _ (w0.heap.size + 3) 1 _ _ y' e1
  have e3 := heap_setCell_same _ (w0.heap.size + 3) 2 _ _ z' e2
  have ho : ∀ c, c ≠ w0.heap.size + 3 → (((w.setCell ⟨w0.heap.size + 3, 0, none⟩ x').setCell ⟨w0.heap.size + 3, 1, none⟩ y').setCell ⟨w0.heap.size + 3, 2, none⟩ z').heap[c]? = w.heap[c]? := fun c hc => by
    rw [heap_setCell_other _ _ _ _ hc, heap_setCell_other _ _ _ _ hc, heap_setCell_other _ _ _ _ hc]
  exact ⟨(ho _ (by omega)).trans h.a, (ho _ (by omega)).trans h.b, (ho _ (by omega)).trans h.r, e3, three_set h.low (by omega) _ _ _⟩
theorem PlB.opens (h : PlB w0 a b x y z w) : ((w.cell? ⟨w0.heap.size, 0, none⟩ = some (strV a.sym) ∧ w.cell? ⟨w0.heap.size, 1, none⟩ = some (strV a.minus) ∧ w.cell? ⟨w0.heap.size, 2, none⟩ = some (.int .i64 a.num)) ∧
    (w.cell? ⟨w0.heap.size + 1, 0, none⟩ = some (strV b.sym) ∧ w.cell? ⟨w0.heap.size + 1, 1, none⟩ = some (strV b.minus) ∧ w.cell? ⟨w0.heap.size + 1, 2, none⟩ = some (.int .i64 b.num))) ∧
    ((w.cell? ⟨w0.heap.size + 2, 0, none⟩ = some (strV []) ∧ w.cell? ⟨w0.heap.size + 2, 1, none⟩ = some (strV []) ∧ w.cell? ⟨w0.heap.size + 2, 2, none⟩ = some (.int .i64 0)) ∧
    (w.frozen? ⟨w0.heap.size + 2, 0, none⟩ = false ∧ w.frozen? ⟨w0.heap.size + 2, 1, none⟩ = false ∧ w.frozen? ⟨w0.heap.size + 2, 2, none⟩ = false)) ∧
    ((w.cell? ⟨w0.heap.size + 3, 0, none⟩ = some x ∧ w.cell? ⟨w0.heap.size + 3, 1, none⟩ = some y ∧ w.cell? ⟨w0.heap.size + 3, 2, none⟩ = some z) ∧
    (w.frozen? ⟨w0.heap.size + 3, 0, none⟩ = false ∧ w.frozen? ⟨w0.heap.size + 3, 1, none⟩ = false ∧ w.frozen? ⟨w0.heap.size + 3, 2, none⟩ = false)) ∧ w0.heap.size + 3 < w.heap.size := by
  obtain ⟨r1, r2, r3⟩ := cells_of h.a
  obtain ⟨q1, q2, q3⟩ := cells_of h.b
  obtain ⟨p1, p2, p3⟩ := cells_of h.r
  obtain ⟨s1, s2, s3⟩ := cells_of h.s
  exact ⟨⟨⟨r1 0 _ rfl, r1 1 _ rfl, r1 2 _ rfl⟩, q1 0 _ rfl, q1 1 _ rfl, q1 2 _ rfl⟩, ⟨⟨p1 0 _ rfl, p1 1 _ rfl, p1 2 _ rfl⟩, p2 0, p2 1, p2 2⟩, ⟨⟨s1 0 _ rfl, s1 1 _ rfl, s1 2 _ rfl⟩, s2 0, s2 1, s2 2⟩, s3⟩
end
theorem SumAt.set3 {L B S : Nat} {w : World} {v : Value} {n : Int} {l : List (List UInt8 × Int)} (h : SumAt L B w v n l) (hS : S < L) (x y z : Value) :
    SumAt L B (((w.setCell ⟨S, 0, none⟩ x).setCell ⟨S, 1, none⟩ y).setCell ⟨S, 2, none⟩ z) v n l := ((h.set hS 0 x).set hS 1 y).set hS 2 z
/-- one step of plus: the sum that with has given is stored -/
theorem pl_next {w0 w w' : World} {a b : Ln} {x y z : Value} {n : Int} {l : List (List UInt8 × Int)} {A A2 : Option Addr} {m c c2 : Nat} (h : PlB w0 a b x y z w) (hs : SumAt w.heap.size w'.heap.size w' (.agg #[.slice A m c, .slice A2 m c2, .int .i64 n]) n l) (hb : Below w.heap.size w w') :
    PlB w0 a b (.slice A m c) (.slice A2 m c2) (.int .i64 n) (((w'.setCell ⟨w0.heap.size + 3, 0, none⟩ (.slice A m c)).setCell ⟨w0.heap.size + 3, 1, none⟩ (.slice A2 m c2)).setCell ⟨w0.heap.size + 3, 2, none⟩ (.int .i64 n)) ∧
    SumAt (w0.heap.size + 4) (((w'.setCell ⟨w0.heap.size + 3, 0, none⟩ (.slice A m c)).setCell ⟨w0.heap.size + 3, 1, none⟩ (.slice A2 m c2)).setCell ⟨w0.heap.size + 3, 2, none⟩ (.int .i64 n)).heap.size (((w'.setCell ⟨w0.heap.size + 3, 0, none⟩ (.slice A m c)).setCell ⟨w0.heap.size + 3, 1, none⟩ (.slice A2 m c2)).setCell ⟨w0.heap.size + 3, 2, none⟩ (.int .i64 n)) (.agg #[.slice A m c, .slice A2 m c2, .int .i64 n]) n l := by
  have hl := h.opens.2.2.2
  refine ⟨(h.up hb).set _ _ _, ?_⟩
  rw [World.size_setCell, World.size_setCell, World.size_setCell]
  exact (hs.set3 (S := w0.heap.size + 3) hl _ _ _).since (by omega)
theorem agg3 {L B : Nat} {w : World} {v : Value} {n : Int} {l : List (List UInt8 × Int)} (h : SumAt L B w v n l) : ∃ A c A2 c2 m, v = .agg #[.slice A m c, .slice A2 m c2, .int .i64 n] := by
  obtain ⟨A, c, A2, c2, h1, -⟩ := h
  exact ⟨A, c, A2, c2, _, h1⟩
def plusM (a b : Ln) (sg : Int) : List (List UInt8 × Int) := addM (addM (addM (addM [] a.sym 1) a.minus (-1)) b.sym sg) b.minus (-sg)
theorem plusL_eq (a b : Ln) (sg : Int) : (linV (a.num + sg * b.num) (plusM a b sg)) = (plusL a b sg).getD zeroL ∧ (linM (plusM a b sg) [] []).isSome = (plusL a b sg).isSome := by
  unfold linV plusL plusM
  cases linM (addM (addM (addM (addM [] a.sym 1) a.minus (-1)) b.sym sg) b.minus (-sg)) [] [] <;> exact ⟨rfl, rfl⟩
theorem plus_bounds {a b : Ln} {sg : Int} (hsg : -1 ≤ sg ∧ sg ≤ 1) : ((addM [] a.sym 1).length ≤ 1 ∧ ∀ x ∈ addM [] a.sym 1, -1 ≤ x.2 ∧ x.2 ≤ 1) ∧
    ((addM (addM [] a.sym 1) a.minus (-1)).length ≤ 2 ∧ ∀ x ∈ addM (addM [] a.sym 1) a.minus (-1), -2 ≤ x.2 ∧ x.2 ≤ 2) ∧
    ((addM (addM (addM [] a.sym 1) a.minus (-1)) b.sym sg).length ≤ 3 ∧ ∀ x ∈ addM (addM (addM [] a.sym 1) a.minus (-1)) b.sym sg, -3 ≤ x.2 ∧ x.2 ≤ 3) ∧ (plusM a b sg).length ≤ 4 := by
  have l1 := add_len [] a.sym 1
  have l2 := add_len (addM [] a.sym 1) a.minus (-1)
  have l3 := add_len (addM (addM [] a.sym 1) a.minus (-1)) b.sym sg
  have l4 := add_len (addM (addM (addM [] a.sym 1) a.minus (-1)) b.sym sg) b.minus (-sg)
  have b1 := keep_bound (l := []) (nm := a.sym) (t := 1) (K := 0) (fun x h => absurd h (by simp)) (by omega) (by omega)
  have b2 := keep_bound (nm := a.minus) (t := -1) (K := 1) b1 (by omega) (by omega)
  have b3 := keep_bound (nm := b.sym) (t := sg) (K := 2) b2 hsg (by omega)
  unfold plusM
  simp only [List.length_nil] at l1
  exact ⟨⟨by omega, b1⟩, ⟨by omega, b2⟩, ⟨by omega, b3⟩, by omega⟩
set_option maxRecDepth 100000 in
set_option maxHeartbeats 4000000 in
theorem plus_any (a b : Ln) (sg : Int) (w : World) (ha : InR a.num) (hb : InR b.num) (hsg : sg = 1 ∨ sg = -1) :
    Calls Tryd.prog 63 #[a.v, b.v, .int .i64 sg] w fun e W => e = .returned (.tuple #[((plusL a b sg).getD zeroL).v, .bool (plusL a b sg).isSome]) ∧ Below w.heap.size w W := by
  obtain ⟨na1, na2⟩ := ha
  obtain ⟨nb1, nb2⟩ := hb
  have hs1 : -1 ≤ sg ∧ sg ≤ 1 := by omega
  obtain ⟨⟨l1, b1⟩, ⟨l2, b2⟩, ⟨l3, b3⟩, l4⟩ := plus_bounds (a := a) (b := b) hs1
  obtain ⟨E1, E2⟩ := plusL_eq a b sg
  have HE := Lib.hid (And.intro E1 E2)
  have hprod : -1099511627776 ≤ sg * b.num ∧ sg * b.num ≤ 1099511627776 := by rcases hsg with rfl | rfl <;> omega
  obtain ⟨hp1, hp2⟩ := hprod
  obtain ⟨n, hn⟩ : ∃ n, n = a.num + sg * b.num := ⟨_, rfl⟩
  have HW := Lib.hid (plW_box w a b n)
  have C1 := Lib.hid (fun (W : World) => with_any (w.heap.size + 4) 0 (.agg #[.slice none 0 0, .slice none 0 0, .int .i64 n]) n 1 [] a.sym W (SumAt.nil _ _ _) (Nat.zero_le _) (by simp) (fun x h => absurd h (by simp)) (by omega))
  have C2 := Lib.hid (fun (W : World) v (h : SumAt (w.heap.size + 4) W.heap.size W v n (addM [] a.sym 1)) => with_any _ _ v n (-1) _ a.minus W h (Nat.le_refl _) (by omega) (fun x hx => by have := b1 x hx; omega) (by omega))
  have C3 := Lib.hid (fun (W : World) v (h : SumAt (w.heap.size + 4) W.heap.size W v n (addM (addM [] a.sym 1) a.minus (-1))) => with_any _ _ v n sg _ b.sym W h (Nat.le_refl _) (by omega) (fun x hx => by have := b2 x hx; omega) (by omega))
  have C4 := Lib.hid (fun (W : World) v (h : SumAt (w.heap.size + 4) W.heap.size W v n (addM (addM (addM [] a.sym 1) a.minus (-1)) b.sym sg)) => with_any _ _ v n (-sg) _ b.minus W h (Nat.le_refl _) (by omega) (fun x hx => by have := b3 x hx; omega) (by omega))
  have C5 : Hid (∀ (W : World) v (h : SumAt (w.heap.size + 4) W.heap.size W v n (plusM a b sg)), Calls Tryd.prog 87 #[v] W fun e W' => e = .returned (.tuple #[((plusL a b sg).getD zeroL).v, .bool (plusL a b sg).isSome]) ∧ Below W.heap.size W W') := Lib.hid (fun W v h => by
    have h1 := linear_any _ _ v n _ W h (Nat.le_refl _) (by omega)
    rw [hn] at h1
    rw [E1, E2] at h1
    exact h1)
  clear b1 b2 b3 l1 l2 l3 l4 E1 E2 hsg
  generalize (plusL a b sg).getD zeroL = r at C5 ⊢
  generalize (plusL a b sg).isSome = ok at C5 ⊢
  subst hn
  unfold Ln.v at C5 ⊢
  unfold plW at HW
  have hw4 : w.heap.size + 2 < w.heap.size + 4 := by omega
  go_enter Tryd.func63, Tryd.ntmps63
  go_wp2_with fail
  refine (C1.out _).mono ?_
  rintro e W1 ⟨⟨v1, rfl, hs⟩, hb⟩
  obtain ⟨A1, c1, D1, d1, m1, rfl⟩ := agg3 hs
  obtain ⟨hp, hq⟩ := pl_next HW.out hs hb
  have HP1 := Lib.hid hp
  have HQ1 := Lib.hid hq
  obtain ⟨⟨⟨g0, g1, g2⟩, g3, g4, g5⟩, -, ⟨⟨s0, s1, s2⟩, e0, e1, e2⟩, hz⟩ := (HW.out.up hb).opens
  clear hp hq hs hb
  go_wp2_with fail
  clear g0 g1 g2 g3 g4 g5 s0 s1 s2 e0 e1 e2 hz
  refine (C2.out _ _ HQ1.out).mono ?_
  rintro e W2 ⟨⟨v2, rfl, hs⟩, hb⟩
  obtain ⟨A2, c2, D2, d2, m2, rfl⟩ := agg3 hs
  obtain ⟨hp, hq⟩ := pl_next HP1.out hs hb
  have HP2 := Lib.hid hp
  have HQ2 := Lib.hid hq
  obtain ⟨⟨⟨g0, g1, g2⟩, g3, g4, g5⟩, -, ⟨⟨s0, s1, s2⟩, e0, e1, e2⟩, hz⟩ := (HP1.out.up hb).opens
  clear hp hq hs hb
  go_wp2_with fail
  clear g0 g1 g2 g3 g4 g5 s0 s1 s2 e0 e1 e2 hz
  refine (C3.out _ _ HQ2.out).mono ?_
  rintro e W3 ⟨⟨v3, rfl, hs⟩, hb⟩
  obtain ⟨A3, c3, D3, d3, m3, rfl⟩ := agg3 hs
  obtain ⟨hp, hq⟩ := pl_next HP2.out hs hb
  have HP3 := Lib.hid hp
  have HQ3 := Lib.hid hq
  obtain ⟨⟨⟨g0, g1, g2⟩, g3, g4, g5⟩, -, ⟨⟨s0, s1, s2⟩, e0, e1, e2⟩, hz⟩ := (HP2.out.up hb).opens
  clear hp hq hs hb
  go_wp2_with fail
  clear g0 g1 g2 g3 g4 g5 s0 s1 s2 e0 e1 e2 hz
  refine (C4.out _ _ HQ3.out).mono ?_
  rintro e W4 ⟨⟨v4, rfl, hs⟩, hb⟩
  obtain ⟨A4, c4, D4, d4, m4, rfl⟩ := agg3 hs
  obtain ⟨hp, hq⟩ := pl_next HP3.out hs hb
  have HP4 := Lib.hid hp
  have HQ4 := Lib.hid hq
  obtain ⟨⟨⟨g0, g1, g2⟩, g3, g4, g5⟩, -, ⟨⟨s0, s1, s2⟩, e0, e1, e2⟩, hz⟩ := (HP3.out.up hb).opens
  clear hp hq hs hb
  go_wp2_with fail
  clear g0 g1 g2 g3 g4 g5 s0 s1 s2 e0 e1 e2 hz
  refine (C5.out _ _ HQ4.out).mono ?_
  rintro e W5 ⟨rfl, hb⟩
  have hlow := (HP4.out.up hb).low
  have HL := Lib.hid hlow
  obtain ⟨-, ⟨⟨z0, z1, z2⟩, e0, e1, e2⟩, -, hz⟩ := (HP4.out.up hb).opens
  have hz2 : w.heap.size + 2 < W5.heap.size := by omega
  clear hb hlow
  go_wp2_with fail
  refine bodyPost_ret (v := .tuple #[r.v, .bool ok]) (by unfold Ln.v; simp [results, Tryd.results63, go_sem, z0, z1, z2]) rfl ⟨?_, ?_⟩
  · rfl
  · exact three_set (R := w.heap.size + 2) HL.out (by omega) _ _ _
end Go.Proofs.YtchpkdpefpiegaaDoor.Tok
