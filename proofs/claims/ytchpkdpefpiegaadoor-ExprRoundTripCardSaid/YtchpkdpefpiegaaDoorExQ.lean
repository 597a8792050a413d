/- Contract of Value. Conditions: the readings; the table of kinds. -/
import Derived.Test.YtchpkdpefpiegaaDoorExP
namespace Go.Proofs.YtchpkdpefpiegaaDoor.Tok
open Go Go.RowKit

/-- the boxes of Value: the result's and the fault's -/
def valW (w : World) : World := (w.alloc (.cells #[strV [], strV [], .int .i64 0] 40)).alloc (.cells #[.int .i64 0, .int .i64 0] 26)
theorem valW_below (w : World) : Below w.heap.size w (valW w) := ((Below.refl _ _).alloc (Nat.le_refl _) _).alloc (by simp) _
def VB (w0 w : World) : Prop := w.heap[w0.heap.size]? = some (.cells #[strV [], strV [], .int .i64 0] 40 (0, 0)) ∧ w.heap[w0.heap.size + 1]? = some (.cells #[.int .i64 0, .int .i64 0] 26 (0, 0))
theorem valW_vb (w : World) : VB w (valW w) := ⟨heap_allocL _ (heap_alloc_new _ _), heap_newM _ _ _⟩
theorem VB.up {w0 w w' : World} {K : Nat} (h : VB w0 w) (hb : Below K w w') (hK : w0.heap.size + 1 < K) : VB w0 w' :=
  ⟨(hb.block _ (by omega)).trans h.1, (hb.block _ hK).trans h.2⟩
theorem VB.opens {w0 w : World} (h : VB w0 w) : (w.cell? ⟨w0.heap.size, 0, none⟩ = some (strV []) ∧ w.cell? ⟨w0.heap.size, 1, none⟩ = some (strV []) ∧ w.cell? ⟨w0.heap.size, 2, none⟩ = some (.int .i64 0)) ∧
    (w.frozen? ⟨w0.heap.size, 0, none⟩ = false ∧ w.frozen? ⟨w0.heap.size, 1, none⟩ = false ∧ w.frozen? ⟨w0.heap.size, 2, none⟩ = false) ∧
    (w.cell? ⟨w0.heap.size + 1, 0, none⟩ = some (.int .i64 0) ∧ w.cell? ⟨w0.heap.size + 1, 1, none⟩ = some (.int .i64 0)) ∧
    (w.frozen? ⟨w0.heap.size + 1, 0, none⟩ = false ∧ w.frozen? ⟨w0.heap.size + 1, 1, none⟩ = false) ∧ w0.heap.size + 1 < w.heap.size := by
  obtain ⟨h1, h2⟩ := h
  obtain ⟨r1, r2, r3⟩ := cells_of h1
  obtain ⟨q1, q2, q3⟩ := cells_of h2
  exact ⟨⟨r1 0 _ rfl, r1 1 _ rfl, r1 2 _ rfl⟩, ⟨r2 0, r2 1, r2 2⟩, ⟨q1 0 _ rfl, q1 1 _ rfl⟩, ⟨q2 0, q2 1⟩, q3⟩
/-- both results stored -/
theorem vset_cells {W : World} {A B : Nat} {x y z p q u0 u1 u2 t0 t1 : Value} (hAB : A ≠ B) (h0 : W.cell? ⟨A, 0, none⟩ = some u0) (h1 : W.cell? ⟨A, 1, none⟩ = some u1) (h2 : W.cell? ⟨A, 2, none⟩ = some u2) (k0 : W.cell? ⟨B, 0, none⟩ = some t0) (k1 : W.cell? ⟨B, 1, none⟩ = some t1) :
    (((((W.setCell ⟨A, 0, none⟩ x).setCell ⟨A, 1, none⟩ y).setCell ⟨A, 2, none⟩ z).setCell ⟨B, 0, none⟩ p).setCell ⟨B, 1, none⟩ q).cell? ⟨A, 0, none⟩ = some x ∧
    (((((W.setCell ⟨A, 0, none⟩ x).setCell ⟨A, 1, none⟩ y).setCell ⟨A, 2, none⟩ z).setCell ⟨B, 0, none⟩ p).setCell ⟨B, 1, none⟩ q).cell? ⟨A, 1, none⟩ = some y ∧
    (((((W.setCell ⟨A, 0, none⟩ x).setCell ⟨A, 1, none⟩ y).setCell ⟨A, 2, none⟩ z).setCell ⟨B, 0, none⟩ p).setCell ⟨B, 1, none⟩ q).cell? ⟨A, 2, none⟩ = some z ∧
    (((((W.setCell ⟨A, 0, none⟩ x).setCell ⟨A, 1, none⟩ y).setCell ⟨A, 2, none⟩ z).setCell ⟨B, 0, none⟩ p).setCell ⟨B, 1, none⟩ q).cell? ⟨B, 0, none⟩ = some p ∧
    (((((W.setCell ⟨A, 0, none⟩ x).setCell ⟨A, 1, none⟩ y).setCell ⟨A, 2, none⟩ z).setCell ⟨B, 0, none⟩ p).setCell ⟨B, 1, none⟩ q).cell? ⟨B, 1, none⟩ = some q := by
  obtain ⟨a0, a1, a2⟩ := three_at (x := x) (y := y) (z := z) h0 h1 h2
  have hn : ∀ (V : World) j i v, (V.setCell ⟨B, i, none⟩ v).cell? ⟨A, j, none⟩ = V.cell? ⟨A, j, none⟩ := fun V j i v => World.cell?_setCell_other _ _ _ _ (by simp)
  have hm : ∀ (V : World) j i v, (V.setCell ⟨A, i, none⟩ v).cell? ⟨B, j, none⟩ = V.cell? ⟨B, j, none⟩ := fun V j i v => World.cell?_setCell_other _ _ _ _ (by simp)
  have b0 : (((W.setCell ⟨A, 0, none⟩ x).setCell ⟨A, 1, none⟩ y).setCell ⟨A, 2, none⟩ z).cell? ⟨B, 0, none⟩ = some t0 := by rw [hm, hm, hm, k0]
  have b1 : (((W.setCell ⟨A, 0, none⟩ x).setCell ⟨A, 1, none⟩ y).setCell ⟨A, 2, none⟩ z).cell? ⟨B, 1, none⟩ = some t1 := by rw [hm, hm, hm, k1]
  obtain ⟨c0, c1⟩ := two_set (x := p) (y := q) b0 b1
  exact ⟨by rw [hn, hn, a0], by rw [hn, hn, a1], by rw [hn, hn, a2], c0, c1⟩
theorem vset_below {w W : World} (hb : Below w.heap.size w W) (x y z p q : Value) : Below w.heap.size w (((((W.setCell ⟨w.heap.size, 0, none⟩ x).setCell ⟨w.heap.size, 1, none⟩ y).setCell ⟨w.heap.size, 2, none⟩ z).setCell ⟨w.heap.size + 1, 0, none⟩ p).setCell ⟨w.heap.size + 1, 1, none⟩ q) :=
  ((three_set hb (Nat.le_refl _) x y z).setCell (p := ⟨w.heap.size + 1, 0, none⟩) (by show w.heap.size ≤ w.heap.size + 1; omega) _).setCell (p := ⟨w.heap.size + 1, 1, none⟩) (by show w.heap.size ≤ w.heap.size + 1; omega) _
set_option maxRecDepth 100000 in
set_option maxHeartbeats 4000000 in
theorem value_bad (B : Nat) (v u : Value) (ns : List Nd) (l : List Nm) (w : World) (h : NdsAt B w v ns) (hu : NmsAt B w u l) (hB : B ≤ w.heap.size) (hK : KindsAt w) (hf : (validL ns).1 ≠ 0) :
    Calls Tryd.prog 16 #[v, u] w fun e w' => e = .returned (.tuple #[zeroL.v, faultV (validL ns)]) ∧ Below w.heap.size w w' := by
  have hb0 := valW_below w
  have C1 := Lib.hid (validate_any B v ns (valW w) (h.below (hb0.mono hB)) (Nat.le_trans hB hb0.size) (hK.up hb0))
  have HB0 := Lib.hid hb0
  have HV := Lib.hid (valW_vb w)
  obtain ⟨A, n, c, rfl, -⟩ := h.opens
  obtain ⟨A2, n2, c2, rfl, -⟩ := hu.opens
  generalize validL ns = f at C1 hf ⊢
  obtain ⟨f1, f2⟩ := f
  have hf1 : (f1 == 0) = false := beq_eq_false_iff_ne.2 hf
  have hf2 : (f1 != 0) = true := by simp [bne, hf1]
  unfold valW at C1 HB0 HV
  unfold faultV at C1 ⊢
  dsimp only at C1 ⊢
  clear h hu hK hf hb0
  go_enter Tryd.func16, Tryd.ntmps16
  go_wp2_with fail
  refine C1.out.mono ?_
  rintro e W1 ⟨rfl, hb1⟩
  have HB1 := Lib.hid (HB0.out.trans (hb1.mono HB0.out.size))
  obtain ⟨⟨z0, z1, z2⟩, ⟨k0, k1, k2⟩, ⟨y0, y1⟩, ⟨j0, j1⟩, hlt⟩ := (HV.out.up hb1 (by simp)).opens
  clear hb1 C1
  go_wp2_with fail
  have hlt0 : w.heap.size < W1.heap.size := by omega
  go_region
  all_goals
    go_wp2_with fail
    obtain ⟨m0, m1, m2, m3, m4⟩ := vset_cells (A := w.heap.size) (B := w.heap.size + 1) (x := strV []) (y := strV []) (z := .int .i64 0) (p := .int .i64 f1) (q := .int .i64 f2) (by omega) z0 z1 z2 y0 y1
    have m0 := cell_alloc_l (.cells #[.int .i64 f1, .int .i64 f2] 26) m0
    have m1 := cell_alloc_l (.cells #[.int .i64 f1, .int .i64 f2] 26) m1
    have m2 := cell_alloc_l (.cells #[.int .i64 f1, .int .i64 f2] 26) m2
    have m3 := cell_alloc_l (.cells #[.int .i64 f1, .int .i64 f2] 26) m3
    have m4 := cell_alloc_l (.cells #[.int .i64 f1, .int .i64 f2] 26) m4
    refine bodyPost_ret (v := .tuple #[zeroL.v, .agg #[.int .i64 f1, .int .i64 f2]]) (by unfold Ln.v zeroL; simp [results, Tryd.results16, go_sem, m0, m1, m2, m3, m4]) rfl ⟨rfl, ?_⟩
    exact ((vset_below HB1.out _ _ _ _ _).alloc (by simp <;> omega) _).drew
set_option maxRecDepth 100000 in
set_option maxHeartbeats 4000000 in
theorem value_sym (B : Nat) (v u : Value) (ns : List Nd) (l : List Nm) (w : World) (h : NdsAt B w v ns) (hu : NmsAt B w u l) (hB : B ≤ w.heap.size) (hK : KindsAt w) (hv : validL ns = (0, 0)) (hf : (validSymL l).1 ≠ 0) :
    Calls Tryd.prog 16 #[v, u] w fun e w' => e = .returned (.tuple #[zeroL.v, faultV (validSymL l)]) ∧ Below w.heap.size w w' := by
  have hb0 := valW_below w
  have C1 := Lib.hid (validate_any B v ns (valW w) (h.below (hb0.mono hB)) (Nat.le_trans hB hb0.size) (hK.up hb0))
  rw [hv] at C1
  have HB0 := Lib.hid hb0
  have HV := Lib.hid (valW_vb w)
  have C2 := Lib.hid (fun W (hb : Below w.heap.size w W) => validSym_any B u l W (hu.below (hb.mono hB)) (Nat.le_trans hB hb.size))
  obtain ⟨A, n, c, rfl, -⟩ := h.opens
  obtain ⟨A2, n2, c2, rfl, -⟩ := hu.opens
  generalize validSymL l = f at C2 hf ⊢
  obtain ⟨f1, f2⟩ := f
  have hf1 : (f1 == 0) = false := beq_eq_false_iff_ne.2 hf
  have hf2 : (f1 != 0) = true := by simp [bne, hf1]
  unfold valW at C1 HB0 HV
  unfold faultV at C1 C2 ⊢
  dsimp only at C1 C2 ⊢
  clear h hu hK hf hb0 hv
  go_enter Tryd.func16, Tryd.ntmps16
  go_wp2_with fail
  refine C1.out.mono ?_
  rintro e W1 ⟨rfl, hb1⟩
  have hb2 := flt_low W1 0 0
  have HB2 := Lib.hid (HB0.out.trans ((hb1.trans (hb2.mono hb1.size)).mono HB0.out.size))
  have HV2 := Lib.hid ((HV.out.up hb1 (by simp)).up hb2 (by have := hb1.size; simp at this; omega))
  clear hb1 C1 hb2
  go_wp2_with fail
  refine (C2.out _ HB2.out).mono ?_
  rintro e W3 ⟨rfl, hb3⟩
  have HB3 := Lib.hid (HB2.out.trans (hb3.mono HB2.out.size))
  obtain ⟨⟨z0, z1, z2⟩, ⟨k0, k1, k2⟩, ⟨y0, y1⟩, ⟨j0, j1⟩, hlt⟩ := (HV2.out.up hb3 (by have := HV2.out.opens.2.2.2.2; omega)).opens
  clear hb3 C2
  have hlt0 : w.heap.size < W3.heap.size := by omega
  go_wp2_with fail
  go_region
  all_goals
    go_wp2_with fail
    obtain ⟨m0, m1, m2, m3, m4⟩ := vset_cells (A := w.heap.size) (B := w.heap.size + 1) (x := strV []) (y := strV []) (z := .int .i64 0) (p := .int .i64 f1) (q := .int .i64 f2) (by omega) z0 z1 z2 y0 y1
    have m0 := cell_alloc_l (.cells #[.int .i64 f1, .int .i64 f2] 26) m0
    have m1 := cell_alloc_l (.cells #[.int .i64 f1, .int .i64 f2] 26) m1
    have m2 := cell_alloc_l (.cells #[.int .i64 f1, .int .i64 f2] 26) m2
    have m3 := cell_alloc_l (.cells #[.int .i64 f1, .int .i64 f2] 26) m3
    have m4 := cell_alloc_l (.cells #[.int .i64 f1, .int .i64 f2] 26) m4
    refine bodyPost_ret (v := .tuple #[zeroL.v, .agg #[.int .i64 f1, .int .i64 f2]]) (by unfold Ln.v zeroL; simp [results, Tryd.results16, go_sem, m0, m1, m2, m3, m4]) rfl ⟨rfl, ?_⟩
    exact ((vset_below HB3.out _ _ _ _ _).alloc (by simp <;> omega) _).drew
/-- block V holds the values that have been found -/
def Arr (V : Nat) (vs : List Ln) (w : World) : Prop :=
  ∃ arr : Array Value, w.heap[V]? = some (.cells arr 69 (0, 0)) ∧ arr.size = 180 ∧ ∀ (j : Nat) v, vs[j]? = some v → arr[j * 3]? = some (strV v.sym) ∧ arr[j * 3 + 1]? = some (strV v.minus) ∧ arr[j * 3 + 2]? = some (.int .i64 v.num)
theorem Arr.up {V K : Nat} {vs : List Ln} {w w' : World} (h : Arr V vs w) (hb : Below K w w') (hV : V < K) : Arr V vs w' := by
  obtain ⟨arr, h1, h2⟩ := h
  exact ⟨arr, (hb.block _ hV).trans h1, h2⟩
theorem Arr.lt {V : Nat} {vs : List Ln} {w : World} (h : Arr V vs w) : V < w.heap.size := by obtain ⟨arr, h1, -⟩ := h; exact lt_of_block h1
theorem Arr.at {V : Nat} {vs : List Ln} {w : World} (h : Arr V vs w) {i : Nat} {x : Ln} (hx : vs[i]? = some x) : w.cell? ⟨V, i * 3, none⟩ = some (strV x.sym) ∧ w.cell? ⟨V, i * 3 + 1, none⟩ = some (strV x.minus) ∧ w.cell? ⟨V, i * 3 + 2, none⟩ = some (.int .i64 x.num) := by
  obtain ⟨arr, h1, h2, h3⟩ := h
  obtain ⟨c1, -, -⟩ := cells_of h1
  obtain ⟨a, b, c⟩ := h3 i x hx
  exact ⟨c1 _ _ a, c1 _ _ b, c1 _ _ c⟩
theorem Arr.room {V : Nat} {vs : List Ln} {w : World} (h : Arr V vs w) {k : Nat} (hk : k < 60) : (∃ u0 u1 u2, w.cell? ⟨V, k * 3, none⟩ = some u0 ∧ w.cell? ⟨V, k * 3 + 1, none⟩ = some u1 ∧ w.cell? ⟨V, k * 3 + 2, none⟩ = some u2) ∧ w.frozen? ⟨V, k * 3, none⟩ = false ∧ w.frozen? ⟨V, k * 3 + 1, none⟩ = false ∧ w.frozen? ⟨V, k * 3 + 2, none⟩ = false := by
  obtain ⟨arr, h1, h2, h3⟩ := h
  obtain ⟨c1, c2, -⟩ := cells_of h1
  exact ⟨⟨_, _, _, c1 _ _ (Array.getElem?_eq_getElem (show k * 3 < arr.size by omega)), c1 _ _ (Array.getElem?_eq_getElem (show k * 3 + 1 < arr.size by omega)), c1 _ _ (Array.getElem?_eq_getElem (show k * 3 + 2 < arr.size by omega))⟩, c2 _, c2 _, c2 _⟩
theorem Arr.put {V : Nat} {vs : List Ln} {w : World} (h : Arr V vs w) {k : Nat} (hk : k < 60) (hl : vs.length = k) (x : Ln) :
    Arr V (vs ++ [x]) (((w.setCell ⟨V, k * 3, none⟩ (strV x.sym)).setCell ⟨V, k * 3 + 1, none⟩ (strV x.minus)).setCell ⟨V, k * 3 + 2, none⟩ (.int .i64 x.num)) := by
  obtain ⟨arr, h1, h2, h3⟩ := h
  have e1 := heap_setCell_same w V (k * 3) arr _ (strV x.sym) h1
  have e2 := heap_setCell_same _ V (k * 3 + 1) _ _ (strV x.minus) e1
  have e3 := heap_setCell_same _ V (k * 3 + 2) _ _ (.int .i64 x.num) e2
  refine ⟨_, e3, by simp [h2], fun j y hy => ?_⟩
  by_cases hj : j < vs.length
  · rw [List.getElem?_append_left hj] at hy
    obtain ⟨a, b, c⟩ := h3 j y hy
    have hk' : j < k := by omega
    refine ⟨?_, ?_, ?_⟩
    · rw [Array.getElem?_setIfInBounds_ne (by omega), Array.getElem?_setIfInBounds_ne (by omega), Array.getElem?_setIfInBounds_ne (by omega)]; exact a
    · rw [Array.getElem?_setIfInBounds_ne (by omega), Array.getElem?_setIfInBounds_ne (by omega), Array.getElem?_setIfInBounds_ne (by omega)]; exact b
    · rw [Array.getElem?_setIfInBounds_ne (by omega), Array.getElem?_setIfInBounds_ne (by omega), Array.getElem?_setIfInBounds_ne (by omega)]; exact c
  · have hj2 := (List.getElem?_eq_some_iff.1 hy).1
    rw [List.length_append] at hj2
    simp at hj2
    obtain rfl : j = k := by omega
    rw [← hl] at hy
    simp at hy
    subst hy
    refine ⟨?_, ?_, ?_⟩
    · rw [Array.getElem?_setIfInBounds_ne (by omega), Array.getElem?_setIfInBounds_ne (by omega), Array.getElem?_setIfInBounds_self_of_lt (by omega)]
    · rw [Array.getElem?_setIfInBounds_ne (by omega), Array.getElem?_setIfInBounds_self_of_lt (by simp; omega)]
    · rw [Array.getElem?_setIfInBounds_self_of_lt (by simp; omega)]
theorem zero69 : Tryd.zeroCells69.size = 180 := by kernel_rfl
/-- the boxes of the operands -/
def Op6 (O : Nat) (a b : Ln) (w : World) : Prop := w.heap[O]? = some (.cells #[strV a.sym, strV a.minus, .int .i64 a.num, strV b.sym, strV b.minus, .int .i64 b.num] 70 (0, 0))
def opAt (vs : List Ln) (x : Nd) (j : Nat) : Ln × Ln := (if 0 < j then opA vs x else zeroL, if 1 < j then opB vs x else zeroL)
/-- what the inner loop keeps -/
structure InL (V N O R : Nat) (vs : List Ln) (x : Nd) (W4 : World) (j : Nat) (w : World) : Prop where
  op : Op6 O (opAt vs x j).1 (opAt vs x j).2 w
  arr : Arr V vs w
  nd : w.heap[N]? = some (.cells #[.int .i64 x.kind, .int .i64 x.val, strV x.name, .int .i64 x.left, .int .i64 x.right] 59 (0, 0))
  kids : w.heap[R]? = some (.cells #[.int .i64 x.left, .int .i64 x.right] 3 (0, 0))
  low : Below V W4 w
theorem Op6.cells {O : Nat} {a b : Ln} {w : World} (h : Op6 O a b w) : (w.cell? ⟨O, 0, none⟩ = some (strV a.sym) ∧ w.cell? ⟨O, 1, none⟩ = some (strV a.minus) ∧ w.cell? ⟨O, 2, none⟩ = some (.int .i64 a.num)) ∧
    (w.cell? ⟨O, 3, none⟩ = some (strV b.sym) ∧ w.cell? ⟨O, 4, none⟩ = some (strV b.minus) ∧ w.cell? ⟨O, 5, none⟩ = some (.int .i64 b.num)) ∧
    (w.frozen? ⟨O, 0, none⟩ = false ∧ w.frozen? ⟨O, 1, none⟩ = false ∧ w.frozen? ⟨O, 2, none⟩ = false) ∧ (w.frozen? ⟨O, 3, none⟩ = false ∧ w.frozen? ⟨O, 4, none⟩ = false ∧ w.frozen? ⟨O, 5, none⟩ = false) ∧ O < w.heap.size := by
  obtain ⟨c1, c2, c3⟩ := cells_of h
  exact ⟨⟨c1 0 _ rfl, c1 1 _ rfl, c1 2 _ rfl⟩, ⟨c1 3 _ rfl, c1 4 _ rfl, c1 5 _ rfl⟩, ⟨c2 0, c2 1, c2 2⟩, ⟨c2 3, c2 4, c2 5⟩, c3⟩
theorem opA_of {vs : List Ln} {x : Nd} {i : Nat} {y : Ln} (hc : (chN x)[0]? = some (i : Int)) (hy : vs[i]? = some y) : opA vs x = y := by unfold opA valAt; rw [hc]; simp [hy]
theorem opB_of {vs : List Ln} {x : Nd} {i : Nat} {y : Ln} (hc : (chN x)[1]? = some (i : Int)) (hy : vs[i]? = some y) : opB vs x = y := by unfold opB valAt; rw [hc]; simp [hy]
theorem opA_none {vs : List Ln} {x : Nd} (hc : (chN x).length ≤ 0) : opA vs x = zeroL := by unfold opA valAt; rw [List.getElem?_eq_none (by omega)]
theorem opB_none {vs : List Ln} {x : Nd} (hc : (chN x).length ≤ 1) : opB vs x = zeroL := by unfold opB valAt; rw [List.getElem?_eq_none (by omega)]
theorem opAt_end {vs : List Ln} {x : Nd} : opAt vs x (chN x).length = (opA vs x, opB vs x) := by
  have h2 := chN_len x
  unfold opAt
  rcases Nat.eq_zero_or_pos (chN x).length with h | h
  · rw [h, if_neg (by omega), if_neg (by omega), opA_none (by omega), opB_none (by omega)]
  · rw [if_pos h]
    by_cases h1 : 1 < (chN x).length
    · rw [if_pos h1]
    · rw [if_neg h1, opB_none (by omega)]
theorem InL.step0 {V N O R : Nat} {vs : List Ln} {x : Nd} {W4 w : World} {y : Ln} (h : InL V N O R vs x W4 0 w) (hy : opA vs x = y) (hO : O ≠ V ∧ O ≠ N ∧ O ≠ R) (hV : V ≤ O) :
    InL V N O R vs x W4 1 (((w.setCell ⟨O, 0, none⟩ (strV y.sym)).setCell ⟨O, 1, none⟩ (strV y.minus)).setCell ⟨O, 2, none⟩ (.int .i64 y.num)) := by
  have e0 : Op6 O zeroL zeroL w := h.op
  have e1 := heap_setCell_same w O 0 _ _ (strV y.sym) e0
  have e2 := heap_setCell_same _ O 1 _ _ (strV y.minus) e1
  have e3 := heap_setCell_same _ O 2 _ _ (.int .i64 y.num) e2
  have hoth : ∀ b, b ≠ O → (((w.setCell ⟨O, 0, none⟩ (strV y.sym)).setCell ⟨O, 1, none⟩ (strV y.minus)).setCell ⟨O, 2, none⟩ (.int .i64 y.num)).heap[b]? = w.heap[b]? := fun b hb => by
    rw [heap_setCell_other _ _ _ _ hb, heap_setCell_other _ _ _ _ hb, heap_setCell_other _ _ _ _ hb]
  refine ⟨?_, ?_, (hoth _ hO.2.1.symm).trans h.nd, (hoth _ hO.2.2.symm).trans h.kids, ((h.low.setCell (p := ⟨O, 0, none⟩) hV _).setCell (p := ⟨O, 1, none⟩) hV _).setCell (p := ⟨O, 2, none⟩) hV _⟩
  · rw [show opAt vs x 1 = (y, zeroL) by unfold opAt; rw [if_pos (by decide), if_neg (by decide), hy]]
    exact e3
  · obtain ⟨arr, h1, h2⟩ := h.arr
    exact ⟨arr, (hoth _ hO.1.symm).trans h1, h2⟩
theorem InL.step1 {V N O R : Nat} {vs : List Ln} {x : Nd} {W4 w : World} {y : Ln} (h : InL V N O R vs x W4 1 w) (hy : opB vs x = y) (hO : O ≠ V ∧ O ≠ N ∧ O ≠ R) (hV : V ≤ O) :
    InL V N O R vs x W4 2 (((w.setCell ⟨O, 3, none⟩ (strV y.sym)).setCell ⟨O, 4, none⟩ (strV y.minus)).setCell ⟨O, 5, none⟩ (.int .i64 y.num)) := by
  have e0 : Op6 O (opA vs x) zeroL w := h.op
  have e1 := heap_setCell_same w O 3 _ _ (strV y.sym) e0
  have e2 := heap_setCell_same _ O 4 _ _ (strV y.minus) e1
  have e3 := heap_setCell_same _ O 5 _ _ (.int .i64 y.num) e2
  have hoth : ∀ b, b ≠ O → (((w.setCell ⟨O, 3, none⟩ (strV y.sym)).setCell ⟨O, 4, none⟩ (strV y.minus)).setCell ⟨O, 5, none⟩ (.int .i64 y.num)).heap[b]? = w.heap[b]? := fun b hb => by
    rw [heap_setCell_other _ _ _ _ hb, heap_setCell_other _ _ _ _ hb, heap_setCell_other _ _ _ _ hb]
  refine ⟨?_, ?_, (hoth _ hO.2.1.symm).trans h.nd, (hoth _ hO.2.2.symm).trans h.kids, ((h.low.setCell (p := ⟨O, 3, none⟩) hV _).setCell (p := ⟨O, 4, none⟩) hV _).setCell (p := ⟨O, 5, none⟩) hV _⟩
  · rw [show opAt vs x 2 = (opA vs x, y) by unfold opAt; rw [if_pos (by decide), if_pos (by decide), hy]]
    exact e3
  · obtain ⟨arr, h1, h2⟩ := h.arr
    exact ⟨arr, (hoth _ hO.1.symm).trans h1, h2⟩
set_option maxRecDepth 100000 in
set_option maxHeartbeats 4000000 in
theorem value_good (B : Nat) (v u : Value) (ns : List Nd) (l : List Nm) (w : World) (h : NdsAt B w v ns) (hu : NmsAt B w u l) (hB : B ≤ w.heap.size) (hK : KindsAt w) (hv : validL ns = (0, 0)) (hf : validSymL l = (0, 0)) :
    Calls Tryd.prog 16 #[v, u] w fun e w' => e = .returned (.tuple #[(valueL ns l).1.v, faultV (valueL ns l).2]) ∧ Below w.heap.size w w' := by
  have hb0 := valW_below w
  have C1 := Lib.hid (validate_any B v ns (valW w) (h.below (hb0.mono hB)) (Nat.le_trans hB hb0.size) (hK.up hb0))
  rw [hv] at C1
  have HB0 := Lib.hid hb0
  have HV := Lib.hid (valW_vb w)
  have C2 := Lib.hid (fun W (hb : Below w.heap.size w W) => validSym_any B u l W (hu.below (hb.mono hB)) (Nat.le_trans hB hb.size))
  rw [hf] at C2
  have H := Lib.hid h
  have HU := Lib.hid hu
  have HK := Lib.hid hK
  have HVA := Lib.hid (validL_all hv)
  have HSA := Lib.hid (validSymL_all hf)
  obtain ⟨A, n, c, rfl, Hn, -, HT, HC⟩ := h.opens
  obtain ⟨A2, n2, c2, rfl, -, -, HT2, -⟩ := hu.opens
  have hn1 : 1 ≤ n := by rw [← Hn.out]; exact HVA.out.1.1
  have hn60 : n ≤ 60 := by rw [← Hn.out]; exact HVA.out.1.2
  have EV := Lib.hid (show valueL ns l = if (runL l [] ns).2 ≠ 0 then (zeroL, ((runL l [] ns).2, ((runL l [] ns).1.length : Int))) else (lastL (runL l [] ns).1, (0, 0)) by
    unfold valueL
    rw [hv, hf, if_neg (by simp), if_neg (by simp)])
  unfold valW at C1 HB0 HV
  unfold faultV at C1 C2
  dsimp only at C1 C2
  clear h hu hK hf hb0 hv
  go_enter Tryd.func16, Tryd.ntmps16
  go_wp2_with fail
  refine C1.out.mono ?_
  rintro e W1 ⟨rfl, hb1⟩
  have hb2 := flt_low W1 0 0
  have HB2 := Lib.hid (HB0.out.trans ((hb1.trans (hb2.mono hb1.size)).mono HB0.out.size))
  have HV2 := Lib.hid ((HV.out.up hb1 (by simp)).up hb2 (by have := hb1.size; simp at this; omega))
  clear hb1 C1 hb2
  go_wp2_with fail
  refine (C2.out _ HB2.out).mono ?_
  rintro e W3 ⟨rfl, hb3⟩
  have HB3 := Lib.hid (HB2.out.trans (hb3.mono HB2.out.size))
  have HV3 := Lib.hid (HV2.out.up hb3 (by have := HV2.out.opens.2.2.2.2; omega))
  clear hb3 C2
  go_wp2_with fail
  have hb4 : Below W3.heap.size W3 ((W3.alloc (.cells #[.int .i64 0, .int .i64 0] 26)).alloc (.cells Tryd.zeroCells69 69)) := ((Below.refl _ _).alloc (Nat.le_refl _) _).alloc (by simp) _
  obtain ⟨V, hV⟩ : ∃ V, V = W3.heap.size + 1 := ⟨_, rfl⟩
  have hArr : Arr V [] ((W3.alloc (.cells #[.int .i64 0, .int .i64 0] 26)).alloc (.cells Tryd.zeroCells69 69)) := ⟨_, by rw [hV]; exact heap_newM _ _ _, zero69, fun j y hy => by simp at hy⟩
  have HB4 := Lib.hid (HB3.out.trans (hb4.mono HB3.out.size))
  have HV4 := Lib.hid (HV3.out.up hb4 (by have := HV3.out.opens.2.2.2.2; omega))
  have hVw : w.heap.size + 1 < V := by have := HV3.out.opens.2.2.2.2; omega
  rw [← hV]
  obtain ⟨W4, hW4⟩ : ∃ W4, W4 = ((W3.alloc (.cells #[.int .i64 0, .int .i64 0] 26)).alloc (.cells Tryd.zeroCells69 69)) := ⟨_, rfl⟩
  rw [← hW4] at hArr HB4 HV4 ⊢
  have HA4 := Lib.hid hArr
  clear hb4 hV hArr hW4 HB2 HB3 HV3 HV2 HB0 HV
  go_loopw [33] (fun i wr => ∃ (k : Nat) (vs : List Ln), k ≤ n ∧ i = .int .i64 k ∧ Hid (vs.length = k ∧ AllOk vs ∧ runL l [] ns = runL l vs (ns.drop k)) ∧ Hid (Arr V vs wr) ∧ Hid (Below V W4 wr)) (fun i _ => n - (intOf i).toNat)
  case atStart => exact ⟨0, [], Nat.zero_le _, rfl, Lib.hid ⟨rfl, fun _ h => absurd h (by simp), rfl⟩, HA4, Lib.hid (Below.refl _ _)⟩
  case round =>
    obtain ⟨k, vs, hk, rfl, HR, HA, HB⟩ := hrel
    have hlo := HA.out.lt
    have hbw := HB4.out.trans (HB.out.mono (by omega))
    by_cases hlt : k < n
    · obtain ⟨b1, o1, rfl, hb1, g1⟩ := HC.out (by omega)
      obtain ⟨x, hx⟩ := getElem?_of_lt Hn.out hlt
      have HX := Lib.hid hx
      obtain ⟨p0, p1, p2, p3, p4⟩ := (g1 k x hx).below (hbw.mono hB) hb1
      have hb1r := block_lt_of_cell p0
      have HBW := Lib.hid hbw
      clear HC g1 hx hbw
      have hck := HVA.out.2 k x HX.out
      have hkn := chk_known hck
      have HKIDS := Lib.hid (chk_kids hck)
      obtain ⟨N, hN⟩ : ∃ N, N = wr.heap.size := ⟨_, rfl⟩
      have hb5 : Below wr.heap.size wr ((wr.alloc (.cells #[.int .i64 x.kind, .int .i64 x.val, strV x.name, .int .i64 x.left, .int .i64 x.right] 59)).alloc (.cells #[strV [], strV [], .int .i64 0, strV [], strV [], .int .i64 0] 70)) := ((Below.refl _ _).alloc (Nat.le_refl _) _).alloc (by simp) _
      have hnd : ((wr.alloc (.cells #[.int .i64 x.kind, .int .i64 x.val, strV x.name, .int .i64 x.left, .int .i64 x.right] 59)).alloc (.cells #[strV [], strV [], .int .i64 0, strV [], strV [], .int .i64 0] 70)).heap[N]? = some (.cells #[.int .i64 x.kind, .int .i64 x.val, strV x.name, .int .i64 x.left, .int .i64 x.right] 59 (0, 0)) := by rw [hN]; exact heap_allocL _ (heap_alloc_new _ _)
      have hop : Op6 (N + 1) zeroL zeroL ((wr.alloc (.cells #[.int .i64 x.kind, .int .i64 x.val, strV x.name, .int .i64 x.left, .int .i64 x.right] 59)).alloc (.cells #[strV [], strV [], .int .i64 0, strV [], strV [], .int .i64 0] 70)) := by rw [hN]; exact heap_newM _ _ _
      have hVN : V < N := by rw [hN]; exact hlo
      have C3 := Lib.hid (children_any x _ (by omega) ((HK.out.up HBW.out).up hb5))
      have HLOW := Lib.hid (HB.out.trans (hb5.mono (by omega)))
      have HARR := Lib.hid (HA.out.up hb5 hlo)
      have hsz5 : N + 1 < ((wr.alloc (.cells #[.int .i64 x.kind, .int .i64 x.val, strV x.name, .int .i64 x.left, .int .i64 x.right] 59)).alloc (.cells #[strV [], strV [], .int .i64 0, strV [], strV [], .int .i64 0] 70)).heap.size := by simp; omega
      obtain ⟨W5, hW5⟩ : ∃ W5, W5 = ((wr.alloc (.cells #[.int .i64 x.kind, .int .i64 x.val, strV x.name, .int .i64 x.left, .int .i64 x.right] 59)).alloc (.cells #[strV [], strV [], .int .i64 0, strV [], strV [], .int .i64 0] 70)) := ⟨_, rfl⟩
      rw [← hW5] at hnd hop C3 HLOW HARR hsz5
      have HND := Lib.hid hnd
      have HOP := Lib.hid hop
      have HW5 := Lib.hid hW5
      have HNQ := Lib.hid hN
      unfold Nd.v at C3
      clear hb5 hnd hop hW5 hck hN
      go_wp2_with fail
      rw [← HNQ.out, show ((wr.alloc (.cells #[.int .i64 x.kind, .int .i64 x.val, .string { data := x.name.toArray }, .int .i64 x.left, .int .i64 x.right] 59)).alloc (.cells #[.string { data := #[] }, .string { data := #[] }, .int .i64 0, .string { data := #[] }, .string { data := #[] }, .int .i64 0] 70)) = W5 from HW5.out.symm]
      refine C3.out.mono ?_
      rintro e W6 ⟨⟨R, rfl, hR, hRc⟩, hb6⟩
      rw [← chN_length (child_le _ (by omega))]
      have HIN := Lib.hid (show InL V N (N + 1) R vs x W4 0 W6 from ⟨(hb6.block _ (lt_of_block HOP.out)).trans HOP.out, HARR.out.up hb6 HARR.out.lt, (hb6.block _ (lt_of_block HND.out)).trans HND.out, hRc, HLOW.out.trans (hb6.mono (Nat.le_of_lt HARR.out.lt))⟩)
      have hRN : N + 1 < R := by omega
      obtain ⟨c0, hc0⟩ : ∃ c0, c0 = (chN x).length := ⟨_, rfl⟩
      have hc2 : c0 ≤ 2 := by rw [hc0]; exact chN_len x
      rw [← hc0]
      have HC0 := Lib.hid hc0
      clear hb6 hR hRc hc0 C3 p0 p1 p2 p3 p4 hb1r
      go_wp2_with fail
      go_loopw [41] (fun u41 wi => ∃ j : Nat, j ≤ c0 ∧ u41 = .int .i64 j ∧ Hid (InL V N (N + 1) R vs x W4 j wi)) (fun u41 _ => c0 - (intOf u41).toNat)
      case atStart => exact ⟨0, Nat.zero_le _, rfl, HIN⟩
      case round =>
        obtain ⟨j, hj, rfl, HI⟩ := hrel
        by_cases hjc : j < c0
        · have hj01 : j = 0 ∨ j = 1 := by omega
          obtain ⟨ch, hch⟩ : ∃ ch, (chN x)[j]? = some ch := ⟨_, List.getElem?_eq_getElem (by rw [← HC0.out]; exact hjc)⟩
          have hchk := HKIDS.out ch (List.mem_of_getElem? hch)
          obtain ⟨i, rfl⟩ : ∃ i : Nat, ch = i := ⟨ch.toNat, by omega⟩
          have hik : i < k := by omega
          obtain ⟨y, hy⟩ : ∃ y, vs[i]? = some y := ⟨_, List.getElem?_eq_getElem (by rw [HR.out.1]; exact hik)⟩
          obtain ⟨a0, a1, a2⟩ := HI.out.arr.at hy
          have r0 := chN_at HI.out.kids j _ hch
          have hVl := HI.out.arr.lt
          rcases hj01 with rfl | rfl
          · obtain ⟨⟨s0, s1, s2⟩, -, ⟨f0, f1, f2⟩, -, hOl⟩ := HI.out.op.cells
            have HN := Lib.hid (HI.out.step0 (opA_of hch hy) (by omega) (by omega))
            have hRl := block_lt_of_cell r0
            clear hch hy hchk
            go_wp2_with fail
            go_roundw
            case rel => exact ⟨1, by omega, rfl, HN⟩
            case measure => simp [intOf]; omega
          · obtain ⟨-, ⟨s0, s1, s2⟩, -, ⟨f0, f1, f2⟩, hOl⟩ := HI.out.op.cells
            have HN := Lib.hid (HI.out.step1 (opB_of hch hy) (by omega) (by omega))
            have hRl := block_lt_of_cell r0
            clear hch hy hchk
            go_wp2_with fail
            go_roundw
            case rel => exact ⟨2, by omega, rfl, HN⟩
            case measure => simp [intOf]; omega
        · obtain rfl : j = c0 := by omega
          have hopx := HI.out.op
          rw [HC0.out, opAt_end] at hopx
          obtain ⟨⟨s0, s1, s2⟩, ⟨s3, s4, s5⟩, -, -, hOl⟩ := hopx.cells
          obtain ⟨q1, -, q3⟩ := cells_of HI.out.nd
          have t0 := q1 0 _ rfl
          have t1 := q1 1 _ rfl
          have t2 := q1 2 _ rfl
          have t3 := q1 3 _ rfl
          have t4 := q1 4 _ rfl
          have hlow := HI.out.low
          have hwi := HB4.out.trans (hlow.mono (by omega))
          have C4 := Lib.hid (evaluate_any B (.slice A2 n2 c2) l x (opA vs x) (opB vs x) _ (HU.out.below (hwi.mono hB)) (Nat.le_trans hB hwi.size) (by omega) (valAt_ok HR.out.2.1 _) (valAt_ok HR.out.2.1 _))
          have HOKE := Lib.hid (evalL_ok (a := opA vs x) (b := opB vs x) (HVA.out.2 k x HX.out) (HT.out x (List.mem_of_getElem? HX.out)) (valAt_ok HR.out.2.1 _) (valAt_ok HR.out.2.1 _) HT2.out HSA.out.2)
          have HRN := Lib.hid (show (evalL x (opA vs x) (opB vs x) l).2 = 0 → runL l [] ns = runL l (vs ++ [(evalL x (opA vs x) (opB vs x) l).1]) (ns.drop (k + 1)) from fun h0 => by
            obtain ⟨hk1, hk2⟩ := List.getElem?_eq_some_iff.1 HX.out
            rw [HR.out.2.2, List.drop_eq_getElem_cons hk1, hk2, runL_next h0])
          have HRX := Lib.hid (show (evalL x (opA vs x) (opB vs x) l).2 ≠ 0 → runL l [] ns = (vs, (evalL x (opA vs x) (opB vs x) l).2) from fun h0 => by
            obtain ⟨hk1, hk2⟩ := List.getElem?_eq_some_iff.1 HX.out
            rw [HR.out.2.2, List.drop_eq_getElem_cons hk1, hk2, runL_hit h0])
          generalize opA vs x = oa at s0 s1 s2 C4 HOKE HRN HRX
          generalize opB vs x = ob at s3 s4 s5 C4 HOKE HRN HRX
          generalize evalL x oa ob l = ev at C4 HOKE HRN HRX
          obtain ⟨y, cd⟩ := ev
          have HLW := Lib.hid hlow
          have HWI := Lib.hid hwi
          unfold Nd.v Ln.v at C4
          dsimp only at C4 HOKE HRN HRX
          clear hopx hlow hwi q1
          go_wp2_with fail
          refine C4.out.mono ?_
          rintro e W8 ⟨rfl, hb8⟩
          have hlw8 := HLW.out.trans (hb8.mono (Nat.le_of_lt HI.out.arr.lt))
          have HA8 := Lib.hid (HI.out.arr.up hb8 HI.out.arr.lt)
          have HB8 := Lib.hid hlw8
          have HV8 := Lib.hid (HV4.out.up hlw8 hVw)
          have HW8 := Lib.hid (HWI.out.trans (hb8.mono HWI.out.size))
          have hVl := HA8.out.lt
          clear hb8 hlw8 C4 s0 s1 s2 s3 s4 s5 t0 t1 t2 t3 t4 hOl q3
          by_cases h0 : cd = 0
          · subst h0
            have hr := HA8.out.room (k := k) (by omega)
            obtain ⟨⟨u0, u1, u2, g0, g1, g2⟩, e0, e1, e2⟩ := hr
            have hbx : Below W8.heap.size W8 (W8.alloc (.cells #[strV y.sym, strV y.minus, .int .i64 y.num] 40)) := (Below.refl _ _).alloc (Nat.le_refl _) _
            go_wp2_with fail
            go_roundw
            case rel =>
              refine ⟨k + 1, vs ++ [y], by omega, by go_num, Lib.hid ⟨?_, HR.out.2.1.snoc (HOKE.out (by first | rfl | trivial)), HRN.out (by first | rfl | trivial)⟩, Lib.hid ?_, Lib.hid ?_⟩
              · rw [List.length_append, HR.out.1]; rfl
              · exact (HA8.out.put (by omega) HR.out.1 y).up ((Below.refl _ _).alloc (Nat.le_refl _) _) (by rw [World.size_setCell, World.size_setCell, World.size_setCell]; exact hVl)
              · exact (((HB8.out.setCell (p := ⟨V, k * 3, none⟩) (Nat.le_refl _) _).setCell (p := ⟨V, k * 3 + 1, none⟩) (Nat.le_refl _) _).setCell (p := ⟨V, k * 3 + 2, none⟩) (Nat.le_refl _) _).alloc (by rw [World.size_setCell, World.size_setCell, World.size_setCell]; exact Nat.le_of_lt hVl) _
            case measure => simp [intOf]; omega
          · have E := Lib.hid (HRX.out h0)
            have h01 : (cd == 0) = false := beq_eq_false_iff_ne.2 h0
            have h02 : (cd != 0) = true := by simp [bne, h01]
            obtain ⟨⟨z0, z1, z2⟩, ⟨k0, k1, k2⟩, ⟨y0, y1⟩, ⟨j0, j1⟩, hlt8⟩ := HV8.out.opens
            have hlt80 : w.heap.size < W8.heap.size := by omega
            have EV2 := Lib.hid (EV.out.trans (if_pos (by rw [E.out]; exact h0)))
            clear h0
            go_wp2_with fail
            obtain ⟨m0, m1, m2, m3, m4⟩ := vset_cells (A := w.heap.size) (B := w.heap.size + 1) (x := strV []) (y := strV []) (z := .int .i64 0) (p := .int .i64 cd) (q := .int .i64 (k : Int)) (by omega) z0 z1 z2 y0 y1
            have m0 := cell_alloc_l (.cells #[strV y.sym, strV y.minus, .int .i64 y.num] 40) m0
            have m1 := cell_alloc_l (.cells #[strV y.sym, strV y.minus, .int .i64 y.num] 40) m1
            have m2 := cell_alloc_l (.cells #[strV y.sym, strV y.minus, .int .i64 y.num] 40) m2
            have m3 := cell_alloc_l (.cells #[strV y.sym, strV y.minus, .int .i64 y.num] 40) m3
            have m4 := cell_alloc_l (.cells #[strV y.sym, strV y.minus, .int .i64 y.num] 40) m4
            refine bodyPost_ret (v := .tuple #[zeroL.v, .agg #[.int .i64 cd, .int .i64 (k : Int)]]) (by unfold Ln.v zeroL; simp [results, Tryd.results16, go_sem, m0, m1, m2, m3, m4]) rfl ⟨?_, ?_⟩
            · rw [EV2.out, E.out, HR.out.1]; rfl
            · exact (vset_below HW8.out _ _ _ _ _).alloc (by simp <;> omega) _
    · obtain rfl : k = n := by omega
      have E := Lib.hid (show runL l [] ns = (vs, 0) by
        rw [HR.out.2.2, List.drop_eq_nil_of_le (by rw [Hn.out]; exact Nat.le_refl _)]
        rfl)
      have EV2 := Lib.hid (EV.out.trans (if_neg (by rw [E.out]; simp)))
      obtain ⟨m, rfl⟩ : ∃ m, k = m + 1 := ⟨k - 1, by omega⟩
      obtain ⟨y, hy⟩ : ∃ y, vs[m]? = some y := ⟨_, List.getElem?_eq_getElem (by rw [HR.out.1]; omega)⟩
      have HLY := Lib.hid (show lastL vs = y by
        unfold lastL
        rw [List.getLast?_eq_getElem?, HR.out.1, Nat.add_sub_cancel, hy]
        rfl)
      have HYO := Lib.hid (HR.out.2.1 y (List.mem_of_getElem? hy))
      obtain ⟨a0, a1, a2⟩ := HA.out.at hy
      have HWR := Lib.hid hbw
      have HVB := Lib.hid (HV4.out.up HB.out hVw)
      clear hy hbw
      go_wp2_with fail
      obtain ⟨T, hT⟩ : ∃ T, T = wr.heap.size := ⟨_, rfl⟩
      have hbt : Below wr.heap.size wr (wr.alloc (.cells #[strV y.sym, strV y.minus, .int .i64 y.num] 40)) := (Below.refl _ _).alloc (Nat.le_refl _) _
      have hTb : (wr.alloc (.cells #[strV y.sym, strV y.minus, .int .i64 y.num] 40)).heap[T]? = some (.cells #[strV y.sym, strV y.minus, .int .i64 y.num] 40 (0, 0)) := by rw [hT]; exact heap_alloc_new _ _
      have HWS := Lib.hid (HWR.out.trans (hbt.mono HWR.out.size))
      have HVS := Lib.hid (HVB.out.up hbt (by have := HVB.out.opens.2.2.2.2; omega))
      have hTw : w.heap.size + 1 < T := by rw [hT]; exact HVB.out.opens.2.2.2.2
      obtain ⟨S, hS⟩ : ∃ S, S = (wr.alloc (.cells #[strV y.sym, strV y.minus, .int .i64 y.num] 40)) := ⟨_, rfl⟩
      rw [← hS] at hTb HWS HVS
      rw [← hT, show (wr.alloc (.cells #[.string { data := y.sym.toArray }, .string { data := y.minus.toArray }, .int .i64 y.num] 40)) = S from hS.symm]
      have HTB := Lib.hid hTb
      clear hbt hTb hS hT a0 a1 a2
      have KF := Lib.hid (show ∀ W', Below S.heap.size S W' → ((W'.cell? ⟨T, 0, none⟩ = some (strV y.sym) ∧ W'.cell? ⟨T, 1, none⟩ = some (strV y.minus)) ∧ W'.cell? ⟨T, 2, none⟩ = some (.int .i64 y.num) ∧ W'.frozen? ⟨T, 0, none⟩ = false ∧ W'.frozen? ⟨T, 1, none⟩ = false ∧ T < W'.heap.size) from fun W' hb => by
        obtain ⟨c1, c2, c3⟩ := cells_of ((hb.block _ (lt_of_block HTB.out)).trans HTB.out)
        exact ⟨⟨c1 0 _ rfl, c1 1 _ rfl⟩, c1 2 _ rfl, c2 0, c2 1, c3⟩)
      have KT := Lib.hid (show ∀ W' : World, (W'.cell? ⟨T, 0, none⟩ = some (strV y.sym) ∧ W'.cell? ⟨T, 1, none⟩ = some (strV y.minus)) → ((W'.setCell ⟨T, 0, none⟩ (strV y.sym)).cell? ⟨T, 0, none⟩ = some (strV y.sym) ∧ (W'.setCell ⟨T, 0, none⟩ (strV y.sym)).cell? ⟨T, 1, none⟩ = some (strV y.minus)) ∧ ((W'.setCell ⟨T, 1, none⟩ (strV y.minus)).cell? ⟨T, 0, none⟩ = some (strV y.sym) ∧ (W'.setCell ⟨T, 1, none⟩ (strV y.minus)).cell? ⟨T, 1, none⟩ = some (strV y.minus)) from fun W' h =>
        ⟨⟨World.cell?_setCell_same' _ _ _ (by rw [h.1]; rfl), (World.cell?_setCell_other _ _ _ _ (by simp)).trans h.2⟩, (World.cell?_setCell_other _ _ _ _ (by simp)).trans h.1, World.cell?_setCell_same' _ _ _ (by rw [h.2]; rfl)⟩)
      have hcur : Below S.heap.size S S.drew := (Below.refl _ _).drew
      obtain ⟨⟨i0, i1⟩, i2, i3, i4, i5⟩ := KF.out _ (Below.refl _ S)
      go_region_held3 (fun W' => W'.cell? ⟨T, 0, none⟩ = some (strV y.sym) ∧ W'.cell? ⟨T, 1, none⟩ = some (strV y.minus))
        (first | exact (KF.out _ hcur).1 | exact (KT.out _ (KF.out _ hcur).1).1 | exact (KT.out _ (KF.out _ hcur).1).2 | exact (KT.out _ (KT.out _ (KF.out _ hcur).1).1).2 | exact (KT.out _ (KT.out _ (KF.out _ hcur).1).2).1)
        ((go_at_call 38; first | (refine (clone_any y.sym _ (Nat.le_trans HYO.out.2.1 (by decide))).mono ?_; rintro e W9 ⟨rfl, hb9⟩; have hcur := hcur.trans (hb9.mono hcur.size); obtain ⟨⟨i0, i1⟩, i2, i3, i4, i5⟩ := KF.out _ hcur) | (refine (clone_any y.minus _ (Nat.le_trans HYO.out.2.2 (by decide))).mono ?_; rintro e W9 ⟨rfl, hb9⟩; have hcur := hcur.trans (hb9.mono hcur.size); obtain ⟨⟨i0, i1⟩, i2, i3, i4, i5⟩ := KF.out _ hcur)))
      have hz := (KT.out _ (KT.out _ (KF.out _ hcur).1).1).2
      have hz2 : ((W9.setCell ⟨T, 0, none⟩ (strV y.sym)).setCell ⟨T, 1, none⟩ (strV y.minus)).cell? ⟨T, 2, none⟩ = some (.int .i64 y.num) := by
        rw [World.cell?_setCell_other _ _ _ _ (by simp), World.cell?_setCell_other _ _ _ _ (by simp)]
        exact (KF.out _ hcur).2.1
      have hbz : Below T W9 ((W9.setCell ⟨T, 0, none⟩ (strV y.sym)).setCell ⟨T, 1, none⟩ (strV y.minus)) := ((Below.refl _ _).setCell (p := ⟨T, 0, none⟩) (Nat.le_refl _) _).setCell (p := ⟨T, 1, none⟩) (Nat.le_refl _) _
      have hvz := (HVS.out.up hcur (by have := HVS.out.opens.2.2.2.2; omega)).up hbz hTw
      have hwz := (HWS.out.trans (hcur.mono HWS.out.size)).trans (hbz.mono (by omega))
      have hTz : T < ((W9.setCell ⟨T, 0, none⟩ (strV y.sym)).setCell ⟨T, 1, none⟩ (strV y.minus)).heap.size := by rw [World.size_setCell, World.size_setCell]; exact i5
      obtain ⟨Z, hZ⟩ : ∃ Z, Z = ((W9.setCell ⟨T, 0, none⟩ (strV y.sym)).setCell ⟨T, 1, none⟩ (strV y.minus)) := ⟨_, rfl⟩
      rw [← hZ] at hz hz2 hvz hwz hTz
      rw [show ((W9.setCell ⟨T, 0, none⟩ (.string { data := y.sym.toArray })).setCell ⟨T, 1, none⟩ (.string { data := y.minus.toArray })) = Z from hZ.symm]
      obtain ⟨x0, x1⟩ := hz
      have HWZ := Lib.hid hwz
      obtain ⟨⟨z0, z1, z2⟩, ⟨k0, k1, k2⟩, ⟨y0, y1⟩, ⟨j0, j1⟩, hltz⟩ := hvz.opens
      have hltz0 : w.heap.size < Z.heap.size := by omega
      clear hbz hvz hwz hZ i0 i1 i2 i3 i4 i5 hcur
      go_wp2_with fail
      obtain ⟨m0, m1, m2, m3, m4⟩ := vset_cells (A := w.heap.size) (B := w.heap.size + 1) (x := strV y.sym) (y := strV y.minus) (z := .int .i64 y.num) (p := .int .i64 0) (q := .int .i64 0) (by omega) z0 z1 z2 y0 y1
      refine bodyPost_ret (v := .tuple #[y.v, .agg #[.int .i64 0, .int .i64 0]]) (by unfold Ln.v; simp [results, Tryd.results16, go_sem, m0, m1, m2, m3, m4]) rfl ⟨?_, ?_⟩
      · rw [EV2.out, E.out, HLY.out]; rfl
      · exact vset_below HWZ.out _ _ _ _ _
/-- what Value answers -/
theorem value_any (B : Nat) (v u : Value) (ns : List Nd) (l : List Nm) (w : World) (h : NdsAt B w v ns) (hu : NmsAt B w u l) (hB : B ≤ w.heap.size) (hK : KindsAt w) :
    Calls Tryd.prog 16 #[v, u] w fun e w' => e = .returned (.tuple #[(valueL ns l).1.v, faultV (valueL ns l).2]) ∧ Below w.heap.size w w' := by
  rcases validL_cases ns with hv | hv
  · rcases validSymL_cases l with hf | hf
    · exact value_good B v u ns l w h hu hB hK hv hf
    · rw [show valueL ns l = (zeroL, validSymL l) by unfold valueL; rw [if_neg (by rw [hv]; simp), if_pos hf]]
      exact value_sym B v u ns l w h hu hB hK hv hf
  · rw [show valueL ns l = (zeroL, validL ns) by unfold valueL; rw [if_pos hv]]
    exact value_bad B v u ns l w h hu hB hK hv
end Go.Proofs.YtchpkdpefpiegaaDoor.Tok
