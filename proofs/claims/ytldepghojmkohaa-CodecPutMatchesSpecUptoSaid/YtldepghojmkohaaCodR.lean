/- The example of the codec's laws answers true. No condition. -/
import Derived.Test.YtldepghojmkohaaCodQ
namespace Go.Proofs.Ytldepghojmkohaa.Cod
open Go Go.RowKit Go.Lib

theorem below_drewN {B : Nat} {a w : World} (h : Below B a w) (n : Nat) : Below B a (w.drewN n) := ⟨h.os, h.tape, h.output, h.size, h.block⟩
theorem ex_nums : numsL [1, -1] = [4, 2, 1] := by
  have h2 : numL 2 = [4] := groups_lt (by decide)
  have h1 : numL 1 = [2] := groups_lt (by decide)
  have h0 : numL (-1) = [1] := groups_lt (by decide)
  show numL 2 ++ (numL 1 ++ (numL (-1) ++ [])) = _
  rw [h2, h1, h0]
  rfl
theorem ex_texts : textsL [[97, 98]] = [2, 4, 97, 98] := by
  have h2 : numL 2 = [4] := groups_lt (by decide)
  have h1 : numL 1 = [2] := groups_lt (by decide)
  show numL 1 ++ ((numL 2 ++ [97, 98]) ++ []) = _
  rw [h2, h1]
  rfl
theorem cells_new {w : World} {xs : List Value} {t : TypeId} (j : Nat) (u : Value) (h : xs[j]? = some u) : (w.alloc (.cells xs.toArray t)).cell? ⟨w.heap.size, j, none⟩ = some u := by
  have hfc : (w.alloc (.cells xs.toArray t)).heap[w.heap.size]? = some (.cells xs.toArray t (0, 0)) := heap_alloc_new w _
  simp only [World.cell?]
  rw [hfc]
  simpa using h
theorem ints_new {w : World} {xs : List Int} (hn : xs.length ≤ 1000) (hr : ∀ x ∈ xs, I64 x) : IntsAt (w.heap.size + 1) (w.alloc (.cells (iv xs).toArray 3)) (.slice (some ⟨w.heap.size, 0, none⟩) xs.length xs.length) xs :=
  ⟨_, _, rfl, by omega, hr, fun _ => ⟨_, 0, rfl, Nat.lt_succ_self _, fun j hj => by rw [Nat.zero_add]; exact cells_new j _ (by unfold iv; rw [List.getElem?_map, List.getElem?_eq_getElem hj]; rfl)⟩⟩
theorem strs_new {w : World} {xs : List (List UInt8)} (hn : xs.length ≤ 1000) (hr : ∀ x ∈ xs, x.length ≤ 140737488351232) : StrsAt (w.heap.size + 1) (w.alloc (.cells (sv xs).toArray 9)) (.slice (some ⟨w.heap.size, 0, none⟩) xs.length xs.length) xs :=
  ⟨_, _, rfl, by omega, hr, fun _ => ⟨_, 0, rfl, Nat.lt_succ_self _, fun j hj => by rw [Nat.zero_add]; exact cells_new j _ (by unfold sv; rw [List.getElem?_map, List.getElem?_eq_getElem hj]; rfl)⟩⟩
theorem bytes_new {w : World} {xs : List UInt8} (hn : xs.length ≤ 1000) : BytesAt (w.heap.size + 1) (w.alloc (.cells (bv xs).toArray 5)) (.slice (some ⟨w.heap.size, 0, none⟩) xs.length xs.length) xs :=
  ⟨_, _, rfl, ⟨by omega, Nat.le_refl _⟩, fun _ => ⟨_, 0, rfl, Nat.lt_succ_self _, fun j hj => by rw [Nat.zero_add]; exact cells_new j _ (bv_at xs j hj)⟩⟩

theorem decI_hit {l : List UInt8} {e : Ending} {N : Nat} {w' : World} {xs : List Int} (h : DecI l e N w') (hl : l = numsL xs) (hx : ∀ x ∈ xs, I64 x) (hs : l.length ≤ 200000) : ∃ v', e = .returned (.tuple #[v', .agg #[.int .i64 0, .int .i64 0]]) ∧ w'.ownsRow N 3 1 v' xs.length (iv xs) := by
  rcases h with ⟨h, -⟩ | ⟨-, h, -⟩ | ⟨-, ys, v, h1, h2, h3, h4⟩
  · omega
  · exact absurd ⟨xs, hx, hl⟩ h
  · have e1 : l = numsL xs ++ [] := by rw [List.append_nil]; exact hl
    have e2 : l = numsL ys ++ [] := by rw [List.append_nil]; exact h2
    obtain ⟨rfl, -⟩ := numsL_inj hx h1 (numsL_short e1 hs) (numsL_short e2 hs) (e1.symm.trans e2)
    exact ⟨v, h3, h4⟩
theorem decS_hit {l : List UInt8} {e : Ending} {N : Nat} {w' : World} {xs : List (List UInt8)} (h : DecS l e N w') (hl : l = textsL xs) (hx : ∀ x ∈ xs, Short x) (hs : l.length ≤ 200000) : ∃ v', e = .returned (.tuple #[v', .agg #[.int .i64 0, .int .i64 0]]) ∧ w'.ownsRow N 9 1 v' xs.length (sv xs) := by
  rcases h with ⟨h, -⟩ | ⟨-, h, -⟩ | ⟨-, ys, v, h1, h2, h3, h4⟩
  · omega
  · exact absurd ⟨xs, hx, hl⟩ h
  · have e1 : l = textsL xs ++ [] := by rw [List.append_nil]; exact hl
    have e2 : l = textsL ys ++ [] := by rw [List.append_nil]; exact h2
    obtain ⟨rfl, -⟩ := textsL_inj hx h1 (textsL_short e1 hs) (textsL_short e2 hs) (e1.symm.trans e2)
    exact ⟨v, h3, h4⟩
set_option maxRecDepth 100000 in
set_option maxHeartbeats 1000000 in
theorem example_any (w : World) : Calls Try.prog 8 #[] w fun e w' => e = .returned (.bool true) ∧ Below w.heap.size w w' := by
  go_enter Try.func8, Try.ntmps8
  go_wp2_with fail
  refine (putI_any (w.heap.size + 1) _ [1, -1] _ (ints_new (by decide) (by unfold I64; decide)) (by simp) (by decide)).mono ?_
  rintro e W1 ⟨v1, rfl, hr1, hb1⟩
  rw [ex_nums] at hr1
  have HR1 := Lib.hid hr1
  have HB1 := Lib.hid hb1
  obtain ⟨A1, c1, rfl⟩ := row_is hr1
  clear hr1 hb1
  go_wp2_with fail
  refine (getI_any (W1.heap.size + 1 + 1) _ [4, 2, 1] _ (by simp) (by have := bytes_new (w := W1.alloc (.cells #[.int .i64 0, .int .i64 0] 27)) (xs := [4, 2, 1]) (by decide); simp at this ⊢; exact this)).mono ?_
  rintro e W2 ⟨hd2, hb2⟩
  obtain ⟨v2, rfl, hr2⟩ := decI_hit hd2 ex_nums.symm (by unfold I64; decide) (by decide)
  have f12 : W2.cell? ⟨W1.heap.size, 0, none⟩ = some (.int .i64 0) := (hb2.cell (p := ⟨W1.heap.size, 0, none⟩) (by simp <;> omega)).trans (cell_alloc_l _ (cells_new (xs := [.int .i64 0, .int .i64 0]) 0 _ rfl))
  have hB12 : Below W1.heap.size W1 W2 := ((lit_below _ _).trans ((lit_below _ _).mono (by simp <;> omega))).trans (hb2.mono (by simp <;> omega))
  have HR2 := Lib.hid hr2
  have HB2 := Lib.hid hB12
  obtain ⟨A2, c2, rfl⟩ := row_is hr2
  have hz2 := block_lt_of_cell f12
  clear hr2 hb2 hB12 hd2
  go_wp2_with fail
  refine (putS_any (W2.heap.size + 1 + 1) _ [[97, 98]] _ (by have := strs_new (w := W2.alloc (.cells #[.int .i64 0, .int .i64 0] 27)) (xs := [[97, 98]]) (by decide) (by simp); simp [sv, strV] at this ⊢; exact this) (by simp) (by decide) (by simp [flatT, textL, numL]; rw [groups_lt (by decide)]; decide)).mono ?_
  rintro e W3 ⟨v3, rfl, hr3, hb3⟩
  rw [ex_texts] at hr3
  have f13 : W3.cell? ⟨W1.heap.size, 0, none⟩ = some (.int .i64 0) := (hb3.cell (p := ⟨W1.heap.size, 0, none⟩) (by simp <;> omega)).trans (cell_alloc_l _ (cell_alloc_l _ f12))
  have f23 : W3.cell? ⟨W2.heap.size, 0, none⟩ = some (.int .i64 0) := (hb3.cell (p := ⟨W2.heap.size, 0, none⟩) (by simp <;> omega)).trans (cell_alloc_l _ (cells_new (xs := [.int .i64 0, .int .i64 0]) 0 _ rfl))
  have hB23 : Below W2.heap.size W2 W3 := ((lit_below _ _).trans ((lit_below _ _).mono (by simp <;> omega))).trans (hb3.mono (by simp <;> omega))
  have HR3 := Lib.hid hr3
  have HB3 := Lib.hid hB23
  obtain ⟨A3, c3, rfl⟩ := row_is hr3
  have hz3 := block_lt_of_cell f23
  clear hr3 hb3 hB23 f12
  go_wp2_with fail
  refine (getS_any (W3.heap.size + 1 + 1) _ [2, 4, 97, 98] _ (by simp) (by have := bytes_new (w := W3.alloc (.cells #[.int .i64 0, .int .i64 0] 27)) (xs := [2, 4, 97, 98]) (by decide); simp at this ⊢; exact this)).mono ?_
  rintro e W4 ⟨hd4, hb4⟩
  obtain ⟨v4, rfl, hr4⟩ := decS_hit hd4 ex_texts.symm (by unfold Short; simp) (by decide)
  have f14 : W4.cell? ⟨W1.heap.size, 0, none⟩ = some (.int .i64 0) := (hb4.cell (p := ⟨W1.heap.size, 0, none⟩) (by simp <;> omega)).trans (cell_alloc_l _ (cell_alloc_l _ f13))
  have f24 : W4.cell? ⟨W2.heap.size, 0, none⟩ = some (.int .i64 0) := (hb4.cell (p := ⟨W2.heap.size, 0, none⟩) (by simp <;> omega)).trans (cell_alloc_l _ (cell_alloc_l _ f23))
  have f34 : W4.cell? ⟨W3.heap.size, 0, none⟩ = some (.int .i64 0) := (hb4.cell (p := ⟨W3.heap.size, 0, none⟩) (by simp <;> omega)).trans (cell_alloc_l _ (cells_new (xs := [.int .i64 0, .int .i64 0]) 0 _ rfl))
  have hB34 : Below W3.heap.size W3 W4 := ((lit_below _ _).trans ((lit_below _ _).mono (by simp <;> omega))).trans (hb4.mono (by simp <;> omega))
  have HR4 := Lib.hid hr4
  have HB4 := Lib.hid hB34
  obtain ⟨A4, c4, rfl⟩ := row_is hr4
  have hz34 := block_lt_of_cell f34
  have hz24 := block_lt_of_cell f24
  have hz14 := block_lt_of_cell f14
  clear hz2 hz3
  clear hr4 hb4 hB34 hd4 f13 f23
  have HZ := Lib.hid (show W1.heap.size ≤ W2.heap.size ∧ W2.heap.size ≤ W3.heap.size ∧ W3.heap.size ≤ W4.heap.size from ⟨HB2.out.size, HB3.out.size, HB4.out.size⟩)
  have R1 := Lib.hid ((bytes_of_row HR1.out (by decide)).below (HB2.out.trans ((HB3.out.trans (HB4.out.mono HZ.out.2.1)).mono HZ.out.1)))
  have R2 := Lib.hid ((ints_of_row HR2.out (by decide) (by unfold I64; decide)).below (HB3.out.trans (HB4.out.mono HZ.out.2.1)))
  have R3 := Lib.hid ((bytes_of_row HR3.out (by decide)).below HB4.out)
  have R4 := Lib.hid (strings_of_row HR4.out (by decide) (by simp))
  go_wp2_with fail
  obtain ⟨V1, hV1⟩ : ∃ V1, V1 = (W4.alloc (.cells #[.int .i64 0, .int .i64 0] 27)).alloc (.cells #[.int .u8 4, .int .u8 2, .int .u8 1] 5) := ⟨_, rfl⟩
  have hb1 : Below W4.heap.size W4 V1 := by rw [hV1]; exact (lit_below _ _).trans ((lit_below _ _).mono (by simp <;> omega))
  have L1 : BytesAt V1.heap.size V1 (.slice (some ⟨W4.heap.size + 1, 0, none⟩) 3 3) [4, 2, 1] := by
    have := bytes_new (w := W4.alloc (.cells #[.int .i64 0, .int .i64 0] 27)) (xs := [4, 2, 1]) (by decide)
    rw [hV1]; simp at this ⊢; exact this
  rw [← hV1]
  clear hV1
  refine (bytes_any V1.heap.size _ _ [4, 2, 1] [4, 2, 1] _ (((R1.out.more (Nat.le_trans HZ.out.1 (Nat.le_trans HZ.out.2.1 HZ.out.2.2))).below hb1).more hb1.size) L1).mono ?_
  rintro e w' ⟨rfl, rfl⟩
  rw [decide_eq_true (rfl : ([4, 2, 1] : List UInt8) = [4, 2, 1])]
  clear L1
  go_wp2_with fail
  obtain ⟨V2, hV2⟩ : ∃ V2, V2 = V1.alloc (.cells #[.int .i64 1, .int .i64 (-1)] 3) := ⟨_, rfl⟩
  have hb2 : Below W4.heap.size W4 V2 := by rw [hV2]; exact hb1.trans ((lit_below _ _).mono hb1.size)
  have L2 : IntsAt V2.heap.size V2 (.slice (some ⟨V1.heap.size, 0, none⟩) 2 2) [1, -1] := by
    have := ints_new (w := V1) (xs := [1, -1]) (by decide) (by unfold I64; decide)
    rw [hV2]; simp [iv] at this ⊢; exact this
  rw [← hV2]
  clear hV2
  refine (ints_any V2.heap.size _ _ [1, -1] [1, -1] _ (((R2.out.more (Nat.le_trans HZ.out.2.1 HZ.out.2.2)).below hb2).more hb2.size) L2).mono ?_
  rintro e w' ⟨rfl, q, rfl⟩
  rw [decide_eq_true (rfl : ([1, -1] : List Int) = [1, -1])]
  clear L2
  go_wp2_with fail
  obtain ⟨V3, hV3⟩ : ∃ V3, V3 = (V2.drewN q).alloc (.cells #[.int .u8 2, .int .u8 4, .int .u8 97, .int .u8 98] 5) := ⟨_, rfl⟩
  have hb3 : Below W4.heap.size W4 V3 := by rw [hV3]; exact (below_drewN hb2 q).trans ((lit_below _ _).mono hb2.size)
  have L3 : BytesAt V3.heap.size V3 (.slice (some ⟨V2.heap.size, 0, none⟩) 4 4) [2, 4, 97, 98] := by
    have := bytes_new (w := V2.drewN q) (xs := [2, 4, 97, 98]) (by decide)
    rw [hV3]; simp at this ⊢; exact this
  rw [← hV3]
  clear hV3
  refine (bytes_any V3.heap.size _ _ [2, 4, 97, 98] [2, 4, 97, 98] _ (((R3.out.more HZ.out.2.2).below hb3).more hb3.size) L3).mono ?_
  rintro e w' ⟨rfl, rfl⟩
  rw [decide_eq_true (rfl : ([2, 4, 97, 98] : List UInt8) = [2, 4, 97, 98])]
  clear L3
  go_wp2_with fail
  obtain ⟨V4, hV4⟩ : ∃ V4, V4 = V3.alloc (.cells #[.string ⟨#[97, 98]⟩] 9) := ⟨_, rfl⟩
  have hb4 : Below W4.heap.size W4 V4 := by rw [hV4]; exact hb3.trans ((lit_below _ _).mono hb3.size)
  have L4 : StrsAt V4.heap.size V4 (.slice (some ⟨V3.heap.size, 0, none⟩) 1 1) [[97, 98]] := by
    have := strs_new (w := V3) (xs := [[97, 98]]) (by decide) (by simp)
    rw [hV4]; simp [sv, strV] at this ⊢; exact this
  rw [← hV4]
  clear hV4
  refine (strings_any V4.heap.size _ _ [[97, 98]] [[97, 98]] _ ((R4.out.below hb4).more hb4.size) L4).mono ?_
  rintro e w' ⟨rfl, q2, rfl⟩
  rw [decide_eq_true (rfl : ([[97, 98]] : List (List UInt8)) = [[97, 98]])]
  clear L4
  go_wp2_with fail
  go_ret
  have hB1 : Below w.heap.size w W1 := (lit_below _ _).trans (HB1.out.mono (by simp <;> omega))
  have h0 := hB1.size
  have hB4 : Below w.heap.size w W4 := hB1.trans ((HB2.out.trans ((HB3.out.trans (HB4.out.mono HZ.out.2.1)).mono HZ.out.1)).mono h0)
  exact ⟨rfl, below_drewN (hB4.trans (hb4.mono hB4.size)) q2⟩
end Go.Proofs.Ytldepghojmkohaa.Cod
