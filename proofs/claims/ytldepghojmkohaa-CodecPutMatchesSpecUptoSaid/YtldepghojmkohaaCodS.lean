/- The law CodecGetMatchesSpec: true for all bytes. Conditions: the reading of the argument. -/
import Derived.Deep.RegionHeld3
import Derived.Test.YtldepghojmkohaaCodR
namespace Go.Proofs.Ytldepghojmkohaa.Cod
open Go Go.RowKit Go.Lib

theorem at_any (c i : Int) (w : World) : Calls Try.prog 11 #[.int .i64 c, .int .i64 i] w fun e w' => e = .returned (.agg #[.int .i64 c, .int .i64 i]) ∧ Below w.heap.size w w' := by
  go_enter Try.func11, Try.ntmps11
  go_wp2
  exact bodyPost_ret (v := .agg #[.int .i64 c, .int .i64 i]) (by simp [results, Try.results11, go_sem]) rfl ⟨rfl, (Below.refl _ _).alloc (Nat.le_refl _) _⟩
/-- the box of a fault at block X -/
def Box (X : Nat) (c i : Int) (W : World) : Prop := W.cell? ⟨X, 0, none⟩ = some (.int .i64 c) ∧ W.cell? ⟨X, 1, none⟩ = some (.int .i64 i)
theorem Box.below {X : Nat} {c i : Int} {W W' : World} (h : Box X c i W) (hb : Below W.heap.size W W') : Box X c i W' :=
  ⟨(hb.cell (p := ⟨X, 0, none⟩) (block_lt_of_cell h.1)).trans h.1, (hb.cell (p := ⟨X, 1, none⟩) (block_lt_of_cell h.2)).trans h.2⟩
theorem box_new (W : World) (c i : Int) : Box W.heap.size c i (W.alloc (.cells #[.int .i64 c, .int .i64 i] 27)) :=
  ⟨cells_new (xs := [.int .i64 c, .int .i64 i]) 0 _ rfl, cells_new (xs := [.int .i64 c, .int .i64 i]) 1 _ rfl⟩

set_option maxRecDepth 100000 in
set_option maxHeartbeats 1000000 in
theorem law_get (B : Nat) (v : Value) (l : List UInt8) (w : World) (h : BytesAt B w v l) (hB : B ≤ w.heap.size) :
    Calls Try.prog 4 #[v] w fun e w' => e = .returned (.bool true) ∧ Below w.heap.size w w' := by
  obtain ⟨A, n, c, rfl, Hn, -, -⟩ := h.opens
  have H := Lib.hid h
  clear h
  go_enter Try.func4, Try.ntmps4
  go_wp2_with (go_at_call 8; refine (example_any _).mono ?_; rintro e W1 ⟨rfl, hb1⟩)
  have HB1 := Lib.hid hb1
  have hz1 := Lib.hid hb1.size
  clear hb1
  refine (getI_any B _ l W1 (Nat.le_trans hB hz1.out) (H.out.below (HB1.out.mono hB))).mono ?_
  rintro e W2 ⟨hd, hb2⟩
  have HB2 := Lib.hid (HB1.out.trans (hb2.mono hz1.out))
  have hz2 := Lib.hid (HB2.out.size)
  have HB12 := Lib.hid hb2
  clear hb2
  rcases hd with ⟨h1, rfl⟩ | ⟨h1, h2, rfl⟩ | ⟨h1, xs, v', hx, hl, rfl, hrow⟩
  · have hd : decide (200000 < (n : Int)) = true := by have := Hn.out; simp; omega
    clear h1
    go_wp2_with fail
    obtain ⟨W3, hW3⟩ : ∃ W3, W3 = W2.alloc (.cells #[.int .i64 2, .int .i64 (-1)] 27) := ⟨_, rfl⟩
    have hbx : Box W2.heap.size 2 (-1) W3 := by rw [hW3]; exact box_new _ _ _
    have HFN := Lib.hid (show Below w.heap.size w W3 by rw [hW3]; exact HB2.out.trans ((lit_below _ _).mono hz2.out))
    obtain ⟨X, hX⟩ : ∃ X, X = W2.heap.size := ⟨_, rfl⟩
    rw [← hX] at hbx ⊢
    rw [← hW3]
    have KS := Lib.hid hbx
    have hcur : Below W3.heap.size W3 W3.drew := (Below.refl _ _).drew
    have hXl := block_lt_of_cell hbx.1
    clear hW3 hX hbx
    go_region_held3 (fun W' => W'.cell? ⟨X, 0, none⟩ = some (.int .i64 2) ∧ W'.cell? ⟨X, 1, none⟩ = some (.int .i64 (-1)))
      (exact KS.out.below hcur)
      ((go_at_call 11; refine (at_any _ _ _).mono ?_; rintro e W7 ⟨rfl, hb7⟩; have hcur := hcur.trans (hb7.mono hcur.size)))
    go_wp2_with fail
    go_ret
    exact ⟨rfl, HFN.out.trans (hcur.mono HFN.out.size)⟩
  · have hd : decide (200000 < (n : Int)) = false := by have := Hn.out; simp; omega
    have HNO := Lib.hid h2
    have HS := Lib.hid h1
    clear h1 h2
    go_wp2_with fail
    obtain ⟨W3, hW3⟩ : ∃ W3, W3 = W2.alloc (.cells #[.int .i64 17, .int .i64 (-2)] 27) := ⟨_, rfl⟩
    have hbx : Box W2.heap.size 17 (-2) W3 := by rw [hW3]; exact box_new _ _ _
    have HFN := Lib.hid (show Below w.heap.size w W3 by rw [hW3]; exact HB2.out.trans ((lit_below _ _).mono hz2.out))
    obtain ⟨X, hX⟩ : ∃ X, X = W2.heap.size := ⟨_, rfl⟩
    rw [← hX] at hbx ⊢
    rw [← hW3]
    have hz3 := Lib.hid (Nat.le_trans hB HFN.out.size)
    refine (numbersOf_any B _ l W3 hz3.out (H.out.below (HFN.out.mono hB)) HS.out).mono ?_
    rintro e W4 ⟨⟨-, v5, rfl⟩ | ⟨xs, v5, h5, h6, -⟩, hb4⟩
    · have hb := hbx.below hb4
      have HF4 := Lib.hid (HFN.out.trans (hb4.mono HFN.out.size))
      have KS := Lib.hid hb
      have hcur : Below W4.heap.size W4 W4.drew := (Below.refl _ _).drew
      have hXl := block_lt_of_cell hb.1
      clear hW3 hX hbx hb hb4
      go_wp2_with fail
      go_region_held3 (fun W' => W'.cell? ⟨X, 0, none⟩ = some (.int .i64 17) ∧ W'.cell? ⟨X, 1, none⟩ = some (.int .i64 (-2)))
        (exact KS.out.below hcur)
        ((go_at_call 11; refine (at_any _ _ _).mono ?_; rintro e W7 ⟨rfl, hb7⟩; have hcur := hcur.trans (hb7.mono hcur.size)))
      go_wp2_with fail
      go_ret
      exact ⟨rfl, HF4.out.trans (hcur.mono HF4.out.size)⟩
    · exact absurd ⟨xs, h5, h6⟩ HNO.out
  · have hd : decide (200000 < (n : Int)) = false := by have := Hn.out; simp; omega
    have HS := Lib.hid h1
    have HX := Lib.hid hx
    have HL := Lib.hid hl
    have HRO := Lib.hid hrow
    have HLX := Lib.hid (show xs.length ≤ 200000 from Nat.le_trans (tk_nums h1 hl).2 h1)
    obtain ⟨A3, c3, rfl⟩ := row_is hrow
    clear h1 hx hl hrow
    go_wp2_with fail
    obtain ⟨W3, hW3⟩ : ∃ W3, W3 = W2.alloc (.cells #[.int .i64 0, .int .i64 0] 27) := ⟨_, rfl⟩
    have hbx : Box W2.heap.size 0 0 W3 := by rw [hW3]; exact box_new _ _ _
    have hb23 : Below W2.heap.size W2 W3 := by rw [hW3]; exact lit_below _ _
    have HFN := Lib.hid (HB2.out.trans (hb23.mono hz2.out))
    have R1 := Lib.hid (((ints_of_row HRO.out (by have := HLX.out; omega) HX.out).below hb23).more hb23.size)
    obtain ⟨X, hX⟩ : ∃ X, X = W2.heap.size := ⟨_, rfl⟩
    rw [← hX] at hbx ⊢
    rw [← hW3]
    have hz3 := Lib.hid (Nat.le_trans hB HFN.out.size)
    refine (numbersOf_any B _ l W3 hz3.out (H.out.below (HFN.out.mono hB)) HS.out).mono ?_
    rintro e W4 ⟨⟨hno, v5, rfl⟩ | ⟨ys, v5, h5, h6, rfl, h7⟩, hb4⟩
    · exact absurd ⟨xs, HX.out, HL.out⟩ hno
    · have e1 : l = numsL xs ++ [] := by rw [List.append_nil]; exact HL.out
      have e2 : l = numsL ys ++ [] := by rw [List.append_nil]; exact h6
      obtain ⟨rfl, -⟩ := numsL_inj HX.out h5 (numsL_short e1 HS.out) (numsL_short e2 HS.out) (e1.symm.trans e2)
      obtain ⟨hb0, hb1⟩ := hbx.below hb4
      have HF4 := Lib.hid (HFN.out.trans (hb4.mono HFN.out.size))
      have R2 := Lib.hid (ints_of_row h7 (by have := HLX.out; omega) HX.out)
      have R3 := Lib.hid ((R1.out.below hb4).more hb4.size)
      have hXl := block_lt_of_cell hb0
      obtain ⟨A5, c5, rfl⟩ := row_is h7
      clear hW3 hX hbx hb4 h5 h6 h7 e1 e2 hb23
      go_wp2_with (go_at_call 17; refine (ints_any W4.heap.size _ _ xs xs _ R3.out R2.out).mono ?_; rintro e w' ⟨rfl, q, rfl⟩; rw [decide_eq_true (rfl : xs = xs)])
      go_ret
      exact ⟨rfl, below_drewN HF4.out q⟩
end Go.Proofs.Ytldepghojmkohaa.Cod
