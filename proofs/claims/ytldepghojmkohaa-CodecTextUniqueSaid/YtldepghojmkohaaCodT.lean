/- The law CodecTextUnique: true for all bytes. Conditions: the reading of the argument. -/
import Derived.Test.YtldepghojmkohaaCodS
namespace Go.Proofs.Ytldepghojmkohaa.Cod
open Go Go.RowKit Go.Lib

set_option maxRecDepth 100000 in
set_option maxHeartbeats 1000000 in
theorem law_uniq (B : Nat) (v : Value) (l : List UInt8) (w : World) (h : BytesAt B w v l) (hB : B ≤ w.heap.size) :
    Calls Try.prog 6 #[v] w fun e w' => e = .returned (.bool true) ∧ Below w.heap.size w w' := by
  obtain ⟨A, n, c, rfl, Hn, -, -⟩ := h.opens
  have H := Lib.hid h
  clear h
  go_enter Try.func6, Try.ntmps6
  go_wp2_with (go_at_call 8; refine (example_any _).mono ?_; rintro e W1 ⟨rfl, hb1⟩)
  have HB1 := Lib.hid hb1
  have hz1 := Lib.hid hb1.size
  clear hb1
  refine (getS_any B _ l W1 (Nat.le_trans hB hz1.out) (H.out.below (HB1.out.mono hB))).mono ?_
  rintro e W2 ⟨hd, hb2⟩
  have HB2 := Lib.hid (HB1.out.trans (hb2.mono hz1.out))
  have hz2 := Lib.hid (HB2.out.size)
  have HB12 := Lib.hid hb2
  clear hb2
  rcases hd with ⟨h1, rfl⟩ | ⟨h1, h2, rfl⟩ | ⟨h1, xs, v', hx, hl, rfl, hrow⟩
  · have hd : decide (200000 < (n : Int)) = true := by have := Hn.out; simp; omega
    clear h1
    go_wp2_with fail
    obtain ⟨W3, hW3⟩ : ∃ W3, W3 = W2.alloc (.cells #[.int .i64 2, .int .i64 (-1)] 27) := ⟨_, rfl⟩
    have hbx : Box W2.heap.size 2 (-1) W3 := by rw [hW3]; exact box_new _ _ _
    have HFN := Lib.hid (show Below w.heap.size w W3 by rw [hW3]; exact HB2.out.trans ((lit_below _ _).mono hz2.out))
    obtain ⟨X, hX⟩ : ∃ X, X = W2.heap.size := ⟨_, rfl⟩
    rw [← hX] at hbx ⊢
    rw [← hW3]
    have KS := Lib.hid hbx
    have hcur : Below W3.heap.size W3 W3.drew := (Below.refl _ _).drew
    have hXl := block_lt_of_cell hbx.1
    clear hW3 hX hbx
    go_region_held3 (fun W' => W'.cell? ⟨X, 0, none⟩ = some (.int .i64 2) ∧ W'.cell? ⟨X, 1, none⟩ = some (.int .i64 (-1)))
      (exact KS.out.below hcur)
      ((go_at_call 11; refine (at_any _ _ _).mono ?_; rintro e W7 ⟨rfl, hb7⟩; have hcur := hcur.trans (hb7.mono hcur.size)))
    go_wp2_with fail
    go_ret
    exact ⟨rfl, HFN.out.trans (hcur.mono HFN.out.size)⟩
  · have hd : decide (200000 < (n : Int)) = false := by have := Hn.out; simp; omega
    have HNO := Lib.hid h2
    have HS := Lib.hid h1
    clear h1 h2
    go_wp2_with fail
    obtain ⟨W3, hW3⟩ : ∃ W3, W3 = W2.alloc (.cells #[.int .i64 17, .int .i64 (-2)] 27) := ⟨_, rfl⟩
    have hbx : Box W2.heap.size 17 (-2) W3 := by rw [hW3]; exact box_new _ _ _
    have HFN := Lib.hid (show Below w.heap.size w W3 by rw [hW3]; exact HB2.out.trans ((lit_below _ _).mono hz2.out))
    obtain ⟨X, hX⟩ : ∃ X, X = W2.heap.size := ⟨_, rfl⟩
    rw [← hX] at hbx ⊢
    rw [← hW3]
    have hz3 := Lib.hid (Nat.le_trans hB HFN.out.size)
    have KS := Lib.hid hbx
    have hcur : Below W3.heap.size W3 W3.drew := (Below.refl _ _).drew
    have hXl := block_lt_of_cell hbx.1
    obtain ⟨hb0, hb1⟩ := id hbx
    clear hW3 hX hbx hz3
    go_wp2_with fail
    go_region_held3 (fun W' => W'.cell? ⟨X, 0, none⟩ = some (.int .i64 17) ∧ W'.cell? ⟨X, 1, none⟩ = some (.int .i64 (-2)))
      (exact KS.out.below hcur)
      ((go_at_call 11; refine (at_any _ _ _).mono ?_; rintro e W7 ⟨rfl, hb7⟩; have hcur := hcur.trans (hb7.mono hcur.size)))
    go_wp2_with fail
    go_ret
    exact ⟨rfl, HFN.out.trans (hcur.mono HFN.out.size)⟩
  · have hd : decide (200000 < (n : Int)) = false := by have := Hn.out; simp; omega
    have HS := Lib.hid h1
    have HL := Lib.hid hl
    have HRO := Lib.hid hrow
    have HFL := Lib.hid (show (flatT xs).length ≤ 200000 from by rw [hl] at h1; unfold textsL at h1; rw [List.length_append] at h1; omega)
    have HLX := Lib.hid (Nat.le_trans (flatT_len xs) HFL.out)
    obtain ⟨A3, c3, rfl⟩ := row_is hrow
    clear h1 hx hl hrow
    go_wp2_with fail
    obtain ⟨W3, hW3⟩ : ∃ W3, W3 = W2.alloc (.cells #[.int .i64 0, .int .i64 0] 27) := ⟨_, rfl⟩
    have hbx : Box W2.heap.size 0 0 W3 := by rw [hW3]; exact box_new _ _ _
    have hb23 : Below W2.heap.size W2 W3 := by rw [hW3]; exact lit_below _ _
    have HFN := Lib.hid (HB2.out.trans (hb23.mono hz2.out))
    have R1 := Lib.hid (((strings_of_row HRO.out (by have := HLX.out; omega) (fun x hx => by have h1 := mem_flatT hx; have h2 := HFL.out; omega)).below hb23).more hb23.size)
    rw [← hW3]
    refine (textsCode_any W3.heap.size _ xs W3 R1.out (Nat.le_refl _) (by have := HLX.out; omega) (by have := HFL.out; omega)).mono ?_
    rintro e W4 ⟨v5, rfl, hrow5, hb4⟩
    have HF4 := Lib.hid (HFN.out.trans (hb4.mono HFN.out.size))
    have R5 := Lib.hid (bytes_of_row hrow5 (by rw [← HL.out]; have := HS.out; omega))
    have R0 := Lib.hid ((H.out.below (HF4.out.mono hB)).more (Nat.le_trans hB HF4.out.size))
    obtain ⟨A5, c5, rfl⟩ := row_is hrow5
    clear hW3 hbx hb4 hb23 hrow5
    go_wp2_with (go_at_call 12; refine (bytes_any W4.heap.size _ _ (textsL xs) l _ R5.out R0.out).mono ?_; rintro e w' ⟨rfl, rfl⟩; rw [decide_eq_true HL.out.symm])
    go_ret
    exact ⟨rfl, HF4.out⟩
end Go.Proofs.Ytldepghojmkohaa.Cod
