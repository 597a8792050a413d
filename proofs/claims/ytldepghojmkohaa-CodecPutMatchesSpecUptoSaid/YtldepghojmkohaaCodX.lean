/- The law CodecPutMatchesSpec: true for all numbers and strings. Conditions: the readings of the arguments; the strings' sum stays within the reach. -/
import Derived.Test.YtldepghojmkohaaCodW
namespace Go.Proofs.Ytldepghojmkohaa.Cod
open Go Go.RowKit Go.Lib

set_option maxRecDepth 100000 in
set_option maxHeartbeats 2000000 in
theorem law_put (B : Nat) (v u : Value) (xs : List Int) (ss : List (List UInt8)) (w : World) (h : IntsAt B w v xs) (k : StrsAt B w u ss) (hsum : (flatT ss).length ≤ 20000000) (hB : B ≤ w.heap.size) :
    Calls Try.prog 3 #[v, u] w fun e w' => e = .returned (.bool true) ∧ Below w.heap.size w w' := by
  obtain ⟨A, n, c, rfl, Hn, hn, Hr, -⟩ := h.opens
  obtain ⟨A2, m, c2, rfl, Hm, hm, -, -⟩ := k.opens
  have H := Lib.hid h
  have K := Lib.hid k
  have HSUM := Lib.hid hsum
  clear h k hsum
  go_enter Try.func3, Try.ntmps3
  go_wp2_with (go_at_call 8; refine (example_any _).mono ?_; rintro e W1 ⟨rfl, hb1⟩)
  have HB1 := Lib.hid hb1
  clear hb1
  refine (putI_two B _ xs W1 (H.out.below (HB1.out.mono hB)) (Nat.le_trans hB HB1.out.size)).mono ?_
  rintro e W2 ⟨A3, c3, q1, f1, g1, rfl, hrow1, hq1, hp1, hb2⟩
  have HB2 := Lib.hid (HB1.out.trans (hb2.mono HB1.out.size))
  have HR1 := Lib.hid hrow1
  have HQ1 := Lib.hid hq1
  have HP1 := Lib.hid hp1
  clear hb2 hrow1 hq1 hp1
  go_wp2_with fail
  obtain ⟨W3, hW3⟩ : ∃ W3, W3 = W2.alloc (.cells #[.int .i64 f1, .int .i64 g1] 27) := ⟨_, rfl⟩
  obtain ⟨X1, hX1⟩ : ∃ X, X = W2.heap.size := ⟨_, rfl⟩
  have hbx1 : Box X1 f1 g1 W3 := by rw [hW3, hX1]; exact box_new _ _ _
  have hb23 : Below W2.heap.size W2 W3 := by rw [hW3]; exact lit_below _ _
  have HB3 := Lib.hid (HB2.out.trans (hb23.mono HB2.out.size))
  have HR1' := Lib.hid (ownsRow_below HR1.out hb23)
  rw [← hW3, ← hX1]
  have HX1 := Lib.hid hbx1
  clear hW3 hX1 hb23 hbx1
  refine (putS_two B _ ss W3 (K.out.below (HB3.out.mono hB)) (Nat.le_trans hB HB3.out.size) (by have := HSUM.out; omega)).mono ?_
  rintro e W4 ⟨A4, c4, q2, f2, g2, rfl, hrow2, hq2, hp2, hb4⟩
  have HB4 := Lib.hid (HB3.out.trans (hb4.mono HB3.out.size))
  have HR2 := Lib.hid hrow2
  have HQ2 := Lib.hid hq2
  have HP2 := Lib.hid hp2
  have HR1'' := Lib.hid (ownsRow_below HR1'.out hb4)
  have HX1' := Lib.hid (HX1.out.below hb4)
  clear hb4 hrow2 hq2 hp2 HR1 HR1' HX1
  have hb45 : Below W4.heap.size W4 (W4.alloc (.cells #[.int .i64 f2, .int .i64 g2] 27)) := lit_below _ _
  have HX2 := Lib.hid (box_new W4 f2 g2)
  have HRA := Lib.hid (ownsRow_below HR1''.out hb45)
  have HRB := Lib.hid (ownsRow_below HR2.out hb45)
  have HX5 := Lib.hid (HX1'.out.below hb45)
  have HB5 := Lib.hid (HB4.out.trans (hb45.mono HB4.out.size))
  obtain ⟨a0, a1⟩ := HX1'.out
  have z1 := block_lt_of_cell a0
  clear hb45 HX1' HR1'' HR2
  by_cases hn1 : 100000 < n
  · have hd : decide (100000 < (n : Int)) = true := by simp; omega
    obtain ⟨e1, e2, e3⟩ := HP1.out (by rw [Hn.out]; exact hn1)
    subst e1
    subst e2
    subst e3
    go_wp2_with fail
    generalize hW5 : W4.alloc (.cells #[.int .i64 f2, .int .i64 g2] 27) = W5 at HX2 HRA HRB HX5 HB5 ⊢
    clear hW5 a0 a1 z1
    have hcur : Below W5.heap.size W5 W5.drew := (Below.refl _ _).drew
    have hXl := block_lt_of_cell HX5.out.1
    go_region_held3 (fun W' => W'.cell? ⟨X1, 0, none⟩ = some (.int .i64 2) ∧ W'.cell? ⟨X1, 1, none⟩ = some (.int .i64 (-1)))
      (exact HX5.out.below hcur)
      ((go_at_call 11; refine (at_any _ _ _).mono ?_; rintro e W6 ⟨rfl, hb6⟩; have hcur := hcur.trans (hb6.mono hcur.size)))
    have HBC := Lib.hid (HB5.out.trans (hcur.mono HB5.out.size))
    have hx2 := HX2.out.below hcur
    have hrb := ownsRow_below HRB.out hcur
    clear hcur HRA HX5 HX2 hXl
    by_cases hm1 : 100000 < m
    · have hd2 : decide (100000 < (m : Int)) = true := by simp; omega
      obtain ⟨e4, e5, e6⟩ := HP2.out (by rw [Hm.out]; exact hm1)
      subst e4
      subst e5
      subst e6
      have KS2 := Lib.hid hx2
      have hz2 := block_lt_of_cell hx2.1
      have hcur2 : Below W6.heap.size W6 W6.drew := (Below.refl _ _).drew
      clear hx2
      go_wp2_with fail
      go_region_held3 (fun W' => W'.cell? ⟨W4.heap.size, 0, none⟩ = some (.int .i64 2) ∧ W'.cell? ⟨W4.heap.size, 1, none⟩ = some (.int .i64 (-1)))
        (exact KS2.out.below hcur2)
        ((go_at_call 11; refine (at_any _ _ _).mono ?_; rintro e W8 ⟨rfl, hb8⟩; have hcur2 := hcur2.trans (hb8.mono hcur2.size)))
      go_wp2_with fail
      go_ret
      exact ⟨rfl, HBC.out.trans (hcur2.mono HBC.out.size)⟩
    · have hd2 : decide (100000 < (m : Int)) = false := by simp; omega
      obtain ⟨e4, e5⟩ := HQ2.out (by rw [Hm.out]; omega)
      subst e5
      have E4 := Lib.hid e4
      obtain ⟨k0, -⟩ := hx2
      have hz2 := block_lt_of_cell k0
      clear e4
      go_wp2_with fail
      refine (textsCode_any B _ ss W6 (K.out.below (HBC.out.mono hB)) (Nat.le_trans hB HBC.out.size) (by rw [Hm.out]; omega) (by have := HSUM.out; omega)).mono ?_
      rintro e W9 ⟨v9, rfl, hrow9, hb9⟩
      have HB9 := Lib.hid (HBC.out.trans (hb9.mono HBC.out.size))
      have R9 := Lib.hid (bytes_of_row hrow9 (by have h1 := texts_ten (ss := ss) (by rw [Hm.out]; omega); have := HSUM.out; omega))
      have RQ := Lib.hid (bytes_of_row (ownsRow_below hrb hb9) (by have h1 := texts_ten (ss := ss) (by rw [Hm.out]; omega); have := HSUM.out; rw [E4.out]; omega))
      clear hrow9 hb9
      go_wp2_with fail
      refine (bytes_any W9.heap.size _ _ q2 (textsL ss) _ RQ.out R9.out).mono ?_
      rintro e w' ⟨rfl, rfl⟩
      rw [decide_eq_true E4.out]
      go_wp2_with fail
      go_ret
      exact ⟨rfl, HB9.out⟩
  · have hd : decide (100000 < (n : Int)) = false := by simp; omega
    obtain ⟨e1, e2⟩ := HQ1.out (by rw [Hn.out]; omega)
    subst e2
    have E1 := Lib.hid e1
    clear e1
    go_wp2_with fail
    generalize hW5 : W4.alloc (.cells #[.int .i64 f2, .int .i64 g2] 27) = W5 at HX2 HRA HRB HX5 HB5 ⊢
    clear hW5 a0 a1 z1
    refine (numbersCode_any B _ xs W5 (H.out.below (HB5.out.mono hB)) (Nat.le_trans hB HB5.out.size) (by rw [Hn.out]; omega)).mono ?_
    rintro e W6 ⟨v6, rfl, hrow6, hb6⟩
    have HBC := Lib.hid (HB5.out.trans (hb6.mono HB5.out.size))
    have h10 := nums_ten Hr.out (by rw [Hn.out]; omega)
    have hxl : xs.length ≤ 100000 := by rw [Hn.out]; omega
    have R6 := Lib.hid (bytes_of_row hrow6 (by omega))
    have RQ := Lib.hid (bytes_of_row (ownsRow_below HRA.out hb6) (by rw [E1.out]; omega))
    have hx2 := HX2.out.below hb6
    have hrb := ownsRow_below HRB.out hb6
    clear hrow6 hb6 HRA HX5 HX2 h10 hxl
    go_wp2_with fail
    refine (bytes_any W6.heap.size _ _ q1 (numsL xs) _ RQ.out R6.out).mono ?_
    rintro e w' ⟨rfl, rfl⟩
    rw [decide_eq_true E1.out]
    by_cases hm1 : 100000 < m
    · have hd2 : decide (100000 < (m : Int)) = true := by simp; omega
      obtain ⟨e4, e5, e6⟩ := HP2.out (by rw [Hm.out]; exact hm1)
      subst e4
      subst e5
      subst e6
      have KS2 := Lib.hid hx2
      have hz2 := block_lt_of_cell hx2.1
      have hcur2 : Below W6.heap.size W6 W6.drew := (Below.refl _ _).drew
      clear hx2
      go_wp2_with fail
      go_region_held3 (fun W' => W'.cell? ⟨W4.heap.size, 0, none⟩ = some (.int .i64 2) ∧ W'.cell? ⟨W4.heap.size, 1, none⟩ = some (.int .i64 (-1)))
        (exact KS2.out.below hcur2)
        ((go_at_call 11; refine (at_any _ _ _).mono ?_; rintro e W8 ⟨rfl, hb8⟩; have hcur2 := hcur2.trans (hb8.mono hcur2.size)))
      go_wp2_with fail
      go_ret
      exact ⟨rfl, HBC.out.trans (hcur2.mono HBC.out.size)⟩
    · have hd2 : decide (100000 < (m : Int)) = false := by simp; omega
      obtain ⟨e4, e5⟩ := HQ2.out (by rw [Hm.out]; omega)
      subst e5
      have E4 := Lib.hid e4
      obtain ⟨k0, -⟩ := hx2
      have hz2 := block_lt_of_cell k0
      clear e4
      go_wp2_with fail
      refine (textsCode_any B _ ss W6 (K.out.below (HBC.out.mono hB)) (Nat.le_trans hB HBC.out.size) (by rw [Hm.out]; omega) (by have := HSUM.out; omega)).mono ?_
      rintro e W9 ⟨v9, rfl, hrow9, hb9⟩
      have HB9 := Lib.hid (HBC.out.trans (hb9.mono HBC.out.size))
      have R9 := Lib.hid (bytes_of_row hrow9 (by have h1 := texts_ten (ss := ss) (by rw [Hm.out]; omega); have := HSUM.out; omega))
      have RQ := Lib.hid (bytes_of_row (ownsRow_below hrb hb9) (by have h1 := texts_ten (ss := ss) (by rw [Hm.out]; omega); have := HSUM.out; rw [E4.out]; omega))
      clear hrow9 hb9
      go_wp2_with fail
      refine (bytes_any W9.heap.size _ _ q2 (textsL ss) _ RQ.out R9.out).mono ?_
      rintro e w' ⟨rfl, rfl⟩
      rw [decide_eq_true E4.out]
      go_wp2_with fail
      go_ret
      exact ⟨rfl, HB9.out⟩
end Go.Proofs.Ytldepghojmkohaa.Cod
