/- The law CodecRoundTrip: true for all numbers and strings. Conditions: the readings of the arguments; the strings' sum stays within the reach. -/
import Derived.Test.YtldepghojmkohaaCodS
namespace Go.Proofs.Ytldepghojmkohaa.Cod
open Go Go.RowKit Go.Lib

theorem putI_two (B0 : Nat) (v : Value) (xs : List Int) (w : World) (hv : IntsAt B0 w v xs) (h0 : B0 ≤ w.heap.size) :
    Calls Try.prog 9 #[v] w fun e w' => ∃ (A' : Option Addr) (c' : Nat) (q : List UInt8) (fc fi : Int), e = .returned (.tuple #[.slice A' q.length c', .agg #[.int .i64 fc, .int .i64 fi]]) ∧ w'.ownsRow w.heap.size 5 1 (.slice A' q.length c') q.length (bv q) ∧ (xs.length ≤ 100000 → q = numsL xs ∧ fc = 0) ∧ (100000 < xs.length → q = [] ∧ fc = 2 ∧ fi = -1) ∧ Below w.heap.size w w' := by
  by_cases hn : xs.length ≤ 100000
  · refine (putI_any B0 v xs w hv h0 hn).mono ?_
    rintro e w' ⟨v', rfl, hr, hb⟩
    obtain ⟨A, c, rfl⟩ := row_is hr
    exact ⟨A, c, _, 0, 0, rfl, hr, fun _ => ⟨rfl, rfl⟩, fun h => absurd hn (Nat.not_le.2 h), hb⟩
  · refine (putI_many B0 v xs w hv (Nat.not_le.1 hn)).mono ?_
    rintro e w' ⟨rfl, hb⟩
    exact ⟨none, 0, [], 2, -1, rfl, World.ownsRow_nil _ _ _ _, fun h => absurd h hn, fun _ => ⟨rfl, rfl, rfl⟩, hb⟩
theorem putS_two (B0 : Nat) (v : Value) (xs : List (List UInt8)) (w : World) (hv : StrsAt B0 w v xs) (h0 : B0 ≤ w.heap.size) (hsum : (flatT xs).length ≤ 140737488300000) :
    Calls Try.prog 10 #[v] w fun e w' => ∃ (A' : Option Addr) (c' : Nat) (q : List UInt8) (fc fi : Int), e = .returned (.tuple #[.slice A' q.length c', .agg #[.int .i64 fc, .int .i64 fi]]) ∧ w'.ownsRow w.heap.size 5 1 (.slice A' q.length c') q.length (bv q) ∧ (xs.length ≤ 100000 → q = textsL xs ∧ fc = 0) ∧ (100000 < xs.length → q = [] ∧ fc = 2 ∧ fi = -1) ∧ Below w.heap.size w w' := by
  by_cases hn : xs.length ≤ 100000
  · refine (putS_any B0 v xs w hv h0 hn hsum).mono ?_
    rintro e w' ⟨v', rfl, hr, hb⟩
    obtain ⟨A, c, rfl⟩ := row_is hr
    exact ⟨A, c, _, 0, 0, rfl, hr, fun _ => ⟨rfl, rfl⟩, fun h => absurd hn (Nat.not_le.2 h), hb⟩
  · refine (putS_many B0 v xs w hv (Nat.not_le.1 hn)).mono ?_
    rintro e w' ⟨rfl, hb⟩
    exact ⟨none, 0, [], 2, -1, rfl, World.ownsRow_nil _ _ _ _, fun h => absurd h hn, fun _ => ⟨rfl, rfl, rfl⟩, hb⟩
theorem texts_ten {ss : List (List UInt8)} (hn : ss.length ≤ 17592186044416) : (textsL ss).length ≤ (flatT ss).length + 10 := by
  have h2 := numL_ten (n := (ss.length : Int)) ⟨by omega, by omega⟩
  unfold textsL
  rw [List.length_append]
  omega
theorem nums_ten {xs : List Int} (hr : ∀ x ∈ xs, I64 x) (hn : xs.length ≤ 17592186044416) : (numsL xs).length ≤ 10 * xs.length + 10 := by
  have h1 := flat_le hr
  have h2 := numL_ten (n := (xs.length : Int)) ⟨by omega, by omega⟩
  unfold numsL
  rw [List.length_append]
  omega

set_option maxRecDepth 100000 in
set_option maxHeartbeats 2000000 in
theorem law_round (B : Nat) (v u : Value) (xs : List Int) (ss : List (List UInt8)) (w : World) (h : IntsAt B w v xs) (k : StrsAt B w u ss) (hsum : (flatT ss).length ≤ 20000000) (hB : B ≤ w.heap.size) :
    Calls Try.prog 5 #[v, u] w fun e w' => e = .returned (.bool true) ∧ Below w.heap.size w w' := by
  obtain ⟨A, n, c, rfl, Hn, hn, Hr, -⟩ := h.opens
  obtain ⟨A2, m, c2, rfl, Hm, hm, -, -⟩ := k.opens
  have H := Lib.hid h
  have K := Lib.hid k
  have HSUM := Lib.hid hsum
  clear h k hsum
  go_enter Try.func5, Try.ntmps5
  go_wp2_with (go_at_call 8; refine (example_any _).mono ?_; rintro e W1 ⟨rfl, hb1⟩)
  have HB1 := Lib.hid hb1
  clear hb1
  refine (putI_two B _ xs W1 (H.out.below (HB1.out.mono hB)) (Nat.le_trans hB HB1.out.size)).mono ?_
  rintro e W2 ⟨A3, c3, q1, f1, g1, rfl, hrow1, hq1, -, hb2⟩
  have HB2 := Lib.hid (HB1.out.trans (hb2.mono HB1.out.size))
  have HR1 := Lib.hid hrow1
  have HQ1 := Lib.hid hq1
  clear hb2 hrow1 hq1
  go_wp2_with fail
  obtain ⟨W3, hW3⟩ : ∃ W3, W3 = W2.alloc (.cells #[.int .i64 f1, .int .i64 g1] 27) := ⟨_, rfl⟩
  obtain ⟨X1, hX1⟩ : ∃ X, X = W2.heap.size := ⟨_, rfl⟩
  have hbx1 : Box X1 f1 g1 W3 := by rw [hW3, hX1]; exact box_new _ _ _
  have hb23 : Below W2.heap.size W2 W3 := by rw [hW3]; exact lit_below _ _
  have HB3 := Lib.hid (HB2.out.trans (hb23.mono HB2.out.size))
  have HR1' := Lib.hid (ownsRow_below HR1.out hb23)
  rw [← hW3, ← hX1]
  have HX1 := Lib.hid hbx1
  clear hW3 hX1 hb23 hbx1
  refine (putS_two B _ ss W3 (K.out.below (HB3.out.mono hB)) (Nat.le_trans hB HB3.out.size) (by have := HSUM.out; omega)).mono ?_
  rintro e W4 ⟨A4, c4, q2, f2, g2, rfl, hrow2, hq2, -, hb4⟩
  have HB4 := Lib.hid (HB3.out.trans (hb4.mono HB3.out.size))
  have HR2 := Lib.hid hrow2
  have HQ2 := Lib.hid hq2
  have HR1'' := Lib.hid (ownsRow_below HR1'.out hb4)
  have HX1' := Lib.hid (HX1.out.below hb4)
  clear hb4 hrow2 hq2 HR1 HR1' HX1
  go_wp2_with fail
  any_goals
    first
    | (go_ret
       exact ⟨rfl, HB4.out.trans ((lit_below _ _).mono HB4.out.size)⟩)
    | skip
  have hn1 : n ≤ 100000 := by omega
  have hm1 : m ≤ 100000 := by omega
  have hl1 : q1.length ≤ 200000 := by omega
  have hl2 : q2.length ≤ 200000 := by omega
  obtain ⟨e1, rfl⟩ := HQ1.out (by rw [Hn.out]; exact hn1)
  obtain ⟨e2, rfl⟩ := HQ2.out (by rw [Hm.out]; exact hm1)
  have E1 := Lib.hid e1
  have E2 := Lib.hid e2
  obtain ⟨W5, hW5⟩ : ∃ W5, W5 = W4.alloc (.cells #[.int .i64 0, .int .i64 g2] 27) := ⟨_, rfl⟩
  obtain ⟨X2, hX2⟩ : ∃ X, X = W4.heap.size := ⟨_, rfl⟩
  have hbx2 : Box X2 0 g2 W5 := by rw [hW5, hX2]; exact box_new _ _ _
  have hb45 : Below W4.heap.size W4 W5 := by rw [hW5]; exact lit_below _ _
  have HB5 := Lib.hid (HB4.out.trans (hb45.mono HB4.out.size))
  have R1 := Lib.hid (bytes_of_row (ownsRow_below HR1''.out hb45) (by omega))
  have R2 := Lib.hid (bytes_of_row (ownsRow_below HR2.out hb45) (by omega))
  have HX1 := Lib.hid (HX1'.out.below hb45)
  have HX2 := Lib.hid hbx2
  rw [← hW5, ← hX2]
  clear hW5 hX2 hb45 hbx2 e1 e2 HX1' HR1'' HR2
  refine (getI_any W5.heap.size _ q1 W5 (Nat.le_refl _) R1.out).mono ?_
  rintro e W6 ⟨hd6, hb6⟩
  obtain ⟨v6, rfl, hrow6⟩ := decI_hit hd6 E1.out Hr.out hl1
  obtain ⟨A6, c6, rfl⟩ := row_is hrow6
  have HB6 := Lib.hid (HB5.out.trans (hb6.mono HB5.out.size))
  have R2' := Lib.hid ((R2.out.below hb6).more hb6.size)
  have HX1' := Lib.hid (HX1.out.below hb6)
  have HX2' := Lib.hid (HX2.out.below hb6)
  have HR6 := Lib.hid hrow6
  clear hd6 hb6 hrow6 HX1 HX2 R1 R2
  go_wp2_with fail
  obtain ⟨W7, hW7⟩ : ∃ W7, W7 = W6.alloc (.cells #[.int .i64 0, .int .i64 0] 27) := ⟨_, rfl⟩
  obtain ⟨X3, hX3⟩ : ∃ X, X = W6.heap.size := ⟨_, rfl⟩
  have hbx3 : Box X3 0 0 W7 := by rw [hW7, hX3]; exact box_new _ _ _
  have hb67 : Below W6.heap.size W6 W7 := by rw [hW7]; exact lit_below _ _
  have HB7 := Lib.hid (HB6.out.trans (hb67.mono HB6.out.size))
  have R2 := Lib.hid ((R2'.out.below hb67).more hb67.size)
  have HX1 := Lib.hid (HX1'.out.below hb67)
  have HX2 := Lib.hid (HX2'.out.below hb67)
  have HX3 := Lib.hid hbx3
  have HR7 := Lib.hid (ownsRow_below HR6.out hb67)
  rw [← hW7, ← hX3]
  clear hW7 hX3 hb67 hbx3 R2' HX1' HX2' HR6
  refine (getS_any W7.heap.size _ q2 W7 (Nat.le_refl _) R2.out).mono ?_
  rintro e W8 ⟨hd8, hb8⟩
  have hsh : ∀ s ∈ ss, Short s := fun s hs => by
    have h1 := mem_flatT hs
    have h2 := HSUM.out
    unfold Short
    omega
  obtain ⟨v8, rfl, hrow8⟩ := decS_hit hd8 E2.out hsh hl2
  obtain ⟨A8, c8, rfl⟩ := row_is hrow8
  have HB8 := Lib.hid (HB7.out.trans (hb8.mono HB7.out.size))
  obtain ⟨W9, hW9⟩ : ∃ W9, W9 = W8.alloc (.cells #[.int .i64 0, .int .i64 0] 27) := ⟨_, rfl⟩
  have hb89 : Below W8.heap.size W8 W9 := by rw [hW9]; exact lit_below _ _
  have HB9 := Lib.hid (HB8.out.trans (hb89.mono HB8.out.size))
  have R7 := Lib.hid (ints_of_row (ownsRow_below (ownsRow_below HR7.out hb8) hb89) (by rw [Hn.out]; exact hn) Hr.out)
  have R8 := Lib.hid (strings_of_row (ownsRow_below hrow8 hb89) (by rw [Hm.out]; exact hm) (fun x hx => by have h1 := mem_flatT hx; have h2 := HSUM.out; omega))
  have RL := Lib.hid ((H.out.below (HB9.out.mono hB)).more (Nat.le_trans hB HB9.out.size))
  have RS := Lib.hid ((K.out.below (HB9.out.mono hB)).more (Nat.le_trans hB HB9.out.size))
  obtain ⟨a0, -⟩ := HX1.out.below hb8
  obtain ⟨b0, -⟩ := HX2.out.below hb8
  obtain ⟨d0, -⟩ := HX3.out.below hb8
  have z1 := block_lt_of_cell a0
  have z2 := block_lt_of_cell b0
  have z3 := block_lt_of_cell d0
  have HE9 := Lib.hid hW9
  clear hd8 hb8 hrow8 hb89 HX1 HX2 HX3 HR7 R2 hsh hW9
  go_wp2_with fail
  rw [← HE9.out]
  refine (ints_any W9.heap.size _ _ xs xs W9 R7.out RL.out).mono ?_
  rintro e w' ⟨rfl, q, rfl⟩
  rw [decide_eq_true (rfl : xs = xs)]
  go_wp2_with fail
  refine (strings_any W9.heap.size _ _ ss ss (W9.drewN q) R8.out RS.out).mono ?_
  rintro e w' ⟨rfl, q', rfl⟩
  rw [decide_eq_true (rfl : ss = ss)]
  go_wp2_with fail
  go_ret
  exact ⟨rfl, below_drewN HB9.out _⟩
end Go.Proofs.Ytldepghojmkohaa.Cod
