/- The reference's operations on numbers: equal to calcL. -/
import Derived.Test.YtchpkdpefpiegaaDoorExZE
import Derived.Test.YtchpkdpefpiegaaDoorTokB
namespace Go.Proofs.YtchpkdpefpiegaaDoor.Tok
open Go Go.RowKit

theorem rbits_and (a b : Int) (w : World) (ha : InR a) (hb : InR b) : Calls Tryd.prog 91 #[.int .i64 12, .int .i64 a, .int .i64 b] w fun e w' => e = .returned (.int .i64 (bits .and .i64 a b)) ∧ w = w' := by
  rw [← (bits_op a b).1]; exact rbits_loop 12 a b w (.inl rfl) ha hb
theorem rbits_xor (a b : Int) (w : World) (ha : InR a) (hb : InR b) : Calls Tryd.prog 91 #[.int .i64 13, .int .i64 a, .int .i64 b] w fun e w' => e = .returned (.int .i64 (bits .xor .i64 a b)) ∧ w = w' := by
  rw [← (bits_op a b).2.1]; exact rbits_loop 13 a b w (.inr (.inl rfl)) ha hb
theorem rbits_or (a b : Int) (w : World) (ha : InR a) (hb : InR b) : Calls Tryd.prog 91 #[.int .i64 14, .int .i64 a, .int .i64 b] w fun e w' => e = .returned (.int .i64 (bits .or .i64 a b)) ∧ w = w' := by
  rw [← (bits_op a b).2.2]; exact rbits_loop 14 a b w (.inr (.inr rfl)) ha hb
set_option maxHeartbeats 1000000 in
theorem roperate_12 (a b : Int) (w : World) (ha : InR a) (hb : InR b) : Calls Tryd.prog 64 #[.int .i64 12, .int .i64 a, .int .i64 b] w fun e w' => e = .returned (.tuple #[.int .i64 (calcL 12 a b).1, .int .i64 (calcL 12 a b).2]) ∧ w = w' := by
  have E := Lib.hid (show calcL 12 a b = (bits .and .i64 a b, 0) from rfl)
  have C := Lib.hid (rbits_and a b w ha hb)
  generalize bits .and .i64 a b = r at E C
  clear ha hb
  go_enter Tryd.func64, Tryd.ntmps64
  go_wp2_with fail
  refine C.out.mono ?_
  rintro e w' ⟨rfl, rfl⟩
  go_wp2_with fail
  go_ret2
  exact ⟨by rw [E.out]; rfl, rfl⟩
set_option maxHeartbeats 1000000 in
theorem roperate_13 (a b : Int) (w : World) (ha : InR a) (hb : InR b) : Calls Tryd.prog 64 #[.int .i64 13, .int .i64 a, .int .i64 b] w fun e w' => e = .returned (.tuple #[.int .i64 (calcL 13 a b).1, .int .i64 (calcL 13 a b).2]) ∧ w = w' := by
  have E := Lib.hid (show calcL 13 a b = (bits .xor .i64 a b, 0) from rfl)
  have C := Lib.hid (rbits_xor a b w ha hb)
  generalize bits .xor .i64 a b = r at E C
  clear ha hb
  go_enter Tryd.func64, Tryd.ntmps64
  go_wp2_with fail
  refine C.out.mono ?_
  rintro e w' ⟨rfl, rfl⟩
  go_wp2_with fail
  go_ret2
  exact ⟨by rw [E.out]; rfl, rfl⟩
set_option maxHeartbeats 1000000 in
theorem roperate_14 (a b : Int) (w : World) (ha : InR a) (hb : InR b) : Calls Tryd.prog 64 #[.int .i64 14, .int .i64 a, .int .i64 b] w fun e w' => e = .returned (.tuple #[.int .i64 (calcL 14 a b).1, .int .i64 (calcL 14 a b).2]) ∧ w = w' := by
  have E := Lib.hid (show calcL 14 a b = (bits .or .i64 a b, 0) from rfl)
  have C := Lib.hid (rbits_or a b w ha hb)
  generalize bits .or .i64 a b = r at E C
  clear ha hb
  go_enter Tryd.func64, Tryd.ntmps64
  go_wp2_with fail
  refine C.out.mono ?_
  rintro e w' ⟨rfl, rfl⟩
  go_wp2_with fail
  go_ret2
  exact ⟨by rw [E.out]; rfl, rfl⟩
set_option maxHeartbeats 1000000 in
theorem roperate_8 (a b : Int) (w : World) (ha : InR a) (hb : InR b) : Calls Tryd.prog 64 #[.int .i64 8, .int .i64 a, .int .i64 b] w fun e w' => e = .returned (.tuple #[.int .i64 (calcL 8 a b).1, .int .i64 (calcL 8 a b).2]) ∧ w = w' := by
  obtain ⟨a1, a2⟩ := ha
  obtain ⟨b1, b2⟩ := hb
  by_cases h0 : b = 0
  · subst h0
    have E := Lib.hid (show calcL 8 a 0 = (0, 3) from rfl)
    go_enter Tryd.func64, Tryd.ntmps64
    go_wp2_with fail
    go_ret2
    exact ⟨by rw [E.out]; rfl, rfl⟩
  · have E := Lib.hid (show calcL 8 a b = (a.tdiv b, 0) from if_neg h0)
    have h1 : (b == 0) = false := beq_eq_false_iff_ne.2 h0
    obtain ⟨t1, t2⟩ := tdiv_in (b := b) ⟨a1, a2⟩
    have HW := Lib.hid (show wrap64 (a.tdiv b) = a.tdiv b from IntWalk.wrap64_in _ ⟨by omega, by omega⟩)
    clear t1 t2
    go_enter Tryd.func64, Tryd.ntmps64
    go_wp2_with fail
    go_ret2
    refine ⟨?_, rfl⟩
    show Ending.returned (.tuple #[.int .i64 (wrap64 (a.tdiv b)), .int .i64 0]) = _
    rw [E.out, HW.out]
theorem tmod_math (a b : Int) : a - a.tdiv b * b = a.tmod b := by
  have := Int.mul_tdiv_add_tmod a b
  rw [Int.mul_comm] at this
  omega
theorem prod_ref {a p : Int} (hp : 1 ≤ p) : (1099511627776 / p < absI a) ↔ (a ≠ 0 ∧ 1099511627776 / absI a < absI p) := by
  have hpp : absI p = p := by unfold absI; omega
  rw [hpp, Int.ediv_lt_iff_lt_mul (by omega)]
  by_cases h0 : a = 0
  · subst h0
    have : absI 0 = 0 := rfl
    rw [this, Int.zero_mul]
    constructor
    · intro h; omega
    · intro h; exact absurd rfl h.1
  · have := absI_pos h0
    rw [Int.ediv_lt_iff_lt_mul (by omega), Int.mul_comm]
    exact ⟨fun h => ⟨h0, h⟩, fun h => h.2⟩
theorem in40 (b : Int) : inB b 0 40 = !decide (b < 0 ∨ 40 < b) := by
  unfold inB
  rw [Bool.eq_iff_iff]
  simp
theorem in40_is {b : Int} {r : Bool} (h : inB b 0 40 = r) (w : World) : Calls Tryd.prog 14 #[.int .i64 b, .int .i64 0, .int .i64 40] w fun e w' => e = .returned (.bool r) ∧ w = w' := by
  subst h
  exact in_any b 0 40 w
set_option maxHeartbeats 1000000 in
theorem roperate_11 (a b : Int) (w : World) (ha : InR a) (_ : InR b) : Calls Tryd.prog 64 #[.int .i64 11, .int .i64 a, .int .i64 b] w fun e w' => e = .returned (.tuple #[.int .i64 (calcL 11 a b).1, .int .i64 (calcL 11 a b).2]) ∧ w = w' := by
  by_cases h : b < 0 ∨ 40 < b
  · have E := Lib.hid ((calcL11 a b).trans (if_pos h))
    have C := Lib.hid (in40_is (r := false) ((in40 b).trans (by simp [h])) w)
    clear h ha
    go_enter Tryd.func64, Tryd.ntmps64
    go_wp2_with fail
    refine C.out.mono ?_
    rintro e w' ⟨rfl, rfl⟩
    go_wp2_with fail
    go_ret2
    exact ⟨by rw [E.out]; rfl, rfl⟩
  · have E := Lib.hid ((calcL11 a b).trans (if_neg h))
    have C := Lib.hid (in40_is (r := true) ((in40 b).trans (by simp [h])) w)
    have C2 := Lib.hid (rdown_any a b w ha (by omega) (by omega))
    generalize a / 2 ^ b.toNat = r at E C2
    clear h ha
    go_enter Tryd.func64, Tryd.ntmps64
    go_wp2_with fail
    refine C.out.mono ?_
    rintro e w' ⟨rfl, rfl⟩
    go_wp2_with fail
    refine C2.out.mono ?_
    rintro e w' ⟨rfl, rfl⟩
    go_wp2_with fail
    go_ret2
    exact ⟨by rw [E.out]; rfl, rfl⟩
set_option maxHeartbeats 2000000 in
theorem roperate_10 (a b : Int) (w : World) (ha : InR a) (_ : InR b) : Calls Tryd.prog 64 #[.int .i64 10, .int .i64 a, .int .i64 b] w fun e w' => e = .returned (.tuple #[.int .i64 (calcL 10 a b).1, .int .i64 (calcL 10 a b).2]) ∧ w = w' := by
  by_cases h : b < 0 ∨ 40 < b
  · have E := Lib.hid ((calcL10 a b).trans (if_pos h))
    have C := Lib.hid (in40_is (r := false) ((in40 b).trans (by simp [h])) w)
    clear h ha
    go_enter Tryd.func64, Tryd.ntmps64
    go_wp2_with fail
    refine C.out.mono ?_
    rintro e w' ⟨rfl, rfl⟩
    go_wp2_with fail
    go_ret2
    exact ⟨by rw [E.out]; rfl, rfl⟩
  · have E := Lib.hid ((calcL10 a b).trans (if_neg h))
    have C := Lib.hid (in40_is (r := true) ((in40 b).trans (by simp [h])) w)
    have C2 := Lib.hid (rpower_any b w (by omega) (by omega))
    have C3 := Lib.hid (rabs_any a w ha)
    have hp := pow_in (b := b) (by omega) (by omega)
    generalize (2 : Int) ^ b.toNat = p at E C2 hp
    obtain ⟨hp1, hp2⟩ := hp
    have HR := Lib.hid (prod_ref (a := a) hp1)
    have E0 := Lib.hid (show prodL a p = if a ≠ 0 ∧ 1099511627776 / absI a < absI p then (0, 10) else (a * p, 0) from rfl)
    have hq := Int.ediv_le_self p (show (0 : Int) ≤ 1099511627776 by decide)
    have hq0 := Int.ediv_nonneg (show (0 : Int) ≤ 1099511627776 by decide) (show 0 ≤ p by omega)
    have ht : (1099511627776 : Int).tdiv p = 1099511627776 / p := Int.tdiv_eq_ediv_of_nonneg (by decide)
    have HIN := Lib.hid (fun (hh : ¬ (a ≠ 0 ∧ 1099511627776 / absI a < absI p)) => prod_in hh)
    have hpb : (p == 0) = false := beq_eq_false_iff_ne.2 (by omega)
    have hai := absI_in ha
    clear h ha
    go_enter Tryd.func64, Tryd.ntmps64
    go_wp2_with fail
    refine C.out.mono ?_
    rintro e w' ⟨rfl, rfl⟩
    go_wp2_with fail
    refine C3.out.mono ?_
    rintro e w' ⟨rfl, rfl⟩
    go_wp2_with fail
    refine C2.out.mono ?_
    rintro e w' ⟨rfl, rfl⟩
    by_cases hc : 1099511627776 / p < absI a
    · have E2 := Lib.hid (E.out.trans (E0.out.trans (if_pos (HR.out.1 hc))))
      go_wp2_with fail
      go_ret2
      exact ⟨by rw [E2.out]; rfl, rfl⟩
    · have hn := fun hh => hc (HR.out.2 hh)
      have E2 := Lib.hid (E.out.trans (E0.out.trans (if_neg hn)))
      obtain ⟨m1, m2⟩ := HIN.out hn
      clear hn
      go_wp2_with fail
      refine C2.out.mono ?_
      rintro e w' ⟨rfl, rfl⟩
      go_wp2_with fail
      go_ret2
      exact ⟨by rw [E2.out]; rfl, rfl⟩
theorem abs_abs (b : Int) : absI (absI b) = absI b := by unfold absI; omega
theorem inR_is {a : Int} (h : InR a) (w : World) : Calls Tryd.prog 14 #[.int .i64 a, .int .i64 (-1099511627776), .int .i64 1099511627776] w fun e w' => e = .returned (.bool true) ∧ w = w' := by
  have e : inB a (-1099511627776) 1099511627776 = true := by unfold inB; simp [h.1, h.2]
  rw [← e]
  exact in_any a _ _ w
set_option maxHeartbeats 2000000 in
theorem roperate_7 (a b : Int) (w : World) (ha : InR a) (hb : InR b) : Calls Tryd.prog 64 #[.int .i64 7, .int .i64 a, .int .i64 b] w fun e w' => e = .returned (.tuple #[.int .i64 (calcL 7 a b).1, .int .i64 (calcL 7 a b).2]) ∧ w = w' := by
  have E0 := Lib.hid (show calcL 7 a b = if a ≠ 0 ∧ 1099511627776 / absI a < absI b then (0, 10) else (a * b, 0) from rfl)
  by_cases h0 : a = 0
  · subst h0
    have E := Lib.hid ((E0.out.trans (if_neg (by simp))).trans (by rw [Int.zero_mul] : ((0 : Int) * b, (0 : Int)) = (0, 0)))
    have hz : (0 : Int) * b = 0 := Int.zero_mul b
    clear ha hb E0
    go_enter Tryd.func64, Tryd.ntmps64
    go_wp2_with fail
    go_ret2
    exact ⟨by rw [E.out]; first | rfl | (rw [hz]; rfl), rfl⟩
  · by_cases h1 : b = 0
    · subst h1
      have E := Lib.hid ((E0.out.trans (if_neg (fun h => by
        have h2 := Int.ediv_nonneg (show (0 : Int) ≤ 1099511627776 by decide) (show 0 ≤ absI a from (absI_in ha).1)
        have h3 : absI 0 = 0 := rfl
        rw [h3] at h
        exact absurd h.2 (by omega)))).trans (by rw [Int.mul_zero] : (a * (0 : Int), (0 : Int)) = (0, 0)))
      have hz : a * (0 : Int) = 0 := Int.mul_zero a
      have n0 : (a == 0) = false := beq_eq_false_iff_ne.2 h0
      have n1 : (a != 0) = true := by simp [bne, n0]
      clear ha hb E0 h0
      go_enter Tryd.func64, Tryd.ntmps64
      go_wp2_with fail
      go_ret2
      exact ⟨by rw [E.out]; first | rfl | (rw [hz]; rfl), rfl⟩
    · have n0 : (a == 0) = false := beq_eq_false_iff_ne.2 h0
      have n1 : (a != 0) = true := by simp [bne, n0]
      have n2 : (b == 0) = false := beq_eq_false_iff_ne.2 h1
      have n3 : (b != 0) = true := by simp [bne, n2]
      have I1 := Lib.hid (inR_is ha w)
      have I2 := Lib.hid (inR_is hb w)
      have C1 := Lib.hid (rabs_any a w ha)
      have C2 := Lib.hid (rabs_any b w hb)
      have hp1 := absI_pos h1
      have hp2 := (absI_in hb).2
      have HR := prod_ref (a := a) hp1
      rw [abs_abs] at HR
      have HIN := Lib.hid (fun (hh : ¬ (a ≠ 0 ∧ 1099511627776 / absI a < absI b)) => prod_in hh)
      have HRH := Lib.hid HR
      have hai := absI_in ha
      clear HR ha hb h0 h1
      generalize absI b = p at C2 hp1 hp2 HRH HIN E0
      have hq := Int.ediv_le_self p (show (0 : Int) ≤ 1099511627776 by decide)
      have hq0 := Int.ediv_nonneg (show (0 : Int) ≤ 1099511627776 by decide) (show 0 ≤ p by omega)
      have ht : (1099511627776 : Int).tdiv p = 1099511627776 / p := Int.tdiv_eq_ediv_of_nonneg (by decide)
      have hpb : (p == 0) = false := beq_eq_false_iff_ne.2 (by omega)
      go_enter Tryd.func64, Tryd.ntmps64
      go_wp2_with fail
      refine I1.out.mono ?_
      rintro e w' ⟨rfl, rfl⟩
      go_wp2_with fail
      refine I2.out.mono ?_
      rintro e w' ⟨rfl, rfl⟩
      go_wp2_with fail
      refine C1.out.mono ?_
      rintro e w' ⟨rfl, rfl⟩
      go_wp2_with fail
      refine C2.out.mono ?_
      rintro e w' ⟨rfl, rfl⟩
      by_cases hc : 1099511627776 / p < absI a
      · have E2 := Lib.hid (E0.out.trans (if_pos (HRH.out.1 hc)))
        go_wp2_with fail
        go_ret2
        exact ⟨by rw [E2.out]; rfl, rfl⟩
      · have hn := fun hh => hc (HRH.out.2 hh)
        have E2 := Lib.hid (E0.out.trans (if_neg hn))
        obtain ⟨m1, m2⟩ := HIN.out hn
        clear hn
        go_wp2_with fail
        go_ret2
        exact ⟨by rw [E2.out]; rfl, rfl⟩
set_option maxHeartbeats 2000000 in
theorem roperate_9 (a b : Int) (w : World) (ha : InR a) (_ : InR b) : Calls Tryd.prog 64 #[.int .i64 9, .int .i64 a, .int .i64 b] w fun e w' => e = .returned (.tuple #[.int .i64 (calcL 9 a b).1, .int .i64 (calcL 9 a b).2]) ∧ w = w' := by
  obtain ⟨a1, a2⟩ := ha
  by_cases h0 : b = 0
  · subst h0
    have E := Lib.hid (show calcL 9 a 0 = (0, 3) from rfl)
    go_enter Tryd.func64, Tryd.ntmps64
    go_wp2_with fail
    go_ret2
    exact ⟨by rw [E.out]; rfl, rfl⟩
  · have E := Lib.hid (show calcL 9 a b = (a.tmod b, 0) from if_neg h0)
    have h1 : (b == 0) = false := beq_eq_false_iff_ne.2 h0
    obtain ⟨t1, t2⟩ := tdiv_in (b := b) ⟨a1, a2⟩
    have hq3 : (a.tdiv b * b).natAbs ≤ a.natAbs := by
      rw [Int.natAbs_mul, Int.natAbs_tdiv]
      exact Nat.div_mul_le_self _ _
    have HW : wrap64 (a.tdiv b) = a.tdiv b := IntWalk.wrap64_in _ ⟨by omega, by omega⟩
    have hm : -1099511627776 ≤ a.tdiv b * b ∧ a.tdiv b * b ≤ 1099511627776 := by omega
    obtain ⟨m1, m2⟩ := hm
    have HT := Lib.hid (tmod_math a b)
    clear hq3
    go_enter Tryd.func64, Tryd.ntmps64
    go_wp2_with fail
    go_ret2
    refine ⟨?_, rfl⟩
    show Ending.returned (.tuple #[.int .i64 (a - a.tdiv b * b), .int .i64 0]) = _
    rw [E.out, HT.out]
/-- the reference's operation is the program's, for binary signs other than of sums -/
theorem roperate_any (k a b : Int) (w : World) (h7 : 7 ≤ k) (h14 : k ≤ 14) (ha : InR a) (hb : InR b) : Calls Tryd.prog 64 #[.int .i64 k, .int .i64 a, .int .i64 b] w fun e w' => e = .returned (.tuple #[.int .i64 (calcL k a b).1, .int .i64 (calcL k a b).2]) ∧ w = w' := by
  have h : k = 7 ∨ k = 8 ∨ k = 9 ∨ k = 10 ∨ k = 11 ∨ k = 12 ∨ k = 13 ∨ k = 14 := by omega
  rcases h with rfl | rfl | rfl | rfl | rfl | rfl | rfl | rfl
  · exact roperate_7 a b w ha hb
  · exact roperate_8 a b w ha hb
  · exact roperate_9 a b w ha hb
  · exact roperate_10 a b w ha hb
  · exact roperate_11 a b w ha hb
  · exact roperate_12 a b w ha hb
  · exact roperate_13 a b w ha hb
  · exact roperate_14 a b w ha hb
end Go.Proofs.YtchpkdpefpiegaaDoor.Tok
