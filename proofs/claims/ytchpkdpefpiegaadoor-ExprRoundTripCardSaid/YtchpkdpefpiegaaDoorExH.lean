/- Contracts of the functions over numbers: absolute, product, calculate, isOutside. Conditions: numbers within the range of values. -/
import Derived.Test.YtchpkdpefpiegaaDoorExB
import Derived.IntWalk
namespace Go.Proofs.YtchpkdpefpiegaaDoor.Tok
open Go Go.RowKit

def InR (n : Int) : Prop := -1099511627776 ≤ n ∧ n ≤ 1099511627776
def absI (n : Int) : Int := max n (-n)
def isOutL (n : Int) : Bool := decide (n < -1099511627776) || decide (1099511627776 < n)
theorem ret_two {a b c d : Int} (h : a = b) (k : c = d) : Ending.returned (.tuple #[.int .i64 a, .int .i64 c]) = .returned (.tuple #[.int .i64 b, .int .i64 d]) := by rw [h, k]
set_option maxHeartbeats 400000 in
theorem abs_any (n : Int) (w : World) (h : InR n) : Calls Tryd.prog 99 #[.int .i64 n] w fun e w' => e = .returned (.int .i64 (absI n)) ∧ w = w' := by
  obtain ⟨h1, h2⟩ := h
  have E := Lib.hid (show absI n = max n (-n) from rfl)
  go_enter Tryd.func99, Tryd.ntmps99
  go_wp2_with fail
  go_ret
  exact ⟨ret_int (by rw [E.out]), rfl⟩
set_option maxHeartbeats 400000 in
theorem out_any (n : Int) (w : World) : Calls Tryd.prog 57 #[.int .i64 n] w fun e w' => e = .returned (.bool (isOutL n)) ∧ w = w' := by
  by_cases h1 : n < -1099511627776
  · have E := Lib.hid (show isOutL n = true by unfold isOutL; rw [decide_eq_true h1]; rfl)
    go_enter Tryd.func57, Tryd.ntmps57
    go_wp2_with fail
    go_ret
    exact ⟨ret_bool E.out.symm, rfl⟩
  · have E := Lib.hid (show isOutL n = decide (1099511627776 < n) by unfold isOutL; rw [decide_eq_false h1]; rfl)
    go_enter Tryd.func57, Tryd.ntmps57
    go_wp2_with fail
    all_goals
      go_ret
      exact ⟨ret_bool (by rw [E.out]), rfl⟩
def prodL (a b : Int) : Int × Int := if a ≠ 0 ∧ 1099511627776 / absI a < absI b then (0, 10) else (a * b, 0)
theorem absI_pos {a : Int} (h : a ≠ 0) : 1 ≤ absI a := by unfold absI; omega
theorem absI_in {a : Int} (h : InR a) : 0 ≤ absI a ∧ absI a ≤ 1099511627776 := by unfold InR at h; unfold absI; omega
theorem prod_in {a b : Int} (h : ¬ (a ≠ 0 ∧ 1099511627776 / absI a < absI b)) : InR (a * b) := by
  by_cases h0 : a = 0
  · subst h0; rw [Int.zero_mul]; exact ⟨by decide, by decide⟩
  · have h1 : absI b ≤ 1099511627776 / absI a := by
      rcases Int.lt_or_le (1099511627776 / absI a) (absI b) with h2 | h2
      · exact absurd ⟨h0, h2⟩ h
      · exact h2
    have hp := absI_pos h0
    have h2 : absI b * absI a ≤ 1099511627776 := Int.le_trans (Int.mul_le_mul_of_nonneg_right h1 (by omega)) (Int.ediv_mul_le _ (by omega))
    have h3 : (a * b).natAbs = a.natAbs * b.natAbs := Int.natAbs_mul a b
    have h4 : absI a = (a.natAbs : Int) := by unfold absI; omega
    have h5 : absI b = (b.natAbs : Int) := by unfold absI; omega
    rw [h4, h5] at h2
    have h6 : ((a * b).natAbs : Int) ≤ 1099511627776 := by
      rw [h3, Nat.mul_comm, Int.natCast_mul]
      exact h2
    unfold InR
    omega
set_option maxHeartbeats 1000000 in
theorem product_any (a b : Int) (w : World) (ha : InR a) (hb : InR b) : Calls Tryd.prog 96 #[.int .i64 a, .int .i64 b] w fun e w' => e = .returned (.tuple #[.int .i64 (prodL a b).1, .int .i64 (prodL a b).2]) ∧ w = w' := by
  have C1 := Lib.hid (fun w => abs_any b w hb)
  have C2 := Lib.hid (fun w => abs_any a w ha)
  have hab := absI_in hb
  have hin := prod_in (a := a) (b := b)
  have EP := Lib.hid (show prodL a b = if a ≠ 0 ∧ 1099511627776 / absI a < absI b then (0, 10) else (a * b, 0) from rfl)
  by_cases h0 : a = 0
  · subst h0
    have E := Lib.hid (EP.out.trans (if_neg (by simp)))
    clear hin EP C1 C2 hab ha hb
    go_enter Tryd.func96, Tryd.ntmps96
    go_wp2_with fail
    go_ret2
    exact ⟨by rw [E.out, Int.zero_mul]; first | rfl | simp, rfl⟩
  · have hp := absI_pos h0
    have hpi := absI_in ha
    have h1 : (a == 0) = false := beq_eq_false_iff_ne.2 h0
    have h2 : (a != 0) = true := by simp [bne, h1]
    obtain ⟨x, hx⟩ : ∃ x, x = absI a := ⟨_, rfl⟩
    obtain ⟨y, hy⟩ : ∃ y, y = absI b := ⟨_, rfl⟩
    rw [← hx] at C2 hp hpi EP hin
    rw [← hy] at C1 hab EP hin
    obtain ⟨p1, p2⟩ := hpi
    obtain ⟨q1, q2⟩ := hab
    by_cases hc : 1099511627776 / x < y
    · have E := Lib.hid (EP.out.trans (if_pos ⟨h0, hc⟩))
      clear hin EP h0 hx hy ha hb
      go_enter Tryd.func96, Tryd.ntmps96
      go_wp2_with fail
      refine (C1.out _).mono ?_
      rintro e w' ⟨rfl, rfl⟩
      go_wp2_with fail
      refine (C2.out _).mono ?_
      rintro e w' ⟨rfl, rfl⟩
      go_wp2_with fail
      go_ret2
      exact ⟨by rw [E.out]; rfl, rfl⟩
    · have E := Lib.hid (EP.out.trans (if_neg (fun h => hc h.2)))
      obtain ⟨i1, i2⟩ := hin (fun h => hc h.2)
      clear EP h0 hx hy ha hb hin
      go_enter Tryd.func96, Tryd.ntmps96
      go_wp2_with fail
      refine (C1.out _).mono ?_
      rintro e w' ⟨rfl, rfl⟩
      go_wp2_with fail
      refine (C2.out _).mono ?_
      rintro e w' ⟨rfl, rfl⟩
      go_wp2_with fail
      go_ret2
      exact ⟨by rw [E.out]; rfl, rfl⟩
def calcL (k a b : Int) : Int × Int :=
  if k = 4 then (bits .xor .i64 (-1) a, 0) else if k = 7 then prodL a b
  else if k = 8 then (if b = 0 then (0, 3) else (a.tdiv b, 0)) else if k = 9 then (if b = 0 then (0, 3) else (a.tmod b, 0))
  else if k = 10 then (if b < 0 ∨ 40 < b then (0, 3) else prodL a (2 ^ b.toNat)) else if k = 11 then (if b < 0 ∨ 40 < b then (0, 3) else (a / 2 ^ b.toNat, 0))
  else if k = 12 then (bits .and .i64 a b, 0) else if k = 13 then (bits .xor .i64 a b, 0) else (bits .or .i64 a b, 0)
theorem pow_in {b : Int} (h0 : 0 ≤ b) (h : b ≤ 40) : 1 ≤ (2 : Int) ^ b.toNat ∧ (2 : Int) ^ b.toNat ≤ 1099511627776 := by
  obtain ⟨n, rfl⟩ : ∃ n : Nat, b = n := ⟨b.toNat, by omega⟩
  have hn : n ≤ 40 := by omega
  have h1 : (2 : Nat) ^ n ≤ 2 ^ 40 := Nat.pow_le_pow_right (by decide) hn
  have h2 : 1 ≤ (2 : Nat) ^ n := Nat.one_le_two_pow
  rw [show (2 : Nat) ^ 40 = 1099511627776 from rfl] at h1
  have h3 : ((2 : Int) ^ (n : Int).toNat) = (((2 : Nat) ^ n : Nat) : Int) := by rw [Int.toNat_natCast, Int.natCast_pow]; rfl
  rw [h3]
  generalize (2 : Nat) ^ n = x at h1 h2
  omega
theorem calcL10 (a b : Int) : calcL 10 a b = if b < 0 ∨ 40 < b then (0, 3) else prodL a (2 ^ b.toNat) := rfl
theorem calcL11 (a b : Int) : calcL 11 a b = if b < 0 ∨ 40 < b then (0, 3) else (a / 2 ^ b.toNat, 0) := rfl
theorem tdiv_in {a b : Int} (h : InR a) : InR (a.tdiv b) := by
  obtain ⟨h1, h2⟩ := h
  have h3 : (a.tdiv b).natAbs = a.natAbs / b.natAbs := Int.natAbs_tdiv a b
  have h4 : a.natAbs / b.natAbs ≤ a.natAbs := Nat.div_le_self _ _
  unfold InR
  omega
set_option maxHeartbeats 4000000 in
theorem calc_any (k a b : Int) (w : World) (hk : k = 4 ∨ 7 ≤ k ∧ k ≤ 14) (ha : InR a) (hb : InR b) : Calls Tryd.prog 84 #[.int .i64 k, .int .i64 a, .int .i64 b] w fun e w' => e = .returned (.tuple #[.int .i64 (calcL k a b).1, .int .i64 (calcL k a b).2]) ∧ w = w' := by
  have hk2 : k = 4 ∨ k = 7 ∨ k = 8 ∨ k = 9 ∨ k = 10 ∨ k = 11 ∨ k = 12 ∨ k = 13 ∨ k = 14 := by omega
  clear hk
  obtain ⟨a1, a2⟩ := ha
  obtain ⟨b1, b2⟩ := hb
  rcases hk2 with rfl | rfl | rfl | rfl | rfl | rfl | rfl | rfl | rfl
  · have E := Lib.hid (show calcL 4 a b = (bits .xor .i64 (-1) a, 0) from rfl)
    go_enter Tryd.func84, Tryd.ntmps84
    go_wp2_with fail
    go_ret2
    exact ⟨by rw [E.out]; rfl, rfl⟩
  · have E := Lib.hid (show calcL 7 a b = prodL a b from rfl)
    have C := Lib.hid (product_any a b w ⟨a1, a2⟩ ⟨b1, b2⟩)
    generalize prodL a b = r at E C
    go_enter Tryd.func84, Tryd.ntmps84
    go_wp2_with fail
    refine C.out.mono ?_
    rintro e w' ⟨rfl, rfl⟩
    go_wp2_with fail
    go_ret2
    exact ⟨by rw [E.out]; rfl, rfl⟩
  · by_cases h0 : b = 0
    · subst h0
      have E := Lib.hid (show calcL 8 a 0 = (0, 3) from rfl)
      go_enter Tryd.func84, Tryd.ntmps84
      go_wp2_with fail
      go_ret2
      exact ⟨by rw [E.out]; rfl, rfl⟩
    · have E := Lib.hid (show calcL 8 a b = (a.tdiv b, 0) from if_neg h0)
      have h1 : (b == 0) = false := beq_eq_false_iff_ne.2 h0
      obtain ⟨t1, t2⟩ := tdiv_in (b := b) ⟨a1, a2⟩
      have HW := Lib.hid (show wrap64 (a.tdiv b) = a.tdiv b from IntWalk.wrap64_in _ ⟨by omega, by omega⟩)
      clear t1 t2
      go_enter Tryd.func84, Tryd.ntmps84
      go_wp2_with fail
      go_ret2
      refine ⟨?_, rfl⟩
      show Ending.returned (.tuple #[.int .i64 (wrap64 (a.tdiv b)), .int .i64 0]) = _
      rw [E.out, HW.out]
  · by_cases h0 : b = 0
    · subst h0
      have E := Lib.hid (show calcL 9 a 0 = (0, 3) from rfl)
      go_enter Tryd.func84, Tryd.ntmps84
      go_wp2_with fail
      go_ret2
      exact ⟨by rw [E.out]; rfl, rfl⟩
    · have E := Lib.hid (show calcL 9 a b = (a.tmod b, 0) from if_neg h0)
      have h1 : (b == 0) = false := beq_eq_false_iff_ne.2 h0
      go_enter Tryd.func84, Tryd.ntmps84
      go_wp2_with fail
      go_ret2
      exact ⟨by rw [E.out]; rfl, rfl⟩
  · by_cases h0 : b < 0
    · have E := Lib.hid ((calcL10 a b).trans (if_pos (.inl h0)))
      go_enter Tryd.func84, Tryd.ntmps84
      go_wp2_with fail
      go_ret2
      exact ⟨by rw [E.out]; rfl, rfl⟩
    · by_cases h4 : 40 < b
      · have E := Lib.hid ((calcL10 a b).trans (if_pos (.inr h4)))
        go_enter Tryd.func84, Tryd.ntmps84
        go_wp2_with fail
        go_ret2
        exact ⟨by rw [E.out]; rfl, rfl⟩
      · have E := Lib.hid ((calcL10 a b).trans (if_neg (fun h => h.elim h0 h4)))
        have h0' : 0 ≤ b := by omega
        have h4' : b ≤ 40 := by omega
        obtain ⟨p1, p2⟩ := pow_in h0' h4'
        have C := Lib.hid (product_any a (2 ^ b.toNat) w ⟨a1, a2⟩ ⟨by omega, p2⟩)
        have HW := Lib.hid (show wrap64 ((2 : Int) ^ b.toNat) = (2 : Int) ^ b.toNat from IntWalk.wrap64_in _ ⟨by omega, by omega⟩)
        generalize prodL a (2 ^ b.toNat) = r at E C
        clear p1 p2
        go_enter Tryd.func84, Tryd.ntmps84
        go_wp2_with fail
        rw [HW.out]
        refine C.out.mono ?_
        rintro e w' ⟨rfl, rfl⟩
        go_wp2_with fail
        go_ret2
        exact ⟨by rw [E.out]; rfl, rfl⟩
  · by_cases h0 : b < 0
    · have E := Lib.hid ((calcL11 a b).trans (if_pos (.inl h0)))
      go_enter Tryd.func84, Tryd.ntmps84
      go_wp2_with fail
      go_ret2
      exact ⟨by rw [E.out]; rfl, rfl⟩
    · by_cases h4 : 40 < b
      · have E := Lib.hid ((calcL11 a b).trans (if_pos (.inr h4)))
        go_enter Tryd.func84, Tryd.ntmps84
        go_wp2_with fail
        go_ret2
        exact ⟨by rw [E.out]; rfl, rfl⟩
      · have E := Lib.hid ((calcL11 a b).trans (if_neg (fun h => h.elim h0 h4)))
        have h0' : 0 ≤ b := by omega
        have h4' : b ≤ 40 := by omega
        go_enter Tryd.func84, Tryd.ntmps84
        go_wp2_with fail
        go_ret2
        exact ⟨by rw [E.out]; rfl, rfl⟩
  · have E := Lib.hid (show calcL 12 a b = (bits .and .i64 a b, 0) from rfl)
    go_enter Tryd.func84, Tryd.ntmps84
    go_wp2_with fail
    go_ret2
    exact ⟨by rw [E.out]; rfl, rfl⟩
  · have E := Lib.hid (show calcL 13 a b = (bits .xor .i64 a b, 0) from rfl)
    go_enter Tryd.func84, Tryd.ntmps84
    go_wp2_with fail
    go_ret2
    exact ⟨by rw [E.out]; rfl, rfl⟩
  · have E := Lib.hid (show calcL 14 a b = (bits .or .i64 a b, 0) from rfl)
    go_enter Tryd.func84, Tryd.ntmps84
    go_wp2_with fail
    go_ret2
    exact ⟨by rw [E.out]; rfl, rfl⟩
end Go.Proofs.YtchpkdpefpiegaaDoor.Tok
