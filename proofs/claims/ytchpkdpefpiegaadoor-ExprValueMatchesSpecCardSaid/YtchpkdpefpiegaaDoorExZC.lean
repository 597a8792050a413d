/- The reference's arithmetic: absolute value, powers of two, division by one. -/
import Derived.Test.YtchpkdpefpiegaaDoorExH
namespace Go.Proofs.YtchpkdpefpiegaaDoor.Tok
open Go Go.RowKit

set_option maxHeartbeats 400000 in
theorem rabs_any (n : Int) (w : World) (h : InR n) : Calls Tryd.prog 88 #[.int .i64 n] w fun e w' => e = .returned (.int .i64 (absI n)) ∧ w = w' := by
  obtain ⟨h1, h2⟩ := h
  by_cases h0 : n < 0
  · go_enter Tryd.func88, Tryd.ntmps88
    go_wp2
    go_ret
    exact ⟨congrArg (fun z => Ending.returned (.int .i64 z)) (show -n = max n (-n) by omega), rfl⟩
  · go_enter Tryd.func88, Tryd.ntmps88
    go_wp2
    go_ret
    exact ⟨congrArg (fun z => Ending.returned (.int .i64 z)) (show n = max n (-n) by omega), rfl⟩
theorem two_succ (k : Nat) : (2 : Int) * 2 ^ k = 2 ^ (k + 1) := by rw [Int.pow_succ]; omega
theorem two_le {k : Nat} (h : k ≤ 40) : 1 ≤ (2 : Int) ^ k ∧ (2 : Int) ^ k ≤ 1099511627776 := by
  have := pow_in (b := (k : Int)) (by omega) (by omega)
  rwa [Int.toNat_natCast] at this
set_option maxHeartbeats 1000000 in
theorem rpower_any (b : Int) (w : World) (h0 : 0 ≤ b) (h40 : b ≤ 40) : Calls Tryd.prog 90 #[.int .i64 b] w fun e w' => e = .returned (.int .i64 (2 ^ b.toNat)) ∧ w = w' := by
  obtain ⟨n, rfl⟩ : ∃ n : Nat, b = n := ⟨b.toNat, by omega⟩
  rw [Int.toNat_natCast]
  have hn : n ≤ 40 := by omega
  clear h0 h40
  go_enter Tryd.func90, Tryd.ntmps90
  go_wp2
  go_loopw [3, 4] (fun p i wr => ∃ k : Nat, k ≤ n ∧ p = .int .i64 (2 ^ k) ∧ i = .int .i64 k ∧ wr = w) (fun _ i _ => n - (intOf i).toNat)
  case atStart => exact ⟨0, Nat.zero_le _, rfl, rfl, by first | rfl | trivial⟩
  case round =>
    obtain ⟨k, hk, rfl, rfl, rfl⟩ := hrel
    have hp := two_le (k := k) (by omega)
    have HS := Lib.hid (two_succ k)
    have HI := Lib.hid (show Value.int .i64 ((2 : Int) ^ n) = .int .i64 (2 ^ n) from rfl)
    by_cases hlt : k < n
    · generalize hq : (2 : Int) ^ k = q at hp HS ⊢
      obtain ⟨hp1, hp2⟩ := hp
      have HQ := Lib.hid hq
      clear hq
      go_wp2
      go_roundw
      case rel => exact ⟨k + 1, by omega, by rw [HS.out], by go_num, by first | rfl | trivial⟩
      case measure => simp [intOf]; omega
    · obtain rfl : k = n := by omega
      generalize hq : (2 : Int) ^ k = q at hp HI ⊢
      go_wp2
      go_ret
      exact ⟨rfl, rfl⟩
/-- division by a power of two, rounded down -/
theorem down_math {a p : Int} (hp : 1 ≤ p) : (if a < a.tdiv p * p then a.tdiv p - 1 else a.tdiv p) = a / p := by
  rcases Int.lt_or_le a 0 with h | h
  · obtain ⟨m, rfl⟩ : ∃ m : Int, a = -m := ⟨-a, by omega⟩
    have hm : 0 ≤ m := by omega
    rw [Int.neg_tdiv, Int.tdiv_eq_ediv_of_nonneg hm]
    have h1 := Int.mul_ediv_add_emod m p
    have h2 := Int.emod_nonneg m (show p ≠ 0 by omega)
    have h3 := Int.emod_lt_of_pos m (show 0 < p by omega)
    rw [Int.mul_comm] at h1
    generalize m / p = d at h1
    generalize m % p = r at h1 h2 h3
    by_cases h0 : r = 0
    · rw [if_neg (by rw [Int.neg_mul]; omega)]
      symm
      rw [Int.ediv_eq_iff_of_pos (by omega)]
      rw [Int.neg_mul]
      omega
    · rw [if_pos (by rw [Int.neg_mul]; omega)]
      symm
      rw [Int.ediv_eq_iff_of_pos (by omega)]
      rw [Int.sub_mul, Int.neg_mul]
      omega
  · rw [Int.tdiv_eq_ediv_of_nonneg h]
    have h1 := Int.ediv_mul_le a (show p ≠ 0 by omega)
    rw [if_neg (by omega)]
set_option maxHeartbeats 1000000 in
theorem rdown_any (a b : Int) (w : World) (ha : InR a) (h0 : 0 ≤ b) (h40 : b ≤ 40) : Calls Tryd.prog 89 #[.int .i64 a, .int .i64 b] w fun e w' => e = .returned (.int .i64 (a / 2 ^ b.toNat)) ∧ w = w' := by
  have C := Lib.hid (fun W => rpower_any b W h0 h40)
  have hp := pow_in h0 h40
  generalize (2 : Int) ^ b.toNat = p at C hp ⊢
  obtain ⟨hp1, hp2⟩ := hp
  obtain ⟨ha1, ha2⟩ := ha
  have HD := Lib.hid (down_math (a := a) hp1)
  have hq : (a.tdiv p).natAbs ≤ a.natAbs := by rw [Int.natAbs_tdiv]; exact Nat.div_le_self _ _
  have hq3 : (a.tdiv p * p).natAbs ≤ a.natAbs := by
    rw [Int.natAbs_mul, Int.natAbs_tdiv]
    exact Nat.div_mul_le_self _ _
  have HW := Lib.hid (show wrap64 (a.tdiv p) = a.tdiv p from IntWalk.wrap64_in _ ⟨by omega, by omega⟩)
  have HW2 := Lib.hid (show wrap64 (a.tdiv p * p) = a.tdiv p * p from IntWalk.wrap64_in _ ⟨by omega, by omega⟩)
  have hpz : p ≠ 0 := by omega
  have hpb : (p == 0) = false := beq_eq_false_iff_ne.2 hpz
  go_enter Tryd.func89, Tryd.ntmps89
  go_wp2_with fail
  refine (C.out _).mono ?_
  rintro e w' ⟨rfl, rfl⟩
  go_wp2_with fail
  refine (C.out _).mono ?_
  rintro e w' ⟨rfl, rfl⟩
  generalize hd : a.tdiv p = d at HD hq hq3 HW HW2 ⊢
  have HD2 := Lib.hid hd
  clear hd
  by_cases hc : a < d * p
  · have E := Lib.hid ((if_pos hc).symm.trans HD.out)
    have hb : -1099511627777 ≤ d - 1 ∧ d - 1 ≤ 1099511627776 := by omega
    obtain ⟨hb1, hb2⟩ := hb
    have hm : -1099511627776 ≤ d * p ∧ d * p ≤ 1099511627776 := by omega
    obtain ⟨hm1, hm2⟩ := hm
    clear hq hq3 HD
    go_wp2_with fail
    go_ret
    exact ⟨congrArg (fun z => Ending.returned (.int .i64 z)) E.out, rfl⟩
  · have E := Lib.hid ((if_neg hc).symm.trans HD.out)
    have hm : -1099511627776 ≤ d * p ∧ d * p ≤ 1099511627776 := by omega
    obtain ⟨hm1, hm2⟩ := hm
    clear hq hq3 HD
    go_wp2_with fail
    go_ret
    exact ⟨congrArg (fun z => Ending.returned (.int .i64 z)) E.out, rfl⟩
end Go.Proofs.YtchpkdpefpiegaaDoor.Tok
