/- The reference's combination bit by bit. -/
import Derived.Test.YtchpkdpefpiegaaDoorExZD
namespace Go.Proofs.YtchpkdpefpiegaaDoor.Tok
open Go Go.RowKit

/-- a number as 64 bits -/
def u64 (a : Int) : Nat := (a % 18446744073709551616).toNat
theorem u64_int (a : Int) : ((u64 a : Nat) : Int) = a % 18446744073709551616 := by unfold u64; omega
theorem u64_lt (a : Int) : u64 a < 2 ^ 64 := by unfold u64; omega
theorem and_one {x j : Nat} (h : x / 2 ^ j < 2 ^ 64) : bits .and .u64 ((x : Int) / 2 ^ j) 1 = ((x / 2 ^ j % 2 : Nat) : Int) := by
  have e : ((x : Int) / 2 ^ j) = ((x / 2 ^ j : Nat) : Int) := by rw [Int.natCast_ediv, Int.natCast_pow]; rfl
  rw [e, ← Nat.and_one_is_mod]
  exact bits_and_u64_nat _ 1 (by simpa using h) (by decide)
theorem pow_wrap {j : Nat} (h : j < 64) : IntKind.u64.wrap (2 ^ j) = ((2 ^ j : Nat) : Int) := by
  have h1 : (2 : Nat) ^ j < 2 ^ 64 := Nat.pow_lt_pow_right (by decide) h
  have h2 : ((2 : Int) ^ j) = ((2 ^ j : Nat) : Int) := by rw [Int.natCast_pow]; rfl
  rw [h2]
  generalize (2 : Nat) ^ j = q at h1 ⊢
  show (q : Int) % 18446744073709551616 = _
  omega
set_option maxRecDepth 100000 in
set_option maxHeartbeats 4000000 in
theorem rbits_loop (k a b : Int) (w : World) (hk : k = 12 ∨ k = 13 ∨ k = 14) (ha : InR a) (hb : InR b) : Calls Tryd.prog 91 #[.int .i64 k, .int .i64 a, .int .i64 b] w fun e w' => e = .returned (.int .i64 (wrap64 (natOp k (u64 a) (u64 b) : Int))) ∧ w = w' := by
  have HS := Lib.hid (natOp_step hk (u64 a) (u64 b))
  have HA := Lib.hid (u64_int a)
  have HB := Lib.hid (u64_int b)
  have HK := Lib.hid hk
  have HL := Lib.hid (natOp_lt (k := k) (u64_lt a) (u64_lt b))
  have HAL := Lib.hid (u64_lt a)
  have HCL := Lib.hid (u64_lt b)
  obtain ⟨a1, a2⟩ := ha
  obtain ⟨b1, b2⟩ := hb
  clear hk
  generalize u64 a = A at HS HA HL HAL ⊢
  generalize u64 b = C at HS HB HL HCL ⊢
  go_enter Tryd.func91, Tryd.ntmps91
  go_wp2
  go_loopw [7, 8] (fun o i wr => ∃ j : Nat, j ≤ 64 ∧ o = .int .u64 ((natOp k A C % 2 ^ j : Nat) : Int) ∧ i = .int .i64 j ∧ wr = w) (fun _ i _ => 64 - (intOf i).toNat)
  case atStart => exact ⟨0, Nat.zero_le _, by rw [Nat.pow_zero, Nat.mod_one]; rfl, rfl, by first | rfl | trivial⟩
  case round =>
    obtain ⟨j, hj, rfl, rfl, rfl⟩ := hrel
    by_cases hlt : j < 64
    · have hs := HS.out j
      have eA : IntKind.u64.wrap a = (A : Int) := by rw [HA.out]; rfl
      have eB : IntKind.u64.wrap b = (C : Int) := by rw [HB.out]; rfl
      have eX : bits .and .u64 ((A : Int) / 2 ^ j) 1 = ((A / 2 ^ j % 2 : Nat) : Int) := and_one (by exact Nat.lt_of_le_of_lt (Nat.div_le_self _ _) HAL.out)
      have eY : bits .and .u64 ((C : Int) / 2 ^ j) 1 = ((C / 2 ^ j % 2 : Nat) : Int) := and_one (by exact Nat.lt_of_le_of_lt (Nat.div_le_self _ _) HCL.out)
      have hX := Nat.mod_lt (A / 2 ^ j) (show 0 < 2 by decide)
      have hY := Nat.mod_lt (C / 2 ^ j) (show 0 < 2 by decide)
      have eP : IntKind.u64.wrap (2 ^ j) = ((2 ^ j : Nat) : Int) := pow_wrap hlt
      have hP := Nat.pow_lt_pow_right (show 1 < 2 by decide) hlt
      have hM := Nat.mod_lt (natOp k A C) (show 0 < 2 ^ j from Nat.two_pow_pos j)
      have hM2 : natOp k A C % 2 ^ (j + 1) < 2 ^ 64 := Nat.lt_of_le_of_lt (Nat.mod_le _ _) HL.out
      generalize A / 2 ^ j % 2 = X at hs eX hX
      generalize C / 2 ^ j % 2 = Y at hs eY hY
      generalize natOp k A C % 2 ^ j = M at hs hM ⊢
      generalize hm2 : natOp k A C % 2 ^ (j + 1) = M2 at hs hM2
      have HM2 := Lib.hid hm2
      clear hm2
      generalize (2 : Nat) ^ j = Q at eP hP hs hM
      obtain ⟨x, rfl⟩ : ∃ x : Int, x = (X : Int) := ⟨_, rfl⟩
      have hMQ : M + Q < 2 ^ 64 ∨ M2 = M := by
        cases h : bitC k X Y with
        | true => rw [h, if_pos rfl] at hs; omega
        | false => rw [h, if_neg (by decide)] at hs; omega
      clear HS HA HB HL HAL HCL hP hM
      have hX2 : X = 0 ∨ X = 1 := by omega
      have hY2 : Y = 0 ∨ Y = 1 := by omega
      clear hX hY
      rcases HK.out with rfl | rfl | rfl <;> rcases hX2 with rfl | rfl <;> rcases hY2 with rfl | rfl
      all_goals
        simp only [bitC] at hs
        simp at hs eX eY
        subst hs
        go_wp2
        go_roundw
        case rel => exact ⟨j + 1, by omega, by (first | (rw [HM2.out]; done) | (rw [HM2.out]; rfl) | (rw [HM2.out]; push_cast; rfl)), by go_num, by first | rfl | trivial⟩
        case measure => simp [intOf]; omega
    · obtain rfl : j = 64 := by omega
      have hN := HL.out
      rw [Nat.mod_eq_of_lt hN]
      generalize hn0 : natOp k A C = N at hN ⊢
      have HN0 := Lib.hid hn0
      clear hn0
      go_wp2
      go_ret
      exact ⟨by rw [HN0.out]; rfl, rfl⟩
theorem ofInt_u64 (a : Int) : (BitVec.ofInt 64 a).toNat = u64 a := by
  rw [BitVec.toNat_ofInt]
  rfl
theorem bits_op (a b : Int) : wrap64 (natOp 12 (u64 a) (u64 b) : Int) = bits .and .i64 a b ∧ wrap64 (natOp 13 (u64 a) (u64 b) : Int) = bits .xor .i64 a b ∧ wrap64 (natOp 14 (u64 a) (u64 b) : Int) = bits .or .i64 a b := by
  refine ⟨?_, ?_, ?_⟩
  · show _ = IntKind.i64.wrap ((BitVec.ofInt 64 a &&& BitVec.ofInt 64 b).toNat : Int)
    rw [BitVec.toNat_and, ofInt_u64, ofInt_u64, IntWalk.i64_left]
    rfl
  · show _ = IntKind.i64.wrap ((BitVec.ofInt 64 a ^^^ BitVec.ofInt 64 b).toNat : Int)
    rw [BitVec.toNat_xor, ofInt_u64, ofInt_u64, IntWalk.i64_left]
    rfl
  · show _ = IntKind.i64.wrap ((BitVec.ofInt 64 a ||| BitVec.ofInt 64 b).toNat : Int)
    rw [BitVec.toNat_or, ofInt_u64, ofInt_u64, IntWalk.i64_left]
    rfl
end Go.Proofs.YtchpkdpefpiegaaDoor.Tok
