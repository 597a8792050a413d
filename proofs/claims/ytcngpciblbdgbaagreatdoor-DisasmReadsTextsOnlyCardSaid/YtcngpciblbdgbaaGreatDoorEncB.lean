/- Contracts of (field).get and (field).put, kind by kind of width. Conditions: the bytes that they reach are there; put's bytes are those of its caller's own row. -/
import Derived.Test.YtcngpciblbdgbaaGreatDoorEncA
namespace Go.Proofs.YtcngpciblbdgbaaGreatDoor
open Go Go.RowKit

theorem i64_small (n : Nat) (h : n < 9223372036854775808) : IntKind.i64.wrap (n : Int) = (n : Int) := IntWalk.i64_in _ (by omega)
theorem i64_or_nat (a b : Nat) (ha : a < 4294967296) (hb : b < 4294967296) : bits .or .i64 (a : Int) (b : Int) = ((a ||| b : Nat) : Int) := by
  have hx : a ||| b < 2 ^ 32 := Nat.or_lt_two_pow (by omega) (by omega)
  show IntKind.i64.wrap ((BitVec.ofInt 64 (a : Int) ||| BitVec.ofInt 64 (b : Int)).toNat : Int) = _
  rw [BitVec.toNat_or, ofInt_u64 a (by omega), ofInt_u64 b (by omega)]
  exact i64_small _ (by omega)
theorem i64_and_nat (a b : Nat) (ha : a < 4294967296) (hb : b < 4294967296) : bits .and .i64 (a : Int) (b : Int) = ((a &&& b : Nat) : Int) := by
  have hx : a &&& b < 2 ^ 32 := Nat.and_lt_two_pow _ (by omega)
  show IntKind.i64.wrap ((BitVec.ofInt 64 (a : Int) &&& BitVec.ofInt 64 (b : Int)).toNat : Int) = _
  rw [BitVec.toNat_and, ofInt_u64 a (by omega), ofInt_u64 b (by omega)]
  exact i64_small _ (by omega)
theorem or_0 (x : Nat) (h : x < 256) : bits .or .i64 0 (x : Int) = (x : Int) := by
  have := i64_or_nat 0 x (by omega) (by omega)
  rw [Nat.zero_or] at this
  exact this
theorem and_mask (w v : Nat) (hw : w ≤ 32) (h : v < 4294967296) : bits .and .i64 (v : Int) ((2 ^ w - 1 : Nat) : Int) = ((v % 2 ^ w : Nat) : Int) := by
  have hp : 2 ^ w ≤ 2 ^ 32 := Nat.pow_le_pow_right (by decide) hw
  rw [i64_and_nat _ _ h (by omega), Nat.and_two_pow_sub_one_eq_mod]
theorem or_16 (x0 x1 : Nat) (h0 : x0 < 256) (h1 : x1 < 256) : bits .or .i64 (bits .or .i64 0 (x0 : Int)) ((x1 : Int) * 256) = ((x0 + x1 * 256 : Nat) : Int) := by
  rw [or_0 x0 h0, show ((x1 : Int) * 256) = ((x1 * 256 : Nat) : Int) by omega, i64_or_nat _ _ (by omega) (by omega), Nat.or_comm, nat_join 8 _ _ (by omega) (by omega)]
  omega
theorem or_24 (x0 x1 x2 : Nat) (h0 : x0 < 256) (h1 : x1 < 256) (h2 : x2 < 256) : bits .or .i64 (bits .or .i64 (bits .or .i64 0 (x0 : Int)) ((x1 : Int) * 256)) ((x2 : Int) * 65536) = ((x0 + x1 * 256 + x2 * 65536 : Nat) : Int) := by
  rw [or_16 x0 x1 h0 h1, show ((x2 : Int) * 65536) = ((x2 * 65536 : Nat) : Int) by omega, i64_or_nat _ _ (by omega) (by omega), Nat.or_comm, nat_join 16 _ _ (by omega) (by omega)]
  omega
theorem or_32 (x0 x1 x2 x3 : Nat) (h0 : x0 < 256) (h1 : x1 < 256) (h2 : x2 < 256) (h3 : x3 < 256) : bits .or .i64 (bits .or .i64 (bits .or .i64 (bits .or .i64 0 (x0 : Int)) ((x1 : Int) * 256)) ((x2 : Int) * 65536)) ((x3 : Int) * 16777216) = ((x0 + x1 * 256 + x2 * 65536 + x3 * 16777216 : Nat) : Int) := by
  rw [or_24 x0 x1 x2 h0 h1 h2, show ((x3 : Int) * 16777216) = ((x3 * 16777216 : Nat) : Int) by omega, i64_or_nat _ _ (by omega) (by omega), Nat.or_comm, nat_join 24 _ _ (by omega) (by omega)]
  omega

/-! ## get -/
set_option maxHeartbeats 400000 in
theorem get_reg (b o n c p sh : Nat) (hi : Int) (hsh : sh = 0 ∨ sh = 4) (w : World) (x0 : Nat) (h0 : x0 < 256) (hp : p < n) (hpp : p ≤ 1000) (hc0 : w.cell? ⟨b, o + p, none⟩ = some (.int .u8 (x0 : Int))) (hb : b < w.heap.size) :
    Calls Tryz.prog 106 #[.agg #[.int .i64 (p : Int), .int .i64 (sh : Int), .int .i64 4, .int .i64 0, .int .i64 hi], .slice (some ⟨b, o, none⟩) n c] w fun e w' => e = .returned (.int .i64 ((x0 / 2 ^ sh % 16 : Nat) : Int)) ∧ Below w.heap.size w w' := by
  rcases hsh with rfl | rfl
  · have hv : bits BinOp.and IntKind.i64 (bits BinOp.or IntKind.i64 0 ↑x0) 15 = ((x0 / 2 ^ 0 % 16 : Nat) : Int) := by
      rw [or_0 x0 h0, show (15 : Int) = ((2 ^ 4 - 1 : Nat) : Int) from rfl, and_mask 4 _ (by omega) (by omega), Nat.pow_zero, Nat.div_one]
    have Hv := Lib.hid hv
    clear hv
    go_enter Tryz.func106, Tryz.ntmps106
    go_wp2
    refine wp_loop_rounds 2 ?_
    rw [rounds_succ]
    go_wp2
    rw [rounds_succ]
    go_wp2
    go_quiet (fail)
    go_wp2
    go_ret
    exact ⟨ret_int Hv.out, below_drewN ((Below.refl _ _).alloc (Nat.le_refl _) _) _⟩
  · have hv : bits BinOp.and IntKind.i64 (bits BinOp.or IntKind.i64 0 ↑x0 / 16) 15 = ((x0 / 2 ^ 4 % 16 : Nat) : Int) := by
      rw [or_0 x0 h0, show (15 : Int) = ((2 ^ 4 - 1 : Nat) : Int) from rfl, show ((x0 : Int) / 16) = ((x0 / 16 : Nat) : Int) by omega, and_mask 4 _ (by omega) (by omega)]
    have Hv := Lib.hid hv
    clear hv
    go_enter Tryz.func106, Tryz.ntmps106
    go_wp2
    refine wp_loop_rounds 2 ?_
    rw [rounds_succ]
    go_wp2
    rw [rounds_succ]
    go_wp2
    go_quiet (fail)
    go_wp2
    go_ret
    exact ⟨ret_int Hv.out, below_drewN ((Below.refl _ _).alloc (Nat.le_refl _) _) _⟩
set_option maxHeartbeats 400000 in
theorem get_8 (b o n c p : Nat) (w : World) (x0 : Nat) (h0 : x0 < 256) (hp : p < n) (hpp : p ≤ 1000) (hc0 : w.cell? ⟨b, o + p, none⟩ = some (.int .u8 (x0 : Int))) (hb : b < w.heap.size) :
    Calls Tryz.prog 106 #[.agg #[.int .i64 (p : Int), .int .i64 0, .int .i64 8, .int .i64 (-128), .int .i64 127], .slice (some ⟨b, o, none⟩) n c] w fun e w' => e = .returned (.int .i64 (if 127 < (x0 : Int) then (x0 : Int) - 256 else x0)) ∧ Below w.heap.size w w' := by
  have hv : bits BinOp.and IntKind.i64 (bits BinOp.or IntKind.i64 0 ↑x0) 255 = (x0 : Int) := by
    rw [or_0 x0 h0, show (255 : Int) = ((2 ^ 8 - 1 : Nat) : Int) from rfl, and_mask 8 _ (by omega) (by omega), Nat.mod_eq_of_lt (by omega)]
  by_cases ht : 127 < (x0 : Int)
  · have hd : decide (127 < (x0 : Int)) = true := by simpa using ht
    rw [if_pos ht]
    go_enter Tryz.func106, Tryz.ntmps106
    go_wp2
    refine wp_loop_rounds 2 ?_
    rw [rounds_succ]
    go_wp2
    rw [rounds_succ]
    go_wp2
    go_quiet (fail)
    go_wp2
    go_ret
    exact ⟨rfl, below_drewN ((Below.refl _ _).alloc (Nat.le_refl _) _) _⟩
  · have hd : decide (127 < (x0 : Int)) = false := by simpa using ht
    rw [if_neg ht]
    go_enter Tryz.func106, Tryz.ntmps106
    go_wp2
    refine wp_loop_rounds 2 ?_
    rw [rounds_succ]
    go_wp2
    rw [rounds_succ]
    go_wp2
    go_quiet (fail)
    go_wp2
    go_ret
    exact ⟨rfl, below_drewN ((Below.refl _ _).alloc (Nat.le_refl _) _) _⟩
set_option maxHeartbeats 400000 in
theorem get_16 (b o n c p : Nat) (w : World) (x0 x1 : Nat) (h0 : x0 < 256) (h1 : x1 < 256) (hp : p + 1 < n) (hpp : p ≤ 1000) (hc0 : w.cell? ⟨b, o + p, none⟩ = some (.int .u8 (x0 : Int))) (hc1 : w.cell? ⟨b, o + (p + 1), none⟩ = some (.int .u8 (x1 : Int))) (hb : b < w.heap.size) :
    Calls Tryz.prog 106 #[.agg #[.int .i64 (p : Int), .int .i64 0, .int .i64 16, .int .i64 (-32768), .int .i64 32767], .slice (some ⟨b, o, none⟩) n c] w fun e w' => e = .returned (.int .i64 (if 32767 < ((x0 + x1 * 256 : Nat) : Int) then ((x0 + x1 * 256 : Nat) : Int) - 65536 else ((x0 + x1 * 256 : Nat) : Int))) ∧ Below w.heap.size w w' := by
  have hv : bits BinOp.and IntKind.i64 (bits BinOp.or IntKind.i64 (bits BinOp.or IntKind.i64 0 ↑x0) (↑x1 * 256)) 65535 = ((x0 + x1 * 256 : Nat) : Int) := by
    rw [or_16 x0 x1 h0 h1, show (65535 : Int) = ((2 ^ 16 - 1 : Nat) : Int) from rfl, and_mask 16 _ (by omega) (by omega), Nat.mod_eq_of_lt (by omega)]
  have hlt : x0 + x1 * 256 < 65536 := by omega
  generalize x0 + x1 * 256 = v at *
  by_cases ht : 32767 < (v : Int)
  · have hd : decide (32767 < (v : Int)) = true := by simpa using ht
    rw [if_pos ht]
    go_enter Tryz.func106, Tryz.ntmps106
    go_wp2
    refine wp_loop_rounds 3 ?_
    rw [rounds_succ]
    go_wp2
    rw [rounds_succ]
    go_wp2
    rw [rounds_succ]
    go_wp2
    go_quiet (fail)
    go_wp2
    go_ret
    exact ⟨rfl, below_drewN ((Below.refl _ _).alloc (Nat.le_refl _) _) _⟩
  · have hd : decide (32767 < (v : Int)) = false := by simpa using ht
    rw [if_neg ht]
    go_enter Tryz.func106, Tryz.ntmps106
    go_wp2
    refine wp_loop_rounds 3 ?_
    rw [rounds_succ]
    go_wp2
    rw [rounds_succ]
    go_wp2
    rw [rounds_succ]
    go_wp2
    go_quiet (fail)
    go_wp2
    go_ret
    exact ⟨rfl, below_drewN ((Below.refl _ _).alloc (Nat.le_refl _) _) _⟩
set_option maxHeartbeats 400000 in
theorem get_32 (b o n c p : Nat) (w : World) (x0 x1 x2 x3 : Nat) (h0 : x0 < 256) (h1 : x1 < 256) (h2 : x2 < 256) (h3 : x3 < 256) (hp : p + 3 < n) (hpp : p ≤ 1000) (hc0 : w.cell? ⟨b, o + p, none⟩ = some (.int .u8 (x0 : Int))) (hc1 : w.cell? ⟨b, o + (p + 1), none⟩ = some (.int .u8 (x1 : Int)))
    (hc2 : w.cell? ⟨b, o + (p + 2), none⟩ = some (.int .u8 (x2 : Int))) (hc3 : w.cell? ⟨b, o + (p + 3), none⟩ = some (.int .u8 (x3 : Int))) (hb : b < w.heap.size) :
    Calls Tryz.prog 106 #[.agg #[.int .i64 (p : Int), .int .i64 0, .int .i64 32, .int .i64 0, .int .i64 4294967295], .slice (some ⟨b, o, none⟩) n c] w fun e w' => e = .returned (.int .i64 ((x0 + x1 * 256 + x2 * 65536 + x3 * 16777216 : Nat) : Int)) ∧ Below w.heap.size w w' := by
  have hv : bits BinOp.and IntKind.i64 (bits BinOp.or IntKind.i64 (bits BinOp.or IntKind.i64 (bits BinOp.or IntKind.i64 (bits BinOp.or IntKind.i64 0 ↑x0) (↑x1 * 256)) (↑x2 * 65536)) (↑x3 * 16777216)) 4294967295 = ((x0 + x1 * 256 + x2 * 65536 + x3 * 16777216 : Nat) : Int) := by
    rw [or_32 x0 x1 x2 x3 h0 h1 h2 h3, show (4294967295 : Int) = ((2 ^ 32 - 1 : Nat) : Int) from rfl, and_mask 32 _ (by omega) (by omega), Nat.mod_eq_of_lt (by omega)]
  have Hv := Lib.hid hv
  clear hv
  go_enter Tryz.func106, Tryz.ntmps106
  go_wp2
  refine wp_loop_rounds 5 ?_
  rw [rounds_succ]
  go_wp2
  rw [rounds_succ]
  go_wp2
  rw [rounds_succ]
  go_wp2
  rw [rounds_succ]
  go_wp2
  rw [rounds_succ]
  go_wp2
  go_quiet (fail)
  go_wp2
  go_ret
  exact ⟨ret_int Hv.out, below_drewN ((Below.refl _ _).alloc (Nat.le_refl _) _) _⟩
end Go.Proofs.YtcngpciblbdgbaaGreatDoor
