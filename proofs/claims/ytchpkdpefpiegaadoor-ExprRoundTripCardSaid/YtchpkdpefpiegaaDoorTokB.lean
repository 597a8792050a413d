/- Contracts of the small functions over bytes and words: isDigit, isNameByte, wordSize; the reference's In, NameByte, digit. No conditions but that a string is not longer than a string may be. -/
import Derived.WalkKit
import Derived.WalkSpells
import Derived.WalkLawsBesides
import Derived.Lib.Hide
import Derived.Deep.QuietTactic
import Derived.BigQuiet
import Derived.Test.YtchpkdpefpiegaaDoorChecked
import Derived.Test.YtchpkdpefpiegaaDoorTokA
namespace Go.Proofs.YtchpkdpefpiegaaDoor.Tok
open Go Go.RowKit

abbrev strV (l : List UInt8) : Value := .string ⟨l.toArray⟩
theorem below_drewN {B : Nat} {a w : World} (h : Below B a w) (n : Nat) : Below B a (w.drewN n) := ⟨h.os, h.tape, h.output, h.size, h.block⟩
theorem ret_bool {a b : Bool} (h : a = b) : Ending.returned (.bool a) = .returned (.bool b) := by rw [h]
theorem ret_int {k : IntKind} {a b : Int} (h : a = b) : Ending.returned (.int k a) = .returned (.int k b) := by rw [h]
set_option maxHeartbeats 400000 in
theorem digit_any (x : Int) (w : World) : Calls Tryd.prog 69 #[.int .u8 x] w fun e w' => e = .returned (.bool (digI x)) ∧ w = w' := by
  go_enter Tryd.func69, Tryd.ntmps69
  go_wp2
  all_goals
    go_ret
    exact ⟨ret_bool (by unfold digI; rw [Bool.eq_iff_iff]; simp <;> omega), rfl⟩
set_option maxHeartbeats 4000000 in
theorem nameByte_any (x : Int) (w : World) : Calls Tryd.prog 92 #[.int .u8 x] w fun e w' => e = .returned (.bool (nameI x)) ∧ w = w' := by
  cases hd : digI x with
  | true =>
    have hd1 : 48 ≤ x ∧ x ≤ 57 := by simpa [digI] using hd
    obtain ⟨h1, h2⟩ := hd1
    have hn := Lib.hid (show nameI x = true by simp [nameI, hd])
    go_enter Tryd.func92, Tryd.ntmps92
    go_wp2_with (go_at_call 69; refine (digit_any _ _).mono ?_; rintro e w' ⟨rfl, rfl⟩; rw [hd])
    all_goals
      go_ret
      exact ⟨ret_bool hn.out.symm, rfl⟩
  | false =>
    have H := Lib.hid (show nameI x = (decide (97 ≤ x) && decide (x ≤ 122) || decide (65 ≤ x) && decide (x ≤ 90) || decide (x = 46) || decide (x = 95) || decide (x = 36)) by simp [nameI, hd])
    go_enter Tryd.func92, Tryd.ntmps92
    go_wp2_with (go_at_call 69; refine (digit_any _ _).mono ?_; rintro e w' ⟨rfl, rfl⟩; rw [hd])
    all_goals
      go_ret
      refine ⟨ret_bool (H.out.trans ?_).symm, rfl⟩
      rw [Bool.eq_iff_iff]
      simp <;> omega
/-! ## the reference's -/
def inB (n a b : Int) : Bool := decide (a ≤ n) && decide (n ≤ b)
set_option maxHeartbeats 400000 in
theorem in_any (n a b : Int) (w : World) : Calls Tryd.prog 14 #[.int .i64 n, .int .i64 a, .int .i64 b] w fun e w' => e = .returned (.bool (inB n a b)) ∧ w = w' := by
  by_cases h1 : a ≤ n
  · by_cases h2 : n ≤ b
    · go_enter Tryd.func14, Tryd.ntmps14
      go_wp2
      go_ret
      exact ⟨by simp [inB, h1, h2], rfl⟩
    · go_enter Tryd.func14, Tryd.ntmps14
      go_wp2
      go_ret
      exact ⟨by simp [inB, h1, h2], rfl⟩
  · go_enter Tryd.func14, Tryd.ntmps14
    go_wp2
    go_ret
    exact ⟨by simp [inB]; omega, rfl⟩
theorem at_any (c i : Int) (w : World) : Calls Tryd.prog 12 #[.int .i64 c, .int .i64 i] w fun e w' => e = .returned (.agg #[.int .i64 c, .int .i64 i]) ∧ Below w.heap.size w w' := by
  go_enter Tryd.func12, Tryd.ntmps12
  go_wp2
  exact bodyPost_ret (v := .agg #[.int .i64 c, .int .i64 i]) (by simp [results, Tryd.results12, go_sem]) rfl ⟨rfl, (Below.refl _ _).alloc (Nat.le_refl _) _⟩
set_option maxHeartbeats 4000000 in
theorem rnameByte_any (c : UInt8) (w : World) : Calls Tryd.prog 59 #[.int .u8 (c.toNat : Int)] w fun e w' => e = .returned (.bool (nameB c)) ∧ w = w' := by
  have hc := c.toNat_lt
  have H := Lib.hid (show nameB c = (inB c.toNat 97 122 || inB c.toNat 65 90 || inB c.toNat 48 57 || decide ((c.toNat : Int) = 46) || decide ((c.toNat : Int) = 95) || decide ((c.toNat : Int) = 36)) from rfl)
  cases h1 : inB c.toNat 97 122 <;> cases h2 : inB c.toNat 65 90 <;> cases h3 : inB c.toNat 48 57
  all_goals
    rw [h1, h2, h3] at H
    go_enter Tryd.func59, Tryd.ntmps59
    go_wp2_with (go_at_call 14; refine (in_any _ _ _ _).mono ?_; rintro e w' ⟨rfl, rfl⟩; first | rw [h1] | rw [h2] | rw [h3])
    all_goals
      go_ret
      refine ⟨ret_bool (H.out.trans ?_).symm, rfl⟩
      rw [Bool.eq_iff_iff]
      simp <;> omega
set_option maxHeartbeats 4000000 in
theorem rdigit_any (c : UInt8) (w : World) : Calls Tryd.prog 76 #[.int .u8 (c.toNat : Int)] w fun e w' => e = .returned (.int .i64 (hexB c)) ∧ w = w' := by
  have hc := c.toNat_lt
  have H := Lib.hid (show hexB c = if inB c.toNat 48 57 = true then (c.toNat : Int) - 48 else if inB c.toNat 97 102 = true then (c.toNat : Int) - 97 + 10 else if inB c.toNat 65 70 = true then (c.toNat : Int) - 65 + 10 else -1 by
    unfold hexB hexI inB
    simp only [Bool.and_eq_true, decide_eq_true_eq]
    repeat' split
    all_goals omega)
  cases h1 : inB c.toNat 48 57 <;> cases h2 : inB c.toNat 97 102 <;> cases h3 : inB c.toNat 65 70
  all_goals
    rw [h1, h2, h3] at H
    go_enter Tryd.func76, Tryd.ntmps76
    go_wp2_with (go_at_call 14; refine (in_any _ _ _ _).mono ?_; rintro e w' ⟨rfl, rfl⟩; first | rw [h1] | rw [h2] | rw [h3])
    all_goals
      go_ret
      exact ⟨ret_int (by rw [H.out]; simp), rfl⟩
end Go.Proofs.YtchpkdpefpiegaaDoor.Tok
