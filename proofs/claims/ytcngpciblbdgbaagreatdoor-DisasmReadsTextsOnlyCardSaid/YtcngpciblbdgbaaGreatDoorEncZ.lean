/- The reference's Limits: the range of an operand. No condition. -/
import Derived.Test.YtcngpciblbdgbaaGreatDoorEncX
namespace Go.Proofs.YtcngpciblbdgbaaGreatDoor
open Go Go.RowKit Go.Shelf
theorem limits_any (k : Int) (w : World) : Calls Tryz.prog 30 #[.int .i64 k] w fun e w' => e = .returned (.tuple #[.int .i64 (lowOf k), .int .i64 (highOf k)]) ∧ w = w' := by
  by_cases h1 : k = 1
  · subst h1
    go_enter Tryz.func30, Tryz.ntmps30
    go_wp2
    refine bodyPost_ret (v := .tuple #[.int .i64 (lowOf 1), .int .i64 (highOf 1)]) (by simp [results, Tryz.results30, go_sem, lowOf, highOf, isReg]) rfl ⟨rfl, rfl⟩
  by_cases h2 : k = 2
  · subst h2
    go_enter Tryz.func30, Tryz.ntmps30
    go_wp2
    refine bodyPost_ret (v := .tuple #[.int .i64 (lowOf 2), .int .i64 (highOf 2)]) (by simp [results, Tryz.results30, go_sem, lowOf, highOf, isReg]) rfl ⟨rfl, rfl⟩
  by_cases h4 : k = 4
  · subst h4
    go_enter Tryz.func30, Tryz.ntmps30
    go_wp2
    refine bodyPost_ret (v := .tuple #[.int .i64 (lowOf 4), .int .i64 (highOf 4)]) (by simp [results, Tryz.results30, go_sem, lowOf, highOf, isReg]) rfl ⟨rfl, rfl⟩
  by_cases h6 : k = 6
  · subst h6
    go_enter Tryz.func30, Tryz.ntmps30
    go_wp2
    refine bodyPost_ret (v := .tuple #[.int .i64 (lowOf 6), .int .i64 (highOf 6)]) (by simp [results, Tryz.results30, go_sem, lowOf, highOf, isReg]) rfl ⟨rfl, rfl⟩
  have e1 : lowOf k = -128 := by simp [lowOf, isReg, h1, h2, h4, h6]
  have e2 : highOf k = 127 := by simp [highOf, h1, h2, h4, h6]
  rw [e1, e2]
  have d1 : (k == 1) = false := by simpa using h1
  have d2 : (k == 2) = false := by simpa using h2
  have d4 : (k == 4) = false := by simpa using h4
  have d6 : (k == 6) = false := by simpa using h6
  go_enter Tryz.func30, Tryz.ntmps30
  go_wp2
  refine bodyPost_ret (v := .tuple #[.int .i64 (-128), .int .i64 127]) (by simp [results, Tryz.results30, go_sem]) rfl ⟨rfl, rfl⟩
end Go.Proofs.YtcngpciblbdgbaaGreatDoor
