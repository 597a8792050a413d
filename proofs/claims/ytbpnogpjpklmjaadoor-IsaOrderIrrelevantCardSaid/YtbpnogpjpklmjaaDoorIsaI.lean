/- The contract of operands: the operand kinds of each form of the default table. -/
import Derived.Test.YtbpnogpjpklmjaaDoorIsaH
namespace Go.Proofs.YtbpnogpjpklmjaaDoor
open Go Go.RowKit Go.Shelf

/-- the slice value v reads as the numbers ks; its cells lie in block lo or beyond -/
def KindsOver (lo : Nat) (w : World) (v : Value) (ks : List Int) : Prop :=
  ∃ A c, v = .slice A ks.length c ∧ ks.length ≤ 17592186044416 ∧
   (0 < ks.length → ∃ b off, A = some ⟨b, off, none⟩ ∧ lo ≤ b ∧ ∀ j, j < ks.length → w.cell? ⟨b, off + j, none⟩ = some (.int .i64 (ks[j]?.getD 0)))
theorem KindsOver.at {lo : Nat} {w : World} {v : Value} {ks : List Int} (h : KindsOver lo w v ks) : KindsAt w.heap.size w v ks := by
  obtain ⟨A, c, h1, h2, h3⟩ := h
  refine ⟨A, c, h1, h2, fun hn => ?_⟩
  obtain ⟨b, off, ha, _, hc⟩ := h3 hn
  exact ⟨b, off, ha, block_lt_of_cell (hc 0 hn), hc⟩
theorem KindsOver.kept {lo : Nat} {w w' : World} {v : Value} {ks : List Int} {row : Option Nat} (h : KindsOver lo w v ks) (hg : w.grownBy w' row) (hr : ∀ r, row = some r → r < lo) : KindsOver lo w' v ks := by
  obtain ⟨A, c, h1, h2, h3⟩ := h
  refine ⟨A, c, h1, h2, fun hn => ?_⟩
  obtain ⟨b, off, ha, hl, hc⟩ := h3 hn
  refine ⟨b, off, ha, hl, fun j hj => (World.cell?_of_block (w := w) (w' := w') (a := ⟨b, off + j, none⟩) (hg.block b (block_lt_of_cell (hc j hj)) (fun e => by have := hr b e.symm; omega))).trans (hc j hj)⟩
theorem KindsOver.mono {lo lo' : Nat} {w : World} {v : Value} {ks : List Int} (h : KindsOver lo w v ks) (hl : lo' ≤ lo) : KindsOver lo' w v ks := by
  obtain ⟨A, c, h1, h2, h3⟩ := h
  refine ⟨A, c, h1, h2, fun hn => ?_⟩
  obtain ⟨b, off, ha, hlo, hc⟩ := h3 hn
  exact ⟨b, off, ha, by omega, hc⟩

/-- a call hands back a slice that reads as the numbers ks, in memory of its own; what lay, lies -/
def GivesKinds (ks : List Int) (w : World) (e : Ending) (w' : World) : Prop := ∃ A n c, e = .returned (.slice A n c) ∧ KindsOver w.heap.size w' (.slice A n c) ks ∧ Below w.heap.size w w'
theorem GivesKinds.nil (w : World) : GivesKinds [] w (.returned (.slice none 0 0)) w := ⟨_, _, _, rfl, ⟨none, 0, rfl, by simp, fun h => absurd h (by simp)⟩, Below.refl _ _⟩
theorem GivesKinds.one (w : World) (a : Int) (t : TypeId) : GivesKinds [a] w (.returned (.slice (some ⟨w.heap.size, 0, none⟩) 1 1)) (w.alloc (.cells #[.int .i64 a] t)) :=
  ⟨_, _, _, rfl, ⟨_, 1, rfl, by simp, fun _ => ⟨_, 0, rfl, Nat.le_refl _, fun j hj => by
    have : j = 0 := by simp at hj; exact hj
    subst this; simp⟩⟩, (Below.refl _ _).alloc (Nat.le_refl _) _⟩
theorem GivesKinds.two (w : World) (a b : Int) (t : TypeId) : GivesKinds [a, b] w (.returned (.slice (some ⟨w.heap.size, 0, none⟩) 2 2)) (w.alloc (.cells #[.int .i64 a, .int .i64 b] t)) :=
  ⟨_, _, _, rfl, ⟨_, 2, rfl, by simp, fun _ => ⟨_, 0, rfl, Nat.le_refl _, fun j hj => by
    have : j = 0 ∨ j = 1 := by simp at hj; omega
    rcases this with rfl | rfl <;> simp⟩⟩, (Below.refl _ _).alloc (Nat.le_refl _) _⟩
theorem GivesKinds.three (w : World) (a b c : Int) (t : TypeId) : GivesKinds [a, b, c] w (.returned (.slice (some ⟨w.heap.size, 0, none⟩) 3 3)) (w.alloc (.cells #[.int .i64 a, .int .i64 b, .int .i64 c] t)) :=
  ⟨_, _, _, rfl, ⟨_, 3, rfl, by simp, fun _ => ⟨_, 0, rfl, Nat.le_refl _, fun j hj => by
    have : j = 0 ∨ j = 1 ∨ j = 2 := by simp at hj; omega
    rcases this with rfl | rfl | rfl <;> simp⟩⟩, (Below.refl _ _).alloc (Nat.le_refl _) _⟩

theorem operands_0 (w : World) : Calls Tryd.prog 30 #[.int .i64 0] w (GivesKinds [] w) := by
  go_enter Tryd.func30, Tryd.ntmps30
  go_wp2
  go_ret
  exact .nil _
theorem operands_1 (w : World) : Calls Tryd.prog 30 #[.int .i64 1] w (GivesKinds [] w) := by
  go_enter Tryd.func30, Tryd.ntmps30
  go_wp2
  go_ret
  exact .nil _
theorem operands_2 (w : World) : Calls Tryd.prog 30 #[.int .i64 2] w (GivesKinds [] w) := by
  go_enter Tryd.func30, Tryd.ntmps30
  go_wp2
  go_ret
  exact .nil _
theorem operands_3 (w : World) : Calls Tryd.prog 30 #[.int .i64 3] w (GivesKinds [3] w) := by
  go_enter Tryd.func30, Tryd.ntmps30
  go_wp2
  go_ret
  exact .one _ _ _
theorem operands_4 (w : World) : Calls Tryd.prog 30 #[.int .i64 4] w (GivesKinds [] w) := by
  go_enter Tryd.func30, Tryd.ntmps30
  go_wp2
  go_ret
  exact .nil _
theorem operands_5 (w : World) : Calls Tryd.prog 30 #[.int .i64 5] w (GivesKinds [] w) := by
  go_enter Tryd.func30, Tryd.ntmps30
  go_wp2
  go_ret
  exact .nil _
theorem operands_6 (w : World) : Calls Tryd.prog 30 #[.int .i64 6] w (GivesKinds [1, 1] w) := by
  go_enter Tryd.func30, Tryd.ntmps30
  go_wp2
  go_ret
  exact .two _ _ _ _
theorem operands_7 (w : World) : Calls Tryd.prog 30 #[.int .i64 7] w (GivesKinds [1, 4] w) := by
  go_enter Tryd.func30, Tryd.ntmps30
  go_wp2
  go_ret
  exact .two _ _ _ _
theorem operands_8 (w : World) : Calls Tryd.prog 30 #[.int .i64 8] w (GivesKinds [1, 3] w) := by
  go_enter Tryd.func30, Tryd.ntmps30
  go_wp2
  go_ret
  exact .two _ _ _ _
theorem operands_9 (w : World) : Calls Tryd.prog 30 #[.int .i64 9] w (GivesKinds [1, 1] w) := by
  go_enter Tryd.func30, Tryd.ntmps30
  go_wp2
  go_ret
  exact .two _ _ _ _
theorem operands_10 (w : World) : Calls Tryd.prog 30 #[.int .i64 10] w (GivesKinds [1, 3] w) := by
  go_enter Tryd.func30, Tryd.ntmps30
  go_wp2
  go_ret
  exact .two _ _ _ _
theorem operands_11 (w : World) : Calls Tryd.prog 30 #[.int .i64 11] w (GivesKinds [1, 1] w) := by
  go_enter Tryd.func30, Tryd.ntmps30
  go_wp2
  go_ret
  exact .two _ _ _ _
theorem operands_12 (w : World) : Calls Tryd.prog 30 #[.int .i64 12] w (GivesKinds [1, 1] w) := by
  go_enter Tryd.func30, Tryd.ntmps30
  go_wp2
  go_ret
  exact .two _ _ _ _
theorem operands_13 (w : World) : Calls Tryd.prog 30 #[.int .i64 13] w (GivesKinds [1, 1] w) := by
  go_enter Tryd.func30, Tryd.ntmps30
  go_wp2
  go_ret
  exact .two _ _ _ _
theorem operands_14 (w : World) : Calls Tryd.prog 30 #[.int .i64 14] w (GivesKinds [1, 1] w) := by
  go_enter Tryd.func30, Tryd.ntmps30
  go_wp2
  go_ret
  exact .two _ _ _ _
theorem operands_15 (w : World) : Calls Tryd.prog 30 #[.int .i64 15] w (GivesKinds [1, 1] w) := by
  go_enter Tryd.func30, Tryd.ntmps30
  go_wp2
  go_ret
  exact .two _ _ _ _
theorem operands_16 (w : World) : Calls Tryd.prog 30 #[.int .i64 16] w (GivesKinds [1, 1] w) := by
  go_enter Tryd.func30, Tryd.ntmps30
  go_wp2
  go_ret
  exact .two _ _ _ _
theorem operands_17 (w : World) : Calls Tryd.prog 30 #[.int .i64 17] w (GivesKinds [1, 1] w) := by
  go_enter Tryd.func30, Tryd.ntmps30
  go_wp2
  go_ret
  exact .two _ _ _ _
theorem operands_18 (w : World) : Calls Tryd.prog 30 #[.int .i64 18] w (GivesKinds [1, 1] w) := by
  go_enter Tryd.func30, Tryd.ntmps30
  go_wp2
  go_ret
  exact .two _ _ _ _
theorem operands_19 (w : World) : Calls Tryd.prog 30 #[.int .i64 19] w (GivesKinds [1, 1] w) := by
  go_enter Tryd.func30, Tryd.ntmps30
  go_wp2
  go_ret
  exact .two _ _ _ _
theorem operands_20 (w : World) : Calls Tryd.prog 30 #[.int .i64 20] w (GivesKinds [1, 3] w) := by
  go_enter Tryd.func30, Tryd.ntmps30
  go_wp2
  go_ret
  exact .two _ _ _ _
theorem operands_21 (w : World) : Calls Tryd.prog 30 #[.int .i64 21] w (GivesKinds [1, 1, 3] w) := by
  go_enter Tryd.func30, Tryd.ntmps30
  go_wp2
  go_ret
  exact .three _ _ _ _ _
theorem operands_22 (w : World) : Calls Tryd.prog 30 #[.int .i64 22] w (GivesKinds [1, 1, 3] w) := by
  go_enter Tryd.func30, Tryd.ntmps30
  go_wp2
  go_ret
  exact .three _ _ _ _ _
theorem operands_23 (w : World) : Calls Tryd.prog 30 #[.int .i64 23] w (GivesKinds [1, 1, 3] w) := by
  go_enter Tryd.func30, Tryd.ntmps30
  go_wp2
  go_ret
  exact .three _ _ _ _ _
theorem operands_24 (w : World) : Calls Tryd.prog 30 #[.int .i64 24] w (GivesKinds [1, 1, 3] w) := by
  go_enter Tryd.func30, Tryd.ntmps30
  go_wp2
  go_ret
  exact .three _ _ _ _ _
theorem operands_25 (w : World) : Calls Tryd.prog 30 #[.int .i64 25] w (GivesKinds [1] w) := by
  go_enter Tryd.func30, Tryd.ntmps30
  go_wp2
  go_ret
  exact .one _ _ _
theorem operands_26 (w : World) : Calls Tryd.prog 30 #[.int .i64 26] w (GivesKinds [1] w) := by
  go_enter Tryd.func30, Tryd.ntmps30
  go_wp2
  go_ret
  exact .one _ _ _
theorem operands_27 (w : World) : Calls Tryd.prog 30 #[.int .i64 27] w (GivesKinds [5] w) := by
  go_enter Tryd.func30, Tryd.ntmps30
  go_wp2
  go_ret
  exact .one _ _ _
theorem operands_28 (w : World) : Calls Tryd.prog 30 #[.int .i64 28] w (GivesKinds [6] w) := by
  go_enter Tryd.func30, Tryd.ntmps30
  go_wp2
  go_ret
  exact .one _ _ _
theorem operands_29 (w : World) : Calls Tryd.prog 30 #[.int .i64 29] w (GivesKinds [5] w) := by
  go_enter Tryd.func30, Tryd.ntmps30
  go_wp2
  go_ret
  exact .one _ _ _
theorem operands_30 (w : World) : Calls Tryd.prog 30 #[.int .i64 30] w (GivesKinds [6] w) := by
  go_enter Tryd.func30, Tryd.ntmps30
  go_wp2
  go_ret
  exact .one _ _ _
theorem operands_31 (w : World) : Calls Tryd.prog 30 #[.int .i64 31] w (GivesKinds [5] w) := by
  go_enter Tryd.func30, Tryd.ntmps30
  go_wp2
  go_ret
  exact .one _ _ _
theorem operands_32 (w : World) : Calls Tryd.prog 30 #[.int .i64 32] w (GivesKinds [6] w) := by
  go_enter Tryd.func30, Tryd.ntmps30
  go_wp2
  go_ret
  exact .one _ _ _
theorem operands_33 (w : World) : Calls Tryd.prog 30 #[.int .i64 33] w (GivesKinds [5] w) := by
  go_enter Tryd.func30, Tryd.ntmps30
  go_wp2
  go_ret
  exact .one _ _ _
theorem operands_34 (w : World) : Calls Tryd.prog 30 #[.int .i64 34] w (GivesKinds [6] w) := by
  go_enter Tryd.func30, Tryd.ntmps30
  go_wp2
  go_ret
  exact .one _ _ _
theorem operands_35 (w : World) : Calls Tryd.prog 30 #[.int .i64 35] w (GivesKinds [5] w) := by
  go_enter Tryd.func30, Tryd.ntmps30
  go_wp2
  go_ret
  exact .one _ _ _
theorem operands_36 (w : World) : Calls Tryd.prog 30 #[.int .i64 36] w (GivesKinds [6] w) := by
  go_enter Tryd.func30, Tryd.ntmps30
  go_wp2
  go_ret
  exact .one _ _ _
theorem operands_37 (w : World) : Calls Tryd.prog 30 #[.int .i64 37] w (GivesKinds [1] w) := by
  go_enter Tryd.func30, Tryd.ntmps30
  go_wp2
  go_ret
  exact .one _ _ _
theorem operands_38 (w : World) : Calls Tryd.prog 30 #[.int .i64 38] w (GivesKinds [4] w) := by
  go_enter Tryd.func30, Tryd.ntmps30
  go_wp2
  go_ret
  exact .one _ _ _
theorem operands_39 (w : World) : Calls Tryd.prog 30 #[.int .i64 39] w (GivesKinds [4] w) := by
  go_enter Tryd.func30, Tryd.ntmps30
  go_wp2
  go_ret
  exact .one _ _ _
theorem operands_40 (w : World) : Calls Tryd.prog 30 #[.int .i64 40] w (GivesKinds [6] w) := by
  go_enter Tryd.func30, Tryd.ntmps30
  go_wp2
  go_ret
  exact .one _ _ _
theorem operands_41 (w : World) : Calls Tryd.prog 30 #[.int .i64 41] w (GivesKinds [1] w) := by
  go_enter Tryd.func30, Tryd.ntmps30
  go_wp2
  go_ret
  exact .one _ _ _
theorem operands_42 (w : World) : Calls Tryd.prog 30 #[.int .i64 42] w (GivesKinds [] w) := by
  go_enter Tryd.func30, Tryd.ntmps30
  go_wp2
  go_ret
  exact .nil _
theorem operands_43 (w : World) : Calls Tryd.prog 30 #[.int .i64 43] w (GivesKinds [1, 6] w) := by
  go_enter Tryd.func30, Tryd.ntmps30
  go_wp2
  go_ret
  exact .two _ _ _ _
theorem operands_44 (w : World) : Calls Tryd.prog 30 #[.int .i64 44] w (GivesKinds [2, 1] w) := by
  go_enter Tryd.func30, Tryd.ntmps30
  go_wp2
  go_ret
  exact .two _ _ _ _
theorem operands_45 (w : World) : Calls Tryd.prog 30 #[.int .i64 45] w (GivesKinds [2, 1] w) := by
  go_enter Tryd.func30, Tryd.ntmps30
  go_wp2
  go_ret
  exact .two _ _ _ _
theorem operands_46 (w : World) : Calls Tryd.prog 30 #[.int .i64 46] w (GivesKinds [2, 2] w) := by
  go_enter Tryd.func30, Tryd.ntmps30
  go_wp2
  go_ret
  exact .two _ _ _ _
theorem operands_47 (w : World) : Calls Tryd.prog 30 #[.int .i64 47] w (GivesKinds [2, 2] w) := by
  go_enter Tryd.func30, Tryd.ntmps30
  go_wp2
  go_ret
  exact .two _ _ _ _
theorem operands_48 (w : World) : Calls Tryd.prog 30 #[.int .i64 48] w (GivesKinds [1, 2] w) := by
  go_enter Tryd.func30, Tryd.ntmps30
  go_wp2
  go_ret
  exact .two _ _ _ _
theorem operands_49 (w : World) : Calls Tryd.prog 30 #[.int .i64 49] w (GivesKinds [2, 1] w) := by
  go_enter Tryd.func30, Tryd.ntmps30
  go_wp2
  go_ret
  exact .two _ _ _ _
theorem operands_50 (w : World) : Calls Tryd.prog 30 #[.int .i64 50] w (GivesKinds [1, 1] w) := by
  go_enter Tryd.func30, Tryd.ntmps30
  go_wp2
  go_ret
  exact .two _ _ _ _
theorem operands_51 (w : World) : Calls Tryd.prog 30 #[.int .i64 51] w (GivesKinds [1, 1] w) := by
  go_enter Tryd.func30, Tryd.ntmps30
  go_wp2
  go_ret
  exact .two _ _ _ _
theorem operands_52 (w : World) : Calls Tryd.prog 30 #[.int .i64 52] w (GivesKinds [1, 1, 1] w) := by
  go_enter Tryd.func30, Tryd.ntmps30
  go_wp2
  go_ret
  exact .three _ _ _ _ _
theorem operands_53 (w : World) : Calls Tryd.prog 30 #[.int .i64 53] w (GivesKinds [1] w) := by
  go_enter Tryd.func30, Tryd.ntmps30
  go_wp2
  go_ret
  exact .one _ _ _
theorem operands_54 (w : World) : Calls Tryd.prog 30 #[.int .i64 54] w (GivesKinds [1] w) := by
  go_enter Tryd.func30, Tryd.ntmps30
  go_wp2
  go_ret
  exact .one _ _ _
theorem operands_55 (w : World) : Calls Tryd.prog 30 #[.int .i64 55] w (GivesKinds [1] w) := by
  go_enter Tryd.func30, Tryd.ntmps30
  go_wp2
  go_ret
  exact .one _ _ _
theorem operands_56 (w : World) : Calls Tryd.prog 30 #[.int .i64 56] w (GivesKinds [1] w) := by
  go_enter Tryd.func30, Tryd.ntmps30
  go_wp2
  go_ret
  exact .one _ _ _
theorem operands_57 (w : World) : Calls Tryd.prog 30 #[.int .i64 57] w (GivesKinds [1] w) := by
  go_enter Tryd.func30, Tryd.ntmps30
  go_wp2
  go_ret
  exact .one _ _ _
theorem operands_58 (w : World) : Calls Tryd.prog 30 #[.int .i64 58] w (GivesKinds [4] w) := by
  go_enter Tryd.func30, Tryd.ntmps30
  go_wp2
  go_ret
  exact .one _ _ _
def kindsTab : List (List Int) := [[], [], [], [3], [], [], [1, 1], [1, 4], [1, 3], [1, 1], [1, 3], [1, 1], [1, 1], [1, 1], [1, 1], [1, 1], [1, 1], [1, 1], [1, 1], [1, 1], [1, 3], [1, 1, 3], [1, 1, 3], [1, 1, 3], [1, 1, 3], [1], [1], [5], [6], [5], [6], [5], [6], [5], [6], [5], [6], [1], [4], [4], [6], [1], [], [1, 6], [2, 1], [2, 1], [2, 2], [2, 2], [1, 2], [2, 1], [1, 1], [1, 1], [1, 1, 1], [1], [1], [1], [1], [1], [4]]
theorem operands_any (k : Nat) (hk : k < 59) (w : World) : Calls Tryd.prog 30 #[.int .i64 (k : Int)] w (GivesKinds (kindsTab.getD k []) w) := by
  match k, hk with
  | 0, _ => exact operands_0 w
  | 1, _ => exact operands_1 w
  | 2, _ => exact operands_2 w
  | 3, _ => exact operands_3 w
  | 4, _ => exact operands_4 w
  | 5, _ => exact operands_5 w
  | 6, _ => exact operands_6 w
  | 7, _ => exact operands_7 w
  | 8, _ => exact operands_8 w
  | 9, _ => exact operands_9 w
  | 10, _ => exact operands_10 w
  | 11, _ => exact operands_11 w
  | 12, _ => exact operands_12 w
  | 13, _ => exact operands_13 w
  | 14, _ => exact operands_14 w
  | 15, _ => exact operands_15 w
  | 16, _ => exact operands_16 w
  | 17, _ => exact operands_17 w
  | 18, _ => exact operands_18 w
  | 19, _ => exact operands_19 w
  | 20, _ => exact operands_20 w
  | 21, _ => exact operands_21 w
  | 22, _ => exact operands_22 w
  | 23, _ => exact operands_23 w
  | 24, _ => exact operands_24 w
  | 25, _ => exact operands_25 w
  | 26, _ => exact operands_26 w
  | 27, _ => exact operands_27 w
  | 28, _ => exact operands_28 w
  | 29, _ => exact operands_29 w
  | 30, _ => exact operands_30 w
  | 31, _ => exact operands_31 w
  | 32, _ => exact operands_32 w
  | 33, _ => exact operands_33 w
  | 34, _ => exact operands_34 w
  | 35, _ => exact operands_35 w
  | 36, _ => exact operands_36 w
  | 37, _ => exact operands_37 w
  | 38, _ => exact operands_38 w
  | 39, _ => exact operands_39 w
  | 40, _ => exact operands_40 w
  | 41, _ => exact operands_41 w
  | 42, _ => exact operands_42 w
  | 43, _ => exact operands_43 w
  | 44, _ => exact operands_44 w
  | 45, _ => exact operands_45 w
  | 46, _ => exact operands_46 w
  | 47, _ => exact operands_47 w
  | 48, _ => exact operands_48 w
  | 49, _ => exact operands_49 w
  | 50, _ => exact operands_50 w
  | 51, _ => exact operands_51 w
  | 52, _ => exact operands_52 w
  | 53, _ => exact operands_53 w
  | 54, _ => exact operands_54 w
  | 55, _ => exact operands_55 w
  | 56, _ => exact operands_56 w
  | 57, _ => exact operands_57 w
  | 58, _ => exact operands_58 w
  | k + 59, h => exact absurd h (by omega)
end Go.Proofs.YtbpnogpjpklmjaaDoor
