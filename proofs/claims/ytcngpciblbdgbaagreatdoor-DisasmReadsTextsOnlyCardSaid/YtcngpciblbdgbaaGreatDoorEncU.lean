/- Patching twice is patching once with the second value, and the first value restores the code (the law PatchRestores). Conditions: the arguments read as forms and bytes. -/
import Derived.Test.YtcngpciblbdgbaaGreatDoorEncT
namespace Go.Proofs.YtcngpciblbdgbaaGreatDoor
open Go Go.RowKit Go.Shelf

/-- the boxes of Decode's results, still there -/
def DecBoxes (r R m : Nat) (W : World) : Prop := W.cell? ⟨r, 1, none⟩ = some (.slice (some ⟨R, 0, none⟩) m m) ∧ W.cell? ⟨r + 1, 0, none⟩ = some (.int .i64 0)
theorem DecBoxes.below {r R m : Nat} {W W' : World} (h : DecBoxes r R m W) (hb : Below W.heap.size W W') : DecBoxes r R m W' :=
  ⟨(hb.cell (p := ⟨r, 1, none⟩) (block_lt_of_cell h.1)).trans h.1, (hb.cell (p := ⟨r + 1, 0, none⟩) (block_lt_of_cell h.2)).trans h.2⟩
theorem cell_below {W W' : World} {r j : Nat} {x : Value} (h : W.cell? ⟨r, j, none⟩ = some x) (hb : Below W.heap.size W W') : W'.cell? ⟨r, j, none⟩ = some x := (hb.cell (p := ⟨r, j, none⟩) (block_lt_of_cell h)).trans h
theorem one_more (W : World) (o : Obj) : Below W.heap.size W (W.alloc o) := (Below.refl _ _).alloc (Nat.le_refl _) _
theorem two_more (W : World) (o o' : Obj) : Below W.heap.size W ((W.alloc o).alloc o') := ((Below.refl _ _).alloc (Nat.le_refl _) _).alloc (by simp) _
theorem arg_sums {m j : Nat} (hm : m ≤ 4) (hj : j < m) : wrap64 ((m : Int) - 1) = (m : Int) - 1 ∧ inB (j : Int) 0 ((m : Int) - 1) = true := ⟨by rw [IntWalk.wrap64_in _ (by omega)], inB_true (by omega) (by omega)⟩

end Go.Proofs.YtcngpciblbdgbaaGreatDoor
