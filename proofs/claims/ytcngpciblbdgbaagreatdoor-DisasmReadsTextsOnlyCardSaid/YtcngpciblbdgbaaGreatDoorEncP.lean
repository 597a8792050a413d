/- Different instructions have different encodings (the law EncodeInjective). Conditions: the arguments read as forms and instructions. -/
import Derived.Deep.RegionHeld3
import Derived.Test.YtcngpciblbdgbaaGreatDoorEncO
namespace Go.Proofs.YtcngpciblbdgbaaGreatDoor
open Go Go.RowKit Go.Shelf

/-- two boxes of instructions -/
def InsBoxes (w0 : Nat) (a b : Int) (v1 v2 : Value) (W : World) : Prop :=
  (W.cell? ⟨w0, 0, none⟩ = some (.int .i64 a) ∧ W.cell? ⟨w0, 1, none⟩ = some v1) ∧ W.cell? ⟨w0 + 1, 0, none⟩ = some (.int .i64 b) ∧ W.cell? ⟨w0 + 1, 1, none⟩ = some v2
theorem InsBoxes.below {w0 : Nat} {a b : Int} {v1 v2 : Value} {W W' : World} (h : InsBoxes w0 a b v1 v2 W) (hb : Below W.heap.size W W') : InsBoxes w0 a b v1 v2 W' := by
  obtain ⟨⟨h1, h2⟩, h3, h4⟩ := h
  exact ⟨⟨(hb.cell (p := ⟨w0, 0, none⟩) (block_lt_of_cell h1)).trans h1, (hb.cell (p := ⟨w0, 1, none⟩) (block_lt_of_cell h2)).trans h2⟩, (hb.cell (p := ⟨w0 + 1, 0, none⟩) (block_lt_of_cell h3)).trans h3, (hb.cell (p := ⟨w0 + 1, 1, none⟩) (block_lt_of_cell h4)).trans h4⟩

theorem box_kept {W2 W3 : World} {x y : Value} {t : TypeId} (hb : Below (W2.alloc (.cells #[x, y] t)).heap.size (W2.alloc (.cells #[x, y] t)) W3) : W3.cell? ⟨W2.heap.size, 0, none⟩ = some x ∧ Below W2.heap.size W2 W3 := by
  have h0 : Below W2.heap.size W2 (W2.alloc (.cells #[x, y] t)) := (Below.refl _ _).alloc (Nat.le_refl _) _
  exact ⟨(hb.cell (p := ⟨W2.heap.size, 0, none⟩) (by simp)).trans (by simp), h0.trans (hb.mono h0.size)⟩
theorem enc_some (fs : List Frm) (form : Int) (xs : List Int) : ∃ q j, ∀ (B : Nat) (v av : Value) (w : World), FormsAt B w v fs → KindsAt B w av xs → B ≤ w.heap.size →
    Calls Tryz.prog 19 #[v, .agg #[.int .i64 form, av]] w fun e w' => ∃ A n c, e = .returned (.tuple #[.slice A n c, faultV (q, j)]) ∧ Below w.heap.size w w' := by
  rcases enc_cases fs form xs with ⟨p, i, _, _, E⟩ | ⟨k, f, rfl, o, _⟩
  · exact ⟨p, i, fun B v av w h ha hB => (E B v av w h ha hB).mono fun e w' ⟨he, hb⟩ => ⟨_, _, _, he, hb⟩⟩
  · exact ⟨0, 0, fun B v av w h ha hB => (o.calls B v av w h ha hB).mono fun e w' ⟨R, he, _, hb⟩ => ⟨_, _, _, he, hb⟩⟩

end Go.Proofs.YtcngpciblbdgbaaGreatDoor
