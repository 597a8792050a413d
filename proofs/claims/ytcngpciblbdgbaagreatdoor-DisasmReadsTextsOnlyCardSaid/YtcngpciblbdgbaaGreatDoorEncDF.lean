/- The law file's decodeFault is decFault. Conditions: the table reads as forms, the code as bytes. -/
import Derived.Test.YtcngpciblbdgbaaGreatDoorEncIF
namespace Go.Proofs.YtcngpciblbdgbaaGreatDoor
open Go Go.RowKit Go.Shelf
theorem dfault_end {w W : World} {X : Nat} {p i x y a b : Int} (hb : Below w.heap.size w W) (T : Two W w.heap.size (.int .i64 a) (.int .i64 b)) (U : Two W X (.int .i64 x) (.int .i64 y)) (hX : w.heap.size < X) :
    Two ((W.setCell ⟨X, 0, none⟩ (.int .i64 p)).setCell ⟨X, 1, none⟩ (.int .i64 i)) X (.int .i64 p) (.int .i64 i) ∧ Two ((W.setCell ⟨X, 0, none⟩ (.int .i64 p)).setCell ⟨X, 1, none⟩ (.int .i64 i)) w.heap.size (.int .i64 a) (.int .i64 b) ∧
    Below w.heap.size w ((W.setCell ⟨X, 0, none⟩ (.int .i64 p)).setCell ⟨X, 1, none⟩ (.int .i64 i)) := by
  obtain ⟨s0, s1⟩ := two_set (x := .int .i64 p) (y := .int .i64 i) U.1 U.2.1
  have hne : ¬ w.heap.size = X := by omega
  have hne' : ¬ X = w.heap.size := by omega
  obtain ⟨t0, t1, t2, t3⟩ := T
  obtain ⟨u0, u1, u2, u3⟩ := U
  refine ⟨⟨s0, s1, by simp [u2], by simp [u3]⟩, ⟨?_, ?_, by simp [t2], by simp [t3]⟩, (hb.setCell (p := ⟨X, 0, none⟩) (Nat.le_of_lt hX) _).setCell (p := ⟨X, 1, none⟩) (Nat.le_of_lt hX) _⟩
  · rw [World.cell?_setCell_other _ _ _ _ (by first | (simp; done) | (simp; omega)), World.cell?_setCell_other _ _ _ _ (by first | (simp; done) | (simp; omega))]; exact t0
  · rw [World.cell?_setCell_other _ _ _ _ (by first | (simp; done) | (simp; omega)), World.cell?_setCell_other _ _ _ _ (by first | (simp; done) | (simp; omega))]; exact t1
theorem big_cast {n : Nat} (h : 1500 < n) : (1500 : Int) < (n : Int) := by omega
theorem small_cast {n : Nat} (h : ¬ 1500 < n) : ¬ (1500 : Int) < (n : Int) := by omega
theorem dfault_plain {w W : World} {p i a b x y : Int} {t : TypeId} (hb : Below w.heap.size w W) (h0 : W.cell? ⟨w.heap.size, 0, none⟩ = some (.int .i64 a)) (h1 : W.cell? ⟨w.heap.size, 1, none⟩ = some (.int .i64 b)) :
    (((W.setCell ⟨w.heap.size, 0, none⟩ (.int .i64 p)).setCell ⟨w.heap.size, 1, none⟩ (.int .i64 i)).alloc (.cells #[.int .i64 x, .int .i64 y] t)).cell? ⟨w.heap.size, 0, none⟩ = some (.int .i64 p) ∧
    (((W.setCell ⟨w.heap.size, 0, none⟩ (.int .i64 p)).setCell ⟨w.heap.size, 1, none⟩ (.int .i64 i)).alloc (.cells #[.int .i64 x, .int .i64 y] t)).cell? ⟨w.heap.size, 1, none⟩ = some (.int .i64 i) ∧
    Below w.heap.size w (((W.setCell ⟨w.heap.size, 0, none⟩ (.int .i64 p)).setCell ⟨w.heap.size, 1, none⟩ (.int .i64 i)).alloc (.cells #[.int .i64 x, .int .i64 y] t)) := by
  obtain ⟨y0, y1⟩ := two_set (x := .int .i64 p) (y := .int .i64 i) h0 h1
  have b2 := (hb.setCell (p := ⟨w.heap.size, 0, none⟩) (Nat.le_refl _) (.int .i64 p)).setCell (p := ⟨w.heap.size, 1, none⟩) (Nat.le_refl _) (.int .i64 i)
  exact ⟨cell_alloc_l _ y0, cell_alloc_l _ y1, b2.alloc b2.size _⟩
end Go.Proofs.YtcngpciblbdgbaaGreatDoor
