/- An encoded instruction is decoded again, whatever surrounds it (the law EncodeRoundTrip). Conditions: the arguments read as forms, an instruction and bytes. -/
import Derived.Test.YtcngpciblbdgbaaGreatDoorEncU
import Derived.Test.YtcngpciblbdgbaaGreatDoorEncX
namespace Go.Proofs.YtcngpciblbdgbaaGreatDoor
open Go Go.RowKit Go.Shelf

theorem three_sums {a b c : Nat} (ha : a ≤ 140737488351232) (hb : b ≤ 20) (hc : c ≤ 140737488351232) : wrap64 ((a : Int) + (b : Int)) = (a : Int) + (b : Int) ∧ wrap64 ((a : Int) + (b : Int) + (c : Int)) = (a : Int) + (b : Int) + (c : Int) :=
  ⟨by rw [IntWalk.wrap64_in _ (by omega)], by rw [IntWalk.wrap64_in _ (by omega)]⟩
theorem EncOk.around {fs : List Frm} {k : Nat} {xs : List Int} {f : Frm} (o : EncOk fs k xs f) (l1 l2 : List UInt8) (h : l1.length + sizeOf f.kinds + l2.length ≤ 1500) : DecOk fs (l1 ++ encL f.code (f.kinds.zip xs) ++ l2) l1.length k f xs := by
  have hl := encL_length (code := f.code) o.2.2.1
  have hz : 1 ≤ sizeOf f.kinds := by unfold sizeOf; omega
  refine ⟨o.1, by rw [List.length_append, List.length_append, hl]; omega, by rw [List.length_append, List.length_append, hl]; omega, ?_⟩
  rw [List.append_assoc, List.drop_left']
  · exact good_enc o l2
  · rfl
theorem own_below {B n : Nat} {W W' : World} {v : Value} {xs : List Value} {a : World} (h : Below B a W) (hB : B ≤ W.heap.size) (hr : W.ownsRow B 5 1 v n xs) (hg : W.grownBy W' v.ownBlock) : Below B a W' := h.grown hg hB fun r e => (hr.lt r e).1
theorem one_box (w : World) (x y : Value) (t : TypeId) : (w.alloc (.cells #[x, y] t)).cell? ⟨w.heap.size, 0, none⟩ = some x ∧ (w.alloc (.cells #[x, y] t)).cell? ⟨w.heap.size, 1, none⟩ = some y := ⟨by simp, by simp⟩

end Go.Proofs.YtcngpciblbdgbaaGreatDoor
