/- Which answer Patch gives, said once for all worlds. Conditions: the arguments read as forms and bytes. -/
import Derived.Test.YtcngpciblbdgbaaGreatDoorEncS
namespace Go.Proofs.YtcngpciblbdgbaaGreatDoor
open Go Go.RowKit Go.Shelf

def patched (l : List UInt8) (a : Nat) (f : Frm) (ys : List Int) : List UInt8 := l.take a ++ encL f.code (f.kinds.zip ys) ++ l.drop (a + sizeOf f.kinds)
theorem DecOk.fits {fs : List Frm} {l : List UInt8} {a k : Nat} {f : Frm} {xs : List Int} (o : DecOk fs l a k f xs) : a + sizeOf f.kinds ≤ l.length := by
  have g3 := o.2.2.2.2.2.1
  have := o.2.2.1
  rw [List.length_drop] at g3
  omega
theorem patched_length {l : List UInt8} {a : Nat} {f : Frm} {ys : List Int} (hl : ys.length = f.kinds.length) (h : a + sizeOf f.kinds ≤ l.length) : (patched l a f ys).length = l.length := by
  unfold patched
  rw [List.length_append, List.length_append, encL_length hl, List.length_take, List.length_drop]
  omega
theorem patched_take {l : List UInt8} {a : Nat} {f : Frm} {ys : List Int} (h : a + sizeOf f.kinds ≤ l.length) : (patched l a f ys).take a = l.take a := by
  unfold patched
  rw [List.append_assoc, List.take_append_of_le_length (by rw [List.length_take]; omega), List.take_take, Nat.min_self]
theorem patched_drop {l : List UInt8} {a : Nat} {f : Frm} {ys : List Int} (hl : ys.length = f.kinds.length) (h : a + sizeOf f.kinds ≤ l.length) : (patched l a f ys).drop (a + sizeOf f.kinds) = l.drop (a + sizeOf f.kinds) := by
  unfold patched
  exact List.drop_left' (by rw [List.length_append, List.length_take, encL_length hl]; omega)
theorem patched_at {l : List UInt8} {a : Nat} {f : Frm} {ys : List Int} (h : a + sizeOf f.kinds ≤ l.length) : (patched l a f ys).drop a = encL f.code (f.kinds.zip ys) ++ l.drop (a + sizeOf f.kinds) := by
  unfold patched
  rw [List.append_assoc]
  exact List.drop_left' (by rw [List.length_take]; omega)
theorem patched_again {l : List UInt8} {a : Nat} {f : Frm} {ys zs : List Int} (hl : ys.length = f.kinds.length) (h : a + sizeOf f.kinds ≤ l.length) : patched (patched l a f ys) a f zs = patched l a f zs := by
  show (patched l a f ys).take a ++ encL f.code (f.kinds.zip zs) ++ (patched l a f ys).drop (a + sizeOf f.kinds) = _
  rw [patched_take h, patched_drop hl h]
  rfl
theorem DecOk.own {fs : List Frm} {l : List UInt8} {a k : Nat} {f : Frm} {xs : List Int} (o : DecOk fs l a k f xs) : patched l a f xs = l := by
  have h := o.2.2.2.2.2.2.2.2
  unfold patched
  rw [← h, ← List.drop_drop, List.append_assoc, List.take_append_drop, List.take_append_drop]
/-- an argument that a patch may take -/
def ArgOk (f : Frm) (xs : List Int) (j : Nat) (val : Int) : Prop := j < f.kinds.length ∧ outIdx f.kinds (xs.set j val) = -1
theorem DecOk.set {fs : List Frm} {l : List UInt8} {a k : Nat} {f : Frm} {xs : List Int} {j : Nat} {val : Int} (o : DecOk fs l a k f xs) (g : ArgOk f xs j val) : DecOk fs (patched l a f (xs.set j val)) a k f (xs.set j val) := by
  have hl : (xs.set j val).length = f.kinds.length := by rw [List.length_set]; exact o.enc.2.2.1
  have he : EncOk fs k (xs.set j val) f := ⟨o.1, o.enc.2.1, hl, g.2⟩
  refine ⟨o.1, by rw [patched_length hl o.fits]; exact o.2.1, by rw [patched_length hl o.fits]; exact o.2.2.1, ?_⟩
  rw [patched_at o.fits]
  exact good_enc he _
theorem kinds_cell {B R m c : Nat} {w : World} {xs : List Int} (h : KindsAt B w (.slice (some ⟨R, 0, none⟩) m c) xs) {j : Nat} (hj : j < xs.length) : w.cell? ⟨R, j, none⟩ = some (.int .i64 (xs[j]?.getD 0)) := by
  obtain ⟨A, c', e, _, h3⟩ := h
  injection e with e1 e2 e3
  subst e1
  obtain ⟨b, off, ha, _, hc⟩ := h3 (by omega)
  simp only [Option.some.injEq, Addr.mk.injEq, and_true] at ha
  obtain ⟨rfl, rfl⟩ := ha
  have := hc j hj
  rwa [Nat.zero_add] at this
end Go.Proofs.YtcngpciblbdgbaaGreatDoor
