/- What Encode gives, Decode reads back: the bytes of a valid instruction, whatever stands behind them. Pure lists. -/
import Derived.Test.YtcngpciblbdgbaaGreatDoorEncQ
namespace Go.Proofs.YtcngpciblbdgbaaGreatDoor
open Go Go.RowKit Go.Shelf
theorem idxOf_at {α : Type} {p : α → Bool} {fs : List α} {k : Nat} {f : α} (hx : fs[k]? = some f) (hp : p f = true) (hno : ∀ j g, j < k → fs[j]? = some g → p g = false) : idxOf p fs = (k : Int) := by
  obtain ⟨hk, rfl⟩ := List.getElem?_eq_some_iff.1 hx
  unfold idxOf
  have : fs.findIdx? p = some k := by
    rw [List.findIdx?_eq_some_iff_getElem]
    refine ⟨hk, hp, fun j hj => ?_⟩
    have := hno j fs[j] hj (List.getElem?_eq_getElem (by omega))
    simp [this]
  rw [this]
theorem good_enc {fs : List Frm} {k : Nat} {f : Frm} {ys : List Int} (o : EncOk fs k ys f) (tl : List UInt8) : GoodAt fs (encL f.code (f.kinds.zip ys) ++ tl) k f ys := by
  have hback := o.back tl
  obtain ⟨ht, hx, hl, ho⟩ := o
  have hlen := encL_length (code := f.code) hl
  have hok := valid_form ht (List.mem_of_getElem? hx)
  have hb : ((((encL f.code (f.kinds.zip ys) ++ tl)[0]?.getD 0).toNat : Nat) : Int) = f.code := by
    have := hok.code
    show (((UInt8.ofNat (f.code % 256).toNat).toNat : Nat) : Int) = f.code
    rw [ofNat_toNat _ (by omega)]
    omega
  refine ⟨idxOf_at hx ?_ fun j g hj hg => ?_, hx, ?_, hback.symm, ho, ?_⟩
  · unfold codeB
    rw [hb]
    simp
  · unfold codeB
    rw [hb]
    cases hc : (g.code == f.code) with
    | false => rfl
    | true => exact absurd (code_own ht hg hx (by simpa using hc)) (by omega)
  · rw [List.length_append, hlen]; omega
  · rw [← hlen, List.take_left']
    rfl
end Go.Proofs.YtcngpciblbdgbaaGreatDoor
