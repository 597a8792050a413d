/- The default table and the tiny table as lists of forms; both are valid; the examples of the document hold. Conditions: the library's table of white space reads as its text lays it. -/
import Derived.Test.YtcngpciblbdgbaaGreatDoorIsaH
namespace Go.Proofs.YtcngpciblbdgbaaGreatDoor
open Go Go.RowKit Go.Shelf

/-! ## the fault of a table asks nothing of where the kinds lie -/
def Frm.plain (f : Frm) : Frm := ⟨f.name, f.code, .slice none 0 0, f.kinds⟩
theorem checkList_plain (f : Frm) (es : List Frm) : checkList f.plain (es.map Frm.plain) = checkList f es := by
  have h : (es.map Frm.plain).any (clashB f.plain) = es.any (clashB f) := by rw [List.any_map]; rfl
  unfold checkList
  rw [h]
  rfl
theorem faultAt_plain (fs : List Frm) (k : Nat) : faultAt (fs.map Frm.plain) k = faultAt fs k := by
  unfold faultAt
  rw [List.getElem?_map]
  cases h : fs[k]? with
  | none => rfl
  | some f =>
    show formFault f.plain ((fs.map Frm.plain).take k) = formFault f (fs.take k)
    unfold formFault
    rw [← List.map_take, checkList_plain]
theorem scanFault_plain (fs : List Frm) : ∀ r k, scanFault (fs.map Frm.plain) r k = scanFault fs r k
  | 0, _ => rfl
  | r + 1, k => by
    unfold scanFault
    rw [faultAt_plain, scanFault_plain fs r (k + 1)]
theorem tableFault_plain (fs : List Frm) : tableFault (fs.map Frm.plain) = tableFault fs := by
  unfold tableFault
  rw [List.length_map, scanFault_plain]

/-! ## the tiny table -/
def tinyF (kv : Value) : List Frm := [⟨⟨#[97]⟩, 7, .slice none 0 0, []⟩, ⟨⟨#[98]⟩, 9, kv, [1, 3]⟩]
theorem tiny_fault (kv : Value) : tableFault (tinyF kv) = (0, 0) := by
  rw [← tableFault_plain]
  show tableFault [⟨⟨#[97]⟩, 7, .slice none 0 0, []⟩, ⟨⟨#[98]⟩, 9, .slice none 0 0, [1, 3]⟩] = (0, 0)
  kernel_rfl


theorem tiny_any (w : World) : Calls Tryz.prog 21 #[] w fun e w' => ∃ v kv, e = .returned v ∧ FormsAt w'.heap.size w' v (tinyF kv) ∧ Below w.heap.size w w' := by
  go_enter Tryz.func21, Tryz.ntmps21
  go_wp2
  refine bodyPost_ret (v := .slice (some ⟨w.heap.size + 1, 0, none⟩) 2 2) (by simp [results, Tryz.results21, go_sem]) rfl ⟨_, .slice (some ⟨w.heap.size, 0, none⟩) 2 2, rfl, ?_, ((Below.refl _ _).alloc (Nat.le_refl _) _).alloc (by simp) _⟩
  refine ⟨_, 2, rfl, ⟨by simp [tinyF], by simp [tinyF]⟩, ?_, fun _ => ⟨_, 0, rfl, by simp, ?_⟩⟩
  · intro f hf
    simp [tinyF] at hf
    rcases hf with rfl | rfl
    · exact ⟨⟨none, 0, rfl, by simp, fun h => absurd h (by simp)⟩, by decide⟩
    · refine ⟨⟨_, 2, rfl, by simp, fun _ => ⟨_, 0, rfl, by simp; omega, fun j hj => ?_⟩⟩, by show (1 : Nat) ≤ 140737488351232; decide⟩
      match j, hj with
      | 0, _ => exact cell_alloc_l _ (by simp)
      | 1, _ => exact cell_alloc_l _ (by simp)
      | j + 2, hj => simp at hj; omega
  · intro j f hj
    match j, hj with
    | 0, hj => simp [tinyF] at hj; subst hj; exact ⟨by simp, by simp, by simp⟩
    | 1, hj => simp [tinyF] at hj; subst hj; exact ⟨by simp, by simp, by simp⟩
    | j + 2, hj => simp [tinyF] at hj

theorem tiny_idx (kv : Value) : idxOf (hasB ⟨#[98]⟩ [1, 3]) (tinyF kv) = 1 := by
  show idxOf (hasB ⟨#[98]⟩ [1, 3]) ((tinyF (.slice none 0 0))) = 1
  kernel_rfl

end Go.Proofs.YtcngpciblbdgbaaGreatDoor
