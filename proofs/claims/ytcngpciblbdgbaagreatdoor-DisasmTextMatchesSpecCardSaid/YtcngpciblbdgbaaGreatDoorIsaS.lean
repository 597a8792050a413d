/- Tables without a fault: said over pairs of forms; the order of the forms is nothing to it; each form is found at its own position. No condition. -/
import Derived.Test.YtcngpciblbdgbaaGreatDoorIsaH
namespace Go.Proofs.YtcngpciblbdgbaaGreatDoor
open Go Go.RowKit Go.Shelf

theorem formFault_zero (f : Frm) (es : List Frm) : formFault f es = 0 ↔ formFault f [] = 0 ∧ es.any (clashB f) = false := by
  rw [formFault_eq, formFault_eq]
  show _ ↔ _ ∧ _
  rw [show ([] : List Frm).any (clashB f) = false from rfl]
  generalize (!nameOk f.name) = a
  generalize (decide (f.code < 0) || decide (f.code > 255)) = b
  generalize decide (f.kinds.length > 4) = c
  generalize f.kinds.any unknownB = d
  generalize decide ((distances f.kinds : Int) > 1) = e
  generalize es.any (clashB f) = g
  cases a <;> cases b <;> cases c <;> cases d <;> cases e <;> cases g <;> simp
theorem scan_zero (fs : List Frm) : ∀ r k, (scanFault fs r k).1 = 0 ↔ ∀ j, k ≤ j → j < k + r → faultAt fs j = 0
  | 0, k => by
    simp only [scanFault, true_iff]
    intro j h1 h2
    omega
  | r + 1, k => by
    unfold scanFault
    by_cases h : faultAt fs k = 0
    · rw [if_pos h, scan_zero fs r (k + 1)]
      refine ⟨fun H j h1 h2 => ?_, fun H j h1 h2 => H j (by omega) (by omega)⟩
      by_cases hj : j = k
      · rw [hj]; exact h
      · exact H j (by omega) (by omega)
    · rw [if_neg h]
      exact ⟨fun h' => absurd h' h, fun H => absurd (H k (Nat.le_refl _) (by omega)) h⟩
theorem fault_zero (fs : List Frm) : (tableFault fs).1 = 0 ↔ fs.length ≤ 100 ∧ ∀ j, j < fs.length → faultAt fs j = 0 := by
  unfold tableFault
  by_cases h : 100 < fs.length
  · rw [if_pos h]
    exact ⟨fun h' => by simp at h', fun H => absurd H.1 (by omega)⟩
  · rw [if_neg h, scan_zero]
    exact ⟨fun H => ⟨by omega, fun j hj => H j (Nat.zero_le _) (by omega)⟩, fun H j _ hj => H.2 j (by omega)⟩
theorem valid_iff (fs : List Frm) : (tableFault fs).1 = 0 ↔ fs.length ≤ 100 ∧ (∀ f ∈ fs, formFault f [] = 0) ∧ fs.Pairwise fun e f => clashB f e = false := by
  rw [fault_zero]
  refine and_congr_right fun _ => ?_
  have hat : ∀ j (hj : j < fs.length), faultAt fs j = 0 ↔ formFault fs[j] [] = 0 ∧ ∀ i (hi : i < fs.length), i < j → clashB fs[j] fs[i] = false := fun j hj => by
    rw [faultAt_of (List.getElem?_eq_getElem hj), formFault_zero]
    refine and_congr_right fun _ => ?_
    rw [List.any_eq_false]
    refine ⟨fun H i hi hij => ?_, fun H x hx => ?_⟩
    · have := H fs[i] (List.mem_take_iff_getElem.2 ⟨i, by omega, rfl⟩)
      simpa using this
    · obtain ⟨i, hi, rfl⟩ := List.mem_take_iff_getElem.1 hx
      rw [H i (by omega) (by omega)]
      simp
  rw [List.pairwise_iff_getElem]
  refine ⟨fun H => ⟨fun f hf => ?_, fun i j hi hj hij => ((hat j hj).1 (H j hj)).2 i hi hij⟩, fun H j hj => (hat j hj).2 ⟨H.1 _ (List.getElem_mem hj), fun i hi hij => H.2 i j hi hj hij⟩⟩
  obtain ⟨j, hj, rfl⟩ := List.mem_iff_getElem.1 hf
  exact ((hat j hj).1 (H j hj)).1
theorem clashB_symm (f g : Frm) : clashB f g = clashB g f := by
  rw [clash_comm]
  unfold clashB sameB
  rw [nameB_comm]
theorem valid_reverse (fs : List Frm) : (tableFault fs.reverse).1 = 0 ↔ (tableFault fs).1 = 0 := by
  rw [valid_iff, valid_iff, List.pairwise_reverse, List.length_reverse]
  refine and_congr_right fun _ => and_congr (by simp only [List.mem_reverse]) ?_
  simp only [clashB_symm]
theorem fault_pair {fs : List Frm} (h : (tableFault fs).1 = 0) : tableFault fs = (0, 0) := by
  rcases tableFault_cases fs with h' | h'
  · exact h'
  · exact absurd h h'
/-- in a table without a fault each form is found at its own position -/
theorem own_idx {fs : List Frm} {k : Nat} {f : Frm} (h : tableFault fs = (0, 0)) (hx : fs[k]? = some f) : idxOf (hasB f.name f.kinds) fs = (k : Int) := by
  have hv := ((valid_iff fs).1 (by rw [h])).2.2
  rw [List.pairwise_iff_getElem] at hv
  obtain ⟨hk, rfl⟩ := List.getElem?_eq_some_iff.1 hx
  refine idxOf_hit (k := k) (fun j x hj hx' => ?_) hx ?_
  · obtain ⟨hj', rfl⟩ := List.getElem?_eq_some_iff.1 hx'
    have := hv j k hj' hk hj
    rw [clashB_symm] at this
    unfold clashB sameB nameB at this
    simp only [Bool.or_eq_false_iff] at this
    exact this.2
  · simp [hasB]
end Go.Proofs.YtcngpciblbdgbaaGreatDoor
