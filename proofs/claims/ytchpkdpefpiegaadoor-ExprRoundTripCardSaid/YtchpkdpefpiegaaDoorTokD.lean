/- Contracts of the reference's Name and Sign. Conditions: a string is not longer than a string may be. -/
import Derived.Test.YtchpkdpefpiegaaDoorTokC
namespace Go.Proofs.YtchpkdpefpiegaaDoor.Tok
open Go Go.RowKit

theorem isName_len {s : List UInt8} : isName s = (s.all nameB && (decide (1 ≤ s.length) && decide (s.length ≤ 16)) && !(s.head?.any digB)) := by
  unfold isName
  rw [Bool.eq_iff_iff]
  cases s with
  | nil => simp
  | cons c r => simp; constructor <;> (rintro ⟨⟨h1, h2⟩, h3⟩; exact ⟨⟨by first | exact h3 | exact h2, by first | exact h1 | exact h3⟩, by first | exact h2 | exact h1⟩)
set_option maxHeartbeats 400000 in
theorem rname_any (s : ByteArray) (w : World) (hs : s.size ≤ 9223372036854775806) : Calls Tryd.prog 39 #[.string s] w fun e w' => e = .returned (.bool (isName s.data.toList)) ∧ w = w' := by
  have HN0 := Lib.hid (isName_len (s := s.data.toList))
  go_enter Tryd.func39, Tryd.ntmps39
  go_wp2
  go_loop [3] (fun i => ∃ k : Nat, k ≤ s.size ∧ i = .int .i64 k ∧ Hid ((s.data.toList.take k).all nameB = true)) (fun i => s.size - (intOf i).toNat)
  case atStart => exact ⟨0, Nat.zero_le _, rfl, Lib.hid (by simp)⟩
  case round =>
    obtain ⟨k, hk, rfl, HA⟩ := hrel
    by_cases hlt : k < s.size
    · cases hn : nameB s[k] with
      | true =>
        have HN := Lib.hid hn
        go_wp2_with (go_at_call 59; refine (rnameByte_any _ _).mono ?_; rintro e w' ⟨rfl, rfl⟩; rw [hn])
        go_round
        case rel => exact ⟨k + 1, by omega, by go_num, Lib.hid (all_next HA.out (by simpa using hlt) HN.out)⟩
        case measure => simp [intOf]; omega
      | false =>
        have HF := Lib.hid (show isName s.data.toList = false by
          rw [HN0.out]
          have : s.data.toList.all nameB = false := by
            rw [List.all_eq_false]
            exact ⟨s[k], by simp [ByteArray.getElem_eq_getElem_data], by rw [hn]; decide⟩
          simp [this])
        go_wp2_with (go_at_call 59; refine (rnameByte_any _ _).mono ?_; rintro e w' ⟨rfl, rfl⟩; rw [hn])
        go_ret
        exact ⟨ret_bool HF.out.symm, rfl⟩
    · obtain rfl : k = s.size := by omega
      have hall := HA.out
      rw [List.take_of_length_le (by simp)] at hall
      by_cases hz : inB (s.size : Int) 1 16 = true
      · have hz' : 0 < s.size := by unfold inB at hz; simp at hz; omega
        have E := Lib.hid (show isName s.data.toList = !(inB ((s[0]).toNat : Int) 48 57) by
          rw [HN0.out, hall]
          have h1 : (decide (1 ≤ s.data.toList.length) && decide (s.data.toList.length ≤ 16)) = true := by unfold inB at hz; simp at hz ⊢; exact ⟨by omega, by have := hz.2; exact_mod_cast this⟩
          rw [h1]
          have h2 : s.data.toList.head? = some s[0] := by
            rw [List.head?_eq_getElem?, List.getElem?_eq_getElem (by simpa using hz')]
            rfl
          rw [h2]
          rfl)
        clear hall
        have hb0 := (s[0]).toNat_lt
        go_wp2_with (go_at_call 14; refine (in_any _ _ _ _).mono ?_; rintro e w' ⟨rfl, rfl⟩; try rw [hz])
        all_goals
          go_ret
          exact ⟨ret_bool E.out.symm, rfl⟩
      · have hz2 : inB (s.size : Int) 1 16 = false := by simpa using hz
        have E := Lib.hid (show isName s.data.toList = false by
          rw [HN0.out, hall]
          have h1 : (decide (1 ≤ s.data.toList.length) && decide (s.data.toList.length ≤ 16)) = false := by
            unfold inB at hz2
            rw [← hz2]
            rw [Bool.eq_iff_iff]
            simp
            omega
          rw [h1]
          simp)
        clear hall hz
        go_wp2_with (go_at_call 14; refine (in_any _ _ _ _).mono ?_; rintro e w' ⟨rfl, rfl⟩; rw [hz2])
        go_ret
        exact ⟨ret_bool E.out.symm, rfl⟩
/-! ## Sign -/
theorem cells_new {w : World} {xs : List Value} {t : TypeId} (j : Nat) (u : Value) (h : xs[j]? = some u) : (w.alloc (.cells xs.toArray t)).cell? ⟨w.heap.size, j, none⟩ = some u := by
  have hfc : (w.alloc (.cells xs.toArray t)).heap[w.heap.size]? = some (.cells xs.toArray t (0, 0)) := heap_alloc_new w _
  simp only [World.cell?]
  rw [hfc]
  simpa using h
theorem sign_cells (w : World) (j : Nat) (h : j < 17) : (w.alloc (.cells (signs.map strV).toArray 9)).cell? ⟨w.heap.size, j, none⟩ = some (strV (signs[j]?.getD [])) := by
  have hl : j < signs.length := h
  exact cells_new j _ (by rw [List.getElem?_map, List.getElem?_eq_getElem hl]; rfl)
theorem sign_take (l : List UInt8) {k : Nat} (h : l ∉ signs.take k) (hk : k < 17) (hne : ¬ signs[k]?.getD [] = l) : l ∉ signs.take (k + 1) := by
  have hl : k < signs.length := hk
  rw [List.take_succ_eq_append_getElem hl]
  rw [List.getElem?_eq_getElem hl] at hne
  simp only [Option.getD_some] at hne
  simp only [List.mem_append, List.mem_singleton, not_or]
  exact ⟨h, fun e => hne e.symm⟩
set_option maxHeartbeats 1000000 in
theorem rsign_any (l : List UInt8) (w : World) : Calls Tryd.prog 51 #[strV l] w fun e w' => e = .returned (.bool (isSign l)) ∧ Below w.heap.size w w' := by
  have HM := Lib.hid (isSign_mem l)
  have HC := Lib.hid (sign_cells w)
  go_enter Tryd.func51, Tryd.ntmps51
  go_wp2
  have HB := Lib.hid (show Below w.heap.size w (w.alloc (.cells (signs.map strV).toArray 9)) from (Below.refl _ _).alloc (Nat.le_refl _) _)
  obtain ⟨W, hW⟩ : ∃ W, W = w.alloc (.cells (signs.map strV).toArray 9) := ⟨_, rfl⟩
  have hW2 : w.alloc (.cells (signs.map strV).toArray 9) = W := hW.symm
  simp only [signs, List.map_cons, List.map_nil] at hW2
  rw [← hW] at HB HC
  rw [hW2]
  clear hW hW2
  go_loop [4] (fun i => ∃ k : Nat, k ≤ 17 ∧ i = .int .i64 k ∧ Hid (l ∉ signs.take k)) (fun i => 17 - (intOf i).toNat)
  case atStart => exact ⟨0, Nat.zero_le _, rfl, Lib.hid (by simp)⟩
  case round =>
    obtain ⟨k, hk, rfl, HT⟩ := hrel
    by_cases hlt : k < 17
    · have hc := HC.out k hlt
      by_cases he : signs[k]?.getD [] = l
      · have he' : ((⟨(signs[k]?.getD []).toArray⟩ : ByteArray).toList == l) = true := by simp [ByteArray.toList_eq, he]
        have HF := Lib.hid (show isSign l = true by
          rw [HM.out, ← he]
          have hl : k < signs.length := hlt
          rw [List.getElem?_eq_getElem hl]
          simp)
        obtain ⟨s1, hs1⟩ : ∃ s1 : ByteArray, s1 = ⟨(signs[k]?.getD []).toArray⟩ := ⟨_, rfl⟩
        rw [show strV (signs[k]?.getD []) = .string s1 from by rw [hs1]] at hc
        rw [← hs1] at he'
        clear he hs1
        go_wp2
        go_ret
        exact ⟨ret_bool HF.out.symm, HB.out⟩
      · have he' : ((⟨(signs[k]?.getD []).toArray⟩ : ByteArray).toList == l) = false := by simp [ByteArray.toList_eq, he]
        have HF := Lib.hid he
        obtain ⟨s1, hs1⟩ : ∃ s1 : ByteArray, s1 = ⟨(signs[k]?.getD []).toArray⟩ := ⟨_, rfl⟩
        rw [show strV (signs[k]?.getD []) = .string s1 from by rw [hs1]] at hc
        rw [← hs1] at he'
        clear he hs1
        go_wp2
        go_round
        case rel => exact ⟨k + 1, by omega, by go_num, Lib.hid (sign_take l HT.out hlt HF.out)⟩
        case measure => simp [intOf]; omega
    · obtain rfl : k = 17 := by omega
      have HF := Lib.hid (show isSign l = false by
        rw [HM.out]
        have := HT.out
        rw [List.take_of_length_le (by decide)] at this
        simpa using this)
      go_wp2
      go_ret
      exact ⟨ret_bool HF.out.symm, HB.out⟩
end Go.Proofs.YtchpkdpefpiegaaDoor.Tok
