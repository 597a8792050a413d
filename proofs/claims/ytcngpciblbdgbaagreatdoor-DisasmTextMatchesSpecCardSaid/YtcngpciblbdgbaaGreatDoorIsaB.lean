/- Contracts of the functions that go over a list of operand kinds: Ints, slices.IndexFunc and ContainsFunc with isUnknown, countDistances, size. No conditions beyond the reading of the list. -/
import Derived.Test.YtcngpciblbdgbaaGreatDoorIsaA
namespace Go.Proofs.YtcngpciblbdgbaaGreatDoor
open Go Go.RowKit

/-! ## Ints -/
set_option maxHeartbeats 400000 in
theorem ints_no (A1 A2 : Option Addr) (n1 c1 n2 c2 : Nat) (w : World) (h : ((n1 : Int) != (n2 : Int)) = true) :
    Calls Tryz.prog 22 #[.slice A1 n1 c1, .slice A2 n2 c2] w fun e w' => e = .returned (.bool false) ∧ w = w' := by
  go_enter Tryz.func22, Tryz.ntmps22
  go_wp2
  go_ret
  exact ⟨rfl, rfl⟩
set_option maxHeartbeats 400000 in
theorem ints_yes (A1 A2 : Option Addr) (n c1 c2 : Nat) (ks ls : List Int) (w : World) (hks : Hid (ks.length = n)) (hls : Hid (ls.length = n)) (hn : n ≤ 17592186044416)
    (hc1 : 0 < n → ∃ b off, A1 = some ⟨b, off, none⟩ ∧ ∀ j, j < n → w.cell? ⟨b, off + j, none⟩ = some (.int .i64 (ks[j]?.getD 0)))
    (hc2 : 0 < n → ∃ b off, A2 = some ⟨b, off, none⟩ ∧ ∀ j, j < n → w.cell? ⟨b, off + j, none⟩ = some (.int .i64 (ls[j]?.getD 0))) :
    Calls Tryz.prog 22 #[.slice A1 n c1, .slice A2 n c2] w fun e w' => e = .returned (.bool (decide (ks = ls))) ∧ ∃ n, w' = w.drewN n := by
  go_enter Tryz.func22, Tryz.ntmps22
  go_wp2
  go_loopw [5] (fun i wr => ∃ k q : Nat, k ≤ n ∧ i = .int .i64 k ∧ wr = w.drewN q ∧ ks.take k = ls.take k) (fun i _ => n - (intOf i).toNat)
  case atStart => exact ⟨0, 0, Nat.zero_le _, rfl, rfl, by simp⟩
  case round =>
    obtain ⟨k, q, hk, rfl, rfl, ht⟩ := hrel
    have Ht := Lib.hid ht
    clear ht
    by_cases hlt : k < n
    · obtain ⟨b1, o1, rfl, g1⟩ := hc1 (by omega)
      obtain ⟨b2, o2, rfl, g2⟩ := hc2 (by omega)
      have d1 := g1 k hlt
      have d2 := g2 k hlt
      clear hc1 hc2 g1 g2
      by_cases he : ks[k]?.getD 0 = ls[k]?.getD 0
      · have he' : (ks[k]?.getD 0 != ls[k]?.getD 0) = false := by simp [he]
        have He := Lib.hid he
        clear he
        go_wp2
        go_quiet (fail)
        go_wp2
        go_roundw
        case rel => exact ⟨k + 1, _, by omega, by go_num, rfl, take_eq_succ (by rw [hks.out]; exact hlt) (by rw [hls.out]; exact hlt) Ht.out He.out⟩
        case measure => simp [intOf]; omega
      · have he' : (ks[k]?.getD 0 != ls[k]?.getD 0) = true := by simp [he]
        have He := Lib.hid he
        clear he
        go_wp2
        go_quiet (fail)
        go_wp2
        go_ret
        exact ⟨by simp [ne_of_at He.out], _, World.drewN_drewN _ _ _⟩
    · obtain rfl : k = n := by omega
      go_wp2
      go_ret
      have ht := Ht.out
      rw [List.take_of_length_le (by rw [hks.out]; omega), List.take_of_length_le (by rw [hls.out]; omega)] at ht
      exact ⟨by simp [ht], _, rfl⟩
/-- Ints: whether the lists are equal -/
theorem ints_any (B : Nat) (v1 v2 : Value) (ks ls : List Int) (w : World) (h1 : KindsAt B w v1 ks) (h2 : KindsAt B w v2 ls) :
    Calls Tryz.prog 22 #[v1, v2] w fun e w' => e = .returned (.bool (decide (ks = ls))) ∧ ∃ n, w' = w.drewN n := by
  obtain ⟨A1, n1, c1, rfl, hn1, hl1, hc1⟩ := h1.opens
  obtain ⟨A2, n2, c2, rfl, hn2, hl2, hc2⟩ := h2.opens
  by_cases hn : n1 = n2
  · subst hn
    exact ints_yes A1 A2 n1 c1 c2 ks ls w hn1 hn2 hl1 (fun h => by obtain ⟨b, o, h1, _, h2⟩ := hc1 h; exact ⟨b, o, h1, h2⟩) (fun h => by obtain ⟨b, o, h1, _, h2⟩ := hc2 h; exact ⟨b, o, h1, h2⟩)
  · have hne : ks ≠ ls := fun e => hn (by rw [← hn1.out, ← hn2.out, e])
    refine (ints_no A1 A2 n1 c1 n2 c2 w (by simp; omega)).mono ?_
    rintro e w' ⟨rfl, rfl⟩
    exact ⟨by simp [hne], 0, (World.drewN_zero _).symm⟩

/-! ## the first kind that is unknown -/
/-- the place of the first element of which p holds; -1 -/
def idxOf {α : Type} (p : α → Bool) (l : List α) : Int := match l.findIdx? p with | some i => i | none => -1
theorem idxOf_ge {α : Type} (p : α → Bool) (l : List α) : (0 ≤ idxOf p l) ↔ l.any p = true := by
  unfold idxOf
  cases h : l.findIdx? p with
  | none => simp [List.findIdx?_eq_none_iff] at h ⊢; exact fun x hx => h x hx
  | some i =>
    have hs : (l.findIdx? p).isSome = true := by rw [h]; rfl
    rw [List.findIdx?_isSome] at hs
    simp [hs]
/-- of the first k elements p holds of none -/
def noneYet {α : Type} (p : α → Bool) (l : List α) (k : Nat) : Prop := ∀ j x, j < k → l[j]? = some x → p x = false
theorem noneYet_zero {α : Type} (p : α → Bool) (l : List α) : noneYet p l 0 := fun _ _ h => absurd h (Nat.not_lt_zero _)
theorem noneYet_succ {α : Type} {p : α → Bool} {l : List α} {k : Nat} {x : α} (h : noneYet p l k) (hx : l[k]? = some x) (hp : p x = false) : noneYet p l (k + 1) := fun j y hj hy => by
  rcases Nat.lt_succ_iff_lt_or_eq.1 hj with hlt | rfl
  · exact h j y hlt hy
  · rw [hx] at hy; injection hy with hy; subst hy; exact hp
theorem idxOf_hit {α : Type} {p : α → Bool} {l : List α} {k : Nat} {x : α} (h : noneYet p l k) (hx : l[k]? = some x) (hp : p x = true) : idxOf p l = (k : Int) := by
  have hk : k < l.length := (List.getElem?_eq_some_iff.1 hx).1
  have hxe : l[k] = x := (List.getElem?_eq_some_iff.1 hx).2
  have : l.findIdx? p = some k := by
    rw [List.findIdx?_eq_some_iff_getElem]
    exact ⟨hk, by rw [hxe]; exact hp, fun j hj => by simp [h j _ hj (List.getElem?_eq_getElem (Nat.lt_trans hj hk))]⟩
  simp [idxOf, this]
theorem idxOf_none {α : Type} {p : α → Bool} {l : List α} {n : Nat} (hn : l.length ≤ n) (h : noneYet p l n) : idxOf p l = -1 := by
  have : l.findIdx? p = none := by
    rw [List.findIdx?_eq_none_iff]
    intro x hx
    obtain ⟨j, hj, rfl⟩ := List.getElem_of_mem hx
    exact h j _ (by omega) (List.getElem?_eq_getElem hj)
  simp [idxOf, this]

set_option maxHeartbeats 400000 in
theorem index_kinds (A : Option Addr) (n c : Nat) (ks : List Int) (w : World) (hks : Hid (ks.length = n)) (hn : n ≤ 17592186044416)
    (hc : 0 < n → ∃ b off, A = some ⟨b, off, none⟩ ∧ ∀ j, j < n → w.cell? ⟨b, off + j, none⟩ = some (.int .i64 (ks[j]?.getD 0))) :
    Calls Tryz.prog 76 #[.slice A n c, .func (.func 55) #[] #[]] w fun e w' => e = .returned (.int .i64 (idxOf unknownB ks)) ∧ w = w' := by
  go_enter Tryz.func76, Tryz.ntmps76
  go_wp2
  go_loop [8] (fun i => ∃ k : Nat, k ≤ n ∧ i = .int .i64 k ∧ noneYet unknownB ks k) (fun i => n - (intOf i).toNat)
  case atStart => exact ⟨0, Nat.zero_le _, rfl, noneYet_zero _ _⟩
  case round =>
    obtain ⟨k, hk, rfl, ht⟩ := hrel
    have Ht := Lib.hid ht
    clear ht
    by_cases hlt : k < n
    · obtain ⟨b1, o1, rfl, g1⟩ := hc (by omega)
      have d1 := g1 k hlt
      have hx : Hid (ks[k]? = some (ks[k]?.getD 0)) := by
        obtain ⟨x, hx, _⟩ := getElem?_of_lt hks hlt
        exact Lib.hid (by rw [hx]; rfl)
      clear hc g1
      cases hu : unknownB (ks[k]?.getD 0) with
      | true =>
        have Hu := Lib.hid hu
        go_wp2_with (go_at_call 55; refine (unknown_any _ _).mono ?_; rintro e w' ⟨rfl, rfl⟩)
        go_ret
        exact ⟨ret_int (idxOf_hit Ht.out hx.out Hu.out).symm, rfl⟩
      | false =>
        have Hu := Lib.hid hu
        go_wp2_with (go_at_call 55; refine (unknown_any _ _).mono ?_; rintro e w' ⟨rfl, rfl⟩)
        go_round
        case rel => exact ⟨k + 1, by omega, by go_num, noneYet_succ Ht.out hx.out Hu.out⟩
        case measure => simp [intOf]; omega
    · obtain rfl : k = n := by omega
      go_wp2
      go_ret
      exact ⟨ret_int (idxOf_none (by rw [hks.out]; omega) Ht.out).symm, rfl⟩
/-- slices.ContainsFunc(kinds, isUnknown) -/
theorem contains_kinds (B : Nat) (v : Value) (ks : List Int) (w : World) (h : KindsAt B w v ks) :
    Calls Tryz.prog 54 #[v, .func (.func 55) #[] #[]] w fun e w' => e = .returned (.bool (ks.any unknownB)) ∧ w = w' := by
  obtain ⟨A, n, c, rfl, hn, hl, hc⟩ := h.opens
  have hr := idxOf_ge unknownB ks
  generalize hj : idxOf unknownB ks = j at *
  have Hj := Lib.hid hj
  have Hr := Lib.hid hr
  clear hj hr
  have hc' : 0 < n → ∃ b off, A = some ⟨b, off, none⟩ ∧ ∀ j, j < n → w.cell? ⟨b, off + j, none⟩ = some (.int .i64 (ks[j]?.getD 0)) := fun h => by obtain ⟨b, o, h1, _, h2⟩ := hc h; exact ⟨b, o, h1, h2⟩
  have C := index_kinds A n c ks w hn hl hc'
  rw [Hj.out] at C
  have HC := Lib.hid C
  clear C hc hc' h
  by_cases hp : 0 ≤ j
  · go_enter Tryz.func54, Tryz.ntmps54
    go_wp2_with (go_at_call 76; refine HC.out.mono ?_; rintro e w' ⟨rfl, rfl⟩)
    go_ret
    exact ⟨ret_bool (Hr.out.1 hp).symm, rfl⟩
  · go_enter Tryz.func54, Tryz.ntmps54
    go_wp2_with (go_at_call 76; refine HC.out.mono ?_; rintro e w' ⟨rfl, rfl⟩)
    go_ret
    exact ⟨ret_bool (by cases h : ks.any unknownB with | true => exact absurd (Hr.out.2 h) (by omega) | false => simp; omega), rfl⟩

/-! ## countDistances -/
def distances (ks : List Int) : Nat := (ks.filter fun k => k == 5 || k == 6).length
theorem distances_le (ks : List Int) : distances ks ≤ ks.length := List.length_filter_le _ _
theorem take_at {ks : List Int} {k n : Nat} (h : Hid (ks.length = n)) (hk : k < n) : ks.take (k + 1) = ks.take k ++ [ks[k]?.getD 0] := by
  have hl : k < ks.length := by rw [h.out]; exact hk
  rw [List.take_succ_eq_append_getElem hl]; simp [hl]
theorem distances_snoc (ks : List Int) (k : Int) : distances (ks ++ [k]) = distances ks + if k == 5 || k == 6 then 1 else 0 := by
  unfold distances
  rw [List.filter_append]
  cases h : (k == 5 || k == 6) <;> simp [h]
set_option maxHeartbeats 400000 in
theorem count_any (B : Nat) (v : Value) (ks : List Int) (w : World) (h : KindsAt B w v ks) :
    Calls Tryz.prog 56 #[v] w fun e w' => e = .returned (.int .i64 (distances ks : Nat)) ∧ w = w' := by
  obtain ⟨A, n, c, rfl, hks, hn, hc⟩ := h.opens
  clear h
  go_enter Tryz.func56, Tryz.ntmps56
  go_wp2
  go_loop [3, 8] (fun t i => ∃ k m : Nat, k ≤ n ∧ i = .int .i64 k ∧ t = .int .i64 m ∧ m ≤ k ∧ Hid (m = distances (ks.take k))) (fun _ i => n - (intOf i).toNat)
  case atStart => exact ⟨0, 0, Nat.zero_le _, rfl, rfl, Nat.le_refl _, Lib.hid rfl⟩
  case round =>
    obtain ⟨k, m, hk, rfl, rfl, hm, Hm⟩ := hrel
    by_cases hlt : k < n
    · obtain ⟨b1, o1, rfl, _, g1⟩ := hc (by omega)
      have d1 := g1 k hlt
      have ht := take_at hks hlt
      have hs := distances_snoc (ks.take k) (ks[k]?.getD 0)
      rw [← ht, ← Hm.out] at hs
      have Hs := Lib.hid hs
      clear hs ht g1 hc
      by_cases h5 : ks[k]?.getD 0 = 5
      · have h5' : (ks[k]?.getD 0 == 5) = true := by simp [h5]
        have H5 := Lib.hid h5
        clear h5
        go_wp2
        go_round
        case rel => exact ⟨k + 1, m + 1, by omega, by go_num, by go_num, by omega, by rw [Hs.out]; exact Lib.hid (by simp [H5.out])⟩
        case measure => simp [intOf]; omega
      · have h5' : (ks[k]?.getD 0 == 5) = false := by simp [h5]
        have H5 := Lib.hid h5
        clear h5
        by_cases h6 : ks[k]?.getD 0 = 6
        · have h6' : (ks[k]?.getD 0 == 6) = true := by simp [h6]
          have H6 := Lib.hid h6
          clear h6
          go_wp2
          go_round
          case rel => exact ⟨k + 1, m + 1, by omega, by go_num, by go_num, by omega, by rw [Hs.out]; exact Lib.hid (by simp [H6.out])⟩
          case measure => simp [intOf]; omega
        · have h6' : (ks[k]?.getD 0 == 6) = false := by simp [h6]
          have H6 := Lib.hid h6
          clear h6
          go_wp2
          go_round
          case rel => exact ⟨k + 1, m, by omega, by go_num, by go_num, by omega, by rw [Hs.out]; exact Lib.hid (by simp [H5.out, H6.out])⟩
          case measure => simp [intOf]; omega
    · obtain rfl : k = n := by omega
      go_wp2
      go_ret
      exact ⟨ret_int (by rw [Hm.out, List.take_of_length_le (by rw [hks.out]; omega)]), rfl⟩

/-! ## sizes -/
def regsOf (k : Int) : Nat := if k == 1 || k == 2 then 1 else 0
def widthOf (k : Int) : Nat := if k == 3 || k == 5 then 1 else if k == 6 then 2 else if k == 4 then 4 else 0
def regs (ks : List Int) : Nat := (ks.map regsOf).sum
def widths (ks : List Int) : Nat := (ks.map widthOf).sum
def sizeOf (ks : List Int) : Nat := 1 + widths ks + (regs ks + 1) / 2
theorem regs_snoc (ks : List Int) (k : Int) : regs (ks ++ [k]) = regs ks + regsOf k := by simp [regs]
theorem widths_snoc (ks : List Int) (k : Int) : widths (ks ++ [k]) = widths ks + widthOf k := by simp [widths]
theorem kind_cases (x : Int) : x = 1 ∨ x = 2 ∨ x = 3 ∨ x = 5 ∨ x = 6 ∨ x = 4 ∨ ((x == 1) = false ∧ (x == 2) = false ∧ (x == 3) = false ∧ (x == 5) = false ∧ (x == 6) = false ∧ (x == 4) = false) := by
  simp only [beq_eq_false_iff_ne, ne_eq]; omega
theorem widthOf_le (k : Int) : widthOf k ≤ 4 := by unfold widthOf; repeat' split
                                                   all_goals omega
theorem regsOf_le (k : Int) : regsOf k ≤ 1 := by unfold regsOf; split <;> omega
set_option maxHeartbeats 400000 in
theorem size_any (B : Nat) (v : Value) (ks : List Int) (w : World) (h : KindsAt B w v ks) :
    Calls Tryz.prog 48 #[v] w fun e w' => e = .returned (.int .i64 (sizeOf ks : Nat)) ∧ w = w' := by
  obtain ⟨A, n, c, rfl, hks, hn, hc⟩ := h.opens
  clear h
  go_enter Tryz.func48, Tryz.ntmps48
  go_wp2
  go_loop [3, 4, 9] (fun t u i => ∃ k m b : Nat, k ≤ n ∧ i = .int .i64 k ∧ t = .int .i64 m ∧ u = .int .i64 b ∧ m ≤ k ∧ b ≤ 1 + 4 * k ∧ Hid (m = regs (ks.take k)) ∧ Hid (b = 1 + widths (ks.take k))) (fun _ _ i => n - (intOf i).toNat)
  case atStart => exact ⟨0, 0, 1, Nat.zero_le _, rfl, rfl, rfl, Nat.le_refl _, by omega, Lib.hid rfl, Lib.hid rfl⟩
  case round =>
    obtain ⟨k, m, b, hk, rfl, rfl, rfl, hm, hb, Hm, Hb⟩ := hrel
    by_cases hlt : k < n
    · obtain ⟨b1, o1, rfl, _, g1⟩ := hc (by omega)
      have d1 := g1 k hlt
      have ht := take_at hks hlt
      generalize ks[k]?.getD 0 = x at d1 ht
      have hs := regs_snoc (ks.take k) x
      have hs2 := widths_snoc (ks.take k) x
      rw [← ht] at hs hs2
      rw [← Hm.out] at hs
      have Hs := Lib.hid hs
      have Hs2 := Lib.hid hs2
      clear hs hs2 ht g1 hc
      rcases kind_cases x with rfl | rfl | rfl | rfl | rfl | rfl | ⟨e1, e2, e3, e4, e5, e6⟩
      · go_wp2
        go_round
        case rel => exact ⟨k + 1, m + 1, b, by omega, by go_num, by go_num, rfl, by omega, by omega, by rw [Hs.out]; exact Lib.hid rfl, by rw [Hs2.out, Hb.out]; exact Lib.hid rfl⟩
        case measure => simp [intOf]; omega
      · go_wp2
        go_round
        case rel => exact ⟨k + 1, m + 1, b, by omega, by go_num, by go_num, rfl, by omega, by omega, by rw [Hs.out]; exact Lib.hid rfl, by rw [Hs2.out, Hb.out]; exact Lib.hid rfl⟩
        case measure => simp [intOf]; omega
      · go_wp2
        go_round
        case rel => exact ⟨k + 1, m, b + 1, by omega, by go_num, rfl, by go_num, by omega, by omega, by rw [Hs.out]; exact Lib.hid rfl, by rw [Hs2.out, Hb.out]; exact Lib.hid rfl⟩
        case measure => simp [intOf]; omega
      · go_wp2
        go_round
        case rel => exact ⟨k + 1, m, b + 1, by omega, by go_num, rfl, by go_num, by omega, by omega, by rw [Hs.out]; exact Lib.hid rfl, by rw [Hs2.out, Hb.out]; exact Lib.hid rfl⟩
        case measure => simp [intOf]; omega
      · go_wp2
        go_round
        case rel => exact ⟨k + 1, m, b + 2, by omega, by go_num, rfl, by go_num, by omega, by omega, by rw [Hs.out]; exact Lib.hid rfl, by rw [Hs2.out, Hb.out]; exact Lib.hid rfl⟩
        case measure => simp [intOf]; omega
      · go_wp2
        go_round
        case rel => exact ⟨k + 1, m, b + 4, by omega, by go_num, rfl, by go_num, by omega, by omega, by rw [Hs.out]; exact Lib.hid rfl, by rw [Hs2.out, Hb.out]; exact Lib.hid rfl⟩
        case measure => simp [intOf]; omega
      · have e0 : regsOf x = 0 := by simp [regsOf, e1, e2]
        have e00 : widthOf x = 0 := by simp [widthOf, e3, e4, e5, e6]
        rw [e0] at Hs
        rw [e00] at Hs2
        clear e0 e00
        go_wp2
        go_round
        case rel => exact ⟨k + 1, m, b, by omega, by go_num, rfl, rfl, by omega, by omega, by rw [Hs.out]; exact Lib.hid rfl, by rw [Hs2.out, Hb.out]; exact Lib.hid rfl⟩
        case measure => simp [intOf]; omega
    · obtain rfl : k = n := by omega
      go_wp2
      go_ret
      have h1 := Hm.out
      have h2 := Hb.out
      rw [List.take_of_length_le (by rw [hks.out]; omega)] at h1 h2
      exact ⟨ret_int (by unfold sizeOf; rw [← h1, ← h2]; omega), rfl⟩
end Go.Proofs.YtcngpciblbdgbaaGreatDoor
