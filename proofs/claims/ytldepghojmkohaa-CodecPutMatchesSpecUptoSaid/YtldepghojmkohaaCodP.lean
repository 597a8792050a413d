/- Lists of numbers and of strings compared; what rows of one's own read as. Conditions: the readings. -/
import Derived.Test.YtldepghojmkohaaCodO
namespace Go.Proofs.Ytldepghojmkohaa.Cod
open Go Go.RowKit Go.Lib
theorem take_eq_succ {α : Type} {ks ls : List α} {z : α} {k : Nat} (hk : k < ks.length) (hk2 : k < ls.length) (h : ks.take k = ls.take k) (he : ks[k]?.getD z = ls[k]?.getD z) : ks.take (k + 1) = ls.take (k + 1) := by
  rw [List.take_succ_eq_append_getElem hk, List.take_succ_eq_append_getElem hk2, h]
  simp [hk, hk2] at he
  rw [he]
theorem ne_of_at {α : Type} {ks ls : List α} {z : α} {k : Nat} (he : ¬ ks[k]?.getD z = ls[k]?.getD z) : ks ≠ ls := fun e => he (by rw [e])
theorem mem_flatT {ss : List (List UInt8)} {s : List UInt8} (h : s ∈ ss) : s.length ≤ (flatT ss).length := by
  induction ss with
  | nil => simp at h
  | cons x xs ih =>
    rw [flatT_cons, List.length_append]
    rcases List.mem_cons.1 h with rfl | h
    · unfold textL
      rw [List.length_append]
      omega
    · have := ih h
      omega

theorem ints_of_row {w : World} {B n : Nat} {v : Value} {xs : List Int} (h : w.ownsRow B 3 1 v n (iv xs)) (hn : xs.length ≤ 17592186044416) (hr : ∀ x ∈ xs, I64 x) : IntsAt w.heap.size w v xs := by
  have hl : xs.length = n := by have := h.1; unfold iv at this; rw [List.length_map] at this; omega
  rcases h.2 with ⟨rfl, h0⟩ | ⟨g, cap, cur, rfl, _, _, h3, _⟩
  · subst h0
    have hl : xs = [] := List.eq_nil_of_length_eq_zero hl
    subst hl
    exact ⟨none, 0, rfl, by simp, by simp, fun h => absurd h (by simp)⟩
  · refine ⟨_, cap, by rw [hl], hn, hr, fun _ => ⟨g, 0, rfl, (h.lt g rfl).2, fun j hj => ?_⟩⟩
    rw [Nat.zero_add, h.cellAt j (by omega)]
    unfold iv
    rw [List.getElem?_map, List.getElem?_eq_getElem hj]
    rfl
theorem ints_no (A1 A2 : Option Addr) (n1 c1 n2 c2 : Nat) (w : World) (h : ((n1 : Int) != (n2 : Int)) = true) :
    Calls Try.prog 17 #[.slice A1 n1 c1, .slice A2 n2 c2] w fun e w' => e = .returned (.bool false) ∧ w = w' := by
  go_enter Try.func17, Try.ntmps17
  go_wp2
  go_ret
  exact ⟨rfl, rfl⟩
set_option maxHeartbeats 400000 in
theorem ints_yes (A1 A2 : Option Addr) (n c1 c2 : Nat) (ks ls : List Int) (w : World) (hks : Hid (ks.length = n)) (hls : Hid (ls.length = n)) (hn : n ≤ 17592186044416)
    (hc1 : Hid (0 < n → ∃ b off, A1 = some ⟨b, off, none⟩ ∧ ∀ j, j < n → w.cell? ⟨b, off + j, none⟩ = some (.int .i64 (ks[j]?.getD 0))))
    (hc2 : Hid (0 < n → ∃ b off, A2 = some ⟨b, off, none⟩ ∧ ∀ j, j < n → w.cell? ⟨b, off + j, none⟩ = some (.int .i64 (ls[j]?.getD 0)))) :
    Calls Try.prog 17 #[.slice A1 n c1, .slice A2 n c2] w fun e w' => e = .returned (.bool (decide (ks = ls))) ∧ ∃ n, w' = w.drewN n := by
  go_enter Try.func17, Try.ntmps17
  go_wp2
  go_loopw [5] (fun i wr => ∃ k q : Nat, k ≤ n ∧ i = .int .i64 k ∧ wr = w.drewN q ∧ ks.take k = ls.take k) (fun i _ => n - (intOf i).toNat)
  case atStart => exact ⟨0, 0, Nat.zero_le _, rfl, rfl, by simp⟩
  case round =>
    obtain ⟨k, q, hk, rfl, rfl, ht⟩ := hrel
    have Ht := Lib.hid ht
    clear ht
    by_cases hlt : k < n
    · obtain ⟨b1, o1, rfl, g1⟩ := hc1.out (by omega)
      obtain ⟨b2, o2, rfl, g2⟩ := hc2.out (by omega)
      have d1 := g1 k hlt
      have d2 := g2 k hlt
      clear hc1 hc2 g1 g2
      by_cases he : ks[k]?.getD 0 = ls[k]?.getD 0
      · have he' : (ks[k]?.getD 0 != ls[k]?.getD 0) = false := by simp [he]
        have He := Lib.hid he
        clear he
        go_wp2
        go_quiet (fail)
        go_wp2
        go_roundw
        case rel => exact ⟨k + 1, _, by omega, by go_num, rfl, take_eq_succ (by rw [hks.out]; exact hlt) (by rw [hls.out]; exact hlt) Ht.out He.out⟩
        case measure => simp [intOf]; omega
      · have he' : (ks[k]?.getD 0 != ls[k]?.getD 0) = true := by simp [he]
        have He := Lib.hid he
        clear he
        go_wp2
        go_quiet (fail)
        go_wp2
        go_ret
        exact ⟨by simp [ne_of_at He.out], _, World.drewN_drewN _ _ _⟩
    · obtain rfl : k = n := by omega
      go_wp2
      go_ret
      have ht := Ht.out
      rw [List.take_of_length_le (by rw [hks.out]; omega), List.take_of_length_le (by rw [hls.out]; omega)] at ht
      exact ⟨by simp [ht], _, rfl⟩
/-- whether the lists are equal -/
theorem ints_any (B : Nat) (v1 v2 : Value) (ks ls : List Int) (w : World) (h1 : IntsAt B w v1 ks) (h2 : IntsAt B w v2 ls) :
    Calls Try.prog 17 #[v1, v2] w fun e w' => e = .returned (.bool (decide (ks = ls))) ∧ ∃ n, w' = w.drewN n := by
  obtain ⟨A1, n1, c1, rfl, hn1, hl1, -, hc1⟩ := h1.opens
  obtain ⟨A2, n2, c2, rfl, hn2, hl2, -, hc2⟩ := h2.opens
  by_cases hn : n1 = n2
  · subst hn
    exact ints_yes A1 A2 n1 c1 c2 ks ls w hn1 hn2 (by omega) (Lib.hid fun h => by obtain ⟨b, o, h1, _, h2⟩ := hc1.out h; exact ⟨b, o, h1, h2⟩) (Lib.hid fun h => by obtain ⟨b, o, h1, _, h2⟩ := hc2.out h; exact ⟨b, o, h1, h2⟩)
  · have hne : ks ≠ ls := fun e => hn (by rw [← hn1.out, ← hn2.out, e])
    refine (ints_no A1 A2 n1 c1 n2 c2 w (by simp; omega)).mono ?_
    rintro e w' ⟨rfl, rfl⟩
    exact ⟨by simp [hne], 0, (World.drewN_zero _).symm⟩

theorem strings_of_row {w : World} {B n : Nat} {v : Value} {xs : List (List UInt8)} (h : w.ownsRow B 9 1 v n (sv xs)) (hn : xs.length ≤ 8796093022208) (hr : ∀ x ∈ xs, x.length ≤ 140737488351232) : StrsAt w.heap.size w v xs := by
  have hl : xs.length = n := by have := h.1; unfold sv at this; rw [List.length_map] at this; omega
  rcases h.2 with ⟨rfl, h0⟩ | ⟨g, cap, cur, rfl, _, _, h3, _⟩
  · subst h0
    have hl : xs = [] := List.eq_nil_of_length_eq_zero hl
    subst hl
    exact ⟨none, 0, rfl, by simp, by simp, fun h => absurd h (by simp)⟩
  · refine ⟨_, cap, by rw [hl], hn, hr, fun _ => ⟨g, 0, rfl, (h.lt g rfl).2, fun j hj => ?_⟩⟩
    rw [Nat.zero_add, h.cellAt j (by omega)]
    unfold sv
    rw [List.getElem?_map, List.getElem?_eq_getElem hj]
    rfl
theorem strings_no (A1 A2 : Option Addr) (n1 c1 n2 c2 : Nat) (w : World) (h : ((n1 : Int) != (n2 : Int)) = true) :
    Calls Try.prog 19 #[.slice A1 n1 c1, .slice A2 n2 c2] w fun e w' => e = .returned (.bool false) ∧ w = w' := by
  go_enter Try.func19, Try.ntmps19
  go_wp2
  go_ret
  exact ⟨rfl, rfl⟩
set_option maxHeartbeats 400000 in
theorem strings_yes (A1 A2 : Option Addr) (n c1 c2 : Nat) (ks ls : List (List UInt8)) (w : World) (hks : Hid (ks.length = n)) (hls : Hid (ls.length = n)) (hn : n ≤ 17592186044416)
    (hc1 : Hid (0 < n → ∃ b off, A1 = some ⟨b, off, none⟩ ∧ ∀ j, j < n → w.cell? ⟨b, off + j, none⟩ = some (strV (ks[j]?.getD []))))
    (hc2 : Hid (0 < n → ∃ b off, A2 = some ⟨b, off, none⟩ ∧ ∀ j, j < n → w.cell? ⟨b, off + j, none⟩ = some (strV (ls[j]?.getD [])))) :
    Calls Try.prog 19 #[.slice A1 n c1, .slice A2 n c2] w fun e w' => e = .returned (.bool (decide (ks = ls))) ∧ ∃ n, w' = w.drewN n := by
  go_enter Try.func19, Try.ntmps19
  go_wp2
  go_loopw [5] (fun i wr => ∃ k q : Nat, k ≤ n ∧ i = .int .i64 k ∧ wr = w.drewN q ∧ ks.take k = ls.take k) (fun i _ => n - (intOf i).toNat)
  case atStart => exact ⟨0, 0, Nat.zero_le _, rfl, rfl, by simp⟩
  case round =>
    obtain ⟨k, q, hk, rfl, rfl, ht⟩ := hrel
    have Ht := Lib.hid ht
    clear ht
    by_cases hlt : k < n
    · obtain ⟨b1, o1, rfl, g1⟩ := hc1.out (by omega)
      obtain ⟨b2, o2, rfl, g2⟩ := hc2.out (by omega)
      have d1 := g1 k hlt
      have d2 := g2 k hlt
      clear hc1 hc2 g1 g2
      by_cases he : ks[k]?.getD [] = ls[k]?.getD []
      · have he' : (!((⟨(ks[k]?.getD []).toArray⟩ : ByteArray).toList == (⟨(ls[k]?.getD []).toArray⟩ : ByteArray).toList)) = false := by simp [ByteArray.toList_eq, he]
        have He := Lib.hid he
        clear he
        unfold strV at d1 d2
        obtain ⟨s1, hs1⟩ : ∃ s1 : ByteArray, s1 = ⟨(ks[k]?.getD []).toArray⟩ := ⟨_, rfl⟩
        obtain ⟨s2, hs2⟩ : ∃ s2 : ByteArray, s2 = ⟨(ls[k]?.getD []).toArray⟩ := ⟨_, rfl⟩
        rw [← hs1] at d1 he'
        rw [← hs2] at d2 he'
        clear hs1 hs2
        go_wp2
        go_quiet (fail)
        go_wp2
        go_roundw
        case rel => exact ⟨k + 1, _, by omega, by go_num, rfl, take_eq_succ (by rw [hks.out]; exact hlt) (by rw [hls.out]; exact hlt) Ht.out He.out⟩
        case measure => simp [intOf]; omega
      · have he' : (!((⟨(ks[k]?.getD []).toArray⟩ : ByteArray).toList == (⟨(ls[k]?.getD []).toArray⟩ : ByteArray).toList)) = true := by simp [ByteArray.toList_eq, he]
        have He := Lib.hid he
        clear he
        unfold strV at d1 d2
        obtain ⟨s1, hs1⟩ : ∃ s1 : ByteArray, s1 = ⟨(ks[k]?.getD []).toArray⟩ := ⟨_, rfl⟩
        obtain ⟨s2, hs2⟩ : ∃ s2 : ByteArray, s2 = ⟨(ls[k]?.getD []).toArray⟩ := ⟨_, rfl⟩
        rw [← hs1] at d1 he'
        rw [← hs2] at d2 he'
        clear hs1 hs2
        go_wp2
        go_quiet (fail)
        go_wp2
        go_ret
        exact ⟨by simp [ne_of_at He.out], _, World.drewN_drewN _ _ _⟩
    · obtain rfl : k = n := by omega
      go_wp2
      go_ret
      have ht := Ht.out
      rw [List.take_of_length_le (by rw [hks.out]; omega), List.take_of_length_le (by rw [hls.out]; omega)] at ht
      exact ⟨by simp [ht], _, rfl⟩
/-- whether the lists are equal -/
theorem strings_any (B : Nat) (v1 v2 : Value) (ks ls : List (List UInt8)) (w : World) (h1 : StrsAt B w v1 ks) (h2 : StrsAt B w v2 ls) :
    Calls Try.prog 19 #[v1, v2] w fun e w' => e = .returned (.bool (decide (ks = ls))) ∧ ∃ n, w' = w.drewN n := by
  obtain ⟨A1, n1, c1, rfl, hn1, hl1, -, hc1⟩ := h1.opens
  obtain ⟨A2, n2, c2, rfl, hn2, hl2, -, hc2⟩ := h2.opens
  by_cases hn : n1 = n2
  · subst hn
    exact strings_yes A1 A2 n1 c1 c2 ks ls w hn1 hn2 (by omega) (Lib.hid fun h => by obtain ⟨b, o, h1, _, h2⟩ := hc1.out h; exact ⟨b, o, h1, h2⟩) (Lib.hid fun h => by obtain ⟨b, o, h1, _, h2⟩ := hc2.out h; exact ⟨b, o, h1, h2⟩)
  · have hne : ks ≠ ls := fun e => hn (by rw [← hn1.out, ← hn2.out, e])
    refine (strings_no A1 A2 n1 c1 n2 c2 w (by simp; omega)).mono ?_
    rintro e w' ⟨rfl, rfl⟩
    exact ⟨by simp [hne], 0, (World.drewN_zero _).symm⟩
end Go.Proofs.Ytldepghojmkohaa.Cod
