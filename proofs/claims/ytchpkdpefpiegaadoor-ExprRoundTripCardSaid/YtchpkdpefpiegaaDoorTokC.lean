/- Contracts of the functions over words and signs: wordSize, signSize, isSign, isName; the reference's NameByte, digit. Conditions: a string is not longer than a string may be. -/
import Derived.Test.YtchpkdpefpiegaaDoorTokB
import Derived.Test.YtchpkdpefpiegaaDoorShelf
namespace Go.Proofs.YtchpkdpefpiegaaDoor.Tok
open Go Go.RowKit

theorem word_stop {l : List UInt8} {k : Nat} (h : (l.take k).all nameB = true) (hk : k < l.length) (hn : nameB l[k] = false) : (word l).length = k := by
  have h1 : l = l.take k ++ l[k] :: l.drop (k + 1) := by
    rw [← List.drop_eq_getElem_cons hk, List.take_append_drop]
  have h2 : word l = l.take k := by
    conv => lhs; rw [h1]
    unfold word
    rw [List.takeWhile_append_of_pos (by simpa using h), List.takeWhile_cons, hn]
    simp
  rw [h2, List.length_take]
  omega
theorem all_next {l : List UInt8} {k : Nat} (h : (l.take k).all nameB = true) (hk : k < l.length) (hn : nameB l[k] = true) : (l.take (k + 1)).all nameB = true := by
  rw [List.take_succ_eq_append_getElem hk, List.all_append, h]
  simp [hn]
set_option maxHeartbeats 400000 in
theorem wordSize_any (s : ByteArray) (w : World) (hs : s.size ≤ 9223372036854775806) : Calls Tryd.prog 70 #[.string s] w fun e w' => e = .returned (.int .i64 ((word s.data.toList).length : Int)) ∧ w = w' := by
  go_enter Tryd.func70, Tryd.ntmps70
  go_wp2
  go_loop [6] (fun i => ∃ k : Nat, k ≤ s.size ∧ i = .int .i64 k ∧ Hid ((s.data.toList.take k).all nameB = true)) (fun i => s.size - (intOf i).toNat)
  case atStart => exact ⟨0, Nat.zero_le _, rfl, Lib.hid (by simp)⟩
  case round =>
    obtain ⟨k, hk, rfl, HA⟩ := hrel
    by_cases hlt : k < s.size
    · cases hn : nameB s[k] with
      | true =>
        have HN := Lib.hid hn
        have hnI : nameI ((s[k]).toNat : Int) = true := hn
        clear hn
        go_wp2_with (go_at_call 92; refine (nameByte_any _ _).mono ?_; rintro e w' ⟨rfl, rfl⟩; rw [hnI])
        go_round
        case rel => exact ⟨k + 1, by omega, by go_num, Lib.hid (all_next HA.out (by simpa using hlt) HN.out)⟩
        case measure => simp [intOf]; omega
      | false =>
        have HN := Lib.hid hn
        have hnI : nameI ((s[k]).toNat : Int) = false := hn
        clear hn
        go_wp2_with (go_at_call 92; refine (nameByte_any _ _).mono ?_; rintro e w' ⟨rfl, rfl⟩; rw [hnI])
        go_ret
        exact ⟨ret_int (by rw [word_stop HA.out (by simpa using hlt) HN.out]), rfl⟩
    · obtain rfl : k = s.size := by omega
      go_wp2
      go_ret
      refine ⟨ret_int ?_, rfl⟩
      have := HA.out
      rw [List.take_of_length_le (by simp)] at this
      rw [word_word this]
      rfl
theorem index_mem (l : List UInt8) (c : UInt8) : decide (Lib.indexByte l c ≥ 0) = decide (c ∈ l) := by
  induction l with
  | nil => simp [Lib.indexByte]
  | cons b r ih =>
    have hge := Lib.indexByte_ge r c
    unfold Lib.indexByte
    by_cases hb : b = c
    · subst hb; simp
    · rw [if_neg (by simpa using hb)]
      by_cases h1 : Lib.indexByte r c = -1
      · have : c ∉ r := by
          have h2 : decide (Lib.indexByte r c ≥ 0) = false := by rw [h1]; decide
          rw [ih] at h2
          simpa using h2
        simp [h1, this, Ne.symm hb]
      · have : c ∈ r := by
          have h2 : decide (Lib.indexByte r c ≥ 0) = true := decide_eq_true (by omega)
          rw [ih] at h2
          simpa using h2
        simp [h1, this]
        omega
theorem signs_index (c : UInt8) : Lib.indexByte signs1 c ≥ 0 ↔ c ∈ signs1 := by
  have := index_mem signs1 c
  constructor
  · intro h; rw [decide_eq_true h] at this; simpa using this.symm
  · intro h; rw [decide_eq_true h] at this; simpa using this
/-! ## the library's functions, in the words used here -/
theorem prefix_any (l p : List UInt8) (w : World) : Calls Tryd.prog 93 #[strV l, strV p] w fun e w' => e = .returned (.bool (Lib.hasPrefix l p)) ∧ w = w' :=
  (Tryd.strings_HasPrefix ⟨l.toArray⟩ ⟨p.toArray⟩ w).mono fun _ _ ⟨he, hw⟩ => ⟨he, hw.symm⟩
theorem index_any (l : List UInt8) (c : UInt8) (w : World) : Calls Tryd.prog 94 #[strV l, .int .u8 (c.toNat : Int)] w fun e w' => e = .returned (.int .i64 (Lib.indexByte l c)) ∧ w = w' :=
  (Tryd.strings_IndexByte ⟨l.toArray⟩ (c.toNat : Int) w).mono fun _ _ ⟨he, hw⟩ => ⟨by simpa using he, hw.symm⟩
theorem clone_any (l : List UInt8) (w : World) (hl : l.length ≤ 281474976710656) : Calls Tryd.prog 38 #[strV l] w fun e w' => e = .returned (strV l) ∧ Below w.heap.size w w' := by
  have C := Lib.hid (Tryd.stringslite_Clone ⟨l.toArray⟩ w hl)
  go_enter Tryd.func38, Tryd.ntmps38
  go_wp2_with fail
  refine C.out.mono ?_
  rintro e w' ⟨rfl, hb⟩
  have HB := Lib.hid hb
  clear hb
  go_wp2_with fail
  go_ret
  exact ⟨rfl, HB.out⟩
/-! ## signs -/
set_option maxHeartbeats 1000000 in
theorem signSize_any (l : List UInt8) (w : World) : Calls Tryd.prog 71 #[strV l] w fun e w' => e = .returned (.int .i64 (signSz l : Int)) ∧ w = w' := by
  have H1 := Lib.hid (prefix_any l [60, 60] w)
  have H2 := Lib.hid (prefix_any l [62, 62] w)
  cases h1 : Lib.hasPrefix l [60, 60] with
  | true =>
    have E := Lib.hid (show signSz l = 2 by simp [signSz, h1])
    rw [h1] at H1
    clear h1
    go_enter Tryd.func71, Tryd.ntmps71
    go_wp2_with fail
    refine H1.out.mono ?_
    rintro e w' ⟨rfl, rfl⟩
    go_wp2_with fail
    go_ret
    exact ⟨ret_int (by rw [E.out]; rfl), rfl⟩
  | false =>
    cases h2 : Lib.hasPrefix l [62, 62] with
    | true =>
      have E := Lib.hid (show signSz l = 2 by simp [signSz, h2])
      rw [h1] at H1
      rw [h2] at H2
      clear h1 h2
      go_enter Tryd.func71, Tryd.ntmps71
      go_wp2_with fail
      refine H1.out.mono ?_
      rintro e w' ⟨rfl, rfl⟩
      go_wp2_with fail
      refine H2.out.mono ?_
      rintro e w' ⟨rfl, rfl⟩
      go_wp2_with fail
      go_ret
      exact ⟨ret_int (by rw [E.out]; rfl), rfl⟩
    | false =>
      cases l with
      | nil =>
        rw [h1] at H1
        rw [h2] at H2
        clear h1 h2
        go_enter Tryd.func71, Tryd.ntmps71
        go_wp2_with fail
        refine H1.out.mono ?_
        rintro e w' ⟨rfl, rfl⟩
        go_wp2_with fail
        refine H2.out.mono ?_
        rintro e w' ⟨rfl, rfl⟩
        go_wp2_with fail
        go_ret
        exact ⟨ret_int (by rw [signSz_nil]; rfl), rfl⟩
      | cons c r =>
        have E := Lib.hid (show signSz (c :: r) = if c ∈ signs1 then 1 else 0 by simp [signSz, h1, h2])
        rw [h1] at H1
        rw [h2] at H2
        clear h1 h2
        have H3 := Lib.hid (index_any signs1 c w)
        obtain ⟨s, hs⟩ : ∃ s : ByteArray, s = ⟨(c :: r).toArray⟩ := ⟨_, rfl⟩
        have hs0 : 0 < s.size := by rw [hs]; show 0 < (c :: r).length; simp
        have hsx : ∀ h : 0 < s.size, s[0] = c := by subst hs; intro h; rfl
        have hsx2 := hsx hs0
        have hne : (s.toList.isEmpty) = false := by rw [hs]; simp [ByteArray.toList_eq]
        have hne2 : (!s.toList.isEmpty) = true := by rw [hne]; rfl
        rw [show strV (c :: r) = Value.string s from by rw [hs]] at H1 H2 ⊢
        clear hs hsx
        by_cases hc : c ∈ signs1
        · have E2 := Lib.hid (show signSz (c :: r) = 1 by rw [E.out, if_pos hc])
          have hi := (signs_index c).2 hc
          generalize Lib.indexByte signs1 c = i at hi H3
          have hi' : 0 ≤ i := hi
          clear hc E hi
          go_enter Tryd.func71, Tryd.ntmps71
          go_wp2_with fail
          refine H1.out.mono ?_
          rintro e w' ⟨rfl, rfl⟩
          go_wp2_with fail
          refine H2.out.mono ?_
          rintro e w' ⟨rfl, rfl⟩
          go_wp2_with fail
          refine H3.out.mono ?_
          rintro e w' ⟨rfl, rfl⟩
          go_wp2_with fail
          go_ret
          exact ⟨ret_int (by rw [E2.out]; rfl), rfl⟩
        · have E2 := Lib.hid (show signSz (c :: r) = 0 by rw [E.out, if_neg hc])
          have hi : ¬ Lib.indexByte signs1 c ≥ 0 := fun h => hc ((signs_index c).1 h)
          generalize Lib.indexByte signs1 c = i at hi H3
          have hi' : i < 0 := by omega
          clear hc E hi
          go_enter Tryd.func71, Tryd.ntmps71
          go_wp2_with fail
          refine H1.out.mono ?_
          rintro e w' ⟨rfl, rfl⟩
          go_wp2_with fail
          refine H2.out.mono ?_
          rintro e w' ⟨rfl, rfl⟩
          go_wp2_with fail
          refine H3.out.mono ?_
          rintro e w' ⟨rfl, rfl⟩
          go_wp2_with fail
          go_ret
          exact ⟨ret_int (by rw [E2.out]; rfl), rfl⟩
theorem str_open (c : UInt8) (r : List UInt8) : ∃ s : ByteArray, strV (c :: r) = .string s ∧ s.size = r.length + 1 ∧ (∀ h : 0 < s.size, s[0] = c) ∧ s.toList.isEmpty = false ∧ s.data.toList = c :: r :=
  ⟨⟨(c :: r).toArray⟩, rfl, rfl, fun _ => rfl, by simp [ByteArray.toList_eq], rfl⟩
set_option maxHeartbeats 1000000 in
theorem isSign_any (l : List UInt8) (w : World) : Calls Tryd.prog 45 #[strV l] w fun e w' => e = .returned (.bool (isSign l)) ∧ w = w' := by
  cases l with
  | nil =>
    go_enter Tryd.func45, Tryd.ntmps45
    go_wp2_with fail
    go_ret
    exact ⟨ret_bool (by decide), rfl⟩
  | cons c r =>
    have C := Lib.hid (signSize_any (c :: r) w)
    have E := Lib.hid (show isSign (c :: r) = decide ((signSz (c :: r) : Int) = ((r.length + 1 : Nat) : Int)) by
      unfold isSign
      rw [Bool.eq_iff_iff]
      simp
      omega)
    obtain ⟨s, h1, h2, h3, h4, h5⟩ := str_open c r
    rw [h1] at C ⊢
    have hn : (!s.toList.isEmpty) = true := by rw [h4]; rfl
    rw [← h2] at E
    generalize signSz (c :: r) = z at E C
    clear h1 h2 h3 h5
    go_enter Tryd.func45, Tryd.ntmps45
    go_wp2_with fail
    refine C.out.mono ?_
    rintro e w' ⟨rfl, rfl⟩
    go_wp2_with fail
    all_goals
      go_ret
      exact ⟨ret_bool (by rw [E.out]; rfl), rfl⟩
set_option maxHeartbeats 1000000 in
theorem isName_any (l : List UInt8) (w : World) (hl : l.length ≤ 9223372036854775806) : Calls Tryd.prog 44 #[strV l] w fun e w' => e = .returned (.bool (isName l)) ∧ w = w' := by
  cases l with
  | nil =>
    go_enter Tryd.func44, Tryd.ntmps44
    go_wp2_with fail
    go_ret
    exact ⟨ret_bool (by decide), rfl⟩
  | cons c r =>
    have C := Lib.hid (wordSize_any ⟨(c :: r).toArray⟩ w hl)
    obtain ⟨s, h1, h2, h3, h4, h5⟩ := str_open c r
    have hse : s = ⟨(c :: r).toArray⟩ := by injection h1 with h1; exact h1.symm
    rw [← hse] at C
    rw [h5] at C
    rw [h1]
    have hn : (!s.toList.isEmpty) = true := by rw [h4]; rfl
    have hs0 : 0 < s.size := by omega
    have hx := h3 hs0
    by_cases hlen : r.length + 1 ≤ 16
    · have hlen' : s.size ≤ 16 := by omega
      cases hd : digB c with
      | true =>
        have E := Lib.hid (show isName (c :: r) = false by simp [isName, hd])
        have hd' : digI (c.toNat : Int) = true := hd
        clear h1 h2 h3 h5 hse hd hlen C
        go_enter Tryd.func44, Tryd.ntmps44
        go_wp2_with (go_at_call 69; refine (digit_any _ _).mono ?_; rintro e w' ⟨rfl, rfl⟩; rw [hd'])
        go_ret
        exact ⟨ret_bool E.out.symm, rfl⟩
      | false =>
        have E := Lib.hid (show isName (c :: r) = decide (((word (c :: r)).length : Int) = ((s.size : Nat) : Int)) by
          have := word_iff (c :: r)
          rw [h2]
          unfold isName
          rw [← this]
          simp [hd, hlen]
          omega)
        have hd' : digI (c.toNat : Int) = false := hd
        generalize (word (c :: r)).length = z at E C
        clear h1 h2 h3 h5 hse hd hlen
        go_enter Tryd.func44, Tryd.ntmps44
        go_wp2_with (first | (go_at_call 69; refine (digit_any _ _).mono ?_; rintro e w' ⟨rfl, rfl⟩; rw [hd']) | (go_at_call 70; refine C.out.mono ?_; rintro e w' ⟨rfl, rfl⟩))
        all_goals
          go_ret
          exact ⟨ret_bool (by rw [E.out]; rfl), rfl⟩
    · have hlen' : 16 < s.size := by omega
      have E := Lib.hid (show isName (c :: r) = false by simp [isName]; intro h; omega)
      clear h1 h2 h3 h5 hse hlen C
      go_enter Tryd.func44, Tryd.ntmps44
      go_wp2_with fail
      go_ret
      exact ⟨ret_bool E.out.symm, rfl⟩
end Go.Proofs.YtchpkdpefpiegaaDoor.Tok
