/- Contracts on names of forms: isFormName (by the library's own text of strings.ContainsFunc) and Letters both answer whether a string has 1 to 16 letters from a to z. No conditions but the reach of a string. -/
import Derived.Test.YtcngpciblbdgbaaGreatDoorIsaC
import Derived.Shelf.GgClosure.StringsIndexFunc
namespace Go.Proofs.YtcngpciblbdgbaaGreatDoor
open Go Go.RowKit Go.Shelf Go.Lib

theorem decode_lo (s : ByteArray) (i : Nat) (h : (s.get! i).toNat < 128) : Utf8.decode s i = ((s.get! i).toNat, 1) := by
  simp [Utf8.decode, h]
theorem decode_hi (s : ByteArray) (i : Nat) (h : ¬ (s.get! i).toNat < 128) : 128 ≤ (Utf8.decode s i).1 := by
  simp only [Utf8.decode, Nat.add_zero, Utf8.runeError]
  rw [if_neg h]
  repeat' split
  all_goals simp only [Bool.and_eq_true, decide_eq_true_eq] at *
  all_goals omega

def isLow (c : UInt8) : Bool := decide (97 ≤ c.toNat) && decide (c.toNat ≤ 122)
def lowB (s : ByteArray) : Bool := s.data.toList.all isLow
def otherRune (r : Nat) : Bool := decide ((r : Int) < 97) || decide ((r : Int) > 122)
def nameOk (s : ByteArray) : Bool := lowB s && (decide (1 ≤ s.size) && decide (s.size ≤ 16))

theorem get!_at (s : ByteArray) (i : Nat) (h : i < s.data.size) : s.get! i = s.data[i] := by
  show s.data[i]! = _
  rw [getElem!_pos s.data i h]
theorem lowB_iff (s : ByteArray) : lowB s = true ↔ ∀ i, i < s.size → isLow (s.get! i) = true := by
  unfold lowB
  rw [List.all_eq_true]
  constructor
  · intro h i hi
    rw [get!_at s i hi]
    exact h _ (by simp)
  · intro h x hx
    obtain ⟨i, hi, rfl⟩ := List.getElem_of_mem hx
    have hi' : i < s.data.size := by simpa using hi
    have := h i hi'
    rw [get!_at s i hi'] at this
    simpa using this

theorem idx_low (s : ByteArray) : ∀ f pos, s.size ≤ pos + f → (Lib.idxFuncFrom otherRune true s f pos = -1 ↔ ∀ i, pos ≤ i → i < s.size → isLow (s.get! i) = true) := by
  intro f
  induction f with
  | zero => intro pos h; simp only [Lib.idxFuncFrom, true_iff]; intro i h1 h2; omega
  | succ f ih =>
    intro pos h
    unfold Lib.idxFuncFrom
    by_cases hp : pos < s.size
    · rw [if_pos hp]
      by_cases hlo : (s.get! pos).toNat < 128
      · rw [decode_lo s pos hlo]
        dsimp only
        cases hr : otherRune (s.get! pos).toNat with
        | true =>
          rw [if_pos rfl]
          refine ⟨fun e => by omega, fun hall => ?_⟩
          have := hall pos (Nat.le_refl _) hp
          simp only [isLow, otherRune, Bool.and_eq_true, Bool.or_eq_true, decide_eq_true_eq] at this hr
          omega
        | false =>
          rw [if_neg (by simp), ih (pos + 1) (by omega)]
          refine ⟨fun hall i h1 h2 => ?_, fun hall i h1 h2 => hall i (by omega) h2⟩
          by_cases hi : i = pos
          · subst hi
            simp only [isLow, otherRune, Bool.and_eq_true, Bool.or_eq_false_iff, decide_eq_true_eq, decide_eq_false_iff_not] at hr ⊢
            omega
          · exact hall i (by omega) h2
      · have hhi := decode_hi s pos hlo
        have hr : otherRune (Utf8.decode s pos).1 = true := by
          simp only [otherRune, Bool.or_eq_true, decide_eq_true_eq]; omega
        rw [if_pos hr]
        refine ⟨fun e => by omega, fun hall => ?_⟩
        have := hall pos (Nat.le_refl _) hp
        simp only [isLow, Bool.and_eq_true, decide_eq_true_eq] at this
        omega
    · rw [if_neg hp]
      simp only [true_iff]
      intro i h1 h2; omega
theorem idx_lowB (s : ByteArray) : decide (0 ≤ Lib.idxFunc otherRune true s) = !lowB s := by
  have h := idx_low s s.size 0 (by omega)
  have hr := Lib.idxFunc_range otherRune true s
  have hl := lowB_iff s
  unfold Lib.idxFunc at *
  cases hb : lowB s with
  | true =>
    have := h.2 (fun i _ hi => hl.1 hb i hi)
    simp [this]
  | false =>
    have hne : ¬ Lib.idxFuncFrom otherRune true s s.size 0 = -1 := fun e => by
      have := hl.2 (fun i hi => h.1 e i (Nat.zero_le _) hi)
      rw [hb] at this; cases this
    simp only [Bool.not_false, decide_eq_true_eq]
    omega

/-! ## the literal in isFormName -/
set_option maxHeartbeats 400000 in
theorem other_any (r : Nat) (w : World) : Calls Tryz.prog 74 #[.int .i32 (r : Int)] w fun e w' => e = .returned (.bool (otherRune r)) ∧ w = w' := by
  by_cases h1 : (r : Int) < 97
  · go_enter Tryz.func74, Tryz.ntmps74
    go_wp2
    go_ret
    exact ⟨ret_bool (by simp [otherRune]; omega), rfl⟩
  · by_cases h2 : 122 < (r : Int)
    · go_enter Tryz.func74, Tryz.ntmps74
      go_wp2
      go_ret
      exact ⟨ret_bool (by simp [otherRune]; omega), rfl⟩
    · go_enter Tryz.func74, Tryz.ntmps74
      go_wp2
      go_ret
      exact ⟨ret_bool (by simp [otherRune]; omega), rfl⟩

set_option maxHeartbeats 400000 in
theorem indexFunc_any (s : ByteArray) (w : World) :
    Calls Tryz.prog 105 #[.string s, .func (.func 74) #[] #[], .bool true] w fun e w' => e = .returned (.int .i64 (Lib.idxFunc otherRune true s)) ∧ Below w.heap.size w w' := by
  go_enter Tryz.func105, Tryz.ntmps105
  go_wp2
  go_loopg [] s.size (fun gf wx => ∃ pos : Nat, wx.heap[w.heap.size]? = some (.stringIter s pos) ∧ Below w.heap.size w wx ∧ Lib.idxFuncFrom otherRune true s gf pos = Lib.idxFunc otherRune true s ∧ s.size ≤ pos + gf)
  case atStart => exact ⟨0, World.iter_heap w s 0, (Below.refl _ w).alloc (Nat.le_refl _) _, rfl, by omega⟩
  case round =>
    obtain ⟨pos, hit, hbw, hleft, hfu⟩ := hrel
    by_cases hps : pos < s.size
    · obtain ⟨g', rfl⟩ : ∃ g', gk = g' + 1 := ⟨gk - 1, by omega⟩
      have hnx : ∀ ty, (Instr.next (.pointer (some ⟨w.heap.size, 0, none⟩)) true ty).run Tryz.prog wr = _ := fun ty => Lib.run_next_any_at wr w.heap.size s pos ty hit hps
      have hwd := Lib.width_pos s pos
      obtain ⟨R, hR⟩ : ∃ R, (Utf8.decode s pos).1 = R := ⟨_, rfl⟩
      obtain ⟨K, hK⟩ : ∃ K, (Utf8.decode s pos).2 = K := ⟨_, rfl⟩
      simp only [Lib.idxFuncFrom, hps, if_true, hR, hK] at hleft
      rw [hR, hK] at hnx
      rw [hK] at hwd
      have hit2 := Lib.iterAt_heap wr w.heap.size s pos (pos + K) hit
      have hbw2 := Lib.below_iterAt hbw (k := w.heap.size) (Nat.le_refl _) s (pos + K)
      obtain ⟨W, hWd⟩ : ∃ W, wr.iterAt w.heap.size s (pos + K) = W := ⟨_, rfl⟩
      rw [hWd] at hnx hit2 hbw2
      have cS := other_any R W
      have Hit2 := Lib.hid hit2
      clear hR hK hWd hit hit2
      cases hsp : otherRune R <;> rw [hsp] at cS <;> simp only [hsp, if_true, Bool.false_eq_true, if_false] at hleft
      · have HC := Lib.hid cS
        have Hl := Lib.hid hleft
        clear cS hleft hsp
        go_wp2_with (go_at_call 74; refine HC.out.mono ?_; rintro e W' ⟨rfl, rfl⟩)
        go_roundg g'
        case measure => omega
        case rel => exact ⟨pos + K, Hit2.out, hbw2, Hl.out, by omega⟩
      · have HC := Lib.hid cS
        have Hl := Lib.hid hleft
        clear cS hleft hsp
        go_wp2_with (go_at_call 74; refine HC.out.mono ?_; rintro e W' ⟨rfl, rfl⟩)
        go_ret
        exact ⟨ret_int Hl.out, hbw2⟩
    · have hnx : ∀ ty, (Instr.next (.pointer (some ⟨w.heap.size, 0, none⟩)) true ty).run Tryz.prog wr = _ := fun ty => Lib.run_next_end_at wr w.heap.size s pos ty hit hps
      rw [Lib.idxFuncFrom_end otherRune true s gk pos hps] at hleft
      have Hl := Lib.hid hleft
      clear hleft hit
      go_wp2
      go_ret
      exact ⟨ret_int Hl.out, hbw⟩

set_option maxHeartbeats 400000 in
theorem IndexFunc_any (s : ByteArray) (w : World) :
    Calls Tryz.prog 86 #[.string s, .func (.func 74) #[] #[]] w fun e w' => e = .returned (.int .i64 (Lib.idxFunc otherRune true s)) ∧ Below w.heap.size w w' := by
  go_enter Tryz.func86, Tryz.ntmps86
  go_wp2_with (go_at_call 105; refine (indexFunc_any _ _).mono ?_; rintro e w' ⟨rfl, hb⟩)
  go_ret
  exact ⟨rfl, hb⟩
set_option maxHeartbeats 400000 in
theorem containsFunc_any (s : ByteArray) (w : World) :
    Calls Tryz.prog 75 #[.string s, .func (.func 74) #[] #[]] w fun e w' => e = .returned (.bool (!lowB s)) ∧ Below w.heap.size w w' := by
  have hj := idx_lowB s
  have C := IndexFunc_any s w
  generalize Lib.idxFunc otherRune true s = j at *
  have Hj := Lib.hid hj
  have HC := Lib.hid C
  clear hj C
  by_cases hp : 0 ≤ j
  · go_enter Tryz.func75, Tryz.ntmps75
    go_wp2_with (go_at_call 86; refine HC.out.mono ?_; rintro e w' ⟨rfl, hb⟩)
    go_ret
    exact ⟨ret_bool (by rw [← Hj.out]; simp [hp]), hb⟩
  · go_enter Tryz.func75, Tryz.ntmps75
    go_wp2_with (go_at_call 86; refine HC.out.mono ?_; rintro e w' ⟨rfl, hb⟩)
    go_ret
    exact ⟨ret_bool (by rw [← Hj.out]), hb⟩

theorem isEmpty_false {s : ByteArray} (h : ¬ s.size = 0) : s.data.toList.isEmpty = false := by
  cases e : s.data.toList.isEmpty with
  | false => rfl
  | true => rw [List.isEmpty_iff_length_eq_zero] at e; exact absurd (by simpa using e) h
theorem low_in (c : UInt8) : inB (wrap64 (c.toNat : Int)) 97 122 = isLow c := by
  have hc := c.toNat_lt
  rw [IntWalk.wrap64_in _ (by omega)]
  unfold inB isLow
  congr 1 <;> exact decide_eq_decide.2 (by omega)
theorem get!_get (s : ByteArray) (k : Nat) (h : k < s.size) : s.get! k = s[k] := by
  rw [get!_at s k h]; rfl
set_option maxHeartbeats 400000 in
theorem letters_any (s : ByteArray) (w : World) (hs : s.size ≤ maxLen) : Calls Tryz.prog 25 #[.string s] w fun e w' => e = .returned (.bool (nameOk s)) ∧ w = w' := by
  unfold maxLen at hs
  go_enter Tryz.func25, Tryz.ntmps25
  go_wp2
  go_loop [3] (fun i => ∃ k : Nat, k ≤ s.size ∧ i = .int .i64 k ∧ ∀ j, j < k → isLow (s.get! j) = true) (fun i => s.size - (intOf i).toNat)
  case atStart => exact ⟨0, Nat.zero_le _, rfl, fun j hj => absurd hj (Nat.not_lt_zero _)⟩
  case round =>
    obtain ⟨k, hk, rfl, ht⟩ := hrel
    have Ht := Lib.hid ht
    clear ht
    by_cases hlt : k < s.size
    · have hl := low_in s[k]
      have hg := get!_get s k hlt
      cases hb : isLow s[k] with
      | true =>
        rw [hb] at hl
        have Hb := Lib.hid hb
        have Hg := Lib.hid hg
        clear hb hg
        go_wp2_with (go_at_call 20; refine (in_any _ _ _ _).mono ?_; rintro e w' ⟨rfl, rfl⟩)
        go_round
        case rel =>
          refine ⟨k + 1, by omega, by go_num, fun j hj => ?_⟩
          rcases Nat.lt_succ_iff_lt_or_eq.1 hj with h | rfl
          · exact Ht.out j h
          · rw [Hg.out]; exact Hb.out
        case measure => simp [intOf]; omega
      | false =>
        rw [hb] at hl
        have Hb := Lib.hid hb
        have Hg := Lib.hid hg
        clear hb hg
        go_wp2_with (go_at_call 20; refine (in_any _ _ _ _).mono ?_; rintro e w' ⟨rfl, rfl⟩)
        go_ret
        refine ⟨ret_bool ?_, rfl⟩
        have hn : lowB s = false := by
          cases hx : lowB s with
          | false => rfl
          | true => have := (lowB_iff s).1 hx k hlt; rw [Hg.out, Hb.out] at this; cases this
        simp [nameOk, hn]
    · obtain rfl : k = s.size := by omega
      go_wp2_with (go_at_call 20; refine (in_any _ _ _ _).mono ?_; rintro e w' ⟨rfl, rfl⟩)
      go_ret
      refine ⟨ret_bool ?_, rfl⟩
      have hn : lowB s = true := (lowB_iff s).2 Ht.out
      simp only [nameOk, hn, inB, Bool.true_and]
      congr 1 <;> exact decide_eq_decide.2 (by omega)

set_option maxHeartbeats 400000 in
theorem formName_any (s : ByteArray) (w : World) (hs : s.size ≤ maxLen) : Calls Tryz.prog 53 #[.string s] w fun e w' => e = .returned (.bool (nameOk s)) ∧ Below w.heap.size w w' := by
  unfold maxLen at hs
  by_cases h0 : s.size = 0
  · have he : s.toList.isEmpty = true := by rw [ByteArray.toList_eq, List.isEmpty_iff_length_eq_zero]; simpa using h0
    have hk : nameOk s = false := by simp [nameOk, h0]
    rw [hk]
    clear h0 hk
    go_enter Tryz.func53, Tryz.ntmps53
    go_wp2
    go_ret
    exact ⟨rfl, Below.refl _ _⟩
  · have he : s.toList.isEmpty = false := by rw [ByteArray.toList_eq]; exact isEmpty_false h0
    by_cases h16 : s.size ≤ 16
    · have hk : nameOk s = lowB s := by simp [nameOk, h16]; omega
      rw [hk]
      have C := containsFunc_any s w
      have HC := Lib.hid C
      clear hk C h0
      go_enter Tryz.func53, Tryz.ntmps53
      go_wp2_with (go_at_call 75; refine HC.out.mono ?_; rintro e w' ⟨rfl, hb⟩)
      go_ret
      exact ⟨ret_bool (by simp), hb⟩
    · have hk : nameOk s = false := by simp [nameOk]; omega
      rw [hk]
      clear hk h0
      go_enter Tryz.func53, Tryz.ntmps53
      go_wp2
      go_ret
      exact ⟨rfl, Below.refl _ _⟩
end Go.Proofs.YtcngpciblbdgbaaGreatDoor
