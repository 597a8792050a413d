/- Pure facts: joined tokens are divided into the same tokens; decimal digits denote their number. No program, no memory. -/
import Derived.Test.YtccnaoabmgkblaaDoorTokQ
import Derived.Test.YtccnaoabmgkblaaDoorTokP
namespace Go.Proofs.YtccnaoabmgkblaaDoor.Tok
open Go

/-! ## decimal digits -/
theorem dec_lt {n : Nat} (h : n < 10) : Lib.decDigits n = [UInt8.ofNat (48 + n)] := by rw [Lib.decDigits, dif_pos h]
theorem dec_ge {n : Nat} (h : ¬ n < 10) : Lib.decDigits n = Lib.decDigits (n / 10) ++ [UInt8.ofNat (48 + n % 10)] := by rw [Lib.decDigits, dif_neg h]
theorem digit_val : ∀ (d : Nat), d < 10 → hexB (UInt8.ofNat (48 + d)) = (d : Int) ∧ digB (UInt8.ofNat (48 + d)) = true ∧ (0 < d → UInt8.ofNat (48 + d) ≠ 48) := by
  intro d hd
  have : d = 0 ∨ d = 1 ∨ d = 2 ∨ d = 3 ∨ d = 4 ∨ d = 5 ∨ d = 6 ∨ d = 7 ∨ d = 8 ∨ d = 9 := by omega
  rcases this with rfl | rfl | rfl | rfl | rfl | rfl | rfl | rfl | rfl | rfl <;> decide
theorem pu_append {b : Nat} : ∀ (l : List UInt8) (acc u : Nat) (r : List UInt8), pu b acc l = .inl u → pu b acc (l ++ r) = pu b u r
  | [], acc, u, r, h => by
    have : acc = u := by simpa [pu] using h
    rw [this]; rfl
  | c :: l, acc, u, r, h => by
    rw [pu] at h
    rw [List.cons_append, pu]
    split at h
    · rename_i h1
      rw [if_pos h1]
      split at h
      · cases h
      · rename_i h2
        rw [if_neg h2]
        exact pu_append l _ u r h
    · cases h
theorem pu_dec : ∀ (n : Nat), n ≤ 4294967295 → pu 10 0 (Lib.decDigits n) = .inl n := by
  intro n
  induction n using Nat.strongRecOn with
  | ind n ih =>
    intro hn
    by_cases h : n < 10
    · obtain ⟨h1, -, -⟩ := digit_val n h
      rw [dec_lt h, pu_ok_step (by rw [h1]; omega) (by rw [h1]; omega) (by rw [h1]; omega), h1]
      simp [pu]
    · obtain ⟨h1, -, -⟩ := digit_val (n % 10) (Nat.mod_lt _ (by decide))
      rw [dec_ge h, pu_append _ _ _ _ (ih (n / 10) (by omega) (by omega))]
      have e : n / 10 * 10 + n % 10 = n := by omega
      rw [pu_ok_step (by rw [h1]; omega) (by rw [h1]; omega) (by rw [h1]; omega), h1]
      simp [pu]
      omega
theorem dec_digits : ∀ (n : Nat), (Lib.decDigits n).all digB = true := by
  intro n
  induction n using Nat.strongRecOn with
  | ind n ih =>
    by_cases h : n < 10
    · rw [dec_lt h]; simp only [List.all_cons, List.all_nil, (digit_val n h).2.1, Bool.and_self]
    · rw [dec_ge h, List.all_append, ih (n / 10) (by omega)]
      simp only [List.all_cons, List.all_nil, (digit_val (n % 10) (Nat.mod_lt _ (by decide))).2.1, Bool.and_self]
theorem dec_ne (n : Nat) : Lib.decDigits n ≠ [] := by
  by_cases h : n < 10
  · rw [dec_lt h]; simp
  · rw [dec_ge h]; simp
theorem dec_head : ∀ (n : Nat), 10 ≤ n → ∃ c r, Lib.decDigits n = c :: r ∧ c ≠ 48 := by
  intro n
  induction n using Nat.strongRecOn with
  | ind n ih =>
    intro h
    rw [dec_ge (by omega)]
    by_cases h2 : n / 10 < 10
    · rw [dec_lt h2]
      exact ⟨_, _, rfl, (digit_val (n / 10) h2).2.2 (by omega)⟩
    · obtain ⟨c, r, h3, h4⟩ := ih (n / 10) (by omega) (by omega)
      rw [h3]
      exact ⟨c, _, rfl, h4⟩
theorem num_decDigits {n : Nat} (hn : n ≤ 4294967295) : num (Lib.decDigits n) = some n := by
  refine num_good (dec_ne n) ?_ (pu_dec n hn)
  rintro ⟨h1, h2⟩
  by_cases h : n < 10
  · rw [dec_lt h] at h1; simp at h1
  · obtain ⟨c, r, h3, h4⟩ := dec_head n (by omega)
    rw [h3] at h2
    exact h4 (by simpa using h2)
theorem itoa_nat {v : Int} (h : 0 ≤ v) : Lib.itoa v = Lib.decDigits v.toNat := by
  unfold Lib.itoa
  rw [if_neg (by omega)]
theorem dig_name {l : List UInt8} (h : l.all digB = true) : l.all nameB = true := by
  rw [List.all_eq_true] at h ⊢
  exact fun x hx => (dig_byte (h x hx)).1

/-! ## one token ahead of a space -/
theorem word_app {l r : List UInt8} (h : l.all nameB = true) (hr : r = [] ∨ ∃ q, r = 32 :: q) : word (l ++ r) = l := by
  unfold word
  rw [List.takeWhile_append_of_pos (by simpa using h)]
  rcases hr with rfl | ⟨q, rfl⟩
  · simp
  · rw [List.takeWhile_cons, if_neg (by decide), List.append_nil]
theorem isName_parts {l : List UInt8} (h : isName l = true) : l ≠ [] ∧ l.all nameB = true ∧ (∀ c r, l = c :: r → digB c = false) := by
  simp only [isName, Bool.and_eq_true, decide_eq_true_eq, Bool.not_eq_true'] at h
  refine ⟨h.1.1.1, h.2, fun c r e => ?_⟩
  have := h.1.2
  rw [e] at this
  simpa using this
theorem num_name {l : List UInt8} (h : isName l = true) : num l = none := by
  cases hn : num l with
  | none => rfl
  | some v =>
    obtain ⟨c, r, h1, h2⟩ := num_head hn
    rw [(isName_parts h).2.2 c r h1] at h2
    cases h2
theorem sign_app {l r : List UInt8} (h : isSign l = true) : signSz (l ++ r) = l.length := by
  simp only [isSign, Bool.and_eq_true, decide_eq_true_eq] at h
  obtain ⟨h1, h2⟩ := h
  cases l with
  | nil => exact absurd rfl h1
  | cons c l =>
    cases l with
    | nil =>
      have hc := signSz_first (show signSz (c :: []) = 1 from h2)
      show signSz (c :: r) = 1
      exact signSz_sign hc
    | cons d l =>
      have hle := (signSz_le (c :: d :: l)).1
      have hz : signSz (c :: d :: l) = 2 := by
        rw [h2] at hle ⊢
        simp only [List.length_cons] at hle ⊢
        omega
      have hl : l = [] := List.eq_nil_of_length_eq_zero (by rw [hz] at h2; simp only [List.length_cons] at h2; omega)
      subst hl
      obtain ⟨q, hq | hq⟩ := signSz_two hz
      · obtain ⟨ha, hb, -⟩ : c = 60 ∧ d = 60 ∧ True := by simp only [List.cons.injEq] at hq; exact ⟨hq.1, hq.2.1, trivial⟩
        subst ha hb
        simp [signSz, Lib.hasPrefix]
      · obtain ⟨ha, hb, -⟩ : c = 62 ∧ d = 62 ∧ True := by simp only [List.cons.injEq] at hq; exact ⟨hq.1, hq.2.1, trivial⟩
        subst ha hb
        simp [signSz, Lib.hasPrefix]
theorem first_ok {t : Tk} (h : okT t = true) {r : List UInt8} (hr : r = [] ∨ ∃ q, r = 32 :: q) :
    first (textL t ++ r) = some ({ t with pos := 0 }, (textL t).length) ∧ ∃ c q, textL t = c :: q ∧ spB c = false ∧ (∀ x ∈ textL t, x ≠ 59) := by
  obtain ⟨k, s, v, p⟩ := t
  simp only [okT, Bool.or_eq_true, Bool.and_eq_true, beq_iff_eq, decide_eq_true_eq] at h
  rcases h with (⟨⟨h1, h2⟩, h3⟩ | ⟨⟨⟨h1, h2⟩, h3⟩, h4⟩) | ⟨⟨h1, h2⟩, h3⟩
  · subst h1 h3
    have ht : textL ⟨1, s, 0, p⟩ = s := by unfold textL; rw [if_neg (by show ¬ (1 : Int) = 2; decide)]
    rw [ht]
    obtain ⟨hne, hall, hd⟩ := isName_parts h2
    have hw := word_app hall hr
    have hnm : ∀ x ∈ s, x ≠ 59 := fun x hx => (name_byte (List.all_eq_true.1 hall x hx)).2.1
    cases s with
    | nil => exact absurd rfl hne
    | cons c q =>
      have hc : nameB c = true := List.all_eq_true.1 hall c List.mem_cons_self
      refine ⟨?_, c, q, rfl, (name_byte hc).1, hnm⟩
      unfold first
      rw [show signSz ((c :: q) ++ r) = 0 from signSz_name hc, if_neg (by omega), hw, num_name h2]
      simp only
      rw [if_pos h2]
  · subst h1
    have hs : s = [] := by simpa using h4
    subst hs
    have ht : textL ⟨2, [], v, p⟩ = Lib.decDigits v.toNat := by unfold textL; rw [if_pos rfl]; exact itoa_nat h2
    rw [ht]
    have hall := dig_name (dec_digits v.toNat)
    have hw := word_app hall hr
    have hnum := num_decDigits (n := v.toNat) (by omega)
    have hnm : ∀ x ∈ Lib.decDigits v.toNat, x ≠ 59 := fun x hx => (name_byte (List.all_eq_true.1 hall x hx)).2.1
    obtain ⟨c, q, hcq⟩ : ∃ c q, Lib.decDigits v.toNat = c :: q := by
      cases hd : Lib.decDigits v.toNat with
      | nil => exact absurd hd (dec_ne _)
      | cons c q => exact ⟨c, q, rfl⟩
    have hc : nameB c = true := List.all_eq_true.1 hall c (by rw [hcq]; exact List.mem_cons_self)
    refine ⟨?_, c, q, hcq, (name_byte hc).1, hnm⟩
    unfold first
    rw [show signSz (Lib.decDigits v.toNat ++ r) = 0 from by rw [hcq]; exact signSz_name hc, if_neg (by omega), hw, hnum]
    simp only [Option.some.injEq, Prod.mk.injEq, and_true]
    rw [show ((v.toNat : Nat) : Int) = v by omega]
  · subst h1 h3
    have ht : textL ⟨3, s, 0, p⟩ = s := by unfold textL; rw [if_neg (by show ¬ (3 : Int) = 2; decide)]
    rw [ht]
    have hz := sign_app (r := r) h2
    have hmem : s ∈ signs := by rw [isSign_mem] at h2; simpa using h2
    have hf : ∀ s ∈ signs, (!s.isEmpty && s.all (fun c => !spB c && c != 59)) = true := by decide
    have hf1 := hf s hmem
    cases s with
    | nil => simp at hf1
    | cons c q =>
      have hall : ∀ x ∈ c :: q, (!spB x && x != 59) = true := List.all_eq_true.1 (by simpa using hf1)
      refine ⟨?_, c, q, rfl, by have := hall c List.mem_cons_self; simp only [Bool.and_eq_true, Bool.not_eq_true'] at this; exact this.1, fun x hx => by have := hall x hx; simp only [Bool.and_eq_true, bne_iff_ne] at this; exact this.2⟩
      unfold first
      rw [hz, if_pos (by simp), List.take_left]
/-- the tokens of what is joined -/
theorem lex_pre : ∀ (ts : List Tk) (a : Nat), (∀ t ∈ ts, okT t = true) → ∃ ys, lex a (preL ts) = (ys, -1) ∧ SameTks false ys ts
  | [], a, _ => ⟨[], by rw [show preL [] = [] from rfl, lex_nil], sameTks_refl _ _⟩
  | t :: ts, a, h => by
    have hp : preL (t :: ts) = 32 :: (textL t ++ preL ts) := by simp [preL]
    have hr : preL ts = [] ∨ ∃ q, preL ts = 32 :: q := by
      cases ts with
      | nil => exact .inl rfl
      | cons x r => exact .inr (preL_ne (by simp))
    obtain ⟨hf, c, q, hcq, hsp, -⟩ := first_ok (h t List.mem_cons_self) hr
    rw [hp, lex_sp (by decide)]
    obtain ⟨ys, hy, hs⟩ := lex_pre ts (a + 1 + (textL t).length) (fun x hx => h x (List.mem_cons_of_mem _ hx))
    have hd : (textL t ++ preL ts).drop (textL t).length = preL ts := by simp
    rw [hcq] at hf hd hy ⊢
    rw [List.cons_append] at hf hd ⊢
    rw [lex_tok hsp hf, hd, hy]
    refine ⟨_, rfl, by simp [hs.1], ?_⟩
    intro j x y hx hy2
    cases j with
    | zero =>
      simp only [List.getElem?_cons_zero, Option.some.injEq] at hx hy2
      subst hx hy2
      exact ⟨rfl, rfl, rfl, fun e => by cases e⟩
    | succ j =>
      simp only [List.getElem?_cons_succ] at hx hy2
      exact hs.2 j x y hx hy2
theorem body_id {l : List UInt8} (h : ∀ x ∈ l, x ≠ 59) : body l = l := by
  induction l with
  | nil => rfl
  | cons c r ih => rw [body_cons, if_neg (h c List.mem_cons_self), ih (fun x hx => h x (List.mem_cons_of_mem _ hx))]
theorem pre_no59 {ts : List Tk} (h : ∀ t ∈ ts, okT t = true) : ∀ x ∈ preL ts, x ≠ 59 := by
  intro x hx
  simp only [preL, List.mem_flatMap, List.mem_cons] at hx
  obtain ⟨t, ht, rfl | hx⟩ := hx
  · decide
  · obtain ⟨-, c, q, -, -, hn⟩ := first_ok (h t ht) (r := []) (.inl rfl)
    exact hn x hx
/-- the tokens of the line of tokens -/
theorem lex_join {ts : List Tk} (h : ∀ t ∈ ts, okT t = true) : ∃ ys, lex 0 (body (joinL ts)) = (ys, -1) ∧ SameTks false ys ts := by
  have hb : body (joinL ts) = joinL ts := body_id (fun x hx => pre_no59 h x (by unfold joinL at hx; exact List.mem_of_mem_drop hx))
  rw [hb]
  cases ts with
  | nil => exact ⟨[], by rw [show joinL [] = [] from rfl, lex_nil], sameTks_refl _ _⟩
  | cons t ts =>
    have hp : joinL (t :: ts) = textL t ++ preL ts := by simp [joinL, preL]
    have hr : preL ts = [] ∨ ∃ q, preL ts = 32 :: q := by
      cases ts with
      | nil => exact .inl rfl
      | cons x r => exact .inr (preL_ne (by simp))
    obtain ⟨hf, c, q, hcq, hsp, -⟩ := first_ok (h t List.mem_cons_self) hr
    rw [hp]
    obtain ⟨ys, hy, hs⟩ := lex_pre ts (0 + (textL t).length) (fun x hx => h x (List.mem_cons_of_mem _ hx))
    have hd : (textL t ++ preL ts).drop (textL t).length = preL ts := by simp
    rw [hcq] at hf hd hy ⊢
    rw [List.cons_append] at hf hd ⊢
    rw [lex_tok hsp hf, hd, hy]
    refine ⟨_, rfl, by simp [hs.1], ?_⟩
    intro j x y hx hy2
    cases j with
    | zero =>
      simp only [List.getElem?_cons_zero, Option.some.injEq] at hx hy2
      subst hx hy2
      exact ⟨rfl, rfl, rfl, fun e => by cases e⟩
    | succ j =>
      simp only [List.getElem?_cons_succ] at hx hy2
      exact hs.2 j x y hx hy2
theorem all_ok {ts : List Tk} (h : noneYet malT ts ts.length) : ∀ t ∈ ts, okT t = true := by
  intro t ht
  obtain ⟨j, hj, rfl⟩ := List.getElem_of_mem ht
  have := h j _ hj (List.getElem?_eq_getElem hj)
  unfold malT at this
  simpa using this
theorem first_text {l : List UInt8} {t : Tk} {k : Nat} (h : first l = some (t, k)) : t.text.length ≤ l.length := by
  unfold first at h
  split at h
  · injection h with h; injection h with h _
    subst h
    exact List.length_take_le' _ _
  · split at h
    · injection h with h; injection h with h _
      subst h
      exact Nat.zero_le _
    · split at h
      · injection h with h; injection h with h _
        subst h
        exact word_len l
      · cases h
theorem lex_bounds : ∀ (n : Nat) (l : List UInt8) (a : Nat), l.length ≤ n → (lex a l).1.length ≤ l.length ∧ ∀ t ∈ (lex a l).1, t.text.length ≤ l.length
  | _, [], a, _ => by rw [lex_nil]; simp
  | 0, c :: r, a, h => by simp at h
  | n + 1, c :: r, a, h => by
    cases hs : spB c with
    | true =>
      rw [lex_sp hs]
      obtain ⟨h1, h2⟩ := lex_bounds n r (a + 1) (by simpa using h)
      exact ⟨by simp only [List.length_cons]; omega, fun t ht => by have := h2 t ht; simp only [List.length_cons]; omega⟩
    | false =>
      cases hf : first (c :: r) with
      | none => rw [lex_bad hs hf]; simp
      | some p =>
        obtain ⟨t, k⟩ := p
        have hk := first_size hf
        have ht := first_text hf
        rw [lex_tok hs hf]
        obtain ⟨h1, h2⟩ := lex_bounds n ((c :: r).drop k) (a + k) (by rw [List.length_drop]; simp only [List.length_cons] at h ⊢; omega)
        rw [List.length_drop] at h1 h2
        refine ⟨by simp only [List.length_cons] at h1 hk ⊢; omega, fun x hx => ?_⟩
        rcases List.mem_cons.1 hx with rfl | hx
        · exact ht
        · have := h2 x hx; omega
end Go.Proofs.YtccnaoabmgkblaaDoor.Tok
