/- Pure facts on tokens: name bytes, signs, numbers, words, the tokens of a line. No program, no memory. -/
import Derived.Lib.Strings
import Derived.Lib.ItoaNum
import Derived.Lib.Bytealg
import Derived.Lib.IndexMore
namespace Go.Proofs.YtchpkdpefpiegaaDoor.Tok
open Go Go.Lib

/-! ## bytes -/
def digI (x : Int) : Bool := decide (48 ≤ x) && decide (x ≤ 57)
def nameI (x : Int) : Bool := decide (97 ≤ x) && decide (x ≤ 122) || decide (65 ≤ x) && decide (x ≤ 90) || digI x || decide (x = 46) || decide (x = 95) || decide (x = 36)
def nameB (c : UInt8) : Bool := nameI (c.toNat : Int)
def digB (c : UInt8) : Bool := digI (c.toNat : Int)
def hexI (x : Int) : Int := if 48 ≤ x ∧ x ≤ 57 then x - 48 else if 97 ≤ x ∧ x ≤ 102 then x - 87 else if 65 ≤ x ∧ x ≤ 70 then x - 55 else -1
def hexB (c : UInt8) : Int := hexI (c.toNat : Int)
def spB (c : UInt8) : Bool := c == 32 || c == 9
def signs1 : List UInt8 := [43, 45, 42, 47, 37, 38, 124, 94, 126, 40, 41, 44, 58, 61, 64]
theorem byte_split (c : UInt8) (P : UInt8 → Prop) [DecidablePred P] (h : ∀ n : Fin 256, P (UInt8.ofNat n.val)) : P c := by
  have h1 := h ⟨c.toNat, c.toNat_lt⟩
  simpa using h1
theorem sign_byte {c : UInt8} (h : c ∈ signs1) : nameB c = false ∧ spB c = false ∧ c ≠ 59 ∧ c ≠ 60 ∧ c ≠ 62 :=
  byte_split c (fun c => c ∈ signs1 → nameB c = false ∧ spB c = false ∧ c ≠ 59 ∧ c ≠ 60 ∧ c ≠ 62) (by decide +kernel) h
theorem name_byte {c : UInt8} (h : nameB c = true) : spB c = false ∧ c ≠ 59 ∧ c ≠ 60 ∧ c ≠ 62 ∧ c ∉ signs1 :=
  byte_split c (fun c => nameB c = true → spB c = false ∧ c ≠ 59 ∧ c ≠ 60 ∧ c ≠ 62 ∧ c ∉ signs1) (by decide +kernel) h
theorem hex_byte {c : UInt8} (h : 0 ≤ hexB c) : nameB c = true :=
  byte_split c (fun c => 0 ≤ hexB c → nameB c = true) (by decide +kernel) h
theorem dig_byte {c : UInt8} (h : digB c = true) : nameB c = true ∧ hexB c = (c.toNat : Int) - 48 ∧ 0 ≤ hexB c ∧ hexB c < 10 :=
  byte_split c (fun c => digB c = true → nameB c = true ∧ hexB c = (c.toNat : Int) - 48 ∧ 0 ≤ hexB c ∧ hexB c < 10) (by decide +kernel) h
theorem nodig_byte {c : UInt8} (h : digB c = false) : hexB c < 0 ∨ 10 ≤ hexB c :=
  byte_split c (fun c => digB c = false → hexB c < 0 ∨ 10 ≤ hexB c) (by decide +kernel) h
theorem hex_lt (c : UInt8) : hexB c < 16 ∧ -1 ≤ hexB c :=
  byte_split c (fun c => hexB c < 16 ∧ -1 ≤ hexB c) (by decide +kernel)

/-! ## numbers -/
/-- digits read as a number below 2 ^ 32: the number; false: no digit; true: it is too great -/
def pu (b : Nat) : Nat → List UInt8 → Nat ⊕ Bool
  | acc, [] => .inl acc
  | acc, c :: r => if 0 ≤ hexB c ∧ hexB c < b then (if 4294967295 < acc * b + (hexB c).toNat then .inr true else pu b (acc * b + (hexB c).toNat) r) else .inr false
def puAll (b : Nat) (l : List UInt8) : Nat ⊕ Bool := if l = [] then .inr false else pu b 0 l
def okOf : Nat ⊕ Bool → Option Nat
  | .inl n => some n
  | .inr _ => none
def hexed (l : List UInt8) : Bool := hasPrefix l [48, 120]
def num (l : List UInt8) : Option Nat :=
  if hexed l = true then okOf (puAll 16 (l.drop 2)) else if 1 < l.length ∧ l[0]? = some 48 then none else okOf (puAll 10 l)
theorem pu_le {b : Nat} : ∀ {l : List UInt8} {acc u : Nat}, acc ≤ 4294967295 → pu b acc l = .inl u → u ≤ 4294967295
  | [], acc, u, h0, h => by
    have : acc = u := by simpa [pu] using h
    omega
  | c :: r, acc, u, h0, h => by
    rw [pu] at h
    split at h
    · split at h
      · cases h
      · exact pu_le (by omega) h
    · cases h
theorem num_le {l : List UInt8} {u : Nat} (h : num l = some u) : u ≤ 4294967295 := by
  have hk : ∀ b l, okOf (puAll b l) = some u → u ≤ 4294967295 := by
    intro b l h
    unfold puAll at h
    split at h
    · cases h
    · cases hp : pu b 0 l with
      | inl v =>
        rw [hp] at h
        have hv := pu_le (by omega) hp
        have : v = u := by simpa [okOf] using h
        omega
      | inr v => rw [hp] at h; cases h
  unfold num at h
  split at h
  · exact hk _ _ h
  · split at h
    · cases h
    · exact hk _ _ h
theorem pu_head {b acc : Nat} {c : UInt8} {r : List UInt8} {u : Nat} (h : pu b acc (c :: r) = .inl u) : 0 ≤ hexB c ∧ hexB c < b := by
  rw [pu] at h
  split at h
  · assumption
  · cases h
theorem num_head {l : List UInt8} {u : Nat} (h : num l = some u) : ∃ c r, l = c :: r ∧ digB c = true := by
  unfold num at h
  split at h
  · rename_i hx
    cases l with
    | nil => simp [hexed, hasPrefix] at hx
    | cons c r =>
      refine ⟨c, r, rfl, ?_⟩
      have : c = 48 := by
        cases r with
        | nil => simp [hexed, hasPrefix] at hx
        | cons d r => simp [hexed, hasPrefix] at hx; exact hx.1.symm
      subst this
      decide
  · split at h
    · cases h
    · cases l with
      | nil => simp [puAll, okOf] at h
      | cons c r =>
        refine ⟨c, r, rfl, ?_⟩
        cases hp : pu 10 0 (c :: r) with
        | inl v =>
          have hh := pu_head hp
          cases hd : digB c with
          | true => rfl
          | false => have := nodig_byte hd; omega
        | inr v => simp [puAll, hp, okOf] at h

/-! ## signs, words, names -/
def signSz (l : List UInt8) : Nat :=
  if hasPrefix l [60, 60] = true ∨ hasPrefix l [62, 62] = true then 2 else match l with | [] => 0 | c :: _ => if c ∈ signs1 then 1 else 0
def isSign (l : List UInt8) : Bool := decide (l ≠ []) && decide (signSz l = l.length)
def signs : List (List UInt8) := [[60, 60], [62, 62], [43], [45], [42], [47], [37], [38], [124], [94], [126], [40], [41], [44], [58], [61], [64]]
def word (l : List UInt8) : List UInt8 := l.takeWhile nameB
def isName (l : List UInt8) : Bool := decide (l ≠ []) && decide (l.length ≤ 16) && !(l.head?.any digB) && l.all nameB
theorem signSz_nil : signSz [] = 0 := by decide
theorem signSz_one (c : UInt8) : signSz [c] = if c ∈ signs1 then 1 else 0 := by simp [signSz, hasPrefix]
theorem signSz_le (l : List UInt8) : signSz l ≤ 2 ∧ signSz l ≤ l.length := by
  cases l with
  | nil => simp [signSz_nil]
  | cons c r =>
    unfold signSz
    split
    · rename_i h
      cases r with
      | nil => simp [hasPrefix] at h
      | cons d r => simp
    · split
      · simp
      · split <;> simp
theorem signSz_two {l : List UInt8} (h : signSz l = 2) : ∃ r, l = 60 :: 60 :: r ∨ l = 62 :: 62 :: r := by
  unfold signSz at h
  split at h
  · rename_i hp
    cases l with
    | nil => simp [hasPrefix] at hp
    | cons c r =>
      cases r with
      | nil => simp [hasPrefix] at hp
      | cons d r =>
        simp [hasPrefix] at hp
        refine ⟨r, ?_⟩
        rcases hp with ⟨h1, h2⟩ | ⟨h1, h2⟩
        · exact .inl (by rw [← h1, ← h2])
        · exact .inr (by rw [← h1, ← h2])
  · split at h
    · cases h
    · split at h <;> cases h
theorem signSz_first {c : UInt8} {r : List UInt8} (h : signSz (c :: r) = 1) : c ∈ signs1 := by
  unfold signSz at h
  split at h
  · cases h
  · simp only at h
    split at h
    · assumption
    · cases h
theorem signSz_sign {c : UInt8} {r : List UInt8} (h : c ∈ signs1) : signSz (c :: r) = 1 := by
  have hb := sign_byte h
  unfold signSz
  rw [if_neg]
  · simp only
    rw [if_pos h]
  · cases r with
    | nil => simp [hasPrefix]
    | cons d r => simp [hasPrefix]; exact ⟨fun h => absurd h.symm hb.2.2.2.1, fun h => absurd h.symm hb.2.2.2.2⟩
theorem signSz_name {c : UInt8} {r : List UInt8} (h : nameB c = true) : signSz (c :: r) = 0 := by
  have hb := name_byte h
  unfold signSz
  rw [if_neg]
  · simp only
    rw [if_neg hb.2.2.2.2]
  · cases r with
    | nil => simp [hasPrefix]
    | cons d r => simp [hasPrefix]; exact ⟨fun h => absurd h.symm hb.2.2.1, fun h => absurd h.symm hb.2.2.2.1⟩
/-- the signs one by one -/
theorem isSign_mem (l : List UInt8) : isSign l = decide (l ∈ signs) := by
  cases l with
  | nil => decide
  | cons c r =>
    cases r with
    | nil =>
      have : ([c] ∈ signs ↔ c ∈ signs1) := by simp [signs, signs1]
      by_cases hc : c ∈ signs1
      · simp [isSign, signSz_one, hc, this]
      · simp [isSign, signSz_one, hc, this]
    | cons d r =>
      cases r with
      | nil =>
        by_cases h1 : c = 60 ∧ d = 60
        · obtain ⟨rfl, rfl⟩ := h1; decide
        · by_cases h2 : c = 62 ∧ d = 62
          · obtain ⟨rfl, rfl⟩ := h2; decide
          · have hz : signSz [c, d] ≠ 2 := by
              intro h
              obtain ⟨r, h | h⟩ := signSz_two h
              · injection h with ha hb; injection hb with hb _; exact h1 ⟨ha, hb⟩
              · injection h with ha hb; injection hb with hb _; exact h2 ⟨ha, hb⟩
            have : ¬ [c, d] ∈ signs := by
              simp [signs]
              exact ⟨fun h => by simpa [h] using h1, fun h => by simpa [h] using h2⟩
            simp [isSign, hz, this]
      | cons e r =>
        have hz := (signSz_le (c :: d :: e :: r)).1
        have : ¬ (c :: d :: e :: r) ∈ signs := by simp [signs]
        simp [isSign, this]
        omega
theorem word_len (l : List UInt8) : (word l).length ≤ l.length := (List.takeWhile_prefix _).length_le
theorem word_take (l : List UInt8) : l.take (word l).length = word l := (List.prefix_iff_eq_take.1 (List.takeWhile_prefix _)).symm
theorem word_cons (c : UInt8) (r : List UInt8) : word (c :: r) = if nameB c = true then c :: word r else [] := by
  unfold word
  rw [List.takeWhile_cons]
theorem word_all (l : List UInt8) : (word l).all nameB = true := by
  unfold word
  exact List.all_takeWhile
theorem word_word {l : List UInt8} (h : l.all nameB = true) : word l = l := by
  induction l with
  | nil => rfl
  | cons c r ih =>
    simp at h
    rw [word_cons, if_pos h.1, ih (by simpa using h.2)]
theorem word_iff (l : List UInt8) : decide ((word l).length = l.length) = l.all nameB := by
  by_cases h : l.all nameB = true
  · rw [word_word h, h]; simp
  · rw [Bool.not_eq_true] at h
    rw [h]
    refine decide_eq_false fun he => ?_
    have h2 := word_take l
    rw [he, List.take_length] at h2
    have h3 := word_all l
    rw [← h2, h] at h3
    cases h3

/-! ## tokens -/
structure Tk where
  kind : Int
  text : List UInt8
  val : Int
  pos : Int
def first (l : List UInt8) : Option (Tk × Nat) :=
  if 0 < signSz l then some (⟨3, l.take (signSz l), 0, 0⟩, signSz l) else
    match num (word l) with
    | some v => some (⟨2, [], v, 0⟩, (word l).length)
    | none => if isName (word l) = true then some (⟨1, word l, 0, 0⟩, (word l).length) else none
theorem first_size {l : List UInt8} {t : Tk} {k : Nat} (h : first l = some (t, k)) : 1 ≤ k ∧ k ≤ l.length := by
  unfold first at h
  split at h
  · rename_i h0
    injection h with h; injection h with _ h
    subst h
    exact ⟨h0, (signSz_le l).2⟩
  · split at h
    · rename_i v hv
      injection h with h; injection h with _ h
      subst h
      obtain ⟨c, r, hw, -⟩ := num_head hv
      exact ⟨by rw [hw]; simp, word_len l⟩
    · split at h
      · rename_i hn
        injection h with h; injection h with _ h
        subst h
        refine ⟨?_, word_len l⟩
        cases hw : word l with
        | nil => rw [hw] at hn; simp [isName] at hn
        | cons c r => simp
      · cases h
def lex (at_ : Nat) : List UInt8 → List Tk × Int
  | [] => ([], -1)
  | c :: r => if spB c = true then lex (at_ + 1) r else
    match first (c :: r) with
    | none => ([], (at_ : Int))
    | some (t, k) => ({ t with pos := (at_ : Int) } :: (lex (at_ + k) (r.drop (k - 1))).1, (lex (at_ + k) (r.drop (k - 1))).2)
termination_by l => l.length
decreasing_by all_goals (simp; try omega)
theorem lex_nil (a : Nat) : lex a [] = ([], -1) := by rw [lex]
theorem lex_sp {a : Nat} {c : UInt8} {r : List UInt8} (h : spB c = true) : lex a (c :: r) = lex (a + 1) r := by rw [lex, if_pos h]
theorem lex_bad {a : Nat} {c : UInt8} {r : List UInt8} (h : spB c = false) (hf : first (c :: r) = none) : lex a (c :: r) = ([], (a : Int)) := by
  rw [lex, if_neg (by simp [h]), hf]
theorem lex_tok {a k : Nat} {c : UInt8} {r : List UInt8} {t : Tk} (h : spB c = false) (hf : first (c :: r) = some (t, k)) :
    lex a (c :: r) = ({ t with pos := (a : Int) } :: (lex (a + k) ((c :: r).drop k)).1, (lex (a + k) ((c :: r).drop k)).2) := by
  rw [lex, if_neg (by simp [h]), hf]
  have hk := (first_size hf).1
  obtain ⟨k', rfl⟩ : ∃ k', k = k' + 1 := ⟨k - 1, by omega⟩
  simp
/-- the line ahead of its comment -/
def body (l : List UInt8) : List UInt8 := l.takeWhile (· != 59)
/-- the token that a whole string is -/
def tokOf (s : List UInt8) : Option Tk :=
  if isSign s = true then some ⟨3, s, 0, 0⟩ else
    match num s with
    | some v => some ⟨2, [], v, 0⟩
    | none => if isName s = true then some ⟨1, s, 0, 0⟩ else none
end Go.Proofs.YtchpkdpefpiegaaDoor.Tok
