/- Pure facts on how the reference divides a line: the same tokens as lex. No program, no memory. -/
import Derived.Test.YtccnaoabmgkblaaDoorTokA
namespace Go.Proofs.YtccnaoabmgkblaaDoor.Tok
open Go Go.Lib

theorem body_cons (c : UInt8) (r : List UInt8) : body (c :: r) = if c = 59 then [] else c :: body r := by
  unfold body
  rw [List.takeWhile_cons]
  by_cases h : c = 59
  · subst h; simp
  · simp [h]
theorem word_body : ∀ (l : List UInt8), word (body l) = word l
  | [] => rfl
  | c :: r => by
    rw [body_cons]
    by_cases h : c = 59
    · subst h
      rw [if_pos rfl, word_cons, if_neg (by decide)]
      rfl
    · rw [if_neg h, word_cons, word_cons, word_body r]
/-- how many bytes the reference takes for a token -/
def stepSz (l : List UInt8) : Nat := if word l = [] then (if 2 ≤ l.length ∧ isSign (l.take 2) = true then 2 else 1) else (word l).length
theorem isSign_false_name {c : UInt8} {r : List UInt8} (h : nameB c = true) : isSign (c :: r) = false := by
  unfold isSign
  rw [signSz_name h]
  simp
theorem isName_bad {c : UInt8} {r : List UInt8} (h : nameB c = false) : isName (c :: r) = false := by
  unfold isName
  simp [h]
theorem num_bad {c : UInt8} {r : List UInt8} (h : nameB c = false) : num (c :: r) = none := by
  cases hn : num (c :: r) with
  | none => rfl
  | some v =>
    obtain ⟨d, q, h1, h2⟩ := num_head hn
    injection h1 with h1 _
    subst h1
    rw [(dig_byte h2).1] at h
    cases h
theorem tok_step {l : List UInt8} {c : UInt8} {r : List UInt8} (hb : body l = c :: r) :
    1 ≤ stepSz l ∧ stepSz l ≤ l.length ∧ tokOf (l.take (stepSz l)) = (first (body l)).map (·.1) ∧ ∀ x k, first (body l) = some (x, k) → k = stepSz l := by
  cases l with
  | nil => simp [body] at hb
  | cons d q =>
    rw [body_cons] at hb
    split at hb
    · cases hb
    · rename_i hd
      injection hb with h1 h2
      subst h1
      have hbo : body (d :: q) = d :: body q := by rw [body_cons, if_neg hd]
      cases hn : nameB d with
      | true =>
        have hw : word (d :: q) = d :: word q := by rw [word_cons, if_pos hn]
        have hsz : stepSz (d :: q) = (word (d :: q)).length := by unfold stepSz; rw [if_neg (by rw [hw]; simp)]
        have hs0 : signSz (body (d :: q)) = 0 := by rw [hbo]; exact signSz_name hn
        have hf : first (body (d :: q)) = match num (word (d :: q)) with
            | some v => some (⟨2, [], v, 0⟩, (word (d :: q)).length)
            | none => if isName (word (d :: q)) = true then some (⟨1, word (d :: q), 0, 0⟩, (word (d :: q)).length) else none := by
          unfold first
          rw [hs0, if_neg (by omega), word_body]
          rfl
        refine ⟨by rw [hsz, hw]; simp, by rw [hsz]; exact word_len _, ?_, ?_⟩
        · rw [hsz, word_take, hf]
          unfold tokOf
          rw [show isSign (word (d :: q)) = false from by rw [hw]; exact isSign_false_name hn, if_neg (by simp)]
          cases num (word (d :: q)) with
          | some v => rfl
          | none =>
            simp only
            split <;> rfl
        · intro x k hk
          rw [hf] at hk
          rw [hsz]
          cases hnum : num (word (d :: q)) with
          | some v => rw [hnum] at hk; injection hk with hk; injection hk with _ hk; exact hk.symm
          | none =>
            rw [hnum] at hk
            simp only at hk
            split at hk
            · injection hk with hk; injection hk with _ hk; exact hk.symm
            · cases hk
      | false =>
        have hw : word (d :: q) = [] := by rw [word_cons, if_neg (by simp [hn])]
        by_cases hs : d ∈ signs1
        · have hs1 : signSz (body (d :: q)) = 1 := by rw [hbo]; exact signSz_sign hs
          have h2 : ¬ (2 ≤ (d :: q).length ∧ isSign ((d :: q).take 2) = true) := by
            rintro ⟨h3, h4⟩
            cases q with
            | nil => simp at h3
            | cons e q =>
              have : isSign [d, e] = true := h4
              unfold isSign at this
              rw [signSz_sign hs] at this
              simp at this
          have hsz : stepSz (d :: q) = 1 := by unfold stepSz; rw [if_pos hw, if_neg h2]
          have hf : first (body (d :: q)) = some (⟨3, [d], 0, 0⟩, 1) := by
            unfold first
            rw [hs1, if_pos (by omega), hbo]
            rfl
          refine ⟨by omega, by rw [hsz]; simp, ?_, ?_⟩
          · rw [hsz, hf]
            show tokOf [d] = some ⟨3, [d], 0, 0⟩
            unfold tokOf
            rw [if_pos (by unfold isSign; rw [signSz_sign hs]; simp)]
          · intro x k hk
            rw [hf] at hk
            injection hk with hk; injection hk with _ hk
            rw [hsz]; exact hk.symm
        · by_cases h2 : 2 ≤ (d :: q).length ∧ isSign ((d :: q).take 2) = true
          · have hsz : stepSz (d :: q) = 2 := by unfold stepSz; rw [if_pos hw, if_pos h2]
            obtain ⟨h3, h4⟩ := h2
            cases q with
            | nil => simp at h3
            | cons e q =>
              have h5 : isSign [d, e] = true := h4
              have h6 : signSz [d, e] = 2 := by unfold isSign at h5; simpa using h5
              have h7 : e ≠ 59 ∧ signSz (d :: e :: body q) = 2 := by
                obtain ⟨r, h | h⟩ := signSz_two h6
                · injection h with ha h; injection h with hb _
                  subst ha hb
                  exact ⟨by decide, by simp [signSz, hasPrefix]⟩
                · injection h with ha h; injection h with hb _
                  subst ha hb
                  exact ⟨by decide, by simp [signSz, hasPrefix]⟩
              have hb2 : body (d :: e :: q) = d :: e :: body q := by rw [hbo, body_cons, if_neg h7.1]
              have hf : first (body (d :: e :: q)) = some (⟨3, [d, e], 0, 0⟩, 2) := by
                unfold first
                rw [hb2, h7.2, if_pos (by omega)]
                rfl
              refine ⟨by omega, by rw [hsz]; simp, ?_, ?_⟩
              · rw [hsz, hf]
                show tokOf [d, e] = some ⟨3, [d, e], 0, 0⟩
                unfold tokOf
                rw [if_pos h5]
              · intro x k hk
                rw [hf] at hk
                injection hk with hk; injection hk with _ hk
                rw [hsz]; exact hk.symm
          · have hsz : stepSz (d :: q) = 1 := by unfold stepSz; rw [if_pos hw, if_neg h2]
            have hs0 : signSz (body (d :: q)) = 0 := by
              have hle := signSz_le (body (d :: q))
              have hn1 : signSz (body (d :: q)) ≠ 1 := fun h => hs (signSz_first (by rw [hbo] at h; exact h))
              have hn2 : signSz (body (d :: q)) ≠ 2 := by
                intro h
                rw [hbo] at h
                obtain ⟨r, h3⟩ := signSz_two h
                apply h2
                cases q with
                | nil => rcases h3 with h3 | h3 <;> simp [body] at h3
                | cons e q =>
                  rw [body_cons] at h3
                  split at h3
                  · rcases h3 with h3 | h3 <;> simp at h3
                  · refine ⟨by simp, ?_⟩
                    show isSign [d, e] = true
                    rcases h3 with h3 | h3
                    · injection h3 with ha h3; injection h3 with hb _
                      subst ha hb; decide
                    · injection h3 with ha h3; injection h3 with hb _
                      subst ha hb; decide
              omega
            have hf : first (body (d :: q)) = none := by
              unfold first
              rw [hs0, if_neg (by omega), word_body, hw]
              rfl
            refine ⟨by omega, by rw [hsz]; simp, ?_, ?_⟩
            · rw [hsz, hf]
              show tokOf [d] = none
              unfold tokOf
              rw [if_neg (by unfold isSign; rw [signSz_one, if_neg hs]; simp), num_bad hn]
              simp only
              rw [if_neg (by rw [isName_bad hn]; simp)]
            · intro x k hk
              rw [hf] at hk
              cases hk
theorem body_append {l : List UInt8} (k : Nat) (h : k ≤ (body l).length) : body (l.drop k) = (body l).drop k := by
  induction l generalizing k with
  | nil => simp [body]
  | cons c r ih =>
    cases k with
    | zero => rfl
    | succ k =>
      rw [body_cons] at h ⊢
      split at h
      · simp at h
      · rename_i hc
        rw [if_neg hc]
        simp only [List.drop_succ_cons]
        exact ih k (by simpa using h)
theorem body_at {l : List UInt8} {k : Nat} (h : k < (body l).length) : ∃ h2 : k < l.length, l[k] = (body l)[k] ∧ l[k] ≠ 59 := by
  induction l generalizing k with
  | nil => simp [body] at h
  | cons c r ih =>
    have hb := body_cons c r
    by_cases hc : c = 59
    · rw [if_pos hc] at hb
      rw [hb] at h
      simp at h
    · rw [if_neg hc] at hb
      cases k with
      | zero => exact ⟨by simp, by simp [hb], by simpa using hc⟩
      | succ k =>
        have h3 : k < (body r).length := by rw [hb] at h; simpa using h
        obtain ⟨h4, h5, h6⟩ := ih h3
        exact ⟨by simpa using h4, by simpa [hb] using h5, by simpa using h6⟩
theorem body_stop {l : List UInt8} (h : (body l).length < l.length) : l[(body l).length]? = some 59 := by
  induction l with
  | nil => simp at h
  | cons c r ih =>
    have hb := body_cons c r
    by_cases hc : c = 59
    · rw [if_pos hc] at hb
      rw [hb, hc]
      rfl
    · rw [if_neg hc] at hb
      rw [hb] at h ⊢
      have := ih (by simpa using h)
      simpa using this
end Go.Proofs.YtccnaoabmgkblaaDoor.Tok
