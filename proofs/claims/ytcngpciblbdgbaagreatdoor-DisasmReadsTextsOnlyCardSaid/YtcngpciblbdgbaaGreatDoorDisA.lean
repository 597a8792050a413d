/- Plain mathematics of the text of an instruction: the text of an operand, reading it, the operands one behind the other, the name ahead. No program, no condition but those named in each. -/
import Derived.Lib.AtoiAll
import Derived.Lib.ItoaMem
import Derived.Lib.IndexMore
import Derived.Lib.Strings
import Derived.Test.YtcngpciblbdgbaaGreatDoorEncA
namespace Go.Proofs.YtcngpciblbdgbaaGreatDoor
open Go

/-! ## the text of an operand -/
def leadL (k : Int) : List UInt8 := if k = 1 then [114] else if k = 2 then [118] else if k = 5 then [115, 104, 111, 114, 116, 32] else if k = 6 then [110, 101, 97, 114, 32] else []
def signB (k : Int) : Bool := k == 3 || (k == 5 || k == 6)
def numT (k a : Int) : List UInt8 := if signB k = true ∧ 0 ≤ a then 43 :: Lib.itoa a else Lib.itoa a
def opT (k a : Int) : List UInt8 := leadL k ++ numT k a
def digit (c : UInt8) : Prop := 48 ≤ c.toNat ∧ c.toNat ≤ 57
theorem dec_digits : ∀ (u : Nat), ∀ c ∈ Lib.decDigits u, digit c := by
  intro u
  induction u using Nat.strongRecOn with
  | ind u ih =>
    intro c hc
    rw [Lib.decDigits] at hc
    split at hc
    · rw [List.mem_singleton] at hc
      subst hc
      unfold digit
      rw [UInt8.toNat_ofNat']
      omega
    · rw [List.mem_append, List.mem_singleton] at hc
      rcases hc with h | h
      · exact ih (u / 10) (by omega) c h
      · subst h
        unfold digit
        rw [UInt8.toNat_ofNat']
        omega
theorem dec_ne (u : Nat) : Lib.decDigits u ≠ [] := by
  rw [Lib.decDigits]
  split <;> simp
/-- what a list of digits says, from an accumulator on -/
theorem parse_append : ∀ (a b : List UInt8) (acc : Nat), Lib.parseUint10 acc (a ++ b) = match Lib.parseUint10 acc a with | .ok u => Lib.parseUint10 u b | .syntax => .syntax | .range => .range
  | [], b, acc => rfl
  | c :: r, b, acc => by
    have ih := parse_append r b
    simp only [List.cons_append, Lib.parseUint10]
    split
    · split
      · rfl
      · split
        · rfl
        · exact ih _
    · rfl
theorem parse_dec : ∀ (u : Nat), u < 18446744073709551616 → Lib.parseUint10 0 (Lib.decDigits u) = .ok u := by
  intro u
  induction u using Nat.strongRecOn with
  | ind u ih =>
    intro hu
    rw [Lib.decDigits]
    split
    · rename_i h
      have e : (UInt8.ofNat (48 + u)).toNat = 48 + u := by rw [UInt8.toNat_ofNat']; omega
      simp only [Lib.parseUint10, e]
      rw [if_pos (by omega), if_neg (by omega), if_neg (by omega)]
      congr 1
      omega
    · rename_i h
      rw [parse_append, ih (u / 10) (by omega) (by omega)]
      have e : (UInt8.ofNat (48 + u % 10)).toNat = 48 + u % 10 := by rw [UInt8.toNat_ofNat']; omega
      simp only [Lib.parseUint10, e]
      rw [if_pos (by omega), if_neg (by omega), if_neg (by omega)]
      congr 1
      omega
theorem mag_dec {u : Nat} (h : u < 18446744073709551616) : Lib.parseMag (Lib.decDigits u) = .ok u := by
  unfold Lib.parseMag
  rw [if_neg (dec_ne u), parse_dec u h]
theorem dec_head (u : Nat) : ∃ c r, Lib.decDigits u = c :: r ∧ digit c := by
  cases h : Lib.decDigits u with
  | nil => exact absurd h (dec_ne u)
  | cons c r => exact ⟨c, r, rfl, dec_digits u c (by rw [h]; simp)⟩
/-- a number behind a plus sign or without one -/
theorem atoi_pos {u : Nat} (h : u < 9223372036854775808) : Lib.atoiAll (Lib.decDigits u) = .ok (u : Int) ∧ Lib.atoiAll (43 :: Lib.decDigits u) = .ok (u : Int) := by
  have hm := mag_dec (u := u) (by omega)
  constructor
  · obtain ⟨c, r, e, hc⟩ := dec_head u
    rw [e] at hm ⊢
    unfold Lib.atoiAll
    have h1 : ¬ (c.toNat = 43 ∨ c.toNat = 45) := by unfold digit at hc; omega
    have h2 : ¬ c.toNat = 45 := by unfold digit at hc; omega
    have h3 : ¬ (9223372036854775808 ≤ u) := by omega
    simp only [if_neg h1]
    rw [hm]
    simp [h2, h3]
  · unfold Lib.atoiAll
    simp only [show (43 : UInt8).toNat = 43 by decide]
    have h3 : ¬ (9223372036854775808 ≤ u) := by omega
    rw [if_pos (by simp), hm]
    simp [h3]
theorem atoi_neg {u : Nat} (h : u ≤ 9223372036854775808) : Lib.atoiAll (45 :: Lib.decDigits u) = .ok (-(u : Int)) := by
  have hm := mag_dec (u := u) (by omega)
  unfold Lib.atoiAll
  simp only [show (45 : UInt8).toNat = 45 by decide]
  have h3 : ¬ (9223372036854775808 < u) := by omega
  rw [if_pos (by simp), hm]
  simp [h3]
theorem atoi_numT {k a : Int} (h0 : -9223372036854775808 ≤ a) (h1 : a ≤ 9223372036854775807) : Lib.atoiAll (numT k a) = .ok a := by
  unfold numT Lib.itoa
  by_cases hn : a < 0
  · rw [if_neg (by omega), if_pos hn]
    rw [atoi_neg (by omega)]
    congr 1
    omega
  · have e : ((a.toNat : Nat) : Int) = a := by omega
    have hp := atoi_pos (u := a.toNat) (by omega)
    rw [e] at hp
    rw [if_neg hn]
    split
    · exact hp.2
    · exact hp.1
theorem trim_lead (p x : List UInt8) : Lib.trimPrefix (p ++ x) p = x := by
  unfold Lib.trimPrefix Lib.hasPrefix
  rw [if_pos (by simp), List.drop_left]
/-- the first byte of a number -/
theorem numT_head (k a : Int) : ∃ c r, numT k a = c :: r ∧ (digit c ∧ ¬ (signB k = true) ∧ 0 ≤ a ∨ c = 45 ∧ a < 0 ∨ c = 43 ∧ signB k = true ∧ 0 ≤ a) := by
  unfold numT Lib.itoa
  by_cases hn : a < 0
  · rw [if_neg (by omega), if_pos hn]
    exact ⟨45, _, rfl, .inr (.inl ⟨rfl, hn⟩)⟩
  · rw [if_neg hn]
    split
    · rename_i h
      exact ⟨43, _, rfl, .inr (.inr ⟨rfl, h.1, h.2⟩)⟩
    · rename_i h
      obtain ⟨c, r, e, hc⟩ := dec_head a.toNat
      exact ⟨c, r, e, .inl ⟨hc, fun hs => h ⟨hs, by omega⟩, by omega⟩⟩
theorem in_range {k a : Int} (h : outB k a = false) : -32768 ≤ a ∧ a ≤ 4294967295 ∧ (k = 4 → 0 ≤ a) := by
  have hro : ¬ a < lowOf k ∧ ¬ highOf k < a := by simpa [outB] using h
  obtain ⟨h1, h2⟩ := hro
  have l1 : -32768 ≤ lowOf k := by unfold lowOf; repeat' split
                                   all_goals decide
  have l2 : highOf k ≤ 4294967295 := by unfold highOf; repeat' split
                                        all_goals decide
  refine ⟨by omega, by omega, ?_⟩
  rintro rfl
  have : lowOf 4 = 0 := by decide
  omega
/-- two operands with the same text are the same, unless one is a negative word -/
theorem opT_inj {k k' a a' : Int} (hk : 1 ≤ k ∧ k ≤ 6) (hk' : 1 ≤ k' ∧ k' ≤ 6) (ha : k = 4 → 0 ≤ a) (ha' : k' = 4 → 0 ≤ a')
    (h0 : -9223372036854775808 ≤ a) (h1 : a ≤ 9223372036854775807) (h2 : -9223372036854775808 ≤ a') (h3 : a' ≤ 9223372036854775807) (h : opT k a = opT k' a') : k = k' ∧ a = a' := by
  have e : ∀ j x y : Int, leadL j ++ numT j x = leadL j ++ numT j y → -9223372036854775808 ≤ x → x ≤ 9223372036854775807 → -9223372036854775808 ≤ y → y ≤ 9223372036854775807 → x = y := by
    intro j x y hxy a1 a2 a3 a4
    have := List.append_cancel_left hxy
    have b1 := atoi_numT (k := j) a1 a2
    have b2 := atoi_numT (k := j) a3 a4
    rw [this, b2] at b1
    injection b1 with b1
    exact b1.symm
  by_cases hkk : k = k'
  · subst hkk
    exact ⟨rfl, e k a a' h h0 h1 h2 h3⟩
  · exfalso
    obtain ⟨c, r, hc, hh⟩ := numT_head k a
    obtain ⟨c', r', hc', hh'⟩ := numT_head k' a'
    unfold opT at h
    rw [hc, hc'] at h
    clear hc hc' e
    have n1 : ¬ digit 114 := by unfold digit; decide
    have n2 : ¬ digit 118 := by unfold digit; decide
    have n3 : ¬ digit 115 := by unfold digit; decide
    have n4 : ¬ digit 110 := by unfold digit; decide
    have n5 : ¬ digit 45 := by unfold digit; decide
    have n6 : ¬ digit 43 := by unfold digit; decide
    rcases known_cases hk with rfl | rfl | rfl | rfl | rfl | rfl <;> rcases known_cases hk' with rfl | rfl | rfl | rfl | rfl | rfl <;>
      first
      | exact absurd rfl hkk
      | (simp [leadL] at h; done)
      | (simp [leadL] at h
         obtain ⟨rfl, -⟩ := h
         simp_all [signB]
         done)
      | (simp [leadL] at h
         obtain ⟨rfl, -⟩ := h
         simp [signB] at hh hh' ha ha'
         first
         | (rcases hh with hh | hh | hh <;> rcases hh' with hh' | hh' | hh' <;> simp_all <;> omega)
         | (rcases hh with hh | hh <;> rcases hh' with hh' | hh' <;> simp_all <;> omega)
         | (rcases hh with hh | hh <;> rcases hh' with hh' | hh' | hh' <;> simp_all <;> omega)
         | (rcases hh with hh | hh | hh <;> rcases hh' with hh' | hh' <;> simp_all <;> omega))
/-! ## reading an operand -/
def tryOp (t : List UInt8) (k : Int) : Option Int := match Lib.atoiAll (Lib.trimPrefix t (leadL k)) with | .ok v => if opT k v = t then some v else none | _ => none
def readFrom (t : List UInt8) : List Int → Option (Int × Int)
  | [] => none
  | k :: r => match tryOp t k with | some v => some (k, v) | none => readFrom t r
def readOp (t : List UInt8) : Option (Int × Int) := readFrom t [1, 2, 3, 4, 5, 6]
theorem atoi_bound {l : List UInt8} {v : Int} (h : Lib.atoiAll l = .ok v) : -9223372036854775808 ≤ v ∧ v ≤ 9223372036854775807 := by
  unfold Lib.atoiAll at h
  split at h
  · cases h
  · rename_i c r
    dsimp only at h
    split at h
    · cases h
    · cases h
    · rename_i u _
      split at h
      · cases h
      · split at h
        · cases h
        · rename_i h1 h2
          injection h with h
          split at h
          · rename_i h3
            have : ¬ 9223372036854775808 < u := fun hu => h2 ⟨h3, hu⟩
            omega
          · rename_i h3
            have : ¬ 9223372036854775808 ≤ u := fun hu => h1 ⟨h3, hu⟩
            omega
theorem tryOp_some {t : List UInt8} {k v : Int} (h : tryOp t k = some v) : opT k v = t ∧ -9223372036854775808 ≤ v ∧ v ≤ 9223372036854775807 := by
  unfold tryOp at h
  split at h
  · rename_i u hu
    split at h
    · rename_i he
      injection h with h
      subst h
      exact ⟨he, atoi_bound hu⟩
    · cases h
  · cases h
theorem tryOp_own {k a : Int} (h0 : -9223372036854775808 ≤ a) (h1 : a ≤ 9223372036854775807) : tryOp (opT k a) k = some a := by
  unfold tryOp
  rw [show Lib.trimPrefix (opT k a) (leadL k) = numT k a from trim_lead _ _, atoi_numT h0 h1]
  simp
theorem readFrom_sound {t : List UInt8} {k v : Int} : ∀ {l : List Int}, readFrom t l = some (k, v) → k ∈ l ∧ tryOp t k = some v
  | [], h => by cases h
  | j :: r, h => by
    unfold readFrom at h
    split at h
    · rename_i u hu
      injection h with h
      injection h with h1 h2
      subst h1
      subst h2
      exact ⟨by simp, hu⟩
    · have := readFrom_sound h
      exact ⟨List.mem_cons_of_mem _ this.1, this.2⟩
theorem readOp_sound {t : List UInt8} {k v : Int} (h : readOp t = some (k, v)) : (1 ≤ k ∧ k ≤ 6) ∧ opT k v = t := by
  obtain ⟨h1, h2⟩ := readFrom_sound h
  refine ⟨?_, (tryOp_some h2).1⟩
  simp at h1
  omega
theorem four_first (v : Int) : ∃ c r, opT 4 v = c :: r ∧ (digit c ∨ c = 45) := by
  obtain ⟨c, r, hc, hh⟩ := numT_head 4 v
  refine ⟨c, r, by unfold opT; rw [hc]; rfl, ?_⟩
  rcases hh with h | h | h
  · exact .inl h.1
  · exact .inr h.1
  · exact absurd h.2.1 (by decide)
theorem readFrom_own {k a : Int} (hk : 1 ≤ k ∧ k ≤ 6) (ho : outB k a = false) : ∀ l : List Int, k ∈ l → (∀ j ∈ l, 1 ≤ j ∧ j ≤ 6) → (k = 3 → ∀ p s, l ≠ p ++ 4 :: s ∨ k ∈ p) → readFrom (opT k a) l = some (k, a)
  | [], h, _, _ => by cases h
  | j :: r, h, hl, h3 => by
    obtain ⟨r1, r2, r3⟩ := in_range ho
    unfold readFrom
    by_cases hj : j = k
    · subst hj
      rw [tryOp_own (by omega) (by omega)]
    · have hn : tryOp (opT k a) j = none := by
        cases ht : tryOp (opT k a) j with
        | none => rfl
        | some v =>
          exfalso
          obtain ⟨e, b1, b2⟩ := tryOp_some ht
          by_cases h4 : j = 4 ∧ v < 0
          · obtain ⟨rfl, hv⟩ := h4
            obtain ⟨c, s, hc, hd⟩ := four_first v
            rw [hc] at e
            have n1 : ¬ digit 114 := by unfold digit; decide
            have n2 : ¬ digit 118 := by unfold digit; decide
            have n3 : ¬ digit 115 := by unfold digit; decide
            have n4 : ¬ digit 110 := by unfold digit; decide
            rcases known_cases hk with rfl | rfl | rfl | rfl | rfl | rfl
            · simp [opT, leadL] at e; obtain ⟨rfl, -⟩ := e; simp_all
            · simp [opT, leadL] at e; obtain ⟨rfl, -⟩ := e; simp_all
            · rcases h3 rfl [] r with h5 | h5
              · exact h5 rfl
              · cases h5
            · exact hj rfl
            · simp [opT, leadL] at e; obtain ⟨rfl, -⟩ := e; simp_all
            · simp [opT, leadL] at e; obtain ⟨rfl, -⟩ := e; simp_all
          · exact hj (opT_inj (hl j (by simp)) hk (fun hj4 => by omega) r3 b1 b2 (by omega) (by omega) e).1
      rw [hn]
      refine readFrom_own hk ho r ?_ (fun i hi => hl i (List.mem_cons_of_mem _ hi)) (fun hk3 p s => ?_)
      · rcases List.mem_cons.1 h with h | h
        · exact absurd h.symm hj
        · exact h
      · rcases h3 hk3 (j :: p) s with h5 | h5
        · exact .inl fun h6 => h5 (by rw [h6]; rfl)
        · rcases List.mem_cons.1 h5 with h6 | h6
          · exact absurd h6.symm hj
          · exact .inr h6
theorem readOp_own {k a : Int} (hk : 1 ≤ k ∧ k ≤ 6) (ho : outB k a = false) : readOp (opT k a) = some (k, a) := by
  refine readFrom_own hk ho _ ?_ ?_ ?_
  · rcases known_cases hk with rfl | rfl | rfl | rfl | rfl | rfl <;> simp
  · intro j hj
    simp at hj
    omega
  · rintro rfl p s
    by_cases h : (3 : Int) ∈ p
    · exact .inr h
    · refine .inl fun e => ?_
      match p, e with
      | [], e => simp at e
      | [x], e => simp at e
      | [x, y], e => simp at e
      | x :: y :: z :: q, e =>
        simp at e
        obtain ⟨rfl, rfl, rfl, -⟩ := e
        simp at h

/-! ## the operands of a text, one behind the other -/
def joinS : List (List UInt8) → List UInt8
  | [] => []
  | [x] => x
  | x :: y :: r => x ++ 44 :: 32 :: joinS (y :: r)
def pieces : Nat → List UInt8 → List (List UInt8)
  | 0, s => [s]
  | n + 1, s => if Lib.index s [44, 32] < 0 then [s] else s.take (Lib.index s [44, 32]).toNat :: pieces n (s.drop ((Lib.index s [44, 32]).toNat + 2))
theorem pieces_ne : ∀ (n : Nat) (s : List UInt8), pieces n s ≠ []
  | 0, s => by simp [pieces]
  | n + 1, s => by unfold pieces; split <;> simp
theorem join_cons (x : List UInt8) {l : List (List UInt8)} (h : l ≠ []) : joinS (x :: l) = x ++ 44 :: 32 :: joinS l := by
  cases l with
  | nil => exact absurd rfl h
  | cons y r => rfl
theorem join_pieces : ∀ (n : Nat) (s : List UInt8), joinS (pieces n s) = s
  | 0, s => rfl
  | n + 1, s => by
    unfold pieces
    split
    · rfl
    · rename_i h
      rw [join_cons _ (pieces_ne _ _), join_pieces n]
      rcases Lib.index_spec s [44, 32] with ⟨h1, -⟩ | ⟨i, h1, h2, h3, -⟩
      · rw [h1] at h; exact absurd (by decide) h
      · rw [h1, Int.toNat_natCast]
        have hr := Lib.occAt_room h3
        have hr' : i + 2 ≤ s.length := by
          rcases hr with h4 | h4
          · simpa using h4
          · simp at h4
        rw [Lib.occAt_iff_take s _ i (by simpa using hr')] at h3
        have h3' : (s.drop i).take 2 = [44, 32] := by simpa using h3
        have e : s.drop i = 44 :: 32 :: s.drop (i + 2) := by
          have := (List.take_append_drop 2 (s.drop i)).symm
          rw [h3', List.drop_drop] at this
          exact this
        rw [← e, List.take_append_drop]
theorem index_free {s : List UInt8} (h : ∀ c ∈ s, c ≠ 44) : Lib.index s [44, 32] = -1 := by
  refine Lib.index_none fun j _ => ?_
  cases ho : Lib.occAt s [44, 32] j with
  | false => rfl
  | true =>
    have := Lib.occAt_head rfl ho
    exact absurd rfl (h 44 (List.mem_of_getElem? this))
theorem index_join {x r : List UInt8} (h : ∀ c ∈ x, c ≠ 44) : Lib.index (x ++ 44 :: 32 :: r) [44, 32] = x.length := by
  refine Lib.index_first (by simp) ?_ fun j hj => ?_
  · unfold Lib.occAt
    rw [List.drop_left]
    simp [List.isPrefixOf]
  · cases ho : Lib.occAt (x ++ 44 :: 32 :: r) [44, 32] j with
    | false => rfl
    | true =>
      have := Lib.occAt_head rfl ho
      rw [List.getElem?_append_left hj] at this
      exact absurd rfl (h 44 (List.mem_of_getElem? this))
theorem pieces_join : ∀ (n : Nat) (l : List (List UInt8)), l ≠ [] → (∀ x ∈ l, ∀ c ∈ x, c ≠ 44) → (joinS l).length ≤ n → pieces n (joinS l) = l
  | n, [], h, _, _ => absurd rfl h
  | 0, [x], _, _, _ => rfl
  | n + 1, [x], _, hx, _ => by
    unfold pieces
    rw [show joinS [x] = x from rfl, index_free (hx x (by simp)), if_pos (by decide)]
  | 0, x :: y :: r, _, _, h => by
    rw [join_cons _ (by simp)] at h
    simp at h
  | n + 1, x :: y :: r, _, hx, h => by
    rw [join_cons _ (by simp)] at h ⊢
    unfold pieces
    rw [index_join (hx x (by simp)), if_neg (by omega), Int.toNat_natCast, List.take_left]
    rw [show (x ++ 44 :: 32 :: joinS (y :: r)).drop (x.length + 2) = joinS (y :: r) by rw [List.drop_length_add_append]; rfl]
    rw [pieces_join n (y :: r) (by simp) (fun z hz => hx z (List.mem_cons_of_mem _ hz)) (by simp at h; omega)]
theorem itoa_free (a : Int) : ∀ c ∈ Lib.itoa a, c ≠ 44 ∧ c ≠ 32 := by
  have hd : ∀ u, ∀ c ∈ Lib.decDigits u, c ≠ 44 ∧ c ≠ 32 := fun u c hc => by
    have := dec_digits u c hc
    unfold digit at this
    constructor <;> rintro rfl <;> revert this <;> decide
  intro c hc
  unfold Lib.itoa at hc
  split at hc
  · rcases List.mem_cons.1 hc with rfl | h
    · decide
    · exact hd _ c h
  · exact hd _ c hc
theorem opT_free {k a : Int} (hk : 1 ≤ k ∧ k ≤ 6) : ∀ c ∈ opT k a, c ≠ 44 := by
  intro c hc
  unfold opT at hc
  rcases List.mem_append.1 hc with h | h
  · rcases known_cases hk with rfl | rfl | rfl | rfl | rfl | rfl <;> simp [leadL] at h
    · subst h; decide
    · subst h; decide
    · rcases h with rfl | rfl | rfl | rfl | rfl | rfl <;> decide
    · rcases h with rfl | rfl | rfl | rfl | rfl <;> decide
  · unfold numT at h
    split at h
    · rcases List.mem_cons.1 h with rfl | h
      · decide
      · exact (itoa_free a c h).1
    · exact (itoa_free a c h).1
/-! ## the text of an instruction -/
def insT (name : List UInt8) (ops : List (List UInt8)) : List UInt8 := if ops = [] then name else name ++ 32 :: joinS ops
theorem one_index {c : UInt8} {s : List UInt8} (h : ∀ x ∈ s, x ≠ c) : Lib.index s [c] = -1 := by
  refine Lib.index_none fun j _ => ?_
  cases ho : Lib.occAt s [c] j with
  | false => rfl
  | true =>
    have := Lib.occAt_head rfl ho
    exact absurd rfl (h c (List.mem_of_getElem? this))
theorem one_first {c : UInt8} {x r : List UInt8} (h : ∀ y ∈ x, y ≠ c) : Lib.index (x ++ c :: r) [c] = x.length := by
  refine Lib.index_first (by simp) ?_ fun j hj => ?_
  · unfold Lib.occAt
    rw [List.drop_left]
    simp [List.isPrefixOf]
  · cases ho : Lib.occAt (x ++ c :: r) [c] j with
    | false => rfl
    | true =>
      have := Lib.occAt_head rfl ho
      rw [List.getElem?_append_left hj] at this
      exact absurd rfl (h c (List.mem_of_getElem? this))
theorem cut_none {s : List UInt8} (h : ∀ x ∈ s, x ≠ 32) : Lib.cut s [32] = (s, [], false) := by
  unfold Lib.cut
  rw [one_index h, if_neg (by decide)]
theorem cut_some {x r : List UInt8} (h : ∀ y ∈ x, y ≠ 32) : Lib.cut (x ++ 32 :: r) [32] = (x, r, true) := by
  unfold Lib.cut
  rw [one_first h, if_pos (by omega), Int.toNat_natCast, List.take_left]
  rw [show (x ++ 32 :: r).drop (x.length + ([32] : List UInt8).length) = r by rw [List.drop_length_add_append]; rfl]
theorem cut_join {s a b : List UInt8} (h : Lib.cut s [32] = (a, b, true)) : s = a ++ 32 :: b := by
  unfold Lib.cut at h
  split at h
  · rename_i h0
    injection h with h1 h2
    injection h2 with h2 _
    rcases Lib.index_spec s [32] with ⟨h3, -⟩ | ⟨i, h3, h4, h5, -⟩
    · rw [h3] at h0; exact absurd h0 (by decide)
    · rw [h3, Int.toNat_natCast] at h1 h2
      have hr' : i + 1 ≤ s.length := by
        rcases Lib.occAt_room h5 with h6 | h6
        · simpa using h6
        · simp at h6
      rw [Lib.occAt_iff_take s _ i (by simpa using hr')] at h5
      have h5' : (s.drop i).take 1 = [32] := by simpa using h5
      have e : s.drop i = 32 :: s.drop (i + 1) := by
        have := (List.take_append_drop 1 (s.drop i)).symm
        rw [h5', List.drop_drop] at this
        exact this
      rw [← h1, ← h2, show ([32] : List UInt8).length = 1 from rfl, ← e, List.take_append_drop]
  · injection h with _ h2
    injection h2 with _ h2
    cases h2
theorem cut_whole {s a b : List UInt8} (h : Lib.cut s [32] = (a, b, false)) : s = a := by
  unfold Lib.cut at h
  split at h
  · injection h with _ h2
    injection h2 with _ h2
    cases h2
  · injection h with h1 _
end Go.Proofs.YtcngpciblbdgbaaGreatDoor
