/- Pure facts on the encoding of numbers, strings and lists: groups of seven bits, one encoding a number, which tells where it ends. No program, no memory. -/
namespace Go.Proofs.Ytldepghojmkohaa.Cod

/-- the groups of seven bits of u, the least significant first -/
def groups (u : Nat) : List UInt8 := if u < 128 then [UInt8.ofNat u] else UInt8.ofNat (u % 128 + 128) :: groups (u / 128)
termination_by u
decreasing_by omega
theorem groups_lt {u : Nat} (h : u < 128) : groups u = [UInt8.ofNat u] := by rw [groups, if_pos h]
theorem groups_ge {u : Nat} (h : ¬ u < 128) : groups u = UInt8.ofNat (u % 128 + 128) :: groups (u / 128) := by rw [groups, if_neg h]
theorem byte_nat {n : Nat} (h : n < 256) : (UInt8.ofNat n).toNat = n := by
  rw [UInt8.toNat_ofNat']; exact Nat.mod_eq_of_lt h
def I64 (n : Int) : Prop := -9223372036854775808 ≤ n ∧ n ≤ 9223372036854775807
def zz (n : Int) : Nat := if n < 0 then (2 * (-n - 1) + 1).toNat else (2 * n).toNat
def unzz (u : Nat) : Int := if u % 2 = 1 then -((u / 2 : Nat) : Int) - 1 else ((u / 2 : Nat) : Int)
theorem unzz_zz (n : Int) : unzz (zz n) = n := by
  unfold unzz zz
  split <;> split <;> omega
theorem zz_unzz (u : Nat) : zz (unzz u) = u := by
  unfold unzz zz
  split <;> split <;> omega
theorem zz_lt {n : Int} (h : I64 n) : zz n < 18446744073709551616 := by
  obtain ⟨h1, h2⟩ := h
  unfold zz
  split <;> omega
theorem unzz_in {u : Nat} (h : u < 18446744073709551616) : I64 (unzz u) := by
  unfold unzz I64
  split <;> omega
theorem groups_ne (u : Nat) : groups u ≠ [] := by
  rw [groups]; split <;> simp
theorem groups_pos (u : Nat) : 1 ≤ (groups u).length := by
  have := groups_ne u
  cases h : groups u with
  | nil => exact absurd h this
  | cons a b => simp
theorem groups_len : ∀ (k u : Nat), u < 128 ^ (k + 1) → (groups u).length ≤ k + 1
  | 0, u, h => by rw [groups_lt (by simpa using h)]; simp
  | k + 1, u, h => by
    by_cases hu : u < 128
    · rw [groups_lt hu]; simp
    · rw [groups_ge hu]
      have h1 : u / 128 < 128 ^ (k + 1) := by
        rw [Nat.div_lt_iff_lt_mul (by decide)]
        rw [Nat.pow_succ] at h
        exact h
      have := groups_len k (u / 128) h1
      simp only [List.length_cons]
      omega
theorem groups_ten {u : Nat} (h : u < 18446744073709551616) : (groups u).length ≤ 10 := by
  refine groups_len 9 u (Nat.lt_of_lt_of_le h ?_)
  decide

/-- reading: k groups are read, u is their value -/
def readU (k u : Nat) : List UInt8 → Option (Nat × List UInt8)
  | [] => none
  | g :: r => if 18446744073709551616 ≤ g.toNat % 128 * 128 ^ k then none
    else if g.toNat < 128 then (if g.toNat % 128 = 0 ∧ 0 < k then none else some (u + g.toNat % 128 * 128 ^ k, r))
    else readU (k + 1) (u + g.toNat % 128 * 128 ^ k) r
theorem split128 (y p : Nat) : y % 128 * p + y / 128 * (p * 128) = y * p := by
  have h : y % 128 + 128 * (y / 128) = y := Nat.mod_add_div y 128
  have e : y / 128 * (p * 128) = 128 * (y / 128) * p := by
    rw [Nat.mul_comm p 128, ← Nat.mul_assoc, Nat.mul_comm (y / 128) 128]
  rw [e, ← Nat.add_mul, h]
theorem readU_groups (y : Nat) : ∀ (k u : Nat) (r : List UInt8), y * 128 ^ k < 18446744073709551616 → (0 < k → 0 < y) → readU k u (groups y ++ r) = some (u + y * 128 ^ k, r) := by
  induction y using Nat.strongRecOn with
  | ind y ih =>
    intro k u r h h0
    by_cases hy : y < 128
    · rw [groups_lt hy]
      have e : (UInt8.ofNat y).toNat = y := byte_nat (by omega)
      show readU k u (UInt8.ofNat y :: r) = _
      unfold readU
      rw [e, Nat.mod_eq_of_lt hy, if_neg (by omega), if_pos hy, if_neg (by rintro ⟨h1, h2⟩; have := h0 h2; omega)]
    · rw [groups_ge hy]
      have e : (UInt8.ofNat (y % 128 + 128)).toNat = y % 128 + 128 := byte_nat (by omega)
      have e2 : (y % 128 + 128) % 128 = y % 128 := by omega
      have hs := split128 y (128 ^ k)
      show readU k u (UInt8.ofNat (y % 128 + 128) :: (groups (y / 128) ++ r)) = _
      unfold readU
      rw [e, e2, if_neg (by omega), if_neg (by omega)]
      rw [ih (y / 128) (by omega) (k + 1) _ r (by rw [Nat.pow_succ]; omega) (fun _ => by omega), Nat.pow_succ]
      rw [Nat.add_assoc, hs]
theorem readU_sound : ∀ (l : List UInt8) (k u x : Nat) (r : List UInt8), readU k u l = some (x, r) → ∃ y, x = u + y * 128 ^ k ∧ l = groups y ++ r ∧ (0 < k → 0 < y)
  | [], k, u, x, r, h => by simp [readU] at h
  | g :: t, k, u, x, r, h => by
    unfold readU at h
    split at h
    · simp at h
    · split at h
      · rename_i h2
        split at h
        · simp at h
        · rename_i h3
          injection h with h
          injection h with h4 h5
          subst h5
          have hg : UInt8.ofNat g.toNat = g := by simp
          refine ⟨g.toNat, ?_, ?_, fun hk => ?_⟩
          · rw [← h4, Nat.mod_eq_of_lt h2]
          · rw [groups_lt h2, hg]; rfl
          · rw [Nat.mod_eq_of_lt h2] at h3
            omega
      · rename_i h2
        obtain ⟨y, e1, e2, e3⟩ := readU_sound t (k + 1) _ x r h
        have hy := e3 (by omega)
        have hg8 : g.toNat < 256 := g.toNat_lt
        refine ⟨g.toNat % 128 + 128 * y, ?_, ?_, fun _ => by omega⟩
        · rw [e1, Nat.pow_succ, Nat.add_assoc]
          congr 1
          rw [Nat.add_mul, Nat.mul_comm (128 ^ k) 128, ← Nat.mul_assoc, Nat.mul_comm y 128]
        · rw [groups_ge (by omega)]
          have e4 : (g.toNat % 128 + 128 * y) / 128 = y := by omega
          have e5 : (g.toNat % 128 + 128 * y) % 128 + 128 = g.toNat := by omega
          rw [e4, e5, e2]
          simp
theorem pow_ten {k : Nat} (h : 10 ≤ k) : 18446744073709551616 ≤ 128 ^ k := by
  refine Nat.le_trans (by decide : 18446744073709551616 ≤ 128 ^ 10) (Nat.pow_le_pow_right (by decide) h)
theorem pow_step {k b : Nat} (h : k ≤ 9) (hb : b * 128 ^ k < 18446744073709551616) : (b + 1) * 128 ^ k ≤ 18446744073709551616 := by
  have hk : ∃ q, 18446744073709551616 = q * 128 ^ k := by
    match k, h with
    | 0, _ => exact ⟨18446744073709551616, by decide⟩
    | 1, _ => exact ⟨144115188075855872, by decide⟩
    | 2, _ => exact ⟨1125899906842624, by decide⟩
    | 3, _ => exact ⟨8796093022208, by decide⟩
    | 4, _ => exact ⟨68719476736, by decide⟩
    | 5, _ => exact ⟨536870912, by decide⟩
    | 6, _ => exact ⟨4194304, by decide⟩
    | 7, _ => exact ⟨32768, by decide⟩
    | 8, _ => exact ⟨256, by decide⟩
    | 9, _ => exact ⟨2, by decide⟩
    | k + 10, h => omega
  obtain ⟨q, hq⟩ := hk
  rw [hq] at hb ⊢
  have := Nat.lt_of_mul_lt_mul_right hb
  exact Nat.mul_le_mul_right _ this
/-- what a round of the reading keeps -/
theorem readU_step {k u b : Nat} (h1 : u < 18446744073709551616) (h2 : u < 128 ^ k) (hb : b < 128) (h : b * 128 ^ k < 18446744073709551616) : u + b * 128 ^ k < 18446744073709551616 ∧ u + b * 128 ^ k < 128 ^ (k + 1) := by
  have h3 : u + b * 128 ^ k < (b + 1) * 128 ^ k := by rw [Nat.add_mul, Nat.one_mul]; omega
  refine ⟨?_, ?_⟩
  · by_cases hk : k ≤ 9
    · exact Nat.lt_of_lt_of_le h3 (pow_step hk h)
    · have := pow_ten (k := k) (by omega)
      have hb0 : b = 0 := by
        cases b with
        | zero => rfl
        | succ b =>
          have : 128 ^ k ≤ (b + 1) * 128 ^ k := Nat.le_mul_of_pos_left _ (by omega)
          omega
      subst hb0
      omega
  · rw [Nat.pow_succ, Nat.mul_comm (128 ^ k) 128]
    exact Nat.lt_of_lt_of_le h3 (Nat.mul_le_mul_right _ (by omega))
theorem readU_lt : ∀ (l : List UInt8) (k u x : Nat) (r : List UInt8), u < 18446744073709551616 → u < 128 ^ k → readU k u l = some (x, r) → x < 18446744073709551616
  | [], k, u, x, r, _, _, h => by simp [readU] at h
  | g :: t, k, u, x, r, h1, h2, h => by
    unfold readU at h
    split at h
    · simp at h
    · rename_i h0
      obtain ⟨s1, s2⟩ := readU_step h1 h2 (b := g.toNat % 128) (by omega) (by omega)
      split at h
      · split at h
        · simp at h
        · injection h with h
          injection h with h4 h5
          omega
      · exact readU_lt t (k + 1) _ x r s1 s2 h

/-- the encoding of a number -/
def numL (n : Int) : List UInt8 := groups (zz n)
/-- the number at the beginning of l, and what follows it -/
def tk (l : List UInt8) : Option (Int × List UInt8) := (readU 0 0 l).map fun x => (unzz x.1, x.2)
theorem tk_num {n : Int} (h : I64 n) (r : List UInt8) : tk (numL n ++ r) = some (n, r) := by
  unfold tk numL
  rw [readU_groups (zz n) 0 0 r (by simpa using zz_lt h) (fun h => absurd h (by omega))]
  simp [unzz_zz]
theorem tk_sound {l r : List UInt8} {n : Int} (h : tk l = some (n, r)) : l = numL n ++ r ∧ I64 n := by
  unfold tk at h
  cases hr : readU 0 0 l with
  | none => rw [hr] at h; simp at h
  | some x =>
    obtain ⟨u, t⟩ := x
    rw [hr] at h
    simp only [Option.map_some] at h
    injection h with h
    injection h with h1 h2
    subst h1
    subst h2
    obtain ⟨y, e1, e2, -⟩ := readU_sound l 0 0 u t hr
    have hu := readU_lt l 0 0 u t (by omega) (by simp) hr
    have ey : y = u := by rw [e1]; simp
    refine ⟨?_, unzz_in hu⟩
    unfold numL
    rw [zz_unzz, ← ey]
    exact e2
theorem tk_lt {l r : List UInt8} {n : Int} (h : tk l = some (n, r)) : r.length < l.length := by
  obtain ⟨h1, -⟩ := tk_sound h
  have := groups_pos (zz n)
  rw [h1, List.length_append]
  unfold numL
  omega

/-- the numbers, one after the other -/
def flat (xs : List Int) : List UInt8 := xs.flatMap numL
theorem flat_nil : flat [] = [] := rfl
theorem flat_cons (x : Int) (xs : List Int) : flat (x :: xs) = numL x ++ flat xs := rfl
theorem flat_snoc (xs : List Int) (x : Int) : flat (xs ++ [x]) = flat xs ++ numL x := by simp [flat]
theorem flat_len (xs : List Int) : xs.length ≤ (flat xs).length := by
  induction xs with
  | nil => simp
  | cons x xs ih =>
    have := groups_pos (zz x)
    rw [flat_cons, List.length_append, List.length_cons]
    unfold numL
    omega
theorem flat_le {xs : List Int} (h : ∀ x ∈ xs, I64 x) : (flat xs).length ≤ 10 * xs.length := by
  induction xs with
  | nil => simp [flat]
  | cons x xs ih =>
    have h1 := groups_ten (zz_lt (h x (by simp)))
    have h2 := ih fun y hy => h y (by simp [hy])
    rw [flat_cons, List.length_append, List.length_cons]
    unfold numL
    omega
/-- two lists of as many numbers, of which one's bytes begin the other's, are equal -/
theorem flat_inj : ∀ {xs ys : List Int} {r t : List UInt8}, (∀ x ∈ xs, I64 x) → (∀ y ∈ ys, I64 y) → xs.length = ys.length → flat xs ++ r = flat ys ++ t → xs = ys ∧ r = t
  | [], [], r, t, _, _, _, h => ⟨rfl, by simpa [flat] using h⟩
  | [], y :: ys, _, _, _, _, hl, _ => by simp at hl
  | x :: xs, [], _, _, _, _, hl, _ => by simp at hl
  | x :: xs, y :: ys, r, t, hx, hy, hl, h => by
    rw [flat_cons, flat_cons, List.append_assoc, List.append_assoc] at h
    have h1 := tk_num (hx x (by simp)) (flat xs ++ r)
    have h2 := tk_num (hy y (by simp)) (flat ys ++ t)
    rw [h, h2] at h1
    injection h1 with h1
    injection h1 with h3 h4
    obtain ⟨e1, e2⟩ := flat_inj (fun z hz => hx z (by simp [hz])) (fun z hz => hy z (by simp [hz])) (by simpa using hl) h4.symm
    exact ⟨by rw [h3, e1], e2⟩
/-- the encoding of a list of numbers -/
def numsL (xs : List Int) : List UInt8 := numL (xs.length : Int) ++ flat xs
theorem numsL_inj {xs ys : List Int} {r t : List UInt8} (hx : ∀ x ∈ xs, I64 x) (hy : ∀ y ∈ ys, I64 y) (hxl : xs.length ≤ 9223372036854775807) (hyl : ys.length ≤ 9223372036854775807) (h : numsL xs ++ r = numsL ys ++ t) : xs = ys ∧ r = t := by
  unfold numsL at h
  rw [List.append_assoc, List.append_assoc] at h
  have h1 := tk_num (n := (xs.length : Int)) ⟨by omega, by omega⟩ (flat xs ++ r)
  have h2 := tk_num (n := (ys.length : Int)) ⟨by omega, by omega⟩ (flat ys ++ t)
  rw [h, h2] at h1
  injection h1 with h1
  injection h1 with h3 h4
  exact flat_inj hx hy (by omega) h4.symm

/-- the encoding of a string -/
def textL (s : List UInt8) : List UInt8 := numL (s.length : Int) ++ s
def flatT (ss : List (List UInt8)) : List UInt8 := ss.flatMap textL
theorem flatT_nil : flatT [] = [] := rfl
theorem flatT_cons (s : List UInt8) (ss : List (List UInt8)) : flatT (s :: ss) = textL s ++ flatT ss := rfl
theorem flatT_snoc (ss : List (List UInt8)) (s : List UInt8) : flatT (ss ++ [s]) = flatT ss ++ textL s := by simp [flatT]
theorem flatT_len (ss : List (List UInt8)) : ss.length ≤ (flatT ss).length := by
  induction ss with
  | nil => simp
  | cons s ss ih =>
    have := groups_pos (zz (s.length : Int))
    rw [flatT_cons, List.length_append, List.length_cons]
    unfold textL numL
    rw [List.length_append]
    omega
def Short (s : List UInt8) : Prop := s.length ≤ 9223372036854775807
/-- the string at the beginning of l, and what follows it -/
def tkT (l : List UInt8) : Option (List UInt8 × List UInt8) := match tk l with
  | none => none
  | some (n, r) => if 0 ≤ n ∧ n ≤ (r.length : Int) then some (r.take n.toNat, r.drop n.toNat) else none
theorem tkT_text {s : List UInt8} (h : Short s) (r : List UInt8) : tkT (textL s ++ r) = some (s, r) := by
  unfold tkT textL
  unfold Short at h
  rw [List.append_assoc, tk_num (n := (s.length : Int)) ⟨by omega, by omega⟩]
  simp only [List.length_append]
  rw [if_pos (by omega)]
  simp
theorem tkT_sound {l s r : List UInt8} (h : tkT l = some (s, r)) : l = textL s ++ r ∧ Short s := by
  unfold tkT at h
  cases ht : tk l with
  | none => rw [ht] at h; simp at h
  | some x =>
    obtain ⟨n, t⟩ := x
    rw [ht] at h
    simp only at h
    split at h
    · rename_i hn
      injection h with h
      injection h with h1 h2
      obtain ⟨e, h64⟩ := tk_sound ht
      have hl : s.length = n.toNat := by rw [← h1, List.length_take]; omega
      refine ⟨?_, ?_⟩
      · unfold textL
        rw [hl, List.append_assoc, ← h1, ← h2, List.take_append_drop, e]
        congr 2
        omega
      · unfold Short
        have := h64.2
        omega
    · simp at h
theorem flatT_inj : ∀ {xs ys : List (List UInt8)} {r t : List UInt8}, (∀ x ∈ xs, Short x) → (∀ y ∈ ys, Short y) → xs.length = ys.length → flatT xs ++ r = flatT ys ++ t → xs = ys ∧ r = t
  | [], [], r, t, _, _, _, h => ⟨rfl, by simpa [flatT] using h⟩
  | [], y :: ys, _, _, _, _, hl, _ => by simp at hl
  | x :: xs, [], _, _, _, _, hl, _ => by simp at hl
  | x :: xs, y :: ys, r, t, hx, hy, hl, h => by
    rw [flatT_cons, flatT_cons, List.append_assoc, List.append_assoc] at h
    have h1 := tkT_text (hx x (by simp)) (flatT xs ++ r)
    have h2 := tkT_text (hy y (by simp)) (flatT ys ++ t)
    rw [h, h2] at h1
    injection h1 with h1
    injection h1 with h3 h4
    obtain ⟨e1, e2⟩ := flatT_inj (fun z hz => hx z (by simp [hz])) (fun z hz => hy z (by simp [hz])) (by simpa using hl) h4.symm
    exact ⟨by rw [h3, e1], e2⟩
/-- the encoding of a list of strings -/
def textsL (ss : List (List UInt8)) : List UInt8 := numL (ss.length : Int) ++ flatT ss
theorem textsL_inj {xs ys : List (List UInt8)} {r t : List UInt8} (hx : ∀ x ∈ xs, Short x) (hy : ∀ y ∈ ys, Short y) (hxl : xs.length ≤ 9223372036854775807) (hyl : ys.length ≤ 9223372036854775807) (h : textsL xs ++ r = textsL ys ++ t) : xs = ys ∧ r = t := by
  unfold textsL at h
  rw [List.append_assoc, List.append_assoc] at h
  have h1 := tk_num (n := (xs.length : Int)) ⟨by omega, by omega⟩ (flatT xs ++ r)
  have h2 := tk_num (n := (ys.length : Int)) ⟨by omega, by omega⟩ (flatT ys ++ t)
  rw [h, h2] at h1
  injection h1 with h1
  injection h1 with h3 h4
  exact flatT_inj hx hy (by omega) h4.symm

/-! ## the reference's reading: the value of all groups up to the last, encoded again and compared -/
def valL (k : Nat) : List UInt8 → Nat
  | [] => 0
  | g :: r => g.toNat % 128 * 128 ^ k + valL (k + 1) r
theorem valL_append : ∀ (a b : List UInt8) (k : Nat), valL k (a ++ b) = valL k a + valL (k + a.length) b
  | [], b, k => by simp [valL]
  | x :: a, b, k => by
    show x.toNat % 128 * 128 ^ k + valL (k + 1) (a ++ b) = _
    rw [valL_append a b (k + 1)]
    simp only [valL, List.length_cons]
    rw [show k + 1 + a.length = k + (a.length + 1) by omega]
    omega
theorem valL_groups (y : Nat) : ∀ k, valL k (groups y) = y * 128 ^ k := by
  induction y using Nat.strongRecOn with
  | ind y ih =>
    intro k
    by_cases hy : y < 128
    · rw [groups_lt hy]
      simp only [valL]
      rw [byte_nat (by omega), Nat.mod_eq_of_lt hy]
      omega
    · rw [groups_ge hy]
      simp only [valL]
      rw [byte_nat (by omega), ih (y / 128) (by omega), Nat.pow_succ, show (y % 128 + 128) % 128 = y % 128 by omega]
      exact split128 y _
/-- all groups but the last tell that another follows -/
theorem groups_form (y : Nat) : ∃ a t, groups y = a ++ [t] ∧ (∀ g ∈ a, 128 ≤ g.toNat) ∧ t.toNat < 128 := by
  induction y using Nat.strongRecOn with
  | ind y ih =>
    by_cases hy : y < 128
    · exact ⟨[], UInt8.ofNat y, by rw [groups_lt hy]; rfl, by simp, by rw [byte_nat (by omega)]; exact hy⟩
    · obtain ⟨a, t, h1, h2, h3⟩ := ih (y / 128) (by omega)
      refine ⟨UInt8.ofNat (y % 128 + 128) :: a, t, by rw [groups_ge hy, h1]; rfl, ?_, h3⟩
      intro g hg
      rcases List.mem_cons.1 hg with rfl | hg
      · rw [byte_nat (by omega)]; omega
      · exact h2 g hg
/-- where the first group without the mark stands -/
theorem form_len : ∀ {a b r s : List UInt8} {t x : UInt8}, a ++ t :: r = b ++ x :: s → (∀ g ∈ a, 128 ≤ g.toNat) → t.toNat < 128 → (∀ g ∈ b, 128 ≤ g.toNat) → x.toNat < 128 → a = b ∧ t = x ∧ r = s
  | [], [], r, s, t, x, h, _, _, _, _ => by
    simp at h
    exact ⟨rfl, h.1, h.2⟩
  | [], y :: b, r, s, t, x, h, _, ht, hb, _ => by
    simp at h
    have := hb y (by simp)
    rw [← h.1] at this
    omega
  | y :: a, [], r, s, t, x, h, ha, _, _, hx => by
    simp at h
    have := ha y (by simp)
    rw [h.1] at this
    omega
  | y :: a, z :: b, r, s, t, x, h, ha, ht, hb, hx => by
    simp at h
    obtain ⟨e1, e2, e3⟩ := form_len h.2 (fun g hg => ha g (by simp [hg])) ht (fun g hg => hb g (by simp [hg])) hx
    exact ⟨by rw [h.1, e1], e2, e3⟩
theorem tk_found {a r : List UInt8} {t : UInt8} (ha : ∀ g ∈ a, 128 ≤ g.toNat) (ht : t.toNat < 128) : tk (a ++ t :: r) = if groups (valL 0 (a ++ [t]) % 18446744073709551616) = a ++ [t] then some (unzz (valL 0 (a ++ [t]) % 18446744073709551616), r) else none := by
  obtain ⟨V, hV⟩ : ∃ V, V = valL 0 (a ++ [t]) % 18446744073709551616 := ⟨_, rfl⟩
  rw [← hV]
  have hVl : V < 18446744073709551616 := by rw [hV]; exact Nat.mod_lt _ (by decide)
  split
  · rename_i h
    have e : a ++ t :: r = numL (unzz V) ++ r := by
      unfold numL
      rw [zz_unzz, h]
      simp
    rw [e, tk_num (unzz_in hVl)]
  · rename_i h
    cases hk : tk (a ++ t :: r) with
    | none => rfl
    | some x =>
      obtain ⟨n, s⟩ := x
      exfalso
      obtain ⟨e, h64⟩ := tk_sound hk
      obtain ⟨b, x, e1, e2, e3⟩ := groups_form (zz n)
      unfold numL at e
      rw [e1, List.append_assoc] at e
      obtain ⟨f1, f2, f3⟩ := form_len (show a ++ t :: r = b ++ x :: s from e) ha ht e2 e3
      apply h
      rw [f1, f2, ← e1, hV, f1, f2, ← e1, valL_groups, Nat.pow_zero, Nat.mul_one, Nat.mod_eq_of_lt (zz_lt h64)]
theorem tk_lost {a r : List UInt8} (ha : ∀ g ∈ a, 128 ≤ g.toNat) (h : r = [] ∨ 10 ≤ a.length) : tk (a ++ r) = none := by
  cases hk : tk (a ++ r) with
  | none => rfl
  | some x =>
    obtain ⟨n, s⟩ := x
    exfalso
    obtain ⟨e, h64⟩ := tk_sound hk
    obtain ⟨b, x, e1, e2, e3⟩ := groups_form (zz n)
    have h10 := groups_ten (zz_lt h64)
    unfold numL at e
    rw [e1] at e h10
    simp at h10
    have hx : (a ++ r)[b.length]? = some x := by rw [e]; simp
    rcases h with rfl | h
    · rw [List.append_nil] at hx
      have := ha x (List.mem_of_getElem? hx)
      omega
    · rw [List.getElem?_append_left (by omega)] at hx
      have := ha x (List.mem_of_getElem? hx)
      omega
end Go.Proofs.Ytldepghojmkohaa.Cod
