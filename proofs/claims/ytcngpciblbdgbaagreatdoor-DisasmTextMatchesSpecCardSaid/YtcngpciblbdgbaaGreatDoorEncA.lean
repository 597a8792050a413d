/- Plain mathematics of instruction codes: the bytes of an instruction, where its operands lie in them, and that they are read back. No program, no condition but those named in each. -/
import Derived.Laws.BitsAllLaws
import Derived.Test.YtcngpciblbdgbaaGreatDoorIsaB
namespace Go.Proofs.YtcngpciblbdgbaaGreatDoor
open Go Go.RowKit

/-! ## kinds -/
def isReg (k : Int) : Bool := k == 1 || k == 2
def Known (ks : List Int) : Prop := ∀ k ∈ ks, 1 ≤ k ∧ k ≤ 6
def lowOf (k : Int) : Int := if isReg k then 0 else if k == 4 then 0 else if k == 6 then -32768 else -128
def highOf (k : Int) : Int := if k == 1 then 7 else if k == 2 then 3 else if k == 4 then 4294967295 else if k == 6 then 32767 else 127
def outB (k a : Int) : Bool := decide (a < lowOf k) || decide (highOf k < a)
theorem regsOf_reg {k : Int} (h : isReg k = true) : regsOf k = 1 := by unfold regsOf; exact if_pos h
theorem regsOf_num {k : Int} (h : isReg k = false) : regsOf k = 0 := by unfold regsOf; exact if_neg (by rw [show (k == 1 || k == 2) = false from h]; simp)
theorem widthOf_reg {k : Int} (h : isReg k = true) : widthOf k = 0 := by
  simp only [isReg, Bool.or_eq_true, beq_iff_eq] at h
  rcases h with rfl | rfl <;> rfl
theorem known_cases {k : Int} (h : 1 ≤ k ∧ k ≤ 6) : k = 1 ∨ k = 2 ∨ k = 3 ∨ k = 4 ∨ k = 5 ∨ k = 6 := by omega

/-! ## the bytes of an instruction -/
def byteOf (a : Int) (j : Nat) : UInt8 := UInt8.ofNat ((a / 256 ^ j) % 256).toNat
def numB (k a : Int) : List UInt8 := (List.range (widthOf k)).map (byteOf a)
def pack : List Int → List UInt8
  | [] => []
  | [x] => [UInt8.ofNat x.toNat]
  | x :: y :: r => UInt8.ofNat (x + 16 * y).toNat :: pack r
def halves (ps : List (Int × Int)) : List Int := ps.filterMap fun p => if isReg p.1 then some p.2 else none
def nums (ps : List (Int × Int)) : List UInt8 := ps.flatMap fun p => numB p.1 p.2
def encL (code : Int) (ps : List (Int × Int)) : List UInt8 := UInt8.ofNat (code % 256).toNat :: (pack (halves ps) ++ nums ps)

theorem pack_length : ∀ l : List Int, (pack l).length = (l.length + 1) / 2
  | [] => rfl
  | [x] => by show 1 = (1 + 1) / 2; rfl
  | _ :: _ :: r => by
    show (pack r).length + 1 = (r.length + 1 + 1 + 1) / 2
    rw [pack_length r]; omega
theorem halves_length (ps : List (Int × Int)) : (halves ps).length = regs (ps.map (·.1)) := by
  induction ps with
  | nil => rfl
  | cons p ps ih =>
    have hr : regs ((p :: ps).map (·.1)) = regsOf p.1 + regs (ps.map (·.1)) := by simp [regs]
    rw [hr, ← ih]
    cases h : isReg p.1 with
    | true =>
      rw [regsOf_reg h]
      have : halves (p :: ps) = p.2 :: halves ps := by simp [halves, h]
      rw [this]; simp; omega
    | false =>
      rw [regsOf_num h]
      have : halves (p :: ps) = halves ps := by simp [halves, h]
      rw [this]; omega
theorem numB_length (k a : Int) : (numB k a).length = widthOf k := by simp [numB]
theorem nums_length (ps : List (Int × Int)) : (nums ps).length = widths (ps.map (·.1)) := by
  induction ps with
  | nil => rfl
  | cons p ps ih =>
    have hr : widths ((p :: ps).map (·.1)) = widthOf p.1 + widths (ps.map (·.1)) := by simp [widths]
    have hn : nums (p :: ps) = numB p.1 p.2 ++ nums ps := by simp [nums]
    rw [hr, hn, List.length_append, numB_length, ih]
theorem zip_fst {ks xs : List Int} (h : xs.length = ks.length) : (ks.zip xs).map (·.1) = ks := by
  rw [List.map_fst_zip (by omega)]
theorem encL_length {code : Int} {ks xs : List Int} (h : xs.length = ks.length) : (encL code (ks.zip xs)).length = sizeOf ks := by
  unfold encL sizeOf
  rw [List.length_cons, List.length_append, pack_length, halves_length, nums_length, zip_fst h]
  omega
theorem halves_append (a b : List (Int × Int)) : halves (a ++ b) = halves a ++ halves b := by simp [halves]
theorem nums_append (a b : List (Int × Int)) : nums (a ++ b) = nums a ++ nums b := by simp [nums]

/-! ## where the operands lie, and what is read there -/
def nib (l : List UInt8) (p odd : Nat) : Int := (((l[p]?.getD 0).toNat / (if odd = 0 then 1 else 16)) % 16 : Nat)
def valAt (l : List UInt8) (p : Nat) : Nat → Nat
  | 0 => 0
  | w + 1 => valAt l p w + (l[p + w]?.getD 0).toNat * 256 ^ w
def numOf (k : Int) (v : Nat) : Int := if lowOf k < 0 ∧ highOf k < (v : Int) then (v : Int) - 256 ^ widthOf k else v
def regAt (ks : List Int) (n : Nat) : Nat := regs (ks.take n)
def numAt (ks : List Int) (n : Nat) : Nat := 1 + (regs ks + 1) / 2 + widths (ks.take n)
def getA (ks : List Int) (l : List UInt8) (n : Nat) : Int :=
  if isReg (ks[n]?.getD 0) then nib l (1 + regAt ks n / 2) (regAt ks n % 2) else numOf (ks[n]?.getD 0) (valAt l (numAt ks n) (widthOf (ks[n]?.getD 0)))
def getL (ks : List Int) (l : List UInt8) : List Int := (List.range ks.length).map (getA ks l)

theorem u8_lt (x : UInt8) : x.toNat < 256 := UInt8.toNat_lt x
theorem ofNat_toNat (n : Nat) (h : n < 256) : (UInt8.ofNat n).toNat = n := by rw [UInt8.toNat_ofNat']; exact Nat.mod_eq_of_lt h
/-- packed half bytes are found where they belong -/
theorem pack_at : ∀ (l : List Int) (r : Nat) (x : Int) (tl : List UInt8), (∀ y ∈ l, 0 ≤ y ∧ y < 16) → l[r]? = some x → nib (pack l ++ tl) (r / 2) (r % 2) = x
  | [], r, x, _, _, h => by simp at h
  | [a], r, x, tl, hl, h => by
    have hr : r = 0 := by have := (List.getElem?_eq_some_iff.1 h).1; simp at this; exact this
    subst hr
    simp at h
    subst h
    have := hl a (List.mem_singleton.2 rfl)
    show (((UInt8.ofNat a.toNat).toNat / (if 0 % 2 = 0 then 1 else 16)) % 16 : Nat) = a
    rw [ofNat_toNat _ (by omega), if_pos rfl, Nat.div_one]
    omega
  | a :: b :: l, 0, x, tl, hl, h => by
    simp at h
    subst h
    have h1 := hl a (by simp)
    have h2 := hl b (by simp)
    show (((UInt8.ofNat (a + 16 * b).toNat).toNat / (if 0 % 2 = 0 then 1 else 16)) % 16 : Nat) = a
    rw [ofNat_toNat _ (by omega), if_pos rfl, Nat.div_one]
    omega
  | a :: b :: l, 1, x, tl, hl, h => by
    simp at h
    subst h
    have h1 := hl a (by simp)
    have h2 := hl b (by simp)
    show (((UInt8.ofNat (a + 16 * b).toNat).toNat / (if 1 % 2 = 0 then 1 else 16)) % 16 : Nat) = b
    rw [ofNat_toNat _ (by omega), if_neg (by decide)]
    omega
  | a :: b :: l, r + 2, x, tl, hl, h => by
    have ih := pack_at l r x tl (fun y hy => hl y (by simp [hy])) (by simpa using h)
    rw [← ih]
    unfold nib
    rw [show (r + 2) / 2 = r / 2 + 1 by omega, show (r + 2) % 2 = r % 2 by omega]
    rfl
theorem valAt_append (h : List UInt8) (l : List UInt8) (p : Nat) : ∀ w, valAt (h ++ l) (h.length + p) w = valAt l p w
  | 0 => rfl
  | w + 1 => by
    unfold valAt
    rw [valAt_append h l p w, List.getElem?_append_right (by omega), show h.length + p + w - h.length = p + w by omega]
theorem valAt_front (l tl : List UInt8) (p : Nat) : ∀ w, p + w ≤ l.length → valAt (l ++ tl) p w = valAt l p w
  | 0, _ => rfl
  | w + 1, h => by
    unfold valAt
    rw [valAt_front l tl p w (by omega), List.getElem?_append_left (by omega)]
theorem valAt_lt (l : List UInt8) (p : Nat) : ∀ w, valAt l p w < 256 ^ w
  | 0 => by simp [valAt]
  | w + 1 => by
    unfold valAt
    have h1 := valAt_lt l p w
    have h2 := u8_lt (l[p + w]?.getD 0)
    rw [Nat.pow_succ]
    generalize 256 ^ w = q at *
    generalize (l[p + w]?.getD 0).toNat = b at *
    have : b * q + q ≤ 256 * q := by
      have := Nat.mul_le_mul_right q (show b + 1 ≤ 256 by omega)
      rwa [Nat.add_mul, Nat.one_mul] at this
    have e : q * 256 = 256 * q := Nat.mul_comm _ _
    omega
/-- the bytes of a number say the number -/
theorem val_bytes (a : Int) (w : Nat) : ∀ v, v ≤ w → ((valAt ((List.range w).map (byteOf a)) 0 v : Nat) : Int) = a % 256 ^ v
  | 0, _ => by simp [valAt]
  | v + 1, h => by
    unfold valAt
    have ih := val_bytes a w v (by omega)
    have hb : (((List.range w).map (byteOf a))[0 + v]?.getD 0).toNat = ((a / 256 ^ v) % 256).toNat := by
      rw [Nat.zero_add, List.getElem?_map, List.getElem?_range (by omega)]
      show (byteOf a v).toNat = _
      unfold byteOf
      exact ofNat_toNat _ (by omega)
    rw [hb]
    rw [Int.natCast_add, Int.natCast_mul, Int.natCast_pow, ih]
    show a % 256 ^ v + (((a / 256 ^ v) % 256).toNat : Int) * 256 ^ v = _
    have hq : (0 : Int) < 256 ^ v := Int.pow_pos (by decide)
    rw [Int.toNat_of_nonneg (by omega), Int.pow_succ]
    generalize (256 : Int) ^ v = q at *
    have h1 := Int.emod_add_mul_ediv a q
    have h2 := Int.emod_add_mul_ediv (a / q) 256
    have r1 := Int.emod_nonneg a (Int.ne_of_gt hq)
    have r2 := Int.emod_lt_of_pos a hq
    have s1 := Int.emod_nonneg (a / q) (show (256 : Int) ≠ 0 by decide)
    have s2 := Int.emod_lt_of_pos (a / q) (show (0 : Int) < 256 by decide)
    generalize hs : a / q % 256 = s at *
    generalize hB : a / q / 256 = B at *
    generalize hr : a % q = r at *
    have hsq : 0 ≤ s * q := Int.mul_nonneg s1 (Int.le_of_lt hq)
    have hsq2 : s * q ≤ 255 * q := Int.mul_le_mul_of_nonneg_right (by omega) (Int.le_of_lt hq)
    have e : a = (r + s * q) + (q * 256) * B := by
      rw [← h1, ← h2, Int.mul_add, Int.mul_comm q s, ← Int.mul_assoc]
      omega
    rw [e, Int.add_mul_emod_self_left, Int.emod_eq_of_lt (by omega) (by omega)]
/-- a number in the range of its kind is told by its bytes -/
theorem numOf_val {k a : Int} (hk : 1 ≤ k ∧ k ≤ 6) (hr : isReg k = false) (ho : outB k a = false) (v : Nat) (hv : (v : Int) = a % 256 ^ widthOf k) : numOf k v = a := by
  have hro : ¬ a < lowOf k ∧ ¬ highOf k < a := by simpa [outB] using ho
  obtain ⟨h1, h2⟩ := hro
  rcases known_cases hk with rfl | rfl | rfl | rfl | rfl | rfl
  · simp [isReg] at hr
  · simp [isReg] at hr
  all_goals
    simp [lowOf, highOf, isReg, widthOf] at h1 h2 hv
    simp [numOf, lowOf, highOf, isReg, widthOf]
    try split
    all_goals omega
theorem halves_take {ks xs : List Int} (h : xs.length = ks.length) {n : Nat} (hn : n < ks.length) (hr : isReg (ks[n]?.getD 0) = true) :
    (halves (ks.zip xs))[regAt ks n]? = some (xs[n]?.getD 0) := by
  have hz : (ks.zip xs)[n]? = some (ks[n]?.getD 0, xs[n]?.getD 0) := by
    rw [List.getElem?_eq_getElem (by simp; omega)]
    simp [List.getElem_zip, List.getElem?_eq_getElem hn, List.getElem?_eq_getElem (show n < xs.length by omega)]
  have hsp : ks.zip xs = (ks.zip xs).take n ++ (ks[n]?.getD 0, xs[n]?.getD 0) :: (ks.zip xs).drop (n + 1) := by
    have := (List.getElem?_eq_some_iff.1 hz).2
    rw [← this, List.getElem_cons_drop]
    exact (List.take_append_drop n _).symm
  have hl : (halves ((ks.zip xs).take n)).length = regAt ks n := by
    rw [halves_length, List.map_take, zip_fst h]; rfl
  rw [hsp, halves_append, List.getElem?_append_right (by omega), hl, Nat.sub_self]
  simp [halves, hr]
theorem nums_take {ks xs : List Int} (h : xs.length = ks.length) {n : Nat} (hn : n < ks.length) :
    ∃ pre post, nums (ks.zip xs) = pre ++ (numB (ks[n]?.getD 0) (xs[n]?.getD 0) ++ post) ∧ pre.length = widths (ks.take n) := by
  have hz : (ks.zip xs)[n]? = some (ks[n]?.getD 0, xs[n]?.getD 0) := by
    rw [List.getElem?_eq_getElem (by simp; omega)]
    simp [List.getElem_zip, List.getElem?_eq_getElem hn, List.getElem?_eq_getElem (show n < xs.length by omega)]
  have hsp : ks.zip xs = (ks.zip xs).take n ++ (ks[n]?.getD 0, xs[n]?.getD 0) :: (ks.zip xs).drop (n + 1) := by
    have := (List.getElem?_eq_some_iff.1 hz).2
    rw [← this, List.getElem_cons_drop]
    exact (List.take_append_drop n _).symm
  refine ⟨nums ((ks.zip xs).take n), nums ((ks.zip xs).drop (n + 1)), ?_, ?_⟩
  · conv => lhs; rw [hsp]
    rw [nums_append]
    simp [nums]
  · rw [nums_length, List.map_take, zip_fst h]
/-- all operands in their ranges -/
def insideAll (ks xs : List Int) : Prop := ∀ n, n < ks.length → outB (ks[n]?.getD 0) (xs[n]?.getD 0) = false
theorem known_at {ks : List Int} (h : Known ks) {n : Nat} (hn : n < ks.length) : 1 ≤ ks[n]?.getD 0 ∧ ks[n]?.getD 0 ≤ 6 := by
  rw [List.getElem?_eq_getElem hn]
  exact h _ (List.getElem_mem hn)
theorem halves_small {ks xs : List Int} (h : xs.length = ks.length) (hi : insideAll ks xs) : ∀ y ∈ halves (ks.zip xs), 0 ≤ y ∧ y < 16 := by
  intro y hy
  simp only [halves, List.mem_filterMap] at hy
  obtain ⟨⟨k, a⟩, hm, he⟩ := hy
  obtain ⟨n, hn⟩ := List.mem_iff_getElem?.1 hm
  have hn' : n < ks.length := by have := (List.getElem?_eq_some_iff.1 hn).1; simp at this; omega
  rw [List.getElem?_eq_getElem (by simp; omega)] at hn
  simp only [List.getElem_zip, Option.some.injEq, Prod.mk.injEq] at hn
  have ho := hi n hn'
  rw [List.getElem?_eq_getElem hn', List.getElem?_eq_getElem (show n < xs.length by omega)] at ho
  simp only [Option.getD_some, hn.1, hn.2] at ho
  dsimp only at he
  cases hr : isReg k with
  | false => rw [hr] at he; simp at he
  | true =>
    rw [hr] at he
    simp at he
    subst he
    have hro : ¬ a < lowOf k ∧ ¬ highOf k < a := by simpa [outB] using ho
    simp only [isReg, Bool.or_eq_true, beq_iff_eq] at hr
    rcases hr with rfl | rfl <;> simp [lowOf, highOf, isReg] at hro <;> omega
/-- what was laid is read back -/
theorem getL_encL {code : Int} {ks xs : List Int} (hk : Known ks) (h : xs.length = ks.length) (hi : insideAll ks xs) (tl : List UInt8) : getL ks (encL code (ks.zip xs) ++ tl) = xs := by
  refine List.ext_getElem? fun n => ?_
  by_cases hn : n < ks.length
  · have hg : (getL ks (encL code (ks.zip xs) ++ tl))[n]? = some (getA ks (encL code (ks.zip xs) ++ tl) n) := by
      simp [getL, hn]
    have hx : xs[n]? = some (xs[n]?.getD 0) := by rw [List.getElem?_eq_getElem (show n < xs.length by omega)]; rfl
    rw [hg, hx]
    congr 1
    unfold getA
    cases hr : isReg (ks[n]?.getD 0) with
    | true =>
      rw [if_pos rfl]
      have hs := halves_small h hi
      have hp := pack_at (halves (ks.zip xs)) (regAt ks n) _ (nums (ks.zip xs) ++ tl) hs (halves_take h hn hr)
      rw [← hp]
      unfold nib
      rw [show (encL code (ks.zip xs) ++ tl)[1 + regAt ks n / 2]? = (pack (halves (ks.zip xs)) ++ (nums (ks.zip xs) ++ tl))[regAt ks n / 2]? by
        rw [Nat.add_comm 1]
        unfold encL
        rw [List.cons_append, List.getElem?_cons_succ, List.append_assoc]]
    | false =>
      rw [if_neg (by simp)]
      refine numOf_val (known_at hk hn) hr (hi n hn) _ ?_
      obtain ⟨pre, post, hnm, hpl⟩ := nums_take h hn
      have he : encL code (ks.zip xs) ++ tl = (UInt8.ofNat (code % 256).toNat :: (pack (halves (ks.zip xs)) ++ pre)) ++ (numB (ks[n]?.getD 0) (xs[n]?.getD 0) ++ (post ++ tl)) := by
        unfold encL
        rw [hnm]
        simp
      have hpl2 : numAt ks n = (UInt8.ofNat (code % 256).toNat :: (pack (halves (ks.zip xs)) ++ pre)).length + 0 := by
        unfold numAt
        rw [List.length_cons, List.length_append, pack_length, halves_length, zip_fst h, hpl]
        omega
      rw [he, hpl2, valAt_append, valAt_front _ _ _ _ (by rw [numB_length]; omega)]
      exact val_bytes _ _ _ (Nat.le_refl _)
  · rw [List.getElem?_eq_none (by simp [getL]; omega), List.getElem?_eq_none (by omega)]

/-! ## the bytes are laid operand by operand, into bytes that are 0 -/
def orAt (l : List UInt8) (p : Nat) (b : UInt8) : List UInt8 := l.set p ((l[p]?.getD 0) ||| b)
/-- a half byte as it is laid: shifted by four bits if its number is odd -/
def halfB (r : Nat) (x : Int) : UInt8 := UInt8.ofNat (x * 16 ^ (r % 2)).toNat
/-- the bytes of a number laid from p on, the first v of them -/
def orNum (l : List UInt8) (p : Nat) (a : Int) : Nat → List UInt8
  | 0 => l
  | v + 1 => orAt (orNum l p a v) (p + v) (byteOf a v)
def putOp (ks : List Int) (n : Nat) (a : Int) (l : List UInt8) : List UInt8 :=
  if isReg (ks[n]?.getD 0) then orAt l (1 + regAt ks n / 2) (halfB (regAt ks n) a) else orNum l (numAt ks n) a (widthOf (ks[n]?.getD 0))
/-- behind the first n operands -/
def laidB (code : Int) (ks xs : List Int) (n : Nat) : List UInt8 :=
  let ps := (ks.zip xs).take n
  UInt8.ofNat (code % 256).toNat :: ((pack (halves ps) ++ List.replicate ((regs ks + 1) / 2 - (pack (halves ps)).length) 0) ++ (nums ps ++ List.replicate (widths ks - (nums ps).length) 0))

theorem orAt_length (l : List UInt8) (p : Nat) (b : UInt8) : (orAt l p b).length = l.length := by simp [orAt]
theorem orAt_append (h l : List UInt8) (p : Nat) (b : UInt8) : orAt (h ++ l) (h.length + p) b = h ++ orAt l p b := by
  unfold orAt
  rw [List.getElem?_append_right (by omega), show h.length + p - h.length = p by omega, List.set_append_right _ _ (by omega), show h.length + p - h.length = p by omega]
theorem orAt_front (l tl : List UInt8) (p : Nat) (b : UInt8) (hp : p < l.length) : orAt (l ++ tl) p b = orAt l p b ++ tl := by
  unfold orAt
  rw [List.getElem?_append_left hp, List.set_append_left _ _ hp]
theorem pack_or : ∀ (hs : List Int) (x : Int) (m : Nat), (∀ y ∈ hs, 0 ≤ y ∧ y < 16) → 0 ≤ x ∧ x < 16 → 1 - hs.length % 2 ≤ m →
    orAt (pack hs ++ List.replicate m 0) (hs.length / 2) (halfB hs.length x) = pack (hs ++ [x]) ++ List.replicate (m - (1 - hs.length % 2)) 0
  | [], x, m, _, hx, hm => by
    obtain ⟨m', rfl⟩ : ∃ m', m = m' + 1 := ⟨m - 1, by simp at hm; omega⟩
    simp [orAt, pack, halfB, List.replicate_succ]
  | [y], x, m, hs, hx, _ => by
    have hy := hs y (by simp)
    have e : UInt8.ofNat y.toNat ||| halfB 1 x = UInt8.ofNat (y + 16 * x).toNat := by
      apply UInt8.toNat_inj.1
      rw [UInt8.toNat_or]
      unfold halfB
      rw [ofNat_toNat _ (by omega), ofNat_toNat _ (by simp; omega), ofNat_toNat _ (by omega), show ((x * 16 ^ (1 % 2) : Int)).toNat = 16 * x.toNat by (simp; omega), Nat.or_comm, nat_join 4 _ _ (by omega) (by omega)]
      omega
    simp [orAt, pack, e]
  | y :: z :: hs, x, m, h, hx, hm => by
    have ih := pack_or hs x m (fun y hy => h y (by simp [hy])) hx (by simp at hm; omega)
    have e1 : (y :: z :: hs).length / 2 = 1 + hs.length / 2 := by simp; omega
    have e2 : (y :: z :: hs).length % 2 = hs.length % 2 := by simp; omega
    have e3 : halfB (y :: z :: hs).length x = halfB hs.length x := by unfold halfB; rw [e2]
    rw [e1, e2, e3]
    have e4 : pack (y :: z :: hs) ++ List.replicate m 0 = [UInt8.ofNat (y + 16 * z).toNat] ++ (pack hs ++ List.replicate m 0) := rfl
    have e5 := orAt_append [UInt8.ofNat (y + 16 * z).toNat] (pack hs ++ List.replicate m 0) (hs.length / 2) (halfB hs.length x)
    rw [e4]
    refine e5.trans ?_
    rw [ih]
    rfl
theorem orNum_append (h l : List UInt8) (p : Nat) (a : Int) : ∀ v, orNum (h ++ l) (h.length + p) a v = h ++ orNum l p a v
  | 0 => rfl
  | v + 1 => by
    unfold orNum
    rw [orNum_append h l p a v, Nat.add_assoc, orAt_append]
theorem orNum_zero (a : Int) (m w : Nat) (hw : w ≤ m) : ∀ v, v ≤ w → orNum (List.replicate m 0) 0 a v = ((List.range w).map (byteOf a)).take v ++ List.replicate (m - v) 0
  | 0, _ => by simp [orNum]
  | v + 1, hv => by
    unfold orNum
    rw [orNum_zero a m w hw v (by omega)]
    have hl : (((List.range w).map (byteOf a)).take v).length = v := by simp; omega
    have ht : ((List.range w).map (byteOf a)).take (v + 1) = ((List.range w).map (byteOf a)).take v ++ [byteOf a v] := by
      rw [List.take_succ_eq_append_getElem (by simp; omega)]
      simp
    have := orAt_append (((List.range w).map (byteOf a)).take v) (List.replicate (m - v) 0) 0 (byteOf a v)
    rw [hl] at this
    rw [Nat.zero_add]
    rw [show v + 0 = v by omega] at this
    rw [this, ht, List.append_assoc]
    congr 1
    obtain ⟨q, hq⟩ : ∃ q, m - v = q + 1 := ⟨m - v - 1, by omega⟩
    rw [hq, show m - (v + 1) = q by omega, List.replicate_succ]
    simp [orAt]
theorem widths_take_le (ks : List Int) (n : Nat) : widths (ks.take n) ≤ widths ks := by
  have : widths ks = widths (ks.take n) + widths (ks.drop n) := by
    conv => lhs; rw [← List.take_append_drop n ks]
    unfold widths
    rw [List.map_append, List.sum_append]
  omega
theorem regs_take_le (ks : List Int) (n : Nat) : regs (ks.take n) ≤ regs ks := by
  have : regs ks = regs (ks.take n) + regs (ks.drop n) := by
    conv => lhs; rw [← List.take_append_drop n ks]
    unfold regs
    rw [List.map_append, List.sum_append]
  omega
theorem widths_succ {ks : List Int} {n : Nat} (hn : n < ks.length) : widths (ks.take (n + 1)) = widths (ks.take n) + widthOf (ks[n]?.getD 0) := by
  rw [List.take_succ_eq_append_getElem hn, widths_snoc, List.getElem?_eq_getElem hn]; rfl
theorem regs_succ {ks : List Int} {n : Nat} (hn : n < ks.length) : regs (ks.take (n + 1)) = regs (ks.take n) + regsOf (ks[n]?.getD 0) := by
  rw [List.take_succ_eq_append_getElem hn, regs_snoc, List.getElem?_eq_getElem hn]; rfl
theorem zip_take_succ {ks xs : List Int} (h : xs.length = ks.length) {n : Nat} (hn : n < ks.length) : (ks.zip xs).take (n + 1) = (ks.zip xs).take n ++ [(ks[n]?.getD 0, xs[n]?.getD 0)] := by
  rw [List.take_succ_eq_append_getElem (by simp; omega), List.getElem_zip, List.getElem?_eq_getElem hn, List.getElem?_eq_getElem (show n < xs.length by omega)]; rfl
theorem laidB_zero (code : Int) (ks xs : List Int) : laidB code ks xs 0 = UInt8.ofNat (code % 256).toNat :: List.replicate (sizeOf ks - 1) 0 := by
  have : laidB code ks xs 0 = UInt8.ofNat (code % 256).toNat :: (List.replicate ((regs ks + 1) / 2) 0 ++ List.replicate (widths ks) 0) := by
    simp [laidB, pack, halves, nums]
  rw [this, List.replicate_append_replicate]
  unfold sizeOf
  congr 2
  omega
theorem laidB_full {code : Int} {ks xs : List Int} (h : xs.length = ks.length) : laidB code ks xs ks.length = encL code (ks.zip xs) := by
  have ht : (ks.zip xs).take ks.length = ks.zip xs := List.take_of_length_le (by simp; omega)
  have e1 : (regs ks + 1) / 2 - (pack (halves (ks.zip xs))).length = 0 := by rw [pack_length, halves_length, zip_fst h]; omega
  have e2 : widths ks - (nums (ks.zip xs)).length = 0 := by rw [nums_length, zip_fst h]; omega
  unfold laidB encL
  dsimp only
  rw [ht, e1, e2]
  simp
theorem laidB_length {code : Int} {ks xs : List Int} (h : xs.length = ks.length) (n : Nat) : (laidB code ks xs n).length = sizeOf ks := by
  have h1 : (halves ((ks.zip xs).take n)).length = regs (ks.take n) := by rw [halves_length, List.map_take, zip_fst h]
  have h2 : (nums ((ks.zip xs).take n)).length = widths (ks.take n) := by rw [nums_length, List.map_take, zip_fst h]
  have h3 := widths_take_le ks n
  have h4 := regs_take_le ks n
  simp only [laidB, List.length_cons, List.length_append, List.length_replicate, pack_length, h1, h2]
  unfold sizeOf
  omega
theorem laidB_succ {code : Int} {ks xs : List Int} (h : xs.length = ks.length) (hi : insideAll ks xs) {n : Nat} (hn : n < ks.length) :
    putOp ks n (xs[n]?.getD 0) (laidB code ks xs n) = laidB code ks xs (n + 1) := by
  have hl : (halves ((ks.zip xs).take n)).length = regAt ks n := by rw [halves_length, List.map_take, zip_fst h]; rfl
  have hl2 : (nums ((ks.zip xs).take n)).length = widths (ks.take n) := by rw [nums_length, List.map_take, zip_fst h]
  have hr1 := regs_take_le ks (n + 1)
  have hw1 := widths_take_le ks (n + 1)
  rw [regs_succ hn] at hr1
  rw [widths_succ hn] at hw1
  have hsm : ∀ y ∈ halves (ks.zip xs), 0 ≤ y ∧ y < 16 := halves_small h hi
  have hsub : ∀ y ∈ halves ((ks.zip xs).take n), y ∈ halves (ks.zip xs) := fun y hy => by
    simp only [halves, List.mem_filterMap] at hy ⊢
    obtain ⟨a, ha, hb⟩ := hy
    exact ⟨a, List.mem_of_mem_take ha, hb⟩
  unfold putOp
  cases hr : isReg (ks[n]?.getD 0) with
  | true =>
    rw [if_pos rfl]
    rw [regsOf_reg hr] at hr1
    have hx := hsm _ (List.mem_of_getElem? (halves_take h hn hr))
    have e := pack_or (halves ((ks.zip xs).take n)) (xs[n]?.getD 0) ((regs ks + 1) / 2 - (pack (halves ((ks.zip xs).take n))).length) (fun y hy => hsm y (hsub y hy)) hx (by
      rw [pack_length, hl]; unfold regAt; omega)
    rw [hl] at e
    have h1 : halves ((ks.zip xs).take (n + 1)) = halves ((ks.zip xs).take n) ++ [xs[n]?.getD 0] := by
      rw [zip_take_succ h hn, halves_append]; simp [halves, hr]
    have h2 : nums ((ks.zip xs).take (n + 1)) = nums ((ks.zip xs).take n) := by
      rw [zip_take_succ h hn, nums_append]
      simp [nums, numB, widthOf_reg hr]
    unfold laidB
    dsimp only
    rw [h1, h2]
    have e4 := orAt_append [UInt8.ofNat (code % 256).toNat] ((pack (halves ((ks.zip xs).take n)) ++ List.replicate ((regs ks + 1) / 2 - (pack (halves ((ks.zip xs).take n))).length) 0) ++ (nums ((ks.zip xs).take n) ++ List.replicate (widths ks - (nums ((ks.zip xs).take n)).length) 0)) (regAt ks n / 2) (halfB (regAt ks n) (xs[n]?.getD 0))
    rw [show [UInt8.ofNat (code % 256).toNat].length + regAt ks n / 2 = 1 + regAt ks n / 2 from rfl] at e4
    refine e4.trans ?_
    rw [orAt_front _ _ _ _ (by
      rw [List.length_append, List.length_replicate, pack_length, hl]; unfold regAt; omega), e]
    rw [show (regs ks + 1) / 2 - (pack (halves ((ks.zip xs).take n))).length - (1 - regAt ks n % 2) = (regs ks + 1) / 2 - (pack (halves ((ks.zip xs).take n) ++ [xs[n]?.getD 0])).length by
      rw [pack_length, pack_length, List.length_append, hl, List.length_singleton]; omega]
    rfl
  | false =>
    rw [if_neg (by simp)]
    have h1 : halves ((ks.zip xs).take (n + 1)) = halves ((ks.zip xs).take n) := by
      rw [zip_take_succ h hn, halves_append]; simp [halves, hr]
    have h2 : nums ((ks.zip xs).take (n + 1)) = nums ((ks.zip xs).take n) ++ numB (ks[n]?.getD 0) (xs[n]?.getD 0) := by
      rw [zip_take_succ h hn, nums_append]
      simp [nums]
    unfold laidB
    dsimp only
    rw [h1, h2]
    generalize hH : pack (halves ((ks.zip xs).take n)) ++ List.replicate ((regs ks + 1) / 2 - (pack (halves ((ks.zip xs).take n))).length) 0 = Hl
    have hHl : Hl.length = (regs ks + 1) / 2 := by
      rw [← hH, List.length_append, List.length_replicate, pack_length, hl]
      have := regs_take_le ks n
      unfold regAt
      omega
    generalize hN : nums ((ks.zip xs).take n) = N at hl2 ⊢
    have e := orNum_append ((UInt8.ofNat (code % 256).toNat :: Hl) ++ N) (List.replicate (widths ks - N.length) 0) 0 (xs[n]?.getD 0) (widthOf (ks[n]?.getD 0))
    rw [show ((UInt8.ofNat (code % 256).toNat :: Hl) ++ N).length + 0 = numAt ks n by
      unfold numAt
      simp only [List.length_append, List.length_cons, hHl, hl2]
      omega, orNum_zero _ _ (widthOf (ks[n]?.getD 0)) (by rw [hl2]; omega) _ (Nat.le_refl _)] at e
    rw [show UInt8.ofNat (code % 256).toNat :: (Hl ++ (N ++ List.replicate (widths ks - N.length) 0)) = ((UInt8.ofNat (code % 256).toNat :: Hl) ++ N) ++ List.replicate (widths ks - N.length) 0 by simp]
    refine e.trans ?_
    have hnb : ((List.range (widthOf (ks[n]?.getD 0))).map (byteOf (xs[n]?.getD 0))).take (widthOf (ks[n]?.getD 0)) = numB (ks[n]?.getD 0) (xs[n]?.getD 0) := List.take_of_length_le (by simp)
    rw [hnb]
    rw [show widths ks - N.length - widthOf (ks[n]?.getD 0) = widths ks - (N ++ numB (ks[n]?.getD 0) (xs[n]?.getD 0)).length by rw [List.length_append, numB_length]; omega]
    simp
end Go.Proofs.YtcngpciblbdgbaaGreatDoor
