/- Pure facts on the values of expressions, and what of them a walk needs. -/
import Derived.Test.YtchpkdpefpiegaaDoorExO
import Derived.Test.YtchpkdpefpiegaaDoorExL
namespace Go.Proofs.YtchpkdpefpiegaaDoor.Tok
open Go Go.RowKit

def valAt (vs : List Ln) (x : Option Int) : Ln := match x with | some i => vs[i.toNat]?.getD zeroL | none => zeroL
def opA (vs : List Ln) (n : Nd) : Ln := valAt vs (chN n)[0]?
def opB (vs : List Ln) (n : Nd) : Ln := valAt vs (chN n)[1]?
/-- the values of the nodes, up to the first that has none, and its error code -/
def runL (syms : List Nm) : List Ln → List Nd → List Ln × Int
  | vs, [] => (vs, 0)
  | vs, n :: r => if (evalL n (opA vs n) (opB vs n) syms).2 ≠ 0 then (vs, (evalL n (opA vs n) (opB vs n) syms).2) else runL syms (vs ++ [(evalL n (opA vs n) (opB vs n) syms).1]) r
def lastL (vs : List Ln) : Ln := vs.getLast?.getD zeroL
/-- the value of an expression, and its fault -/
def valueL (ns : List Nd) (syms : List Nm) : Ln × (Int × Int) :=
  if (validL ns).1 ≠ 0 then (zeroL, validL ns) else if (validSymL syms).1 ≠ 0 then (zeroL, validSymL syms)
  else if (runL syms [] ns).2 ≠ 0 then (zeroL, ((runL syms [] ns).2, ((runL syms [] ns).1.length : Int))) else (lastL (runL syms [] ns).1, (0, 0))
/-! ## faults -/
theorem chkL_nonneg (n : Nd) (k : Nat) : 0 ≤ chkL n k ∧ chkL n k ≤ 12 := by
  unfold chkL
  repeat' split
  all_goals omega
theorem scanL_cases {α : Type} (f : α → Nat → Int) : ∀ (l : List α) (b : Nat), scanL f b l = (0, 0) ∨ (scanL f b l).1 ≠ 0
  | [], _ => .inl rfl
  | x :: r, b => by
    rw [scanL]
    split
    · rename_i h; exact .inr h
    · exact scanL_cases f r (b + 1)
theorem scanL_all {α : Type} {f : α → Nat → Int} : ∀ {l : List α} {b : Nat}, scanL f b l = (0, 0) → ∀ j y, l[j]? = some y → f y (b + j) = 0
  | [], _, _, j, y, hy => by simp at hy
  | x :: r, b, h, j, y, hy => by
    rw [scanL] at h
    split at h
    · rename_i h0; injection h with h1 _; exact absurd h1 h0
    · rename_i h0
      have h0 : f x b = 0 := Classical.not_not.1 h0
      match j, hy with
      | 0, hy => cases hy; exact h0
      | j + 1, hy =>
        have := scanL_all h j y (by simpa using hy)
        rw [show b + (j + 1) = b + 1 + j by omega]
        exact this
theorem validL_cases (ns : List Nd) : validL ns = (0, 0) ∨ (validL ns).1 ≠ 0 := by
  unfold validL
  split
  · exact .inr (by decide)
  · rcases scanL_cases chkL ns 0 with h | h
    · exact .inl (by rw [h]; rfl)
    · exact .inr h
theorem validL_all {ns : List Nd} (h : validL ns = (0, 0)) : (1 ≤ ns.length ∧ ns.length ≤ 60) ∧ ∀ (j : Nat) n, ns[j]? = some n → chkL n j = 0 := by
  unfold validL at h
  split at h
  · cases h
  · rename_i h0
    refine ⟨by omega, ?_⟩
    rcases scanL_cases chkL ns 0 with h1 | h1
    · intro j n hj
      have := scanL_all h1 j n hj
      rw [Nat.zero_add] at this
      exact this
    · injection h with h2 _
      exact absurd h2 h1
theorem validSymL_cases (l : List Nm) : validSymL l = (0, 0) ∨ (validSymL l).1 ≠ 0 := by
  unfold validSymL
  split
  · exact .inr (by decide)
  · split
    · exact .inl rfl
    · rename_i h; exact .inr h
theorem validSymL_all {l : List Nm} (h : validSymL l = (0, 0)) : l.length ≤ 8000 ∧ ∀ m ∈ l, chkS m 0 = 0 := by
  unfold validSymL at h
  split at h
  · cases h
  · rename_i h0
    refine ⟨by omega, ?_⟩
    split at h
    · rename_i h1
      rcases scanL_cases chkS l 0 with h2 | h2
      · intro m hm
        obtain ⟨j, hj, rfl⟩ := List.getElem_of_mem hm
        exact scanL_all h2 j _ (List.getElem?_eq_getElem hj)
      · exact absurd h1 h2
    · rename_i h1
      injection h with h2 _
      exact absurd h2 h1
/-! ## valid nodes -/
theorem chk_known {n : Nd} {k : Nat} (h : chkL n k = 0) : 1 ≤ n.kind ∧ n.kind ≤ 14 := by
  unfold chkL at h
  split at h
  · cases h
  · rename_i h0
    simp only [knownB, Bool.and_eq_false_iff, decide_eq_false_iff_not] at h0
    omega
theorem chk_num {n : Nd} {k : Nat} (h : chkL n k = 0) (h1 : n.kind = 1) : InR n.val := by
  unfold chkL at h
  split at h
  · cases h
  · split at h
    · cases h
    · rename_i h2
      unfold InR
      have : ¬ (n.val < 0 ∨ 4294967295 < n.val) := fun h3 => h2 ⟨h1, h3⟩
      omega
theorem chk_kids {n : Nd} {k : Nat} (h : chkL n k = 0) : ∀ x ∈ chN n, 0 ≤ x ∧ x < k := by
  unfold chkL at h
  split at h
  · cases h
  · split at h
    · cases h
    · split at h
      · cases h
      · split at h
        · cases h
        · rename_i h4
          intro x hx
          have h5 : lateB k x = false := by
            have : (chN n).any (lateB k) = false := by simpa using h4
            rw [List.any_eq_false] at this
            simpa using this x hx
          unfold lateB at h5
          simp only [Bool.or_eq_false_iff, decide_eq_false_iff_not] at h5
          omega
theorem chk_sym {m : Nm} (h : chkS m 0 = 0) : InR m.lin.num := by
  unfold chkS at h
  split at h
  · cases h
  · split at h
    · cases h
    · rename_i h2
      simp only [Bool.or_eq_true, not_or, Bool.not_eq_true] at h2
      have h3 := h2.1
      unfold isOutL at h3
      simp only [Bool.or_eq_false_iff, decide_eq_false_iff_not] at h3
      unfold InR
      omega
/-! ## values stay within bounds -/
theorem zeroL_ok : zeroL.Ok := ⟨⟨by decide, by decide⟩, by decide, by decide⟩
theorem out_in {n : Int} (h : isOutL n = false) : InR n := by
  unfold isOutL at h
  simp only [Bool.or_eq_false_iff, decide_eq_false_iff_not] at h
  unfold InR
  omega
theorem sumL_ok {a b : Ln} (ha : a.Ok) (hb : b.Ok) (h : (sumL a b).2 = 0) : (sumL a b).1.sym.length ≤ 140737488351232 ∧ (sumL a b).1.minus.length ≤ 140737488351232 := by
  have l1 := omit_len a.sym b.minus
  have l2 := omit_len b.sym a.minus
  have l3 := omit_len a.minus b.sym
  have l4 := omit_len b.minus a.sym
  obtain ⟨-, a1, a2⟩ := ha
  obtain ⟨-, b1, b2⟩ := hb
  unfold sumL at h ⊢
  split at h
  · cases h
  · rename_i h0
    rw [if_neg h0]
    simp only [Bool.or_eq_true, Bool.and_eq_true, Bool.not_eq_true', not_or, not_and, Bool.not_eq_false] at h0
    obtain ⟨h1, h2⟩ := h0
    dsimp only
    rw [List.length_append, List.length_append]
    constructor
    · by_cases e : (omitL a.sym b.minus).isEmpty = false
      · have := List.isEmpty_iff.1 (h1 e); rw [this]; simp; omega
      · have := List.isEmpty_iff.1 (by simpa using e : (omitL a.sym b.minus).isEmpty = true); rw [this]; simp; omega
    · by_cases e : (omitL a.minus b.sym).isEmpty = false
      · have := List.isEmpty_iff.1 (h2 e); rw [this]; simp; omega
      · have := List.isEmpty_iff.1 (by simpa using e : (omitL a.minus b.sym).isEmpty = true); rw [this]; simp; omega
theorem lookL_ok {s : List UInt8} {l : List Nm} (hs : s.length ≤ 140737488351232) (hl : ∀ m ∈ l, m.Short) (hv : ∀ m ∈ l, chkS m 0 = 0) : (lookL s l).Ok := by
  unfold lookL
  cases h : l.find? (fun m => m.name == s) with
  | none => exact (show Ln.Ok ⟨s, [], 0⟩ from ⟨⟨show (-1099511627776 : Int) ≤ 0 by decide, show (0 : Int) ≤ 1099511627776 by decide⟩, hs, by show 0 ≤ _; omega⟩)
  | some m =>
    have hm := List.mem_of_find?_eq_some h
    exact ⟨chk_sym (hv m hm), (hl m hm).2.1, (hl m hm).2.2⟩
theorem evalL_ok {n : Nd} {a b : Ln} {l : List Nm} {k : Nat} (hn : chkL n k = 0) (hnm : n.name.length ≤ 140737488351232) (ha : a.Ok) (hb : b.Ok) (hl : ∀ m ∈ l, m.Short) (hv : ∀ m ∈ l, chkS m 0 = 0)
    (h : (evalL n a b l).2 = 0) : (evalL n a b l).1.Ok := by
  unfold evalL at h ⊢
  by_cases h1 : n.kind = 1
  · rw [if_pos h1]; exact ⟨chk_num hn h1, by show 0 ≤ _; omega, by show 0 ≤ _; omega⟩
  · rw [if_neg h1] at h ⊢
    by_cases h2 : n.kind = 2
    · rw [if_pos h2]; exact lookL_ok hnm hl hv
    · rw [if_neg h2] at h ⊢
      dsimp only at h ⊢
      have hk : (operL n.kind a b).2 = 0 ∧ isOutL (operL n.kind a b).1.num = false := by
        split at h
        · cases h
        · rename_i h3
          refine ⟨h, ?_⟩
          cases ho : isOutL (operL n.kind a b).1.num with
          | false => rfl
          | true => exact absurd ⟨h, ho⟩ h3
      obtain ⟨hk1, hk2⟩ := hk
      refine ⟨out_in hk2, ?_⟩
      unfold operL at hk1 ⊢
      split
      · exact ⟨ha.2.2, ha.2.1⟩
      · rename_i h3
        rw [if_neg h3] at hk1
        split
        · rename_i h5; rw [if_pos h5] at hk1; exact sumL_ok ha hb hk1
        · rename_i h5
          rw [if_neg h5] at hk1
          split
          · rename_i h6; rw [if_pos h6] at hk1; exact sumL_ok ha (negL_ok hb) hk1
          · split
            · exact ⟨by show 0 ≤ _; omega, by show 0 ≤ _; omega⟩
            · exact ⟨by decide, by decide⟩
def AllOk (vs : List Ln) : Prop := ∀ v ∈ vs, v.Ok
theorem valAt_ok {vs : List Ln} (h : AllOk vs) (x : Option Int) : (valAt vs x).Ok := by
  unfold valAt
  cases x with
  | none => exact zeroL_ok
  | some i =>
    dsimp only
    cases hv : vs[i.toNat]? with
    | none => exact zeroL_ok
    | some v => exact h v (List.mem_of_getElem? hv)
theorem AllOk.snoc {vs : List Ln} {v : Ln} (h : AllOk vs) (hv : v.Ok) : AllOk (vs ++ [v]) := fun u hu => by
  rcases List.mem_append.1 hu with hu | hu
  · exact h u hu
  · rw [List.mem_singleton] at hu; subst hu; exact hv
theorem runL_hit {syms : List Nm} {vs : List Ln} {n : Nd} {r : List Nd} (h : (evalL n (opA vs n) (opB vs n) syms).2 ≠ 0) : runL syms vs (n :: r) = (vs, (evalL n (opA vs n) (opB vs n) syms).2) := by rw [runL, if_pos h]
theorem runL_next {syms : List Nm} {vs : List Ln} {n : Nd} {r : List Nd} (h : (evalL n (opA vs n) (opB vs n) syms).2 = 0) : runL syms vs (n :: r) = runL syms (vs ++ [(evalL n (opA vs n) (opB vs n) syms).1]) r := by rw [runL, if_neg (by simpa using h)]
end Go.Proofs.YtchpkdpefpiegaaDoor.Tok
