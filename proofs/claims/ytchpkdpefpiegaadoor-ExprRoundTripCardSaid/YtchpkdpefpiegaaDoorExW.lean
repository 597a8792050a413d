/- Pure facts: a symbol can be replaced by a number before or after the evaluation. -/
import Derived.Test.YtchpkdpefpiegaaDoorExP
namespace Go.Proofs.YtchpkdpefpiegaaDoor.Tok
open Go Go.RowKit

/-- a value does not add and subtract one symbol -/
def Wf (v : Ln) : Prop := v.sym = v.minus → v.sym = []
def cnt (x s : List UInt8) : Int := if x = s then 1 else 0
def coef (v : Ln) (s : List UInt8) : Int := cnt v.sym s - cnt v.minus s
theorem cnt_self (s : List UInt8) : cnt s s = 1 := if_pos rfl
theorem cnt_ne {x s : List UInt8} (h : x ≠ s) : cnt x s = 0 := if_neg h
theorem cnt_01 (x s : List UInt8) : cnt x s = 0 ∨ cnt x s = 1 := by unfold cnt; split <;> simp
theorem cnt_one {x s : List UInt8} (h : cnt x s = 1) : x = s := by
  unfold cnt at h
  split at h
  · assumption
  · cases h
theorem ln_ext {v u : Ln} (hv : Wf v) (hu : Wf u) (hc : ∀ s, s ≠ [] → coef v s = coef u s) (hn : v.num = u.num) : v = u := by
  have half : ∀ {v u : Ln}, Wf v → (∀ s, s ≠ [] → coef v s = coef u s) → (v.sym ≠ [] → u.sym = v.sym) ∧ (v.minus ≠ [] → u.minus = v.minus) := by
    intro v u hv hc
    constructor
    · intro h
      have h1 := hc _ h
      unfold coef at h1
      rw [cnt_self, cnt_ne (fun e => h (hv e.symm))] at h1
      have a := cnt_01 u.sym v.sym
      have b := cnt_01 u.minus v.sym
      exact cnt_one (by omega)
    · intro h
      have h1 := hc _ h
      unfold coef at h1
      rw [cnt_self, cnt_ne (fun e => h (by rw [← e]; exact hv e))] at h1
      have a := cnt_01 u.sym v.minus
      have b := cnt_01 u.minus v.minus
      exact cnt_one (by omega)
  obtain ⟨a1, a2⟩ := half hv hc
  obtain ⟨b1, b2⟩ := half hu (fun s hs => (hc s hs).symm)
  obtain ⟨vs, vm, vn⟩ := v
  obtain ⟨us, um, un⟩ := u
  dsimp only at a1 a2 b1 b2 hn
  have e1 : vs = us := by
    by_cases h : vs = []
    · by_cases k : us = []
      · rw [h, k]
      · exact b1 k
    · exact (a1 h).symm
  have e2 : vm = um := by
    by_cases h : vm = []
    · by_cases k : um = []
      · rw [h, k]
      · exact b2 k
    · exact (a2 h).symm
  rw [e1, e2, hn]
theorem omit_cnt {x y s : List UInt8} : cnt (omitL x y) s - cnt (omitL y x) s = cnt x s - cnt y s := by
  unfold omitL
  by_cases h : x = y
  · subst h; simp
  · rw [if_neg h, if_neg (fun e => h e.symm)]
theorem app_cnt {x y s : List UInt8} (h : x = [] ∨ y = []) (hs : s ≠ []) : cnt (x ++ y) s = cnt x s + cnt y s := by
  rcases h with rfl | rfl
  · rw [List.nil_append, cnt_ne (fun e => hs e.symm)]; omega
  · rw [List.append_nil, cnt_ne (fun e => hs e.symm)]; omega
theorem sum_parts {a b : Ln} (h : (sumL a b).2 = 0) : (omitL a.sym b.minus = [] ∨ omitL b.sym a.minus = []) ∧ (omitL a.minus b.sym = [] ∨ omitL b.minus a.sym = []) ∧
    (sumL a b).1 = ⟨omitL a.sym b.minus ++ omitL b.sym a.minus, omitL a.minus b.sym ++ omitL b.minus a.sym, a.num + b.num⟩ := by
  unfold sumL at h ⊢
  split at h
  · cases h
  · rename_i h0
    rw [if_neg h0]
    simp only [Bool.or_eq_true, Bool.and_eq_true, Bool.not_eq_true', not_or, not_and, Bool.not_eq_false, List.isEmpty_iff] at h0
    obtain ⟨h1, h2⟩ := h0
    refine ⟨?_, ?_, rfl⟩
    · by_cases e : omitL a.sym b.minus = []
      · exact .inl e
      · exact .inr (h1 (by cases hx : omitL a.sym b.minus with | nil => exact absurd hx e | cons c r => rfl))
    · by_cases e : omitL a.minus b.sym = []
      · exact .inl e
      · exact .inr (h2 (by cases hx : omitL a.minus b.sym with | nil => exact absurd hx e | cons c r => rfl))
theorem sum_coef {a b : Ln} (h : (sumL a b).2 = 0) {s : List UInt8} (hs : s ≠ []) : coef (sumL a b).1 s = coef a s + coef b s := by
  obtain ⟨h1, h2, h3⟩ := sum_parts h
  rw [h3]
  unfold coef
  dsimp only
  rw [app_cnt h1 hs, app_cnt h2 hs]
  have e1 := omit_cnt (x := a.sym) (y := b.minus) (s := s)
  have e2 := omit_cnt (x := b.sym) (y := a.minus) (s := s)
  omega
theorem omit_or (x y : List UInt8) : omitL x y = [] ∨ (omitL x y = x ∧ x ≠ y) := by
  unfold omitL
  split
  · exact .inl rfl
  · rename_i h; exact .inr ⟨rfl, h⟩
theorem sum_wf {a b : Ln} (ha : Wf a) (hb : Wf b) (h : (sumL a b).2 = 0) : Wf (sumL a b).1 := by
  obtain ⟨h1, h2, h3⟩ := sum_parts h
  rw [h3]
  unfold Wf at *
  dsimp only
  intro e
  have o1 := omit_or a.sym b.minus
  have o2 := omit_or b.sym a.minus
  have o3 := omit_or a.minus b.sym
  have o4 := omit_or b.minus a.sym
  rcases o1 with o1 | ⟨o1, n1⟩ <;> rcases o2 with o2 | ⟨o2, n2⟩ <;> rcases o3 with o3 | ⟨o3, n3⟩ <;> rcases o4 with o4 | ⟨o4, n4⟩ <;> rw [o1, o2] at h1 <;> rw [o3, o4] at h2 <;> rw [o1, o2, o3, o4] at e <;> rw [o1, o2] <;> (try simp only [List.nil_append, List.append_nil] at e) <;> (try simp only [List.nil_append, List.append_nil])
  all_goals first
    | rfl
    | exact e
    | exact absurd e n1
    | exact absurd e n2
    | exact absurd e.symm n1
    | exact absurd e.symm n2
    | exact ha e
    | exact hb e
    | (rcases h1 with h1 | h1 <;> rcases h2 with h2 | h2 <;> (try simp only [h1, h2, List.nil_append, List.append_nil] at e) <;> (try simp only [h1, List.nil_append, List.append_nil]) <;> first | rfl | exact e | exact ha (by simp_all) | exact hb (by simp_all) | simp_all)
theorem neg_wf {a : Ln} (h : Wf a) : Wf (negL a) := fun e => by
  have e1 : a.minus = a.sym := e
  show a.minus = []
  rw [e1]
  exact h e1.symm
theorem neg_coef (a : Ln) (s : List UInt8) : coef (negL a) s = - coef a s := by unfold coef negL; dsimp only; omega
/-! ## a number in place of a name -/
def subN (nm : List UInt8) (n : Int) (v : Ln) : Ln :=
  if (if v.sym = nm then Ln.mk [] v.minus (v.num + n) else v).minus = nm then ⟨(if v.sym = nm then Ln.mk [] v.minus (v.num + n) else v).sym, [], (if v.sym = nm then Ln.mk [] v.minus (v.num + n) else v).num - n⟩
  else (if v.sym = nm then Ln.mk [] v.minus (v.num + n) else v)
theorem sub_form {nm : List UInt8} (hn : nm ≠ []) (n : Int) {v : Ln} (hv : Wf v) : Wf (subN nm n v) ∧ (∀ s, s ≠ [] → coef (subN nm n v) s = if s = nm then 0 else coef v s) ∧ (subN nm n v).num = v.num + coef v nm * n := by
  obtain ⟨s0, m0, k⟩ := v
  unfold subN coef
  unfold Wf at hv
  dsimp only at hv
  by_cases h1 : s0 = nm
  · have h2 : m0 ≠ nm := fun e => hn (by rw [← h1]; exact hv (by rw [h1, e]))
    rw [if_pos h1]
    dsimp only
    rw [if_neg h2]
    refine ⟨fun e => rfl, fun s hs => ?_, ?_⟩
    · dsimp only
      rw [cnt_ne (fun e => hs e.symm)]
      by_cases h3 : s = nm
      · rw [if_pos h3, h3, cnt_ne h2]; rfl
      · rw [if_neg h3, cnt_ne (x := s0) (fun e => h3 (by rw [← e, h1]))]
    · dsimp only
      rw [h1, cnt_self, cnt_ne h2]
      omega
  · rw [if_neg h1]
    dsimp only
    by_cases h2 : m0 = nm
    · rw [if_pos h2]
      refine ⟨fun e => e, fun s hs => ?_, ?_⟩
      · dsimp only
        rw [cnt_ne (x := []) (fun e => hs e.symm)]
        by_cases h3 : s = nm
        · rw [if_pos h3, h3, cnt_ne h1]; rfl
        · rw [if_neg h3, cnt_ne (x := m0) (fun e => h3 (by rw [← e, h2]))]
      · dsimp only
        rw [h2, cnt_self, cnt_ne h1]
        omega
    · rw [if_neg h2]
      refine ⟨hv, fun s hs => ?_, ?_⟩
      · dsimp only
        by_cases h3 : s = nm
        · rw [if_pos h3, h3, cnt_ne h1, cnt_ne h2]; rfl
        · rw [if_neg h3]
      · dsimp only
        rw [cnt_ne h1, cnt_ne h2]
        omega
theorem sub_neg {nm : List UInt8} (hn : nm ≠ []) (n : Int) {a : Ln} (ha : Wf a) : subN nm n (negL a) = negL (subN nm n a) := by
  obtain ⟨w1, c1, k1⟩ := sub_form hn n ha
  obtain ⟨w2, c2, k2⟩ := sub_form hn n (neg_wf ha)
  refine ln_ext w2 (neg_wf w1) (fun s hs => ?_) ?_
  · rw [c2 s hs, neg_coef, neg_coef, c1 s hs]
    split <;> omega
  · rw [k2, neg_coef, show (negL (subN nm n a)).num = - (subN nm n a).num from rfl, k1, show (negL a).num = -a.num from rfl, Int.neg_mul]
    omega
theorem sub_sum {nm : List UInt8} (hn : nm ≠ []) (n : Int) {a b : Ln} (ha : Wf a) (hb : Wf b) (h : (sumL a b).2 = 0) (h2 : (sumL (subN nm n a) (subN nm n b)).2 = 0) : subN nm n (sumL a b).1 = (sumL (subN nm n a) (subN nm n b)).1 := by
  obtain ⟨wa, ca, ka⟩ := sub_form hn n ha
  obtain ⟨wb, cb, kb⟩ := sub_form hn n hb
  obtain ⟨w1, c1, k1⟩ := sub_form hn n (sum_wf ha hb h)
  refine ln_ext w1 (sum_wf wa wb h2) (fun s hs => ?_) ?_
  · rw [c1 s hs, sum_coef h hs, sum_coef h2 hs, ca s hs, cb s hs]
    split <;> omega
  · rw [k1, sum_coef h hn, (sum_parts h2).2.2, (sum_parts h).2.2]
    dsimp only
    rw [ka, kb, Int.add_mul]
    omega
theorem sub_num {nm : List UInt8} (hn : nm ≠ []) (n k : Int) : subN nm n ⟨[], [], k⟩ = ⟨[], [], k⟩ := by
  unfold subN
  rw [if_neg (show ¬ (Ln.mk [] [] k).sym = nm from fun e => hn e.symm), if_neg (show ¬ (Ln.mk [] [] k).minus = nm from fun e => hn e.symm)]
theorem num_form {a : Ln} (h : isNumL a = true) : a = ⟨[], [], a.num⟩ := by
  obtain ⟨s, m, n⟩ := a
  simp only [isNumL, Bool.and_eq_true, List.isEmpty_iff] at h
  rw [h.1, h.2]
def numNm (nm : List UInt8) (n : Int) : Nm := ⟨nm, ⟨[], [], n⟩⟩
theorem oper_wf {k : Int} {a b : Ln} (ha : Wf a) (hb : Wf b) (h : (operL k a b).2 = 0) : Wf (operL k a b).1 := by
  unfold operL at h ⊢
  by_cases h3 : k = 3
  · rw [if_pos h3]; exact neg_wf ha
  · rw [if_neg h3] at h ⊢
    by_cases h5 : k = 5
    · rw [if_pos h5] at h ⊢; exact sum_wf ha hb h
    · rw [if_neg h5] at h ⊢
      by_cases h6 : k = 6
      · rw [if_pos h6] at h ⊢; exact sum_wf ha (neg_wf hb) h
      · rw [if_neg h6] at h ⊢
        split
        · exact fun _ => rfl
        · exact fun _ => rfl
theorem oper_sub {nm : List UInt8} (hn : nm ≠ []) (n : Int) {k : Int} {a b : Ln} (ha : Wf a) (hb : Wf b) (h : (operL k a b).2 = 0) (h2 : (operL k (subN nm n a) (subN nm n b)).2 = 0) :
    (operL k (subN nm n a) (subN nm n b)).1 = subN nm n (operL k a b).1 := by
  unfold operL at h h2 ⊢
  by_cases h3 : k = 3
  · rw [if_pos h3, if_pos h3]; exact (sub_neg hn n ha).symm
  · rw [if_neg h3] at h h2 ⊢
    rw [if_neg h3]
    by_cases h5 : k = 5
    · rw [if_pos h5] at h h2 ⊢
      rw [if_pos h5]
      exact (sub_sum hn n ha hb h h2).symm
    · rw [if_neg h5] at h h2 ⊢
      rw [if_neg h5]
      by_cases h6 : k = 6
      · rw [if_pos h6] at h h2 ⊢
        rw [if_pos h6]
        rw [← sub_neg hn n hb] at h2 ⊢
        exact (sub_sum hn n ha (neg_wf hb) h h2).symm
      · rw [if_neg h6] at h h2 ⊢
        rw [if_neg h6]
        split at h
        · rename_i hc
          simp only [Bool.and_eq_true] at hc
          have ea : subN nm n a = a := by rw [num_form hc.1]; exact sub_num hn n _
          have eb : subN nm n b = b := by rw [num_form hc.2]; exact sub_num hn n _
          have hcc : (isNumL a && isNumL b) = true := by rw [hc.1, hc.2]; rfl
          rw [ea, eb, if_pos hcc]
          exact (sub_num hn n _).symm
        · cases h
theorem look_sub {nm : List UInt8} (hn : nm ≠ []) (n : Int) (s : List UInt8) : lookL s [numNm nm n] = subN nm n (lookL s []) := by
  have e0 : lookL s [] = ⟨s, [], 0⟩ := rfl
  rw [e0]
  by_cases h : nm = s
  · subst h
    have e1 : lookL nm [numNm nm n] = ⟨[], [], n⟩ := by unfold lookL numNm; simp
    rw [e1]
    unfold subN
    rw [if_pos (show (Ln.mk nm [] 0).sym = nm from rfl), if_neg (show ¬ (Ln.mk [] (Ln.mk nm [] 0).minus ((Ln.mk nm [] 0).num + n)).minus = nm from fun e => hn e.symm)]
    simp
  · have e1 : lookL s [numNm nm n] = ⟨s, [], 0⟩ := by unfold lookL numNm; simp [h]
    rw [e1]
    unfold subN
    rw [if_neg (show ¬ (Ln.mk s [] 0).sym = nm from fun e => h e.symm), if_neg (show ¬ (Ln.mk s [] 0).minus = nm from fun e => hn e.symm)]
theorem eval_code {x : Nd} {a b : Ln} {l : List Nm} (h : (evalL x a b l).2 = 0) (h1 : x.kind ≠ 1) (h2 : x.kind ≠ 2) : (operL x.kind a b).2 = 0 ∧ (evalL x a b l).1 = (operL x.kind a b).1 := by
  unfold evalL at h ⊢
  rw [if_neg h1, if_neg h2] at h ⊢
  dsimp only at h ⊢
  split at h
  · cases h
  · exact ⟨h, rfl⟩
theorem eval_wf {x : Nd} {a b : Ln} (ha : Wf a) (hb : Wf b) (h : (evalL x a b []).2 = 0) : Wf (evalL x a b []).1 := by
  by_cases h1 : x.kind = 1
  · unfold evalL; rw [if_pos h1]; exact fun _ => rfl
  · by_cases h2 : x.kind = 2
    · unfold evalL; rw [if_neg h1, if_pos h2]; exact fun e => e
    · obtain ⟨h3, h4⟩ := eval_code h h1 h2
      rw [h4]; exact oper_wf ha hb h3
theorem eval_sub {nm : List UInt8} (hn : nm ≠ []) (n : Int) {x : Nd} {a b : Ln} (ha : Wf a) (hb : Wf b) (h : (evalL x a b []).2 = 0) (h0 : (evalL x (subN nm n a) (subN nm n b) [numNm nm n]).2 = 0) :
    (evalL x (subN nm n a) (subN nm n b) [numNm nm n]).1 = subN nm n (evalL x a b []).1 := by
  by_cases h1 : x.kind = 1
  · unfold evalL; rw [if_pos h1, if_pos h1]; exact (sub_num hn n _).symm
  · by_cases h2 : x.kind = 2
    · unfold evalL; rw [if_neg h1, if_pos h2, if_neg h1, if_pos h2]; exact look_sub hn n _
    · obtain ⟨h3, h4⟩ := eval_code h h1 h2
      obtain ⟨h5, h6⟩ := eval_code h0 h1 h2
      rw [h4, h6]
      exact oper_sub hn n ha hb h3 h5
def AllWf (vs : List Ln) : Prop := ∀ v ∈ vs, Wf v
theorem valAt_wf {vs : List Ln} (h : AllWf vs) (c : Option Int) : Wf (valAt vs c) := by
  unfold valAt
  cases c with
  | none => exact fun _ => rfl
  | some i =>
    dsimp only
    cases hv : vs[i.toNat]? with
    | none => exact fun _ => rfl
    | some v => exact h v (List.mem_of_getElem? hv)
theorem valAt_sub {nm : List UInt8} (hn : nm ≠ []) (n : Int) (vs : List Ln) (c : Option Int) : valAt (vs.map (subN nm n)) c = subN nm n (valAt vs c) := by
  unfold valAt
  cases c with
  | none => exact (sub_num hn n 0).symm
  | some i =>
    dsimp only
    rw [List.getElem?_map]
    cases hv : vs[i.toNat]? with
    | none => exact (sub_num hn n 0).symm
    | some v => rfl
theorem run_sub {nm : List UInt8} (hn : nm ≠ []) (n : Int) : ∀ (ns : List Nd) (vs : List Ln), AllWf vs → (runL [] vs ns).2 = 0 → (runL [numNm nm n] (vs.map (subN nm n)) ns).2 = 0 →
    (runL [numNm nm n] (vs.map (subN nm n)) ns).1 = (runL [] vs ns).1.map (subN nm n)
  | [], vs, _, _, _ => rfl
  | x :: r, vs, hw, h1, h2 => by
    have ha : Wf (opA vs x) := valAt_wf hw _
    have hb : Wf (opB vs x) := valAt_wf hw _
    by_cases e1 : (evalL x (opA vs x) (opB vs x) []).2 = 0
    · by_cases e2 : (evalL x (opA (vs.map (subN nm n)) x) (opB (vs.map (subN nm n)) x) [numNm nm n]).2 = 0
      · rw [runL_next e1] at h1 ⊢
        rw [runL_next e2] at h2 ⊢
        have ea : opA (vs.map (subN nm n)) x = subN nm n (opA vs x) := valAt_sub hn n vs _
        have eb : opB (vs.map (subN nm n)) x = subN nm n (opB vs x) := valAt_sub hn n vs _
        rw [ea, eb] at e2 h2 ⊢
        have e3 := eval_sub hn n ha hb e1 e2
        rw [e3, show vs.map (subN nm n) ++ [subN nm n (evalL x (opA vs x) (opB vs x) []).1] = (vs ++ [(evalL x (opA vs x) (opB vs x) []).1]).map (subN nm n) by rw [List.map_append]; rfl] at h2 ⊢
        exact run_sub hn n r _ (fun v hv => by
          rcases List.mem_append.1 hv with hv | hv
          · exact hw v hv
          · rw [List.mem_singleton] at hv; subst hv; exact eval_wf ha hb e1) h1 h2
      · rw [runL_hit e2] at h2; exact absurd h2 e2
    · rw [runL_hit e1] at h1; exact absurd h1 e1
theorem last_sub {nm : List UInt8} (hn : nm ≠ []) (n : Int) (vs : List Ln) : lastL (vs.map (subN nm n)) = subN nm n (lastL vs) := by
  unfold lastL
  rw [List.getLast?_map]
  cases vs.getLast? with
  | none => exact (sub_num hn n 0).symm
  | some v => rfl
/-- what a value without an error is -/
theorem value_run {ns : List Nd} {l : List Nm} (h : (valueL ns l).2.1 = 0) : validL ns = (0, 0) ∧ validSymL l = (0, 0) ∧ (runL l [] ns).2 = 0 ∧ valueL ns l = (lastL (runL l [] ns).1, (0, 0)) := by
  unfold valueL at h
  split at h
  · rename_i h1; exact absurd h h1
  · rename_i h1
    split at h
    · rename_i h2; exact absurd h h2
    · rename_i h2
      split at h
      · rename_i h3; exact absurd h h3
      · rename_i h3
        have v1 : validL ns = (0, 0) := (validL_cases ns).resolve_right h1
        have v2 : validSymL l = (0, 0) := (validSymL_cases l).resolve_right h2
        refine ⟨v1, v2, Classical.not_not.1 h3, ?_⟩
        unfold valueL
        rw [if_neg h1, if_neg h2, if_neg h3]
theorem value_zero {ns : List Nd} {l : List Nm} (h : (valueL ns l).2.1 ≠ 0) : (valueL ns l).1 = zeroL := by
  unfold valueL at h ⊢
  repeat' split
  · rfl
  · rfl
  · rfl
  · rename_i h1 h2 h3
    rw [if_neg h1, if_neg h2, if_neg h3] at h
    exact absurd rfl h
theorem one_sym {nm : List UInt8} {n : Int} (h : validSymL [numNm nm n] = (0, 0)) : nm ≠ [] ∧ InR n := by
  obtain ⟨-, h1⟩ := validSymL_all h
  have h2 := h1 (numNm nm n) (List.mem_singleton.2 rfl)
  refine ⟨?_, chk_sym h2⟩
  intro e
  subst e
  unfold chkS numNm at h2
  rw [if_pos (by simp [isName])] at h2
  cases h2
/-- a symbol can be replaced by a number before or after the evaluation -/
theorem value_sub {ns : List Nd} {nm : List UInt8} {n : Int} (h1 : (valueL ns []).2.1 = 0) (h2 : (valueL ns [numNm nm n]).2.1 = 0) : (valueL ns [numNm nm n]).1 = subN nm n (valueL ns []).1 := by
  obtain ⟨-, -, r1, e1⟩ := value_run h1
  obtain ⟨-, v2, r2, e2⟩ := value_run h2
  obtain ⟨hn, -⟩ := one_sym v2
  rw [e1, e2]
  dsimp only
  rw [← last_sub hn n, ← run_sub hn n ns [] (fun v hv => absurd hv (by simp)) r1 r2]
  rfl
theorem run_ok {l : List Nm} (hl : ∀ m ∈ l, m.Short) (hv : ∀ m ∈ l, chkS m 0 = 0) : ∀ (ns : List Nd) (vs : List Ln) (k : Nat), (∀ (j : Nat) x, ns[j]? = some x → chkL x (k + j) = 0) → (∀ x ∈ ns, x.name.length ≤ 140737488351232) → AllOk vs →
    (runL l vs ns).2 = 0 → AllOk (runL l vs ns).1
  | [], vs, _, _, _, h, _ => h
  | x :: r, vs, k, hc, hn, h, h0 => by
    by_cases e1 : (evalL x (opA vs x) (opB vs x) l).2 = 0
    · rw [runL_next e1] at h0 ⊢
      exact run_ok hl hv r _ (k + 1) (fun j y hj => by have := hc (j + 1) y hj; rw [show k + (j + 1) = k + 1 + j by omega] at this; exact this) (fun y hy => hn y (List.mem_cons_of_mem _ hy))
        (h.snoc (evalL_ok (hc 0 x rfl) (hn x (List.mem_cons_self ..)) (valAt_ok h _) (valAt_ok h _) hl hv e1)) h0
    · rw [runL_hit e1] at h0; exact absurd h0 e1
theorem value_ok {ns : List Nd} {l : List Nm} (hl : ∀ m ∈ l, m.Short) (hn : ∀ x ∈ ns, x.name.length ≤ 140737488351232) (h : (valueL ns l).2.1 = 0) : (valueL ns l).1.Ok := by
  obtain ⟨v1, v2, r1, e1⟩ := value_run h
  have h1 := run_ok hl (validSymL_all v2).2 ns [] 0 (fun j x hj => by rw [Nat.zero_add]; exact (validL_all v1).2 j x hj) hn (fun _ h => absurd h (by simp)) r1
  rw [e1]
  show (lastL _).Ok
  unfold lastL
  cases hg : (runL l [] ns).1.getLast? with
  | none => exact zeroL_ok
  | some v => exact h1 v (List.mem_of_getLast? hg)
theorem value_one {ns : List Nd} {nm : List UInt8} {n : Int} (h2 : (valueL ns [numNm nm n]).2.1 = 0) : nm ≠ [] ∧ InR n := by
  obtain ⟨-, v2, -, -⟩ := value_run h2
  exact one_sym v2
theorem run_wf : ∀ (ns : List Nd) (vs : List Ln), AllWf vs → (runL [] vs ns).2 = 0 → AllWf (runL [] vs ns).1
  | [], vs, h, _ => h
  | x :: r, vs, h, h0 => by
    by_cases e1 : (evalL x (opA vs x) (opB vs x) []).2 = 0
    · rw [runL_next e1] at h0 ⊢
      exact run_wf r _ (fun v hv => by
        rcases List.mem_append.1 hv with hv | hv
        · exact h v hv
        · rw [List.mem_singleton] at hv; subst hv; exact eval_wf (valAt_wf h _) (valAt_wf h _) e1) h0
    · rw [runL_hit e1] at h0; exact absurd h0 e1
theorem value_wf {ns : List Nd} (h : (valueL ns []).2.1 = 0) : Wf (valueL ns []).1 := by
  obtain ⟨-, -, r1, e1⟩ := value_run h
  have h1 := run_wf ns [] (fun _ h => absurd h (by simp)) r1
  rw [e1]
  show Wf (lastL _)
  unfold lastL
  cases hg : (runL [] [] ns).1.getLast? with
  | none => exact fun _ => rfl
  | some v => exact h1 v (List.mem_of_getLast? hg)
end Go.Proofs.YtchpkdpefpiegaaDoor.Tok
