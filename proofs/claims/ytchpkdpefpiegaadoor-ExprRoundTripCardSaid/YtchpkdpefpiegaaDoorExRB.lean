/- Pure facts: the value of an expression's tree, and of its nodes one after the other. -/
import Derived.Test.YtchpkdpefpiegaaDoorExRA
namespace Go.Proofs.YtchpkdpefpiegaaDoor.Tok
open Go Go.RowKit

/-- the value of a tree, given the symbols; an error code beside it -/
def evT (l : List Nm) : Ex → Ln × Int
  | .num v => (⟨[], [], v⟩, 0)
  | .name s => (lookL s l, 0)
  | .un k a => if (evT l a).2 ≠ 0 then (zeroL, (evT l a).2) else evalL (unN k 0) (evT l a).1 zeroL l
  | .bin k a b => if (evT l a).2 ≠ 0 then (zeroL, (evT l a).2) else if (evT l b).2 ≠ 0 then (zeroL, (evT l b).2) else evalL (binN k 0 0) (evT l a).1 (evT l b).1 l
/-- the kinds of a tree are such; its numbers and names are valid -/
def OkX : Ex → Prop
  | .num v => 0 ≤ v ∧ v ≤ 4294967295
  | .name s => isName s = true
  | .un k a => (3 ≤ k ∧ k < 5) ∧ OkX a
  | .bin k a b => (5 ≤ k ∧ k ≤ 14) ∧ OkX a ∧ OkX b
theorem eval_one' {x : Nd} {a b : Ln} {l : List Nm} (h : x.kind = 1) : evalL x a b l = (⟨[], [], x.val⟩, 0) := by unfold evalL; rw [if_pos h]
theorem eval_two' {x : Nd} {a b : Ln} {l : List Nm} (h : x.kind = 2) : evalL x a b l = (lookL x.name l, 0) := by unfold evalL; rw [if_neg (by omega), if_pos h]
theorem eval_op' {x : Nd} {a b : Ln} {l : List Nm} (h : 3 ≤ x.kind) : evalL x a b l = ((operL x.kind a b).1, if (operL x.kind a b).2 = 0 ∧ isOutL (operL x.kind a b).1.num = true then 10 else (operL x.kind a b).2) := by unfold evalL; rw [if_neg (by omega), if_neg (by omega)]
theorem eval_same {x y : Nd} (hk : x.kind = y.kind) (h3 : 3 ≤ x.kind) (a b : Ln) (l : List Nm) : evalL x a b l = evalL y a b l := by
  rw [eval_op' h3, eval_op' (by omega), hk]
/-- the nodes of a tree, run behind others -/
theorem flat_more : ∀ (x : Ex) (o : List Nd), ∃ t, flat x o = o ++ t ∧ 1 ≤ t.length
  | .num v, o => ⟨[numN v], rfl, by simp⟩
  | .name s, o => ⟨[nameN s], rfl, by simp⟩
  | .un k a, o => by
    obtain ⟨t, h1, h2⟩ := flat_more a o
    exact ⟨t ++ [unN k (((flat a o).length : Int) - 1)], by rw [flat, ← List.append_assoc, ← h1], by simp⟩
  | .bin k a b, o => by
    obtain ⟨t, h1, h2⟩ := flat_more a o
    obtain ⟨t2, h3, h4⟩ := flat_more b (flat a o)
    exact ⟨t ++ (t2 ++ [binN k (((flat a o).length : Int) - 1) (((flat b (flat a o)).length : Int) - 1)]), by rw [flat, ← List.append_assoc, ← List.append_assoc, ← h1, ← h3], by simp; omega⟩
theorem valAt_some {vs : List Ln} {i : Nat} {y : Ln} (h : vs[i]? = some y) : valAt vs (some (i : Int)) = y := by unfold valAt; simp [h]
theorem opA_un {k : Nat} {j : Nat} {vs : List Ln} {y : Ln} (hk : 3 ≤ k ∧ k < 5) (h : vs[j]? = some y) : opA vs (unN k (j : Int)) = y ∧ opB vs (unN k (j : Int)) = zeroL := by
  have hc : chN (unN k (j : Int)) = [(j : Int)] := chN_three (x := unN k (j : Int)) (by show (3 : Int) ≤ (k : Int); omega) (by show ¬ (5 : Int) ≤ (k : Int); omega)
  unfold opA opB
  rw [hc]
  exact ⟨valAt_some h, rfl⟩
theorem opA_bin {k : Nat} {i j : Nat} {vs : List Ln} {y z : Ln} (hk : 5 ≤ k ∧ k ≤ 14) (h : vs[i]? = some y) (h2 : vs[j]? = some z) : opA vs (binN k (i : Int) (j : Int)) = y ∧ opB vs (binN k (i : Int) (j : Int)) = z := by
  have hc : chN (binN k (i : Int) (j : Int)) = [(i : Int), (j : Int)] := chN_five (x := binN k (i : Int) (j : Int)) (by show (5 : Int) ≤ (k : Int); omega) (by show (k : Int) ≤ 14; omega)
  unfold opA opB
  rw [hc]
  exact ⟨valAt_some h, valAt_some h2⟩
theorem run_one {l : List Nm} {vs : List Ln} {n : Nd} (h : (evalL n (opA vs n) (opB vs n) l).2 = 0) : runL l vs [n] = (vs ++ [(evalL n (opA vs n) (opB vs n) l).1], 0) := by rw [runL_next h]; rfl
/-- a tree with a value: its nodes run, and the last one has this value -/
theorem run_flat (l : List Nm) : ∀ (x : Ex) (o : List Nd), OkX x → (evT l x).2 = 0 → (runL l [] o).2 = 0 → (runL l [] (flat x o)).2 = 0 ∧ (runL l [] (flat x o)).1[(flat x o).length - 1]? = some (evT l x).1
  | .num v, o, _, _, ho => by
    have he : (evalL (numN v) (opA (runL l [] o).1 (numN v)) (opB (runL l [] o).1 (numN v)) l) = (⟨[], [], v⟩, 0) := eval_one' rfl
    rw [flat, run_append l o [] _ ho, run_one (by rw [he])]
    have hl := (run_keep l o [] ho).1
    refine ⟨rfl, ?_⟩
    rw [List.length_append, List.length_singleton, Nat.add_sub_cancel, he]
    rw [List.length_nil, Nat.zero_add] at hl
    rw [← hl]
    simp [evT]
  | .name s, o, _, _, ho => by
    have he : (evalL (nameN s) (opA (runL l [] o).1 (nameN s)) (opB (runL l [] o).1 (nameN s)) l) = (lookL s l, 0) := eval_two' rfl
    rw [flat, run_append l o [] _ ho, run_one (by rw [he])]
    have hl := (run_keep l o [] ho).1
    refine ⟨rfl, ?_⟩
    rw [List.length_append, List.length_singleton, Nat.add_sub_cancel, he]
    rw [List.length_nil, Nat.zero_add] at hl
    rw [← hl]
    simp [evT]
  | .un k a, o, hx, he, ho => by
    obtain ⟨hk, hxa⟩ := hx
    rw [evT] at he
    have ha0 : (evT l a).2 = 0 := by
      by_cases h : (evT l a).2 = 0
      · exact h
      · rw [if_pos h] at he; exact he
    rw [if_neg (by rw [ha0]; simp)] at he
    obtain ⟨r1, r2⟩ := run_flat l a o hxa ha0 ho
    have hl := (run_keep l (flat a o) [] r1).1
    rw [List.length_nil, Nat.zero_add] at hl
    obtain ⟨t, e1, e2⟩ := flat_more a o
    have hpos : 1 ≤ (flat a o).length := by rw [e1, List.length_append]; omega
    obtain ⟨m, hm⟩ : ∃ m, (flat a o).length = m + 1 := ⟨(flat a o).length - 1, by omega⟩
    have hcast : (((flat a o).length : Int) - 1) = (m : Int) := by omega
    rw [hm, Nat.add_sub_cancel] at r2
    obtain ⟨oa, ob⟩ := opA_un (k := k) hk r2
    have hev : evalL (unN k (m : Int)) (opA (runL l [] (flat a o)).1 (unN k (m : Int))) (opB (runL l [] (flat a o)).1 (unN k (m : Int))) l = evalL (unN k 0) (evT l a).1 zeroL l := by
      rw [oa, ob]; exact eval_same rfl (by show (3 : Int) ≤ (k : Int); omega) _ _ _
    rw [flat, hcast, run_append l (flat a o) [] _ r1, run_one (by rw [hev]; exact he)]
    refine ⟨rfl, ?_⟩
    rw [List.length_append, List.length_singleton, Nat.add_sub_cancel, ← hl, hev, evT, if_neg (by rw [ha0]; simp)]
    simp
  | .bin k a b, o, hx, he, ho => by
    obtain ⟨hk, hxa, hxb⟩ := hx
    rw [evT] at he
    have ha0 : (evT l a).2 = 0 := by
      by_cases h : (evT l a).2 = 0
      · exact h
      · rw [if_pos h] at he; exact he
    rw [if_neg (by rw [ha0]; simp)] at he
    have hb0 : (evT l b).2 = 0 := by
      by_cases h : (evT l b).2 = 0
      · exact h
      · rw [if_pos h] at he; exact he
    rw [if_neg (by rw [hb0]; simp)] at he
    obtain ⟨r1, r2⟩ := run_flat l a o hxa ha0 ho
    obtain ⟨s1, s2⟩ := run_flat l b (flat a o) hxb hb0 r1
    have hl := (run_keep l (flat b (flat a o)) [] s1).1
    rw [List.length_nil, Nat.zero_add] at hl
    obtain ⟨t, e1, e2⟩ := flat_more a o
    obtain ⟨t2, e3, e4⟩ := flat_more b (flat a o)
    obtain ⟨m, hm⟩ : ∃ m, (flat a o).length = m + 1 := ⟨(flat a o).length - 1, by rw [e1, List.length_append]; omega⟩
    obtain ⟨m2, hm2⟩ : ∃ m2, (flat b (flat a o)).length = m2 + 1 := ⟨(flat b (flat a o)).length - 1, by rw [e3, List.length_append]; omega⟩
    have hcast : (((flat a o).length : Int) - 1) = (m : Int) := by omega
    have hcast2 : (((flat b (flat a o)).length : Int) - 1) = (m2 : Int) := by omega
    rw [hm, Nat.add_sub_cancel] at r2
    rw [hm2, Nat.add_sub_cancel] at s2
    have r3 : (runL l [] (flat b (flat a o))).1[m]? = some (evT l a).1 := by
      have hk2 := (run_keep l t2 (runL l [] (flat a o)).1 (by rw [e3, run_append l (flat a o) [] t2 r1] at s1; exact s1)).2 m (by
        have := (run_keep l (flat a o) [] r1).1; rw [List.length_nil] at this; omega)
      rw [e3, run_append l (flat a o) [] t2 r1, hk2]
      exact r2
    obtain ⟨oa, ob⟩ := opA_bin (k := k) hk r3 s2
    have hev : evalL (binN k (m : Int) (m2 : Int)) (opA (runL l [] (flat b (flat a o))).1 (binN k (m : Int) (m2 : Int))) (opB (runL l [] (flat b (flat a o))).1 (binN k (m : Int) (m2 : Int))) l = evalL (binN k 0 0) (evT l a).1 (evT l b).1 l := by
      rw [oa, ob]; exact eval_same rfl (by show (3 : Int) ≤ (k : Int); omega) _ _ _
    rw [flat, hcast, hcast2, run_append l (flat b (flat a o)) [] _ s1, run_one (by rw [hev]; exact he)]
    refine ⟨rfl, ?_⟩
    rw [List.length_append, List.length_singleton, Nat.add_sub_cancel, ← hl, hev, evT, if_neg (by rw [ha0]; simp), if_neg (by rw [hb0]; simp)]
    simp
end Go.Proofs.YtchpkdpefpiegaaDoor.Tok
