/- Pure facts: values keep the form of sums; the reference's sum of two of them is the program's, and so its values of nodes. -/
import Derived.Test.YtchpkdpefpiegaaDoorExZG
import Derived.Test.YtchpkdpefpiegaaDoorExZF
namespace Go.Proofs.YtchpkdpefpiegaaDoor.Tok
open Go Go.RowKit

theorem sym_wf {m : Nm} (h : chkS m 0 = 0) : Wf m.lin := by
  unfold chkS at h
  split at h
  · cases h
  · split at h
    · cases h
    · rename_i h2
      intro e
      cases hs : m.lin.sym with
      | nil => rfl
      | cons c r =>
        exfalso
        apply h2
        rw [← e, hs]
        simp
theorem look_wf {l : List Nm} (h : ∀ m ∈ l, Wf m.lin) (s : List UInt8) : Wf (lookL s l) := by
  unfold lookL
  split
  · rename_i m hm
    exact h m (List.mem_of_find?_eq_some hm)
  · exact fun e => e
theorem evalS_wf {x : Nd} {a b : Ln} {l : List Nm} (hl : ∀ m ∈ l, Wf m.lin) (ha : Wf a) (hb : Wf b) (h : (evalL x a b l).2 = 0) : Wf (evalL x a b l).1 := by
  by_cases h1 : x.kind = 1
  · unfold evalL; rw [if_pos h1]; exact fun _ => rfl
  · by_cases h2 : x.kind = 2
    · unfold evalL; rw [if_neg h1, if_pos h2]; exact look_wf hl _
    · obtain ⟨h3, h4⟩ := eval_code h h1 h2
      rw [h4]; exact oper_wf ha hb h3
theorem AllWf.snoc {vs : List Ln} {x : Ln} (h : AllWf vs) (hx : Wf x) : AllWf (vs ++ [x]) := fun v hv => by
  rcases List.mem_append.1 hv with hv | hv
  · exact h v hv
  · rw [List.mem_singleton] at hv; subst hv; exact hx
/-- what plus answers -/
def plusL (a b : Ln) (sg : Int) : Option Ln := (linM (addM (addM (addM (addM [] a.sym 1) a.minus (-1)) b.sym sg) b.minus (-sg)) [] []).map fun x => ⟨x.1, x.2, a.num + sg * b.num⟩
def ansL (r : Ln × Int) : Option Ln := if r.2 = 0 then some r.1 else none
theorem plusL_sum {a b : Ln} (ha : Wf a) (hb : Wf b) : plusL a b 1 = ansL (sumL a b) := by
  unfold plusL ansL sumL
  rw [plus_pure _ _ _ _ ha hb]
  split
  · rfl
  · simp
theorem plusL_diff {a b : Ln} (ha : Wf a) (hb : Wf b) : plusL a b (-1) = ansL (sumL a (negL b)) := by
  unfold plusL ansL sumL negL
  rw [show -(-1 : Int) = 1 from rfl, minus_pure _ _ _ _ ha hb]
  dsimp only
  split
  · rfl
  · simp
theorem plusL_neg {a : Ln} (ha : Wf a) : plusL zeroL a (-1) = some (negL a) := by
  rw [plusL_diff (fun _ => rfl) ha]
  obtain ⟨s, m, n⟩ := a
  unfold ansL sumL negL zeroL omitL
  dsimp only
  by_cases h1 : m = [] <;> by_cases h2 : s = []
  · subst h1 h2; simp
  · subst h1; simp [h2, Ne.symm h2]
  · subst h2; simp [h1, Ne.symm h1]
  · simp [h1, h2, Ne.symm h1, Ne.symm h2]
theorem sumL_code (a b : Ln) : (sumL a b).2 = 0 ∨ sumL a b = (zeroL, 8) := by
  unfold sumL
  split
  · exact .inr rfl
  · exact .inl rfl
/-- what NodeValue answers: its code, and its value if that is 0 -/
def NodeOk (r : Ln × Int) (v : Ln) (c : Int) : Prop := c = r.2 ∧ (r.2 = 0 → v = r.1)
end Go.Proofs.YtchpkdpefpiegaaDoor.Tok
