/- Pure facts: the reference's sum of two linear values, with multiplicities, is sumL. -/
import Derived.Test.YtchpkdpefpiegaaDoorExW
namespace Go.Proofs.YtchpkdpefpiegaaDoor.Tok
open Go Go.RowKit

/-- a sum in which a name occurs more often -/
def addM (l : List (List UInt8 × Int)) (nm : List UInt8) (t : Int) : List (List UInt8 × Int) :=
  ((l.map fun x => (x.1, if x.1 = nm then x.2 + t else x.2)).filter fun x => x.2 != 0) ++ (if nm ≠ [] ∧ (l.all fun x => decide (x.1 ≠ nm)) = true then [(nm, t)] else [])
/-- the linear value of a sum -/
def linM : List (List UInt8 × Int) → List UInt8 → List UInt8 → Option (List UInt8 × List UInt8)
  | [], s, m => some (s, m)
  | x :: r, s, m => if x.2 = 1 ∧ s = [] then linM r x.1 m else if x.2 = -1 ∧ m = [] then linM r s x.1 else none
theorem addM_nil (nm : List UInt8) (t : Int) : addM [] nm t = if nm ≠ [] then [(nm, t)] else [] := by unfold addM; simp
set_option maxHeartbeats 8000000 in
theorem plus_pure (p q r s : List UInt8) (h1 : p = q → p = []) (h2 : r = s → r = []) :
    linM (addM (addM (addM (addM [] p 1) q (-1)) r 1) s (-1)) [] [] = if ((!(omitL p s).isEmpty && !(omitL r q).isEmpty) || (!(omitL q r).isEmpty && !(omitL s p).isEmpty)) = true then none else some (omitL p s ++ omitL r q, omitL q r ++ omitL s p) := by
  by_cases hp : p = [] <;> by_cases hq : q = [] <;> by_cases hr : r = [] <;> by_cases hs : s = []
  all_goals
    have e1 : ¬ p = q ∨ p = [] := by by_cases h : p = q; exact .inr (h1 h); exact .inl h
    have e2 : ¬ r = s ∨ r = [] := by by_cases h : r = s; exact .inr (h2 h); exact .inl h
    by_cases hpr : p = r <;> by_cases hps : p = s <;> by_cases hqr : q = r <;> by_cases hqs : q = s
  all_goals first
    | (simp_all [addM, linM, omitL]; done)
    | ((try have e3 : ¬ q = p := fun h => (e1.elim (fun f => f h.symm) (fun f => hp f)))
       (try have e4 : ¬ s = r := fun h => (e2.elim (fun f => f h.symm) (fun f => hr f)))
       (try have e5 : ¬ r = p := fun h => hpr h.symm)
       (try have e6 : ¬ s = p := fun h => hps h.symm)
       (try have e7 : ¬ r = q := fun h => hqr h.symm)
       (try have e8 : ¬ s = q := fun h => hqs h.symm)
       (try have e9 : ¬ p = q := fun h => (e1.elim (fun f => f h) (fun f => hp f)))
       (try have e0 : ¬ r = s := fun h => (e2.elim (fun f => f h) (fun f => hr f)))
       clear h1 h2 e1 e2
       (try subst hpr) <;> (try subst hps) <;> (try subst hqr) <;> (try subst hqs)
       simp [addM, linM, omitL, *])
set_option maxHeartbeats 8000000 in
theorem minus_pure (p q r s : List UInt8) (h1 : p = q → p = []) (h2 : r = s → r = []) :
    linM (addM (addM (addM (addM [] p 1) q (-1)) r (-1)) s 1) [] [] = if ((!(omitL p r).isEmpty && !(omitL s q).isEmpty) || (!(omitL q s).isEmpty && !(omitL r p).isEmpty)) = true then none else some (omitL p r ++ omitL s q, omitL q s ++ omitL r p) := by
  by_cases hp : p = [] <;> by_cases hq : q = [] <;> by_cases hr : r = [] <;> by_cases hs : s = []
  all_goals
    have e1 : ¬ p = q ∨ p = [] := by by_cases h : p = q; exact .inr (h1 h); exact .inl h
    have e2 : ¬ r = s ∨ r = [] := by by_cases h : r = s; exact .inr (h2 h); exact .inl h
    by_cases hpr : p = r <;> by_cases hps : p = s <;> by_cases hqr : q = r <;> by_cases hqs : q = s
  all_goals first
    | (simp_all [addM, linM, omitL]; done)
    | ((try have e3 : ¬ q = p := fun h => (e1.elim (fun f => f h.symm) (fun f => hp f)))
       (try have e4 : ¬ s = r := fun h => (e2.elim (fun f => f h.symm) (fun f => hr f)))
       (try have e5 : ¬ r = p := fun h => hpr h.symm)
       (try have e6 : ¬ s = p := fun h => hps h.symm)
       (try have e7 : ¬ r = q := fun h => hqr h.symm)
       (try have e8 : ¬ s = q := fun h => hqs h.symm)
       (try have e9 : ¬ p = q := fun h => (e1.elim (fun f => f h) (fun f => hp f)))
       (try have e0 : ¬ r = s := fun h => (e2.elim (fun f => f h) (fun f => hr f)))
       clear h1 h2 e1 e2
       (try subst hpr) <;> (try subst hps) <;> (try subst hqr) <;> (try subst hqs)
       simp [addM, linM, omitL, *])
end Go.Proofs.YtchpkdpefpiegaaDoor.Tok
