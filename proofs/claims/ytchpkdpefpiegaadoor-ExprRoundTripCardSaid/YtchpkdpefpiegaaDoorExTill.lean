/- A region that draws its order, whose last operations are stores: loads that come ahead of the stores may be taken first where a condition on the world holds until the stores begin. Conditions: every operation from the n-th on waits for the load. -/
import Derived.Deep.RegionHeld3
import Derived.Test.YtchpkdpefpiegaaDoorRows
namespace Go.Proofs.YtchpkdpefpiegaaDoor.Tok
open Go
section
variable {P : Program} {ops : Array Oper} {Q : Exit → Act → World → Prop} {S : World → Prop} {md : Region.Mode} {n : Nat}
/-- whatever order is picked; S holds behind every operation whose number is less than n -/
def anyTill (P : Program) (md : Region.Mode) (ops : Array Oper) (Q : Exit → Act → World → Prop) (S : World → Prop) (n : Nat) : Nat → Array Bool → Act → World → Prop
  | 0, listed, a, w => Region.ready md ops listed = [] ∧ Q .normal a w
  | f + 1, listed, a, w =>
    (Region.ready md ops listed = [] → Q .normal a w) ∧
    ∀ i ∈ Region.ready md ops listed, wpOp P ops Q i (fun a' w' => (i < n → S w') ∧ anyTill P md ops Q S n f (listed.setIfInBounds i true) a' w') a w
theorem any_of_till : ∀ (f : Nat) (listed : Array Bool) (a : Act) (w : World), anyTill P md ops Q S n f listed a w → wpAny P md ops Q f listed a w
  | 0, _, _, _, h => h
  | f + 1, _, _, _, h => ⟨h.1, fun i hi => wpOp_mono (fun a' w' h' => any_of_till f _ a' w' h'.2) (h.2 i hi)⟩
/-- the operations of tr wait for i, or for another of them; none of them has been listed; all from n on are among them -/
def waitB (md : Region.Mode) (ops : Array Oper) (n i : Nat) (tr : List Nat) (listed : Array Bool) : Bool :=
  ((List.range ops.size).all fun j => decide (j < n) || tr.contains j) &&
    tr.all fun j => (match ops[j]? with | some oj => oj.after.any fun e => Region.binds md e && (e.on == i || tr.contains e.on) | none => false) && !(listed.getD j true)
theorem wait_spec {i j : Nat} {oj : Oper} {tr : List Nat} {listed : Array Bool} (h : waitB md ops n i tr listed = true) (hj : ops[j]? = some oj) (hn : ¬ j < n) : j ∈ tr := by
  have hlt : j < ops.size := (Array.getElem?_eq_some_iff.1 hj).1
  unfold waitB at h
  rw [Bool.and_eq_true] at h
  have h1 := List.all_eq_true.1 h.1 j (List.mem_range.2 hlt)
  rw [Bool.or_eq_true] at h1
  rcases h1 with h1 | h1
  · exact absurd (of_decide_eq_true h1) hn
  · simpa using h1
theorem wait_after {i j : Nat} {oj : Oper} {tr : List Nat} {listed : Array Bool} (h : waitB md ops n i tr listed = true) (hj : ops[j]? = some oj) (ht : j ∈ tr) : ∃ e ∈ oj.after, Region.binds md e = true ∧ (e.on = i ∨ e.on ∈ tr) := by
  unfold waitB at h
  rw [Bool.and_eq_true] at h
  have h1 := List.all_eq_true.1 h.2 j ht
  rw [Bool.and_eq_true, hj] at h1
  obtain ⟨e, he, hb⟩ := Array.any_eq_true'.1 h1.1
  simp only [Bool.and_eq_true, Bool.or_eq_true, beq_iff_eq] at hb
  exact ⟨e, he, hb.1, hb.2.imp id (fun h => by simpa using h)⟩
theorem wait_free {i j : Nat} {tr : List Nat} {listed : Array Bool} (h : waitB md ops n i tr listed = true) (ht : j ∈ tr) : listed.getD j true = false := by
  unfold waitB at h
  rw [Bool.and_eq_true] at h
  have h1 := List.all_eq_true.1 h.2 j ht
  rw [Bool.and_eq_true] at h1
  simpa using h1.2
theorem wait_next {i j : Nat} {tr : List Nat} {listed : Array Bool} (h : waitB md ops n i tr listed = true) (hj : j ∉ tr) : waitB md ops n i tr (listed.setIfInBounds j true) = true := by
  have h' := h
  unfold waitB at h' ⊢
  rw [Bool.and_eq_true] at h' ⊢
  refine ⟨h'.1, List.all_eq_true.2 fun m hm => ?_⟩
  have h1 := List.all_eq_true.1 h'.2 m hm
  rw [Bool.and_eq_true] at h1 ⊢
  refine ⟨h1.1, ?_⟩
  rw [getD_set_ne true (show j ≠ m from fun e => hj (by rw [e]; exact hm))]
  exact h1.2
theorem till_first {i : Nat} {oi : Oper} {v : Value} {tr : List Nat} (hi : ops[i]? = some oi) (hsel : ∀ (j : Nat) (o : Oper) cs b, ops[j]? = some o → o.op ≠ .select cs b)
    (hQ : ∀ c a w, Q (.panic c) (a.put oi.dst v) w → Q (.panic c) a w) :
    ∀ (f : Nat) (listed : Array Bool) (a : Act) (w : World), waitB md ops n i tr listed = true →
      (∀ j oj, ops[j]? = some oj → j ≠ i → listed.getD j true = false → (∀ e ∈ oj.after, Region.binds md e = true → e.on ≠ i) → oi.apart ops oj = true) →
      i ∈ Region.ready md ops listed → YieldsIf P ops S oi v a → S w →
      anyTill P md ops Q S n f (listed.setIfInBounds i true) (a.put oi.dst v) w → anyTill P md ops Q S n (f + 1) listed a w := by
  intro f
  induction f with
  | zero =>
    intro listed a w _ _ hr hy hS H
    refine ⟨fun h => absurd hr (by rw [h]; simp), fun j hj => ?_⟩
    by_cases e : j = i
    · subst e
      exact hy.wpOp hi hS ⟨fun _ => hS, H⟩
    · have h1 := ready_mono hj e
      rw [H.1] at h1
      cases h1
  | succ f ih =>
    intro listed a w hwait hfree hr hy hS H
    refine ⟨fun h => absurd hr (by rw [h]; simp), fun j hj => ?_⟩
    by_cases e : j = i
    · subst e
      exact hy.wpOp hi hS ⟨fun _ => hS, H⟩
    · obtain ⟨hun, oj, hoj, hall⟩ := mem_ready.1 hj
      have clash : ∀ m, listed.getD m true = false → ∀ x ∈ oj.after, Region.binds md x = true → x.on ≠ m := fun m h0 x hx hb hxi => by
        have h2 := hall x hx hb
        rw [hxi] at h2
        by_cases hl : m < listed.size
        · simp [hl] at h0 h2
          rw [h0] at h2
          cases h2
        · simp [Array.getElem?_eq_none (Nat.not_lt.1 hl)] at h2
      have hno := clash i (mem_ready.1 hr).1
      have hjt : j ∉ tr := fun ht => by
        obtain ⟨x, hx, hb, h1 | h1⟩ := wait_after hwait hoj ht
        · exact hno x hx hb h1
        · exact clash x.on (wait_free hwait h1) x hx hb rfl
      have hjn : j < n := by
        by_cases hjn : j < n
        · exact hjn
        · exact absurd (wait_spec hwait hoj hjn) hjt
      have h3 := wpOp_putIf hoj (hfree j oj hoj e hun hno) (fun cs b => hsel i oi cs b hi) (fun cs b => hsel j oj cs b hoj) hQ hy (H.2 j (ready_mono hj e))
      refine wpOp_mono (fun a' w' h4 => ⟨fun _ => h4.2.1 hjn, ih _ a' w' (wait_next hwait hjt) (fun k ok hk hki hku hkn => ?_) (ready_mono hr (Ne.symm e)) h4.1 (h4.2.1 hjn) ?_⟩) h3
      · refine hfree k ok hk hki ?_ hkn
        by_cases hjk : j = k
        · rw [← hjk]; exact hun
        · rw [getD_set_ne true hjk] at hku; exact hku
      · rw [Array.setIfInBounds_comm _ _ e]
        exact h4.2.2
theorem till_take {i : Nat} (tr : List Nat) {oi : Oper} {v : Value} {f : Nat} {listed : Array Bool} {a : Act} {w : World} (hi : ops[i]? = some oi)
    (hs : Region.noSelect ops = true) (hf : Region.free md ops listed i = true) (hr : (Region.ready md ops listed).contains i = true) (hwait : waitB md ops n i tr listed = true)
    (hQ : ∀ c a w, Q (.panic c) (a.put oi.dst v) w → Q (.panic c) a w) (hy : YieldsIf P ops S oi v a) (hS : S w)
    (h : anyTill P md ops Q S n f (listed.setIfInBounds i true) (a.put oi.dst v) w) : anyTill P md ops Q S n (f + 1) listed a w :=
  till_first hi (Region.noSelect_spec hs) hQ f listed a w hwait (Region.free_spec hi hf) (by simpa using hr) hy hS h
theorem wpOp_in {i : Nat} {o : Oper} {K : Act → World → Prop} {a : Act} {w : World} (hi : ops[i]? = some o) (hw : Region.wanted o (yielded ops a.tmps) = true) (h : o.wp P a w K Q) : wpOp P ops Q i K a w := by
  unfold wpOp
  rw [hi]
  simp only [hw, if_true]
  exact .inl h
/-- one operation alone may come up -/
theorem till_one {i : Nat} {o : Oper} {f : Nat} {listed : Array Bool} {a : Act} {w : World} (hr : Region.ready md ops listed = [i]) (hi : ops[i]? = some o) (hw : Region.wanted o (yielded ops a.tmps) = true)
    (h : ∀ K : Act → World → Prop, (∀ a' w', (i < n → S w') → anyTill P md ops Q S n f (listed.setIfInBounds i true) a' w' → K a' w') → o.wp P a w K Q) : anyTill P md ops Q S n (f + 1) listed a w := by
  refine ⟨fun h0 => (by rw [hr] at h0; cases h0), fun j hj => ?_⟩
  rw [hr] at hj
  obtain rfl : j = i := by simpa using hj
  exact wpOp_in hi hw (h _ fun a' w' h1 h2 => ⟨h1, h2⟩)
/-- one of two operations may come up -/
theorem till_two {i i' : Nat} {o o' : Oper} {f : Nat} {listed : Array Bool} {a : Act} {w : World} (hr : Region.ready md ops listed = [i, i']) (hi : ops[i]? = some o) (hw : Region.wanted o (yielded ops a.tmps) = true) (hi' : ops[i']? = some o') (hw' : Region.wanted o' (yielded ops a.tmps) = true)
    (h : ∀ K : Act → World → Prop, (∀ a' w', (i < n → S w') → anyTill P md ops Q S n f (listed.setIfInBounds i true) a' w' → K a' w') → o.wp P a w K Q)
    (h' : ∀ K : Act → World → Prop, (∀ a' w', (i' < n → S w') → anyTill P md ops Q S n f (listed.setIfInBounds i' true) a' w' → K a' w') → o'.wp P a w K Q) : anyTill P md ops Q S n (f + 1) listed a w := by
  refine ⟨fun h0 => (by rw [hr] at h0; cases h0), fun j hj => ?_⟩
  rw [hr] at hj
  rcases (by simpa using hj : j = i ∨ j = i') with rfl | rfl
  · exact wpOp_in hi hw (h _ fun a' w' h1 h2 => ⟨h1, h2⟩)
  · exact wpOp_in hi' hw' (h' _ fun a' w' h1 h2 => ⟨h1, h2⟩)
theorem till_done {listed : Array Bool} {a : Act} {w : World} (hr : Region.ready md ops listed = []) (h : Q .normal a w) : ∀ f, anyTill P md ops Q S n f listed a w
  | 0 => ⟨hr, h⟩
  | _ + 1 => ⟨fun _ => h, by rw [hr]; simp⟩
end
theorem region_till {P : Program} {id : Nat} {ops : Array Oper} {Q : Exit → Act → World → Prop} {a : Act} {w : World} (n : Nat) (S : World → Prop) (hm : P.follows .mixedOrders = true)
    (h : anyTill P .any ops Q S n ops.size (Array.replicate ops.size false) a w.drew) : (Code.region id ops true).wp P Q a w :=
  wp_region_any hm (any_of_till _ _ _ _ h)
end Go.Proofs.YtchpkdpefpiegaaDoor.Tok
