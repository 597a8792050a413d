/- Pure facts: the nodes that are read back from an expression's tokens have its value. -/
import Derived.Test.YtchpkdpefpiegaaDoorExRB
import Derived.Test.YtchpkdpefpiegaaDoorExQ
namespace Go.Proofs.YtchpkdpefpiegaaDoor.Tok
open Go Go.RowKit

theorem tree_val {ns : List Nd} {l : List Nm} (h : Fine ns) (h0 : (runL l [] ns).2 = 0) : ∀ i, i < ns.length → ∃ y, (runL l [] ns).1[i]? = some y ∧ evT l (treeL ns i) = (y, 0) := by
  intro i
  induction i using Nat.strongRecOn with
  | _ i ih =>
    intro hi
    obtain ⟨x, hx⟩ : ∃ x, ns[i]? = some x := ⟨_, List.getElem?_eq_getElem hi⟩
    obtain ⟨⟨h1, h14⟩, hl, hr⟩ := h i x hx
    obtain ⟨us, u1, u2, u3, u4⟩ := run_at l ns [] h0 i x hx
    rw [List.length_nil, Nat.zero_add] at u1 u4
    rw [tree_eq h hx]
    refine ⟨_, u4, ?_⟩
    by_cases c1 : x.kind = 1
    · unfold ownX
      rw [if_pos c1, evT, eval_one' c1]
    · by_cases c2 : x.kind = 2
      · unfold ownX
        rw [if_neg c1, if_pos c2, evT, eval_two' c2]
      · obtain ⟨l1, l2⟩ := hl (by omega)
        obtain ⟨ya, va, ea⟩ := ih x.left.toNat (by omega) (by omega)
        rw [u2 _ (by omega)] at va
        by_cases c5 : x.kind < 5
        · have hc := chN_three (x := x) (by omega) (by omega)
          have oa : opA us x = ya := opA_of (i := x.left.toNat) (by rw [hc]; show some x.left = _; congr 1; omega) va
          have ob : opB us x = zeroL := opB_none (by rw [hc]; exact Nat.le_refl 1)
          rw [oa, ob] at u3 ⊢
          unfold ownX
          rw [if_neg c1, if_neg c2, if_pos c5, evT, ea, if_neg (by simp)]
          rw [eval_same (x := unN x.kind.toNat 0) (y := x) (by show (x.kind.toNat : Int) = x.kind; omega) (by show (3 : Int) ≤ (x.kind.toNat : Int); omega)]
          exact Prod.ext rfl u3
        · obtain ⟨r1, r2⟩ := hr (by omega)
          obtain ⟨yb, vb, eb⟩ := ih x.right.toNat (by omega) (by omega)
          rw [u2 _ (by omega)] at vb
          have hc := chN_five (x := x) (by omega) h14
          have oa : opA us x = ya := opA_of (i := x.left.toNat) (by rw [hc]; show some x.left = _; congr 1; omega) va
          have ob : opB us x = yb := opB_of (i := x.right.toNat) (by rw [hc]; show some x.right = _; congr 1; omega) vb
          rw [oa, ob] at u3 ⊢
          unfold ownX
          rw [if_neg c1, if_neg c2, if_neg c5, evT, ea, if_neg (by simp), eb, if_neg (by simp)]
          rw [eval_same (x := binN x.kind.toNat 0 0) (y := x) (by show (x.kind.toNat : Int) = x.kind; omega) (by show (3 : Int) ≤ (x.kind.toNat : Int); omega)]
          exact Prod.ext rfl u3
theorem tree_ok {ns : List Nd} (hv : validL ns = (0, 0)) : ∀ i, i < ns.length → OkX (treeL ns i) := by
  have h := fine_of hv
  intro i
  induction i using Nat.strongRecOn with
  | _ i ih =>
    intro hi
    obtain ⟨x, hx⟩ : ∃ x, ns[i]? = some x := ⟨_, List.getElem?_eq_getElem hi⟩
    obtain ⟨⟨h1, h14⟩, hl, hr⟩ := h i x hx
    have hc := (validL_all hv).2 i x hx
    rw [tree_eq h hx]
    unfold ownX
    by_cases c1 : x.kind = 1
    · rw [if_pos c1]
      rw [chk_one c1] at hc
      split at hc
      · rename_i hb
        unfold inB at hb
        simp at hb
        exact hb
      · cases hc
    · rw [if_neg c1]
      by_cases c2 : x.kind = 2
      · rw [if_pos c2]
        rw [chk_two c2] at hc
        split at hc
        · rename_i hb; exact hb
        · cases hc
      · rw [if_neg c2]
        obtain ⟨l1, l2⟩ := hl (by omega)
        by_cases c5 : x.kind < 5
        · rw [if_pos c5]
          exact ⟨⟨by omega, by omega⟩, ih _ (by omega) (by omega)⟩
        · rw [if_neg c5]
          obtain ⟨r1, r2⟩ := hr (by omega)
          exact ⟨⟨by omega, by omega⟩, ih _ (by omega) (by omega), ih _ (by omega) (by omega)⟩
def Chk (o : List Nd) : Prop := ∀ (j : Nat) y, o[j]? = some y → chkL y j = 0
theorem Chk.snoc {o : List Nd} {n : Nd} (h : Chk o) (hn : chkL n o.length = 0) : Chk (o ++ [n]) := by
  intro j y hj
  by_cases hlt : j < o.length
  · rw [List.getElem?_append_left hlt] at hj
    exact h j y hj
  · have := (List.getElem?_eq_some_iff.1 hj).1
    rw [List.length_append, List.length_singleton] at this
    obtain rfl : j = o.length := by omega
    simp at hj
    subst hj
    exact hn
theorem chk_flat : ∀ (x : Ex) (o : List Nd), OkX x → Chk o → Chk (flat x o)
  | .num v, o, hx, ho => by
    rw [flat]
    refine ho.snoc ?_
    rw [chk_one rfl, if_pos (by obtain ⟨h1, h2⟩ := hx; unfold inB; show (decide (0 ≤ v) && decide (v ≤ 4294967295)) = true; simp [h1, h2])]
  | .name s, o, hx, ho => by
    rw [flat]
    refine ho.snoc ?_
    have hx' : isName s = true := hx
    rw [chk_two rfl, if_pos (by exact hx')]
  | .un k a, o, hx, ho => by
    obtain ⟨hk, hxa⟩ := hx
    have h1 := chk_flat a o hxa ho
    have h2 := flat_len a o
    rw [flat]
    refine h1.snoc ?_
    rw [chk_three (by show (3 : Int) ≤ (k : Int); omega) (by show ¬ (5 : Int) ≤ (k : Int); omega), if_pos]
    unfold inB
    show (decide ((0 : Int) ≤ ((flat a o).length : Int) - 1) && decide (((flat a o).length : Int) - 1 ≤ ((flat a o).length : Int) - 1)) = true
    simp; omega
  | .bin k a b, o, hx, ho => by
    obtain ⟨hk, hxa, hxb⟩ := hx
    have h1 := chk_flat a o hxa ho
    have h2 := chk_flat b (flat a o) hxb h1
    have l1 := flat_len a o
    have l2 := flat_len b (flat a o)
    rw [flat]
    refine h2.snoc ?_
    rw [chk_five (by show (5 : Int) ≤ (k : Int); omega) (by show (k : Int) ≤ 14; omega), if_pos]
    unfold inB
    refine ⟨?_, ?_⟩
    · show (decide ((0 : Int) ≤ ((flat a o).length : Int) - 1) && decide (((flat a o).length : Int) - 1 ≤ ((flat b (flat a o)).length : Int) - 1)) = true
      simp; omega
    · show (decide ((0 : Int) ≤ ((flat b (flat a o)).length : Int) - 1) && decide (((flat b (flat a o)).length : Int) - 1 ≤ ((flat b (flat a o)).length : Int) - 1)) = true
      simp; omega
theorem valid_flat {x : Ex} (hx : OkX x) (hl : (flat x []).length ≤ 60) : validL (flat x []) = (0, 0) := by
  have h := chk_flat x [] hx (fun j y hj => by simp at hj)
  have hp := flat_len x []
  unfold validL
  rw [List.length_nil] at hp
  rw [if_neg (by omega), scanL_clean (fun j y hj => by rw [Nat.zero_add]; exact h j y hj)]
  rfl
/-- what is read back has the same value -/
theorem value_back {ns back : List Nd} {l : List Nm} (h : (valueL ns l).2.1 = 0) (hp : parsed (toksL ns (ns.length - 1)) = some back) (hl : back.length ≤ 60) : valueL back l = valueL ns l := by
  obtain ⟨v1, v2, r1, e1⟩ := value_run h
  have hF := fine_of v1
  have hn : 1 ≤ ns.length := (validL_all v1).1.1
  have hb := parsed_tree hF hn hp
  obtain ⟨y, hy, et⟩ := tree_val hF r1 (ns.length - 1) (by omega)
  have hok := tree_ok v1 (ns.length - 1) (by omega)
  obtain ⟨s1, s2⟩ := run_flat l (treeL ns (ns.length - 1)) [] hok (by rw [et]) rfl
  rw [← hb] at s1 s2
  rw [et] at s2
  have hvb : validL back = (0, 0) := by rw [hb]; rw [hb] at hl; exact valid_flat hok hl
  have hlb := (run_keep l back [] s1).1
  have hln := (run_keep l ns [] r1).1
  rw [List.length_nil, Nat.zero_add] at hlb hln
  have hlast : ∀ {vs : List Ln} {z : Ln} {n : Nat}, vs.length = n → vs[n - 1]? = some z → lastL vs = z := fun {vs z n} h1 h2 => by
    unfold lastL
    rw [List.getLast?_eq_getElem?, h1, h2]
    rfl
  rw [e1, hlast hln hy]
  unfold valueL
  rw [if_neg (by rw [hvb]; simp), if_neg (by rw [v2]; simp), if_neg (by rw [s1]; simp), hlast hlb s2]
end Go.Proofs.YtchpkdpefpiegaaDoor.Tok
