/- Pure facts: the tokens of an expression are those of its tree, and the nodes of the tree have its value. -/
import Derived.Test.YtchpkdpefpiegaaDoorExUA
import Derived.Test.YtchpkdpefpiegaaDoorExT
namespace Go.Proofs.YtchpkdpefpiegaaDoor.Tok
open Go Go.RowKit

/-! ## the tree of a node -/
def ownX (x : Nd) (a b : Ex) : Ex := if x.kind = 1 then .num x.val else if x.kind = 2 then .name x.name else if x.kind < 5 then .un x.kind.toNat a else .bin x.kind.toNat a b
def treeN (ns : List Nd) : Nat → Nat → Ex
  | 0, _ => .num 0
  | f + 1, i => match ns[i]? with
    | none => .num 0
    | some x => ownX x (treeN ns f x.left.toNat) (treeN ns f x.right.toNat)
def treeL (ns : List Nd) (i : Nat) : Ex := treeN ns (i + 1) i
theorem ownX_ext {x : Nd} {a b a' b' : Ex} (h3 : 3 ≤ x.kind → a = a') (h5 : 5 ≤ x.kind → b = b') (hk : 1 ≤ x.kind) : ownX x a b = ownX x a' b' := by
  unfold ownX
  by_cases c1 : x.kind = 1
  · rw [if_pos c1, if_pos c1]
  · rw [if_neg c1, if_neg c1]
    by_cases c2 : x.kind = 2
    · rw [if_pos c2, if_pos c2]
    · rw [if_neg c2, if_neg c2, h3 (by omega)]
      by_cases c5 : x.kind < 5
      · rw [if_pos c5, if_pos c5]
      · rw [if_neg c5, if_neg c5, h5 (by omega)]
theorem treeN_stable {ns : List Nd} (h : Fine ns) : ∀ (i f g : Nat), i < f → i < g → treeN ns f i = treeN ns g i := by
  intro i
  induction i using Nat.strongRecOn with
  | _ i ih =>
    intro f g hf hg
    obtain ⟨f, rfl⟩ : ∃ k, f = k + 1 := ⟨f - 1, by omega⟩
    obtain ⟨g, rfl⟩ : ∃ k, g = k + 1 := ⟨g - 1, by omega⟩
    rw [treeN, treeN]
    cases hx : ns[i]? with
    | none => rfl
    | some x =>
      dsimp only
      obtain ⟨hk, hl, hr⟩ := h i x hx
      exact ownX_ext (fun h3 => by obtain ⟨a, b⟩ := hl h3; exact ih _ (by omega) _ _ (by omega) (by omega)) (fun h5 => by obtain ⟨a, b⟩ := hr h5; exact ih _ (by omega) _ _ (by omega) (by omega)) hk.1
theorem tree_eq {ns : List Nd} (h : Fine ns) {i : Nat} {x : Nd} (hx : ns[i]? = some x) : treeL ns i = ownX x (treeL ns x.left.toNat) (treeL ns x.right.toNat) := by
  unfold treeL
  rw [treeN, hx]
  dsimp only
  obtain ⟨hk, hl, hr⟩ := h i x hx
  exact ownX_ext (fun h3 => by obtain ⟨a, b⟩ := hl h3; exact treeN_stable h _ _ _ (by omega) (by omega)) (fun h5 => by obtain ⟨a, b⟩ := hr h5; exact treeN_stable h _ _ _ (by omega) (by omega)) hk.1
/-! ## its tokens -/
theorem kind_un : ∀ k, k < 5 → 3 ≤ k → kindL (signL k) 1 = k := by decide
theorem kind_bin : ∀ k, k < 15 → 5 ≤ k → kindL (signL k) 2 = k ∧ 1 ≤ bindL k := by decide
theorem gr_tree {ns : List Nd} (h : Fine ns) : ∀ (i d M : Nat), i < ns.length → d + i < M → Gr M d 7 (toksL ns i) (treeL ns i) := by
  intro i
  induction i using Nat.strongRecOn with
  | _ i ih =>
    intro d M hi hd
    obtain ⟨x, hx⟩ : ∃ x, ns[i]? = some x := ⟨_, List.getElem?_eq_getElem hi⟩
    obtain ⟨⟨h1, h14⟩, hl, hr⟩ := h i x hx
    rw [tree_eq h hx]
    by_cases c1 : x.kind = 1
    · rw [toks_leaf h hx (by omega)]
      unfold ownX leafT
      rw [if_pos c1, if_pos c1]
      exact .num (t := ⟨2, [], x.val, 0⟩) rfl
    · by_cases c2 : x.kind = 2
      · rw [toks_leaf h hx (by omega)]
        unfold ownX leafT
        rw [if_neg c1, if_pos c2, if_neg c1]
        exact .name (t := ⟨1, x.name, 0, 0⟩) rfl
      · obtain ⟨l1, l2⟩ := hl (by omega)
        by_cases c5 : x.kind < 5
        · rw [toks_unary h hx (by omega) c5]
          unfold ownX
          rw [if_neg c1, if_neg c2, if_pos c5]
          have hk := kind_un x.kind.toNat (by omega) (by omega)
          have g := ih x.left.toNat (by omega) (d + 1) M (by omega) (by omega)
          have g2 := Gr.un (M := M) (d := d) (c := 7) (t := sgS (signL x.kind.toNat)) (by omega) (by show (3 : Int) ≠ 2; decide) (by show (3 : Int) ≠ 1; decide) (by show 0 < kindL (signL x.kind.toNat) 1; omega) g
          rw [show kindL (sgS (signL x.kind.toNat)).text 1 = x.kind.toNat from hk] at g2
          exact g2
        · obtain ⟨r1, r2⟩ := hr (by omega)
          rw [toks_binary h hx (by omega)]
          unfold ownX
          rw [if_neg c1, if_neg c2, if_neg c5]
          obtain ⟨hk, hb⟩ := kind_bin x.kind.toNat (by omega) (by omega)
          have hb6 : bindL x.kind.toNat ≤ 6 := bind_le (by omega)
          have ga := ih x.left.toNat (by omega) (d + 1) M (by omega) (by omega)
          have gb := ih x.right.toNat (by omega) (d + 1) M (by omega) (by omega)
          have hks : kindL (sgS (signL x.kind.toNat)).text 2 = x.kind.toNat := hk
          have g := Gr.bin (M := M) (d := d + 1) (c := 1) (s := sgS (signL x.kind.toNat)) (l1 := toksL ns x.left.toNat) (l2 := toksL ns x.right.toNat) (x1 := treeL ns x.left.toNat) (x2 := treeL ns x.right.toNat) (by rw [hks]; exact hb) (by rw [hks]; exact hb) (by rw [hks]; exact ga.lower (by omega)) (by rw [hks]; exact gb.lower (by omega))
          rw [hks] at g
          have g2 := Gr.par (M := M) (d := d) (c := 7) (t := sgS [40]) (u := sgS [41]) (by omega) (by show (3 : Int) ≠ 2; decide) (by show (3 : Int) ≠ 1; decide) rfl rfl g
          rw [List.append_assoc, List.cons_append] at g2
          exact g2
/-- what Parse returns for the tokens of an expression: the nodes of its tree -/
theorem parsed_tree {ns back : List Nd} (h : Fine ns) (hn : 1 ≤ ns.length) (hp : parsed (toksL ns (ns.length - 1)) = some back) : back = flat (treeL ns (ns.length - 1)) [] := by
  obtain ⟨x, hx, rfl⟩ := parsed_sound hp
  have g := (gr_tree h (ns.length - 1) 0 (8 + ns.length) (by omega) (by omega)).lower (show 1 ≤ 7 by decide)
  exact Gr.unique (hx.more ns.length) g
/-! ## runs -/
theorem run_append (l : List Nm) : ∀ (a : List Nd) (vs : List Ln) (b : List Nd), (runL l vs a).2 = 0 → runL l vs (a ++ b) = runL l (runL l vs a).1 b
  | [], vs, b, _ => rfl
  | n :: a, vs, b, h => by
    by_cases h0 : (evalL n (opA vs n) (opB vs n) l).2 = 0
    · rw [runL_next h0] at h ⊢
      rw [List.cons_append, runL_next h0]
      exact run_append l a _ b h
    · rw [runL_hit h0] at h
      exact absurd h h0
theorem run_keep (l : List Nm) : ∀ (a : List Nd) (vs : List Ln), (runL l vs a).2 = 0 → (runL l vs a).1.length = vs.length + a.length ∧ ∀ j, j < vs.length → (runL l vs a).1[j]? = vs[j]?
  | [], vs, _ => ⟨rfl, fun _ _ => rfl⟩
  | n :: a, vs, h => by
    by_cases h0 : (evalL n (opA vs n) (opB vs n) l).2 = 0
    · rw [runL_next h0] at h ⊢
      obtain ⟨h1, h2⟩ := run_keep l a _ h
      rw [List.length_append, List.length_singleton] at h1 h2
      refine ⟨by rw [h1, List.length_cons]; omega, fun j hj => ?_⟩
      rw [h2 j (by omega), List.getElem?_append_left hj]
    · rw [runL_hit h0] at h
      exact absurd h h0
/-- the value of each node, out of those of its children -/
theorem run_at (l : List Nm) : ∀ (a : List Nd) (vs : List Ln), (runL l vs a).2 = 0 → ∀ (j : Nat) (x : Nd), a[j]? = some x → ∃ us, us.length = vs.length + j ∧ (∀ i, i < us.length → (runL l vs a).1[i]? = us[i]?) ∧ (evalL x (opA us x) (opB us x) l).2 = 0 ∧ (runL l vs a).1[vs.length + j]? = some (evalL x (opA us x) (opB us x) l).1
  | [], vs, _, j, x, hx => by simp at hx
  | n :: a, vs, h, j, x, hx => by
    by_cases h0 : (evalL n (opA vs n) (opB vs n) l).2 = 0
    · rw [runL_next h0] at h ⊢
      cases j with
      | zero =>
        have e : n = x := by simpa using hx
        subst e
        obtain ⟨h1, h2⟩ := run_keep l a _ h
        refine ⟨vs, by omega, fun i hi => ?_, h0, ?_⟩
        · rw [h2 i (by rw [List.length_append]; omega), List.getElem?_append_left hi]
        · rw [Nat.add_zero, h2 vs.length (by rw [List.length_append, List.length_singleton]; omega)]
          simp
      | succ j =>
        obtain ⟨us, u1, u2, u3, u4⟩ := run_at l a _ h j x (by simpa using hx)
        rw [List.length_append, List.length_singleton] at u1 u4
        exact ⟨us, by omega, u2, u3, by rw [show vs.length + (j + 1) = vs.length + 1 + j by omega]; exact u4⟩
    · rw [runL_hit h0] at h
      exact absurd h h0
end Go.Proofs.YtchpkdpefpiegaaDoor.Tok
