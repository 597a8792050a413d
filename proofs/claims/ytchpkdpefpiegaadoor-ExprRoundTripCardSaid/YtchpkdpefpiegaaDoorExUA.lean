/- Pure facts: the tokens of an expression's nodes, and how many they are. -/
import Derived.Test.YtchpkdpefpiegaaDoorExP
import Derived.Test.YtchpkdpefpiegaaDoorExZ
import Derived.Test.YtchpkdpefpiegaaDoorTokL
namespace Go.Proofs.YtchpkdpefpiegaaDoor.Tok
open Go Go.RowKit

def sgS (s : List UInt8) : Tk := ⟨3, s, 0, 0⟩
/-- the token of a number or a name -/
def leafT (x : Nd) : Tk := if x.kind = 1 then ⟨2, [], x.val, 0⟩ else ⟨1, x.name, 0, 0⟩
/-- the tokens of a node, out of those of its children -/
def ownT (x : Nd) (a b : List Tk) : List Tk :=
  if x.kind < 3 then [leafT x] else if x.kind < 5 then sgS (signL x.kind.toNat) :: a else sgS [40] :: (a ++ sgS (signL x.kind.toNat) :: (b ++ [sgS [41]]))
def tokN (ns : List Nd) : Nat → Nat → List Tk
  | 0, _ => []
  | f + 1, i => match ns[i]? with
    | none => []
    | some x => ownT x (tokN ns f x.left.toNat) (tokN ns f x.right.toNat)
def toksL (ns : List Nd) (i : Nat) : List Tk := tokN ns (i + 1) i
def cntL (ns : List Nd) (i : Nat) : Nat := (toksL ns i).length
/-- each node is a known one and stands behind its children -/
def Fine (ns : List Nd) : Prop := ∀ (j : Nat) x, ns[j]? = some x → (1 ≤ x.kind ∧ x.kind ≤ 14) ∧ (3 ≤ x.kind → 0 ≤ x.left ∧ x.left < j) ∧ (5 ≤ x.kind → 0 ≤ x.right ∧ x.right < j)
theorem fine_of {ns : List Nd} (h : validL ns = (0, 0)) : Fine ns := by
  intro j x hx
  have hc := (validL_all h).2 j x hx
  obtain ⟨h1, h14⟩ := chk_known hc
  have kids := chk_kids hc
  refine ⟨⟨h1, h14⟩, fun h3 => ?_, fun h5 => kids _ (by rw [chN_five h5 h14]; exact List.mem_cons_of_mem _ (List.mem_cons_self ..))⟩
  by_cases h5 : 5 ≤ x.kind
  · exact kids _ (by rw [chN_five h5 h14]; exact List.mem_cons_self ..)
  · exact kids _ (by rw [chN_three h3 h5]; exact List.mem_cons_self ..)
theorem own_ext {x : Nd} {a b a' b' : List Tk} (h3 : 3 ≤ x.kind → a = a') (h5 : 5 ≤ x.kind → b = b') : ownT x a b = ownT x a' b' := by
  unfold ownT
  by_cases c3 : x.kind < 3
  · rw [if_pos c3, if_pos c3]
  · rw [if_neg c3, if_neg c3, h3 (by omega)]
    by_cases c5 : x.kind < 5
    · rw [if_pos c5, if_pos c5]
    · rw [if_neg c5, if_neg c5, h5 (by omega)]
theorem tokN_stable {ns : List Nd} (h : Fine ns) : ∀ (i f g : Nat), i < f → i < g → tokN ns f i = tokN ns g i := by
  intro i
  induction i using Nat.strongRecOn with
  | _ i ih =>
    intro f g hf hg
    obtain ⟨f, rfl⟩ : ∃ k, f = k + 1 := ⟨f - 1, by omega⟩
    obtain ⟨g, rfl⟩ : ∃ k, g = k + 1 := ⟨g - 1, by omega⟩
    rw [tokN, tokN]
    cases hx : ns[i]? with
    | none => rfl
    | some x =>
      dsimp only
      obtain ⟨-, hl, hr⟩ := h i x hx
      exact own_ext (fun h3 => by obtain ⟨a, b⟩ := hl h3; exact ih _ (by omega) _ _ (by omega) (by omega)) (fun h5 => by obtain ⟨a, b⟩ := hr h5; exact ih _ (by omega) _ _ (by omega) (by omega))
theorem toks_eq {ns : List Nd} (h : Fine ns) {i : Nat} {x : Nd} (hx : ns[i]? = some x) : toksL ns i = ownT x (toksL ns x.left.toNat) (toksL ns x.right.toNat) := by
  unfold toksL
  rw [tokN, hx]
  dsimp only
  obtain ⟨-, hl, hr⟩ := h i x hx
  exact own_ext (fun h3 => by obtain ⟨a, b⟩ := hl h3; exact tokN_stable h _ _ _ (by omega) (by omega)) (fun h5 => by obtain ⟨a, b⟩ := hr h5; exact tokN_stable h _ _ _ (by omega) (by omega))
theorem toks_leaf {ns : List Nd} (h : Fine ns) {i : Nat} {x : Nd} (hx : ns[i]? = some x) (h3 : x.kind < 3) : toksL ns i = [leafT x] := by rw [toks_eq h hx]; unfold ownT; rw [if_pos h3]
theorem toks_unary {ns : List Nd} (h : Fine ns) {i : Nat} {x : Nd} (hx : ns[i]? = some x) (h3 : 3 ≤ x.kind) (h5 : x.kind < 5) : toksL ns i = sgS (signL x.kind.toNat) :: toksL ns x.left.toNat := by rw [toks_eq h hx]; unfold ownT; rw [if_neg (by omega), if_pos h5]
theorem toks_binary {ns : List Nd} (h : Fine ns) {i : Nat} {x : Nd} (hx : ns[i]? = some x) (h5 : 5 ≤ x.kind) : toksL ns i = sgS [40] :: (toksL ns x.left.toNat ++ sgS (signL x.kind.toNat) :: (toksL ns x.right.toNat ++ [sgS [41]])) := by rw [toks_eq h hx]; unfold ownT; rw [if_neg (by omega), if_neg (by omega)]
theorem cnt_leaf {ns : List Nd} (h : Fine ns) {i : Nat} {x : Nd} (hx : ns[i]? = some x) (h3 : x.kind < 3) : cntL ns i = 1 := by unfold cntL; rw [toks_leaf h hx h3]; rfl
theorem cnt_unary {ns : List Nd} (h : Fine ns) {i : Nat} {x : Nd} (hx : ns[i]? = some x) (h3 : 3 ≤ x.kind) (h5 : x.kind < 5) : cntL ns i = 1 + cntL ns x.left.toNat := by unfold cntL; rw [toks_unary h hx h3 h5, List.length_cons]; omega
theorem cnt_binary {ns : List Nd} (h : Fine ns) {i : Nat} {x : Nd} (hx : ns[i]? = some x) (h5 : 5 ≤ x.kind) : cntL ns i = 3 + cntL ns x.left.toNat + cntL ns x.right.toNat := by unfold cntL; rw [toks_binary h hx h5]; simp; omega
/-- how many tokens a node has, beside those of its children -/
def ownC (k : Int) : Nat := if childL k.toNat = 2 then 3 else 1
theorem child_kind {k : Int} (h1 : 1 ≤ k) (h14 : k ≤ 14) : (k < 3 → childL k.toNat = 0) ∧ (3 ≤ k → k < 5 → childL k.toNat = 1) ∧ (5 ≤ k → childL k.toNat = 2) := by
  have : k = 1 ∨ k = 2 ∨ k = 3 ∨ k = 4 ∨ k = 5 ∨ k = 6 ∨ k = 7 ∨ k = 8 ∨ k = 9 ∨ k = 10 ∨ k = 11 ∨ k = 12 ∨ k = 13 ∨ k = 14 := by omega
  rcases this with rfl | rfl | rfl | rfl | rfl | rfl | rfl | rfl | rfl | rfl | rfl | rfl | rfl | rfl <;> exact ⟨fun h => by first | rfl | (exfalso; omega), fun h h' => by first | rfl | (exfalso; omega), fun h => by first | rfl | (exfalso; omega)⟩
/-- the children's counts, taken one by one -/
theorem cnt_sum {ns : List Nd} (h : Fine ns) {i : Nat} {x : Nd} (hx : ns[i]? = some x) : cntL ns i = ownC x.kind + ((chN x).map fun c => cntL ns c.toNat).sum := by
  obtain ⟨⟨h1, h14⟩, -, -⟩ := h i x hx
  obtain ⟨c0, c1, c2⟩ := child_kind h1 h14
  by_cases h3 : x.kind < 3
  · rw [cnt_leaf h hx h3]
    unfold ownC chN
    rw [c0 h3]
    rfl
  · by_cases h5 : x.kind < 5
    · rw [cnt_unary h hx (by omega) h5, chN_three (by omega) (by omega)]
      unfold ownC
      rw [c1 (by omega) h5]
      simp
    · rw [cnt_binary h hx (by omega), chN_five (by omega) h14]
      unfold ownC
      rw [c2 (by omega)]
      simp; omega
theorem cnt_pos {ns : List Nd} (h : Fine ns) {i : Nat} {x : Nd} (hx : ns[i]? = some x) : 1 ≤ cntL ns i := by
  rw [cnt_sum h hx]
  unfold ownC
  split <;> omega
theorem tok_short {ns : List Nd} (hs : ∀ x ∈ ns, x.name.length ≤ 140737488351232) : ∀ (f i : Nat), ∀ t ∈ tokN ns f i, t.text.length ≤ 140737488351232 := by
  intro f
  induction f with
  | zero => intro i t ht; simp [tokN] at ht
  | succ f ih =>
    intro i t ht
    rw [tokN] at ht
    cases hx : ns[i]? with
    | none => rw [hx] at ht; simp at ht
    | some x =>
      rw [hx] at ht
      dsimp only at ht
      have hsig : ∀ k, (signL k).length ≤ 2 := by
        intro k
        by_cases hk : k < 15
        · exact (by decide : ∀ k, k < 15 → (signL k).length ≤ 2) k hk
        · unfold signL rowL
          rw [List.getElem?_eq_none (by show table.length ≤ k; have : table.length = 15 := rfl; omega)]
          decide
      have hsg : ∀ k, (sgS (signL k)).text.length ≤ 140737488351232 := fun k => Nat.le_trans (hsig k) (by decide)
      unfold ownT at ht
      split at ht
      · rw [List.mem_singleton] at ht
        subst ht
        unfold leafT
        split
        · exact Nat.zero_le _
        · exact hs x (List.mem_of_getElem? hx)
      · split at ht
        · rcases List.mem_cons.1 ht with rfl | ht
          · exact hsg _
          · exact ih _ t ht
        · rcases List.mem_cons.1 ht with rfl | ht
          · show (1 : Nat) ≤ _; decide
          · rcases List.mem_append.1 ht with ht | ht
            · exact ih _ t ht
            · rcases List.mem_cons.1 ht with rfl | ht
              · exact hsg _
              · rcases List.mem_append.1 ht with ht | ht
                · exact ih _ t ht
                · rw [List.mem_singleton] at ht
                  subst ht
                  show (1 : Nat) ≤ _; decide
end Go.Proofs.YtchpkdpefpiegaaDoor.Tok
