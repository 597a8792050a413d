/- Pure facts: what Parse accepts is an expression of the grammar, and every one within the limits is accepted; one row of tokens has one list of nodes. No program, no memory. -/
import Derived.Test.YtchpkdpefpiegaaDoorExA
namespace Go.Proofs.YtchpkdpefpiegaaDoor.Tok
open Go

inductive Ex where
  | num (v : Int)
  | name (s : List UInt8)
  | un (k : Nat) (x : Ex)
  | bin (k : Nat) (a b : Ex)
/-- the nodes of an expression, behind others -/
def flat : Ex → List Nd → List Nd
  | .num v, o => o ++ [numN v]
  | .name s, o => o ++ [nameN s]
  | .un k x, o => flat x o ++ [unN k (((flat x o).length : Int) - 1)]
  | .bin k a b, o => flat b (flat a o) ++ [binN k (((flat a o).length : Int) - 1) (((flat b (flat a o)).length : Int) - 1)]
theorem flat_len : ∀ (x : Ex) (o : List Nd), o.length < (flat x o).length
  | .num v, o => by simp [flat]
  | .name s, o => by simp [flat]
  | .un k x, o => by
    have := flat_len x o
    rw [flat, List.length_append]
    exact Nat.lt_of_lt_of_le this (Nat.le_add_right _ _)
  | .bin k a b, o => by
    have h1 := flat_len a o
    have h2 := flat_len b (flat a o)
    rw [flat, List.length_append]
    exact Nat.lt_of_lt_of_le (Nat.lt_trans h1 h2) (Nat.le_add_right _ _)
/-- the grammar: rows of tokens that are an expression, with at most M signs around each sign; at level c all binary signs outside of parentheses bind at least c; level 7: an operand -/
inductive Gr (M : Nat) : Nat → Nat → List Tk → Ex → Prop
  | num {d c : Nat} {t : Tk} : t.kind = 2 → Gr M d c [t] (.num t.val)
  | name {d c : Nat} {t : Tk} : t.kind = 1 → Gr M d c [t] (.name t.text)
  | un {d c : Nat} {t : Tk} {l : List Tk} {x : Ex} : d < M → t.kind ≠ 2 → t.kind ≠ 1 → 0 < kindL t.text 1 → Gr M (d + 1) 7 l x → Gr M d c (t :: l) (.un (kindL t.text 1) x)
  | par {d c : Nat} {t u : Tk} {l : List Tk} {x : Ex} : d < M → t.kind ≠ 2 → t.kind ≠ 1 → t.text = [40] → u.text = [41] → Gr M (d + 1) 1 l x → Gr M d c (t :: (l ++ [u])) x
  | bin {d c : Nat} {s : Tk} {l1 l2 : List Tk} {x1 x2 : Ex} : c ≤ bindL (kindL s.text 2) → 1 ≤ bindL (kindL s.text 2) → Gr M d (bindL (kindL s.text 2)) l1 x1 → Gr M d (bindL (kindL s.text 2) + 1) l2 x2 → Gr M d c (l1 ++ s :: l2) (.bin (kindL s.text 2) x1 x2)
theorem Gr.lower {M d c c' : Nat} {l : List Tk} {x : Ex} (h : Gr M d c l x) (hc : c' ≤ c) : Gr M d c' l x := by
  cases h with
  | num h => exact .num h
  | name h => exact .name h
  | un h1 h2 h3 h4 h5 => exact .un h1 h2 h3 h4 h5
  | par h1 h2 h3 h4 h5 h6 => exact .par h1 h2 h3 h4 h5 h6
  | bin h1 h2 h3 h4 => exact .bin (Nat.le_trans hc h1) h2 h3 h4
theorem Gr.deeper {M d c : Nat} {l : List Tk} {x : Ex} (h : Gr M d c l x) (k j : Nat) (hk : j ≤ k) : Gr (M + k) (d + j) c l x := by
  induction h with
  | num h => exact .num h
  | name h => exact .name h
  | un h1 h2 h3 h4 _ ih => exact .un (by omega) h2 h3 h4 (by rw [Nat.add_right_comm] at ih; exact ih)
  | par h1 h2 h3 h4 h5 _ ih => exact .par (by omega) h2 h3 h4 h5 (by rw [Nat.add_right_comm] at ih; exact ih)
  | bin h1 h2 _ _ ih1 ih2 => exact .bin h1 h2 ih1 ih2
theorem kind40 : kindL [40] 1 = 0 := by decide
theorem kind41 : bindL (kindL [41] 2) = 0 := by decide

/-! ## what is accepted is an expression -/
theorem drop_next {ts : List Tk} {p : Nat} (h : p < ts.length) : ts.drop p = nextT ts p :: ts.drop (p + 1) := by
  rw [List.drop_eq_getElem_cons h]
  unfold nextT
  rw [List.getElem?_eq_getElem h]
  rfl
theorem bind_le : ∀ {k : Nat}, k < 15 → bindL k ≤ 6 := by
  have : ∀ k, k < 15 → bindL k ≤ 6 := by decide
  exact fun {k} h => this k h
def SoundOp (ts : List Tk) (f : Nat) : Prop := ∀ s s', Good ts s → opS ts f s = (0, s') → ∃ l x, Gr 8 s.dep 7 l x ∧ ts.drop s.pos = l ++ ts.drop s'.pos ∧ s'.nodes = flat x s.nodes
def SoundEx (ts : List Tk) (f : Nat) : Prop := ∀ s b s', Good ts s → 1 ≤ b → b ≤ 7 → exS ts f s b = (0, s') → ∃ l x, Gr 8 s.dep b l x ∧ ts.drop s.pos = l ++ ts.drop s'.pos ∧ s'.nodes = flat x s.nodes ∧ bindL (kindL (nextT ts s'.pos).text 2) < b
def SoundLoop (ts : List Tk) (f : Nat) : Prop := ∀ s b s' l0 x0 o, Good ts s → 1 ≤ b → b ≤ 7 → s.nodes = flat x0 o → (∀ c, (c ≤ b ∨ c ≤ bindL (kindL (nextT ts s.pos).text 2)) → Gr 8 s.dep c l0 x0) → loopS ts f s b = (0, s') →
  ∃ l x, Gr 8 s.dep b (l0 ++ l) x ∧ ts.drop s.pos = l ++ ts.drop s'.pos ∧ s'.nodes = flat x o ∧ bindL (kindL (nextT ts s'.pos).text 2) < b
theorem addS_zero {s s' : St} {n : Nd} (h : addS s n = (0, s')) : s' = { s with nodes := s.nodes ++ [n] } := by
  unfold addS at h
  split at h
  · injection h with h1 _; cases h1
  · injection h with _ h2; exact h2.symm
theorem sound (ts : List Tk) : ∀ f, SoundOp ts f ∧ SoundEx ts f ∧ SoundLoop ts f := by
  intro f
  induction f with
  | zero =>
    refine ⟨fun s s' _ h => ?_, fun s b s' _ _ _ h => ?_, fun s b s' l0 x0 o _ _ _ _ _ h => ?_⟩
    · rw [opS] at h; injection h with h1 _; cases h1
    · rw [exS] at h; injection h with h1 _; cases h1
    · rw [loopS] at h; injection h with h1 _; cases h1
  | succ f ih =>
    obtain ⟨iho, ihe, ihl⟩ := ih
    refine ⟨fun s s' hg h => ?_, fun s b s' hg hb hb7 h => ?_, fun s b s' l0 x0 o hg hb hb7 hn hc h => ?_⟩
    · rw [opS] at h
      split at h
      · rename_i hk
        have hlt := next_lt (ts := ts) (i := s.pos) (.inl (by rw [hk]; decide))
        have := addS_zero h
        subst this
        exact ⟨[nextT ts s.pos], .num (nextT ts s.pos).val, .num hk, drop_next hlt, rfl⟩
      · rename_i hk2
        split at h
        · rename_i hk
          have hlt := next_lt (ts := ts) (i := s.pos) (.inl (by rw [hk]; decide))
          have := addS_zero h
          subst this
          exact ⟨[nextT ts s.pos], .name (nextT ts s.pos).text, .name hk, drop_next hlt, rfl⟩
        · rename_i hk1
          split at h
          · rename_i hk
            have hlt := next_lt (ts := ts) (i := s.pos) (.inr (text_of_kind (by decide) hk))
            split at h
            · injection h with h1 _; cases h1
            · rename_i hd
              have hgi : Good ts (inS s) := ⟨hlt, by show s.dep + 1 ≤ 8; have := hg.2.1; omega, hg.2.2⟩
              split at h
              · rename_i h0; injection h with h1 _; exact absurd h1 h0
              · rename_i h0
                have h0 : (opS ts f (inS s)).1 = 0 := Classical.not_not.1 h0
                obtain ⟨r, hr⟩ : ∃ r, opS ts f (inS s) = (0, r) := ⟨_, Prod.ext h0 rfl⟩
                obtain ⟨l, x, g1, g2, g3⟩ := iho (inS s) r hgi hr
                rw [hr] at h
                injection h with h1 h2
                have h3 := addS_zero (Prod.ext h1 rfl : addS r (unN (kindL (nextT ts s.pos).text 1) (rootS r)) = (0, (addS r (unN (kindL (nextT ts s.pos).text 1) (rootS r))).2))
                rw [h3] at h2
                subst h2
                refine ⟨nextT ts s.pos :: l, .un (kindL (nextT ts s.pos).text 1) x, .un (by have := hg.2.1; omega) hk2 hk1 hk g1, ?_, ?_⟩
                · rw [drop_next hlt, List.cons_append]
                  exact congrArg _ g2
                · show r.nodes ++ [unN _ (rootS r)] = _
                  rw [flat]
                  unfold rootS
                  rw [g3]
                  rfl
          · rename_i hk0
            split at h
            · rename_i hk
              have hlt : s.pos < ts.length := next_lt (.inr (by rw [hk]; decide))
              split at h
              · injection h with h1 _; cases h1
              · rename_i hd
                have hgi : Good ts (inS s) := ⟨hlt, by show s.dep + 1 ≤ 8; have := hg.2.1; omega, hg.2.2⟩
                split at h
                · rename_i h0; injection h with h1 _; exact absurd h1 h0
                · rename_i h0
                  have h0 : (exS ts f (inS s) 1).1 = 0 := Classical.not_not.1 h0
                  obtain ⟨r, hr⟩ : ∃ r, exS ts f (inS s) 1 = (0, r) := ⟨_, Prod.ext h0 rfl⟩
                  obtain ⟨l, x, g1, g2, g3, -⟩ := ihe (inS s) 1 r hgi (Nat.le_refl 1) (by decide) hr
                  rw [hr] at h
                  split at h
                  · injection h with h1 _; cases h1
                  · rename_i ht
                    have ht : (nextT ts r.pos).text = [41] := Classical.not_not.1 ht
                    have hlt2 : r.pos < ts.length := next_lt (.inr (by rw [ht]; decide))
                    injection h with _ h2
                    subst h2
                    refine ⟨nextT ts s.pos :: (l ++ [nextT ts r.pos]), x, .par (by have := hg.2.1; omega) hk2 hk1 hk ht g1, ?_, g3⟩
                    rw [drop_next hlt, List.cons_append, List.append_assoc]
                    have g4 : ts.drop (s.pos + 1) = l ++ ts.drop r.pos := g2
                    rw [g4, drop_next hlt2]
                    rfl
            · injection h with h1 _; cases h1
    · rw [exS] at h
      split at h
      · rename_i h0; rw [h] at h0; exact absurd rfl h0
      · rename_i h0
        have h0 : (opS ts f s).1 = 0 := Classical.not_not.1 h0
        obtain ⟨r, hr⟩ : ∃ r, opS ts f s = (0, r) := ⟨_, Prod.ext h0 rfl⟩
        obtain ⟨l, x, g1, g2, g3⟩ := iho s r hg hr
        have hok := (op_ok (ts := ts) f hg).1
        rw [hr] at h hok
        have hdep : r.dep = s.dep := hok.2.2.1
        obtain ⟨l', x', k1, k2, k3, k4⟩ := ihl r b s' l x s.nodes (hok.good hg) hb hb7 g3 (fun c hc => by
          rw [hdep]
          have := bind_le (kindL_lt (nextT ts r.pos).text 2)
          exact g1.lower (by omega)) h
        rw [hdep] at k1
        exact ⟨l ++ l', x', k1, by rw [g2, k2, List.append_assoc], k3, k4⟩
    · rw [loopS] at h
      split at h
      · rename_i hlt
        injection h with _ h2
        subst h2
        exact ⟨[], x0, by rw [List.append_nil]; exact hc b (.inl (Nat.le_refl b)), rfl, hn, hlt⟩
      · rename_i hk
        obtain ⟨k0, k1, k2, k3⟩ := kind2 (s := (nextT ts s.pos).text) (by omega)
        have hlt : s.pos < ts.length := next_lt (.inr (text_of_kind (c := 2) (by decide) (by omega)))
        have hgs := step_ok hg hlt
        split at h
        · rename_i h0; rw [h] at h0; exact absurd rfl h0
        · rename_i h0
          have h0 : (exS ts f (stepS s) (bindL (kindL (nextT ts s.pos).text 2) + 1)).1 = 0 := Classical.not_not.1 h0
          obtain ⟨r, hr⟩ : ∃ r, exS ts f (stepS s) (bindL (kindL (nextT ts s.pos).text 2) + 1) = (0, r) := ⟨_, Prod.ext h0 rfl⟩
          obtain ⟨l2, x2, g1, g2, g3, g4⟩ := ihe (stepS s) _ r hgs (by omega) (by omega) hr
          have hok := (ex_ok (ts := ts) (b := bindL (kindL (nextT ts s.pos).text 2) + 1) f hgs (by omega)).1
          rw [hr] at h hok
          have hdep : r.dep = s.dep := hok.2.2.1
          split at h
          · rename_i h1; rw [h] at h1; exact absurd rfl h1
          · rename_i h1
            have h1 : (addS r (binN (kindL (nextT ts s.pos).text 2) (rootS s) (rootS r))).1 = 0 := Classical.not_not.1 h1
            have h2 := addS_zero (Prod.ext h1 rfl : addS r (binN (kindL (nextT ts s.pos).text 2) (rootS s) (rootS r)) = (0, (addS r (binN (kindL (nextT ts s.pos).text 2) (rootS s) (rootS r))).2))
            have hok2 := (addS_ok (hok.good hgs) (binN (kindL (nextT ts s.pos).text 2) (rootS s) (rootS r))).1
            have hg2 := hok2.good (hok.good hgs)
            rw [h2] at h hg2
            have e1 : r.nodes = flat x2 (flat x0 o) := by rw [g3]; show flat x2 s.nodes = _; rw [hn]
            obtain ⟨l', x', m1, m2, m3, m4⟩ := ihl { r with nodes := r.nodes ++ [binN (kindL (nextT ts s.pos).text 2) (rootS s) (rootS r)] } b s' (l0 ++ nextT ts s.pos :: l2) (.bin (kindL (nextT ts s.pos).text 2) x0 x2) o hg2 hb hb7 (by
              show r.nodes ++ [binN _ (rootS s) (rootS r)] = _
              rw [flat]
              unfold rootS
              rw [e1, hn]) (fun c hcc => by
              show Gr 8 r.dep c _ _
              rw [hdep]
              have hcb : c ≤ bindL (kindL (nextT ts s.pos).text 2) := by
                rcases hcc with hcc | hcc
                · omega
                · have : c ≤ bindL (kindL (nextT ts r.pos).text 2) := hcc
                  omega
              exact .bin hcb (by omega) (hc _ (.inr (Nat.le_refl _))) g1) h
            have m1' : Gr 8 s.dep b ((l0 ++ nextT ts s.pos :: l2) ++ l') x' := by rw [← hdep]; exact m1
            refine ⟨nextT ts s.pos :: (l2 ++ l'), x', by rw [show l0 ++ nextT ts s.pos :: (l2 ++ l') = (l0 ++ nextT ts s.pos :: l2) ++ l' by simp]; exact m1', ?_, m3, m4⟩
            rw [drop_next hlt, List.cons_append, List.append_assoc]
            have g5 : ts.drop (s.pos + 1) = l2 ++ ts.drop r.pos := g2
            have m5 : ts.drop r.pos = l' ++ ts.drop s'.pos := m2
            rw [g5, m5]
/-! ## every expression within the limits is accepted -/
def addG (N : Nat) (s : St) (n : Nd) : Int × St := if s.nodes.length = N then (2, s) else (0, { s with nodes := s.nodes ++ [n] })
mutual
/-- the parser with other limits: M signs around a sign, N nodes -/
def opG (M N : Nat) (ts : List Tk) : Nat → St → Int × St
  | 0, s => (1, s)
  | f + 1, s =>
    if (nextT ts s.pos).kind = 2 then addG N (stepS s) (numN (nextT ts s.pos).val)
    else if (nextT ts s.pos).kind = 1 then addG N (stepS s) (nameN (nextT ts s.pos).text)
    else if 0 < kindL (nextT ts s.pos).text 1 then
      (if s.dep = M then (10, s) else
        if (opG M N ts f (inS s)).1 ≠ 0 then ((opG M N ts f (inS s)).1, outS (opG M N ts f (inS s)).2) else
        ((addG N (opG M N ts f (inS s)).2 (unN (kindL (nextT ts s.pos).text 1) (rootS (opG M N ts f (inS s)).2))).1, outS (addG N (opG M N ts f (inS s)).2 (unN (kindL (nextT ts s.pos).text 1) (rootS (opG M N ts f (inS s)).2))).2))
    else if (nextT ts s.pos).text = [40] then
      (if s.dep = M then (10, s) else
        if (exG M N ts f (inS s) 1).1 ≠ 0 then ((exG M N ts f (inS s) 1).1, outS (exG M N ts f (inS s) 1).2) else
        if (nextT ts (exG M N ts f (inS s) 1).2.pos).text ≠ [41] then (1, outS (exG M N ts f (inS s) 1).2) else (0, outS (stepS (exG M N ts f (inS s) 1).2)))
    else (1, s)
def exG (M N : Nat) (ts : List Tk) : Nat → St → Nat → Int × St
  | 0, s, _ => (1, s)
  | f + 1, s, b => if (opG M N ts f s).1 ≠ 0 then opG M N ts f s else loopG M N ts f (opG M N ts f s).2 b
def loopG (M N : Nat) (ts : List Tk) : Nat → St → Nat → Int × St
  | 0, s, _ => (1, s)
  | f + 1, s, b =>
    if bindL (kindL (nextT ts s.pos).text 2) < b then (0, s) else
    if (exG M N ts f (stepS s) (bindL (kindL (nextT ts s.pos).text 2) + 1)).1 ≠ 0 then exG M N ts f (stepS s) (bindL (kindL (nextT ts s.pos).text 2) + 1) else
    if (addG N (exG M N ts f (stepS s) (bindL (kindL (nextT ts s.pos).text 2) + 1)).2 (binN (kindL (nextT ts s.pos).text 2) (rootS s) (rootS (exG M N ts f (stepS s) (bindL (kindL (nextT ts s.pos).text 2) + 1)).2))).1 ≠ 0 then addG N (exG M N ts f (stepS s) (bindL (kindL (nextT ts s.pos).text 2) + 1)).2 (binN (kindL (nextT ts s.pos).text 2) (rootS s) (rootS (exG M N ts f (stepS s) (bindL (kindL (nextT ts s.pos).text 2) + 1)).2))
    else loopG M N ts f (addG N (exG M N ts f (stepS s) (bindL (kindL (nextT ts s.pos).text 2) + 1)).2 (binN (kindL (nextT ts s.pos).text 2) (rootS s) (rootS (exG M N ts f (stepS s) (bindL (kindL (nextT ts s.pos).text 2) + 1)).2))).2 b
end
theorem general (ts : List Tk) : ∀ f, (∀ s, opG 8 60 ts f s = opS ts f s) ∧ (∀ s b, exG 8 60 ts f s b = exS ts f s b) ∧ (∀ s b, loopG 8 60 ts f s b = loopS ts f s b) := by
  intro f
  induction f with
  | zero => exact ⟨fun s => by rw [opG, opS], fun s b => by rw [exG, exS], fun s b => by rw [loopG, loopS]⟩
  | succ f ih =>
    obtain ⟨i1, i2, i3⟩ := ih
    have hadd : ∀ s n, addG 60 s n = addS s n := fun _ _ => rfl
    exact ⟨fun s => by rw [opG, opS]; simp only [i1, i2, hadd], fun s b => by rw [exG, exS]; simp only [i1, i3], fun s b => by rw [loopG, loopS]; simp only [i2, i3, hadd]⟩
/-- from some fuel on the answer is r -/
def Evl (g : Nat → Int × St) (r : Int × St) : Prop := ∃ F, ∀ f, F ≤ f → g f = r
theorem Evl.unique {g : Nat → Int × St} {r q : Int × St} (h : Evl g r) (k : Evl g q) : r = q := by
  obtain ⟨F, hF⟩ := h
  obtain ⟨G, hG⟩ := k
  rw [← hF (max F G) (Nat.le_max_left _ _), hG (max F G) (Nat.le_max_right _ _)]
theorem next_mid {ts pre post : List Tk} {t : Tk} (h : ts = pre ++ t :: post) : nextT ts pre.length = t := by
  unfold nextT
  rw [h, List.getElem?_append_right (Nat.le_refl _), Nat.sub_self]
  rfl
theorem complete {M N : Nat} {ts : List Tk} {d c : Nat} {l : List Tk} {x : Ex} (h : Gr M d c l x) : ∀ pre post o, ts = pre ++ (l ++ post) → (flat x o).length ≤ N →
    (c = 7 → Evl (fun f => opG M N ts f ⟨pre.length, d, o⟩) (0, ⟨pre.length + l.length, d, flat x o⟩)) ∧
    (∀ b r, 1 ≤ b → b ≤ c → bindL (kindL (nextT ts (pre.length + l.length)).text 2) ≤ c → Evl (fun f => loopG M N ts f ⟨pre.length + l.length, d, flat x o⟩ b) r → Evl (fun f => exG M N ts f ⟨pre.length, d, o⟩ b) r) := by
  -- an operand: the second follows from the first
  have hop : ∀ (s s' : St), Evl (fun f => opG M N ts f s) (0, s') → ∀ b r, Evl (fun f => loopG M N ts f s' b) r → Evl (fun f => exG M N ts f s b) r := by
    intro s s' ⟨F, hF⟩ b r ⟨G, hG⟩
    refine ⟨max F G + 1, fun f hf => ?_⟩
    obtain ⟨g, rfl⟩ : ∃ g, f = g + 1 := ⟨f - 1, by omega⟩
    have e1 : opG M N ts g s = (0, s') := hF g (by omega)
    have e2 : loopG M N ts g s' b = r := hG g (by omega)
    show exG M N ts (g + 1) s b = r
    rw [exG, e1]
    simp [e2]
  induction h with
  | @num d c t hk =>
    intro pre post o hts hl
    have hn := next_mid (ts := ts) (pre := pre) (t := t) (post := post) (by rw [hts]; rfl)
    have hA : Evl (fun f => opG M N ts f ⟨pre.length, d, o⟩) (0, ⟨pre.length + 1, d, o ++ [numN t.val]⟩) := by
      refine ⟨1, fun f hf => ?_⟩
      obtain ⟨g, rfl⟩ : ∃ g, f = g + 1 := ⟨f - 1, by omega⟩
      show opG M N ts (g + 1) _ = _
      rw [opG]
      show (if (nextT ts pre.length).kind = 2 then _ else _) = _
      rw [hn, if_pos hk]
      have : o.length ≠ N := by have h1 := hl; rw [flat, List.length_append] at h1; simp at h1; omega
      unfold addG stepS
      rw [if_neg this]
    exact ⟨fun _ => hA, fun b r _ _ _ h => hop _ _ hA b r h⟩
  | @name d c t hk =>
    intro pre post o hts hl
    have hn := next_mid (ts := ts) (pre := pre) (t := t) (post := post) (by rw [hts]; rfl)
    have hA : Evl (fun f => opG M N ts f ⟨pre.length, d, o⟩) (0, ⟨pre.length + 1, d, o ++ [nameN t.text]⟩) := by
      refine ⟨1, fun f hf => ?_⟩
      obtain ⟨g, rfl⟩ : ∃ g, f = g + 1 := ⟨f - 1, by omega⟩
      show opG M N ts (g + 1) _ = _
      rw [opG]
      show (if (nextT ts pre.length).kind = 2 then _ else if (nextT ts pre.length).kind = 1 then _ else _) = _
      rw [hn, if_neg (by omega), if_pos hk]
      have : o.length ≠ N := by have h1 := hl; rw [flat, List.length_append] at h1; simp at h1; omega
      unfold addG stepS
      rw [if_neg this]
    exact ⟨fun _ => hA, fun b r _ _ _ h => hop _ _ hA b r h⟩
  | @un d c t l x hd h2 h1 hk _ ih =>
    intro pre post o hts hl
    have hn := next_mid (ts := ts) (pre := pre) (t := t) (post := l ++ post) (by rw [hts]; rfl)
    have hlen : (flat x o).length < N := by have h3 := hl; rw [flat, List.length_append] at h3; simp at h3; omega
    obtain ⟨iA, -⟩ := ih (pre ++ [t]) post o (by rw [hts]; simp) (by omega)
    obtain ⟨F, hF⟩ := iA rfl
    have hA : Evl (fun f => opG M N ts f ⟨pre.length, d, o⟩) (0, ⟨pre.length + (t :: l).length, d, flat (.un (kindL t.text 1) x) o⟩) := by
      refine ⟨F + 1, fun f hf => ?_⟩
      obtain ⟨g, rfl⟩ : ∃ g, f = g + 1 := ⟨f - 1, by omega⟩
      have e1 : opG M N ts g (inS ⟨pre.length, d, o⟩) = (0, ⟨pre.length + 1 + l.length, d + 1, flat x o⟩) := by
        have := hF g (by omega)
        rw [List.length_append] at this
        exact this
      show opG M N ts (g + 1) _ = _
      rw [opG]
      show (if (nextT ts pre.length).kind = 2 then _ else if (nextT ts pre.length).kind = 1 then _ else if 0 < kindL (nextT ts pre.length).text 1 then _ else _) = _
      rw [hn, if_neg h2, if_neg h1, if_pos hk, if_neg (show ¬ d = M by omega), e1, if_neg (by simp)]
      unfold addG
      rw [if_neg (show ¬ (flat x o).length = N by omega)]
      rw [flat, List.length_cons, show pre.length + (l.length + 1) = pre.length + 1 + l.length by omega]
      rfl
    exact ⟨fun _ => hA, fun b r _ _ _ h => hop _ _ hA b r h⟩
  | @par d c t u l x hd h2 h1 ht hu _ ih =>
    intro pre post o hts hl
    have hn := next_mid (ts := ts) (pre := pre) (t := t) (post := (l ++ [u]) ++ post) (by rw [hts]; rfl)
    have hnu : nextT ts (pre.length + 1 + l.length) = u := by
      have := next_mid (ts := ts) (pre := pre ++ t :: l) (t := u) (post := post) (by rw [hts]; simp)
      rw [List.length_append, List.length_cons] at this
      rw [← this]
      congr 1
      omega
    obtain ⟨-, iB⟩ := ih (pre ++ [t]) (u :: post) o (by rw [hts]; simp) hl
    have hx : Evl (fun f => exG M N ts f (inS ⟨pre.length, d, o⟩) 1) (0, ⟨pre.length + 1 + l.length, d + 1, flat x o⟩) := by
      have h3 := iB 1 (0, ⟨pre.length + 1 + l.length, d + 1, flat x o⟩) (Nat.le_refl 1) (Nat.le_refl 1) (by
        rw [List.length_append, List.length_singleton, hnu, hu, kind41]
        decide) ⟨1, fun f hf => by
        obtain ⟨g, rfl⟩ : ∃ g, f = g + 1 := ⟨f - 1, by omega⟩
        show loopG M N ts (g + 1) _ 1 = _
        rw [loopG, if_pos (by
          show bindL (kindL (nextT ts ((pre ++ [t]).length + l.length)).text 2) < 1
          rw [List.length_append, List.length_singleton, hnu, hu, kind41]
          decide), List.length_append]
        rfl⟩
      rw [List.length_append] at h3
      exact h3
    obtain ⟨F, hF⟩ := hx
    have hA : Evl (fun f => opG M N ts f ⟨pre.length, d, o⟩) (0, ⟨pre.length + (t :: (l ++ [u])).length, d, flat x o⟩) := by
      refine ⟨F + 1, fun f hf => ?_⟩
      obtain ⟨g, rfl⟩ : ∃ g, f = g + 1 := ⟨f - 1, by omega⟩
      have e1 := hF g (by omega)
      dsimp only at e1
      show opG M N ts (g + 1) _ = _
      rw [opG]
      show (if (nextT ts pre.length).kind = 2 then _ else if (nextT ts pre.length).kind = 1 then _ else if 0 < kindL (nextT ts pre.length).text 1 then _ else if (nextT ts pre.length).text = [40] then _ else _) = _
      rw [hn, if_neg h2, if_neg h1, if_neg (by rw [ht, kind40]; decide), if_pos ht, if_neg (show ¬ d = M by omega), e1, if_neg (by simp)]
      dsimp only
      rw [hnu, if_neg (by rw [hu]; simp)]
      rw [List.length_cons, List.length_append, List.length_singleton, show pre.length + (l.length + 1 + 1) = pre.length + 1 + l.length + 1 by omega]
      rfl
    exact ⟨fun _ => hA, fun b r _ _ _ h => hop _ _ hA b r h⟩
  | @bin d c s l1 l2 x1 x2 hc hb h1 h2 ih1 ih2 =>
    intro pre post o hts hl
    have hlen : (flat x2 (flat x1 o)).length < N := by have h3 := hl; rw [flat, List.length_append] at h3; simp at h3; omega
    have hlen1 := flat_len x2 (flat x1 o)
    obtain ⟨k0, k1, k2, k3⟩ := kind2 (s := s.text) hb
    have hn := next_mid (ts := ts) (pre := pre ++ l1) (t := s) (post := l2 ++ post) (by rw [hts]; simp)
    rw [List.length_append] at hn
    obtain ⟨-, iB1⟩ := ih1 pre (s :: (l2 ++ post)) o (by rw [hts]; simp) (by omega)
    obtain ⟨-, iB2⟩ := ih2 (pre ++ l1 ++ [s]) post (flat x1 o) (by rw [hts]; simp) (by omega)
    have hpos : (pre ++ l1 ++ [s]).length = pre.length + l1.length + 1 := by simp; omega
    have hend : pre.length + (l1 ++ s :: l2).length = pre.length + l1.length + 1 + l2.length := by simp; omega
    rw [hpos] at iB2
    refine ⟨fun h7 => by omega, fun b r hb1 hbc hnx hr => ?_⟩
    rw [hend] at hnx hr
    refine iB1 b r hb1 (by omega) (by rw [hn]; exact Nat.le_refl _) ?_
    have hx2 : Evl (fun f => exG M N ts f ⟨pre.length + l1.length + 1, d, flat x1 o⟩ (bindL (kindL s.text 2) + 1)) (0, ⟨pre.length + l1.length + 1 + l2.length, d, flat x2 (flat x1 o)⟩) := by
      refine iB2 _ _ (by omega) (Nat.le_refl _) (by omega) ⟨1, fun f hf => ?_⟩
      obtain ⟨g, rfl⟩ : ∃ g, f = g + 1 := ⟨f - 1, by omega⟩
      show loopG M N ts (g + 1) _ _ = _
      rw [loopG, if_pos (by
        show bindL (kindL (nextT ts (pre.length + l1.length + 1 + l2.length)).text 2) < _
        omega)]
    obtain ⟨F, hF⟩ := hx2
    obtain ⟨G, hG⟩ := hr
    refine ⟨max F G + 1, fun f hf => ?_⟩
    obtain ⟨g, rfl⟩ : ∃ g, f = g + 1 := ⟨f - 1, by omega⟩
    have e1 := hF g (by omega)
    have e2 := hG g (by omega)
    dsimp only at e1 e2
    show loopG M N ts (g + 1) ⟨pre.length + l1.length, d, flat x1 o⟩ b = r
    rw [loopG]
    show (if bindL (kindL (nextT ts (pre.length + l1.length)).text 2) < b then _ else _) = r
    rw [hn, if_neg (show ¬ bindL (kindL s.text 2) < b by omega)]
    rw [show stepS ⟨pre.length + l1.length, d, flat x1 o⟩ = ⟨pre.length + l1.length + 1, d, flat x1 o⟩ from rfl, e1, if_neg (by simp)]
    unfold addG
    rw [if_neg (show ¬ (flat x2 (flat x1 o)).length = N by omega), if_neg (by simp)]
    rw [← e2, flat]
    rfl
/-- two readings of one row of tokens have the same nodes -/
theorem Gr.unique {M : Nat} {ts : List Tk} {x y : Ex} (h : Gr M 0 1 ts x) (k : Gr M 0 1 ts y) : flat x [] = flat y [] := by
  have hend : nextT ts ts.length = zeroT := by unfold nextT; rw [List.getElem?_eq_none (Nat.le_refl _)]; rfl
  have key : ∀ z, Gr M 0 1 ts z → (flat z []).length ≤ (flat x []).length + (flat y []).length → Evl (fun f => exG M ((flat x []).length + (flat y []).length) ts f ⟨0, 0, []⟩ 1) (0, ⟨ts.length, 0, flat z []⟩) := by
    intro z hz hl
    have := (complete (ts := ts) (N := (flat x []).length + (flat y []).length) hz [] [] [] (by simp) hl).2 1 (0, ⟨ts.length, 0, flat z []⟩) (Nat.le_refl 1) (Nat.le_refl 1) (by
      show bindL (kindL (nextT ts (0 + ts.length)).text 2) ≤ 1
      rw [Nat.zero_add, hend]
      decide) ⟨1, fun f hf => by
      obtain ⟨g, rfl⟩ : ∃ g, f = g + 1 := ⟨f - 1, by omega⟩
      show loopG _ _ ts (g + 1) ⟨0 + ts.length, 0, flat z []⟩ 1 = _
      rw [loopG, if_pos (by
        show bindL (kindL (nextT ts (0 + ts.length)).text 2) < 1
        rw [Nat.zero_add, hend]
        decide), Nat.zero_add]⟩
    exact this
  have h1 := key x h (by omega)
  have h2 := key y k (by omega)
  have h3 := h1.unique h2
  injection h3 with _ h4
  injection h4
/-! ## the fuel of parseS is enough -/
theorem fuel_enough (ts : List Tk) : ∀ f,
    (∀ s g, Good ts s → 2 * (ts.length - s.pos) + 1 ≤ f → f ≤ g → opS ts g s = opS ts f s) ∧
    (∀ s b g, Good ts s → 1 ≤ b → 2 * (ts.length - s.pos) + 2 ≤ f → f ≤ g → exS ts g s b = exS ts f s b) ∧
    (∀ s b g, Good ts s → 1 ≤ b → 2 * (ts.length - s.pos) + 1 ≤ f → f ≤ g → loopS ts g s b = loopS ts f s b) := by
  intro f
  induction f with
  | zero => exact ⟨fun s g _ h _ => absurd h (by omega), fun s b g _ _ h _ => absurd h (by omega), fun s b g _ _ h _ => absurd h (by omega)⟩
  | succ f ih =>
    obtain ⟨i1, i2, i3⟩ := ih
    refine ⟨fun s g hg hf hfg => ?_, fun s b g hg hb hf hfg => ?_, fun s b g hg hb hf hfg => ?_⟩
    · obtain ⟨g, rfl⟩ : ∃ k, g = k + 1 := ⟨g - 1, by omega⟩
      rw [opS, opS]
      by_cases hlt : s.pos < ts.length ∧ s.dep ≠ 8
      · have hgi : Good ts (inS s) := ⟨hlt.1, by show s.dep + 1 ≤ 8; have := hg.2.1; omega, hg.2.2⟩
        have e1 := i1 (inS s) g hgi (by show 2 * (ts.length - (s.pos + 1)) + 1 ≤ f; omega) (by omega)
        have e2 := i2 (inS s) 1 g hgi (Nat.le_refl 1) (by show 2 * (ts.length - (s.pos + 1)) + 2 ≤ f; omega) (by omega)
        rw [e1, e2]
      · by_cases hd : s.dep = 8
        · simp only [if_pos hd]
        · have hend : nextT ts s.pos = zeroT := by unfold nextT; rw [List.getElem?_eq_none (by omega)]; rfl
          have n1 : ¬ zeroT.kind = 2 := by decide
          have n2 : ¬ zeroT.kind = 1 := by decide
          have n3 : ¬ 0 < kindL zeroT.text 1 := by decide
          have n4 : ¬ zeroT.text = [40] := by decide
          rw [hend, if_neg n1, if_neg n1, if_neg n2, if_neg n2, if_neg n3, if_neg n3, if_neg n4, if_neg n4]
    · obtain ⟨g, rfl⟩ : ∃ k, g = k + 1 := ⟨g - 1, by omega⟩
      rw [exS, exS, i1 s g hg (by omega) (by omega)]
      split
      · rfl
      · rename_i h0
        have h0 : (opS ts f s).1 = 0 := Classical.not_not.1 h0
        obtain ⟨hok, hrd⟩ := op_ok (ts := ts) f hg
        have hpos := (hrd h0).1
        exact i3 _ b g (hok.good hg) hb (by omega) (by omega)
    · obtain ⟨g, rfl⟩ : ∃ k, g = k + 1 := ⟨g - 1, by omega⟩
      rw [loopS, loopS]
      split
      · rfl
      · rename_i hk
        obtain ⟨k0, k1, k2, k3⟩ := kind2 (s := (nextT ts s.pos).text) (by omega)
        have hlt : s.pos < ts.length := next_lt (.inr (text_of_kind (c := 2) (by decide) (by omega)))
        have hgs := step_ok hg hlt
        rw [i2 (stepS s) _ g hgs (by omega) (by show 2 * (ts.length - (s.pos + 1)) + 2 ≤ f; omega) (by omega)]
        split
        · rfl
        · rename_i h0
          have h0 : (exS ts f (stepS s) (bindL (kindL (nextT ts s.pos).text 2) + 1)).1 = 0 := Classical.not_not.1 h0
          obtain ⟨hok, hrd⟩ := ex_ok (ts := ts) (b := bindL (kindL (nextT ts s.pos).text 2) + 1) f hgs (by omega)
          have hpos := (hrd h0).1
          split
          · rfl
          · rename_i h1
            have hok2 := (addS_ok (hok.good hgs) (binN (kindL (nextT ts s.pos).text 2) (rootS s) (rootS (exS ts f (stepS s) (bindL (kindL (nextT ts s.pos).text 2) + 1)).2)))
            have h1 := Classical.not_not.1 h1
            have hp2 := (hok2.2 h1).1
            refine i3 _ b g (hok2.1.good (hok.good hgs)) hb ?_ (by omega)
            have hp3 : s.pos + 1 < (exS ts f (stepS s) (bindL (kindL (nextT ts s.pos).text 2) + 1)).2.pos := hpos
            omega
end Go.Proofs.YtchpkdpefpiegaaDoor.Tok
