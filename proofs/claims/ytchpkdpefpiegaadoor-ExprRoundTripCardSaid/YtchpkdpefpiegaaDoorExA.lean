/- Pure facts on expressions: nodes, the table of kinds, the parser said as a function on lists. No program, no memory. -/
import Derived.Test.YtchpkdpefpiegaaDoorTokA
namespace Go.Proofs.YtchpkdpefpiegaaDoor.Tok
open Go

structure Nd where
  kind : Int
  val : Int
  name : List UInt8
  left : Int
  right : Int
def zeroT : Tk := ⟨0, [], 0, 0⟩
/-- the kinds of nodes: how many children, the sign, how it binds -/
def table : List (Nat × List UInt8 × Nat) := [(0, [], 0), (0, [], 0), (0, [], 0), (1, [45], 0), (1, [126], 0), (2, [43], 5), (2, [45], 5), (2, [42], 6), (2, [47], 6), (2, [37], 6), (2, [60, 60], 4), (2, [62, 62], 4), (2, [38], 3), (2, [94], 2), (2, [124], 1)]
def rowL (k : Nat) : Nat × List UInt8 × Nat := table[k]?.getD (0, [], 0)
def childL (k : Nat) : Nat := (rowL k).1
def signL (k : Nat) : List UInt8 := (rowL k).2.1
def bindL (k : Nat) : Nat := (rowL k).2.2
def kindL (s : List UInt8) (c : Nat) : Nat := (table.findIdx? fun t => t.1 == c && t.2.1 == s).getD 0
theorem kindL_lt (s : List UInt8) (c : Nat) : kindL s c < 15 := by
  unfold kindL
  cases h : table.findIdx? fun t => t.1 == c && t.2.1 == s with
  | none => decide
  | some i =>
    have := (List.findIdx?_eq_some_iff_getElem.1 h).1
    exact this
/-- of the first k kinds none has this sign and so many children -/
def NoKind (s : List UInt8) (c k : Nat) : Prop := ∀ j, j < k → ¬ (childL j = c ∧ signL j = s)
theorem kindL_hit {s : List UInt8} {c k : Nat} (h : NoKind s c k) (hk : k < 15) (h1 : childL k = c) (h2 : signL k = s) : kindL s c = k := by
  have hrow : ∀ j (hj : j < 15), table[j]'hj = rowL j := fun j hj => by unfold rowL; rw [List.getElem?_eq_getElem (show j < table.length from hj)]; rfl
  have : (table.findIdx? fun t => t.1 == c && t.2.1 == s) = some k := by
    rw [List.findIdx?_eq_some_iff_getElem]
    have hk2 : k < table.length := hk
    refine ⟨hk2, ?_, fun j hj => ?_⟩
    · have e2 : table[k]'hk2 = rowL k := hrow k hk
      rw [e2]
      simp only [Bool.and_eq_true, beq_iff_eq]
      exact ⟨h1, h2⟩
    · have e := hrow j (Nat.lt_trans hj hk)
      have e2 : table[j]'(Nat.lt_trans hj hk2) = rowL j := e
      rw [e2]
      simp only [Bool.and_eq_true, beq_iff_eq]
      exact h j hj
  unfold kindL
  rw [this]
  rfl
theorem kindL_none {s : List UInt8} {c : Nat} (h : NoKind s c 15) : kindL s c = 0 := by
  have hrow : ∀ j (hj : j < 15), table[j]'hj = rowL j := fun j hj => by unfold rowL; rw [List.getElem?_eq_getElem (show j < table.length from hj)]; rfl
  have : (table.findIdx? fun t => t.1 == c && t.2.1 == s) = none := by
    rw [List.findIdx?_eq_none_iff]
    intro x hx
    obtain ⟨j, hj, rfl⟩ := List.getElem_of_mem hx
    rw [hrow j hj]
    have := h j hj
    simp only [Bool.and_eq_false_iff, beq_eq_false_iff_ne]
    by_cases h1 : (rowL j).1 = c
    · exact .inr fun h2 => this ⟨h1, h2⟩
    · exact .inl h1
  unfold kindL
  rw [this]
  rfl
theorem rows_of_two : ∀ k, k < 15 → childL k = 2 → 5 ≤ k ∧ 1 ≤ bindL k ∧ bindL k ≤ 6 := by decide
theorem rows_of_one : ∀ k, k < 15 → childL k = 1 → k = 3 ∨ k = 4 := by decide
theorem kindL_pos {s : List UInt8} {c : Nat} (h : 0 < kindL s c) : childL (kindL s c) = c ∧ signL (kindL s c) = s := by
  have hrow : ∀ j (hj : j < 15), table[j]'hj = rowL j := fun j hj => by unfold rowL; rw [List.getElem?_eq_getElem (show j < table.length from hj)]; rfl
  cases hf : table.findIdx? fun t => t.1 == c && t.2.1 == s with
  | none =>
    have h0 : kindL s c = 0 := by unfold kindL; rw [hf]; rfl
    omega
  | some i =>
    have h0 : kindL s c = i := by unfold kindL; rw [hf]; rfl
    obtain ⟨hi, hp, -⟩ := List.findIdx?_eq_some_iff_getElem.1 hf
    rw [hrow i hi] at hp
    simp only [Bool.and_eq_true, beq_iff_eq] at hp
    rw [h0]
    exact hp
theorem kind_empty (c : Nat) (h : 0 < c) : kindL [] c = 0 := by
  refine kindL_none fun j hj => ?_
  have : ∀ j, j < 15 → signL j = [] → childL j = 0 := by decide
  intro ⟨h1, h2⟩
  have := this j hj h2
  omega
/-- a binary sign -/
theorem kind2 {s : List UInt8} (h : 1 ≤ bindL (kindL s 2)) : 5 ≤ kindL s 2 ∧ childL (kindL s 2) = 2 ∧ signL (kindL s 2) = s ∧ bindL (kindL s 2) ≤ 6 := by
  have h0 : 0 < kindL s 2 := by
    rcases Nat.eq_zero_or_pos (kindL s 2) with h1 | h1
    · rw [h1] at h; exact absurd h (by decide)
    · exact h1
  obtain ⟨h1, h2⟩ := kindL_pos h0
  obtain ⟨h3, -, h5⟩ := rows_of_two _ (kindL_lt s 2) h1
  exact ⟨h3, h1, h2, h5⟩

/-! ## the parser -/
structure St where
  pos : Nat
  dep : Nat
  nodes : List Nd
def nextT (ts : List Tk) (i : Nat) : Tk := ts[i]?.getD zeroT
def rootS (s : St) : Int := (s.nodes.length : Int) - 1
def addS (s : St) (n : Nd) : Int × St := if s.nodes.length = 60 then (2, s) else (0, { s with nodes := s.nodes ++ [n] })
def stepS (s : St) : St := { s with pos := s.pos + 1 }
def inS (s : St) : St := { s with pos := s.pos + 1, dep := s.dep + 1 }
def outS (s : St) : St := { s with dep := s.dep - 1 }
def numN (v : Int) : Nd := ⟨1, v, [], 0, 0⟩
def nameN (s : List UInt8) : Nd := ⟨2, 0, s, 0, 0⟩
def unN (k : Nat) (l : Int) : Nd := ⟨k, 0, [], l, 0⟩
def binN (k : Nat) (l r : Int) : Nd := ⟨k, 0, [], l, r⟩
mutual
def opS (ts : List Tk) : Nat → St → Int × St
  | 0, s => (1, s)
  | f + 1, s =>
    if (nextT ts s.pos).kind = 2 then addS (stepS s) (numN (nextT ts s.pos).val)
    else if (nextT ts s.pos).kind = 1 then addS (stepS s) (nameN (nextT ts s.pos).text)
    else if 0 < kindL (nextT ts s.pos).text 1 then
      (if s.dep = 8 then (10, s) else
        if (opS ts f (inS s)).1 ≠ 0 then ((opS ts f (inS s)).1, outS (opS ts f (inS s)).2) else
        ((addS (opS ts f (inS s)).2 (unN (kindL (nextT ts s.pos).text 1) (rootS (opS ts f (inS s)).2))).1, outS (addS (opS ts f (inS s)).2 (unN (kindL (nextT ts s.pos).text 1) (rootS (opS ts f (inS s)).2))).2))
    else if (nextT ts s.pos).text = [40] then
      (if s.dep = 8 then (10, s) else
        if (exS ts f (inS s) 1).1 ≠ 0 then ((exS ts f (inS s) 1).1, outS (exS ts f (inS s) 1).2) else
        if (nextT ts (exS ts f (inS s) 1).2.pos).text ≠ [41] then (1, outS (exS ts f (inS s) 1).2) else (0, outS (stepS (exS ts f (inS s) 1).2)))
    else (1, s)
def exS (ts : List Tk) : Nat → St → Nat → Int × St
  | 0, s, _ => (1, s)
  | f + 1, s, b => if (opS ts f s).1 ≠ 0 then opS ts f s else loopS ts f (opS ts f s).2 b
def loopS (ts : List Tk) : Nat → St → Nat → Int × St
  | 0, s, _ => (1, s)
  | f + 1, s, b =>
    if bindL (kindL (nextT ts s.pos).text 2) < b then (0, s) else
    if (exS ts f (stepS s) (bindL (kindL (nextT ts s.pos).text 2) + 1)).1 ≠ 0 then exS ts f (stepS s) (bindL (kindL (nextT ts s.pos).text 2) + 1) else
    if (addS (exS ts f (stepS s) (bindL (kindL (nextT ts s.pos).text 2) + 1)).2 (binN (kindL (nextT ts s.pos).text 2) (rootS s) (rootS (exS ts f (stepS s) (bindL (kindL (nextT ts s.pos).text 2) + 1)).2))).1 ≠ 0 then addS (exS ts f (stepS s) (bindL (kindL (nextT ts s.pos).text 2) + 1)).2 (binN (kindL (nextT ts s.pos).text 2) (rootS s) (rootS (exS ts f (stepS s) (bindL (kindL (nextT ts s.pos).text 2) + 1)).2))
    else loopS ts f (addS (exS ts f (stepS s) (bindL (kindL (nextT ts s.pos).text 2) + 1)).2 (binN (kindL (nextT ts s.pos).text 2) (rootS s) (rootS (exS ts f (stepS s) (bindL (kindL (nextT ts s.pos).text 2) + 1)).2))).2 b
end
/-- what holds behind every step: the places only grow, the depth is as before, at most 60 nodes; after a success something was read -/
def Ok (ts : List Tk) (s : St) (r : Int × St) : Prop :=
  r.2.pos ≤ ts.length ∧ s.pos ≤ r.2.pos ∧ r.2.dep = s.dep ∧ s.nodes.length ≤ r.2.nodes.length ∧ r.2.nodes.length ≤ 60 ∧ 0 ≤ r.1 ∧ r.1 ≤ 10
def Read (s : St) (r : Int × St) : Prop := r.1 = 0 → s.pos < r.2.pos ∧ s.nodes.length < r.2.nodes.length
def Good (ts : List Tk) (s : St) : Prop := s.pos ≤ ts.length ∧ s.dep ≤ 8 ∧ s.nodes.length ≤ 60
theorem next_lt {ts : List Tk} {i : Nat} (h : (nextT ts i).kind ≠ 0 ∨ (nextT ts i).text ≠ []) : i < ts.length := by
  rcases Nat.lt_or_ge i ts.length with h1 | h1
  · exact h1
  · have : nextT ts i = zeroT := by unfold nextT; rw [List.getElem?_eq_none h1]; rfl
    rw [this] at h
    rcases h with h | h <;> exact absurd rfl h
theorem text_of_kind {s : List UInt8} {c : Nat} (hc : 0 < c) (h : 0 < kindL s c) : s ≠ [] := by
  intro h1
  subst h1
  rw [kind_empty c hc] at h
  exact absurd h (by decide)
theorem addS_ok {ts : List Tk} {s : St} (h : Good ts s) (n : Nd) : Ok ts s (addS s n) ∧ ((addS s n).1 = 0 → (addS s n).2.pos = s.pos ∧ (addS s n).2.nodes.length = s.nodes.length + 1) := by
  obtain ⟨h1, h2, h3⟩ := h
  unfold addS
  split
  · exact ⟨⟨h1, Nat.le_refl _, rfl, Nat.le_refl _, h3, by show (0 : Int) ≤ 2; decide, by show (2 : Int) ≤ 10; decide⟩, fun h => absurd h (by show ¬ (2 : Int) = 0; decide)⟩
  · refine ⟨⟨h1, Nat.le_refl _, rfl, ?_, ?_, Int.le_refl _, by show (0 : Int) ≤ 10; decide⟩, fun _ => ⟨rfl, ?_⟩⟩
    · show _ ≤ (s.nodes ++ [n]).length; rw [List.length_append]; omega
    · show (s.nodes ++ [n]).length ≤ 60; rw [List.length_append]; show _ + 1 ≤ 60; omega
    · show (s.nodes ++ [n]).length = _; rw [List.length_append]; rfl
theorem Ok.good {ts : List Tk} {s : St} {r : Int × St} (h : Ok ts s r) (hg : Good ts s) : Good ts r.2 := ⟨h.1, by rw [h.2.2.1]; exact hg.2.1, h.2.2.2.2.1⟩
theorem Ok.trans {ts : List Tk} {s : St} {r q : Int × St} (h : Ok ts s r) (k : Ok ts r.2 q) : Ok ts s q :=
  ⟨k.1, Nat.le_trans h.2.1 k.2.1, k.2.2.1.trans h.2.2.1, Nat.le_trans h.2.2.2.1 k.2.2.2.1, k.2.2.2.2.1, k.2.2.2.2.2.1, k.2.2.2.2.2.2⟩
theorem Ok.code {ts : List Tk} {s : St} {r : Int × St} (h : Ok ts s r) {c : Int} (h0 : 0 ≤ c) (h1 : c ≤ 10) : Ok ts s (c, r.2) := ⟨h.1, h.2.1, h.2.2.1, h.2.2.2.1, h.2.2.2.2.1, h0, h1⟩
theorem step_ok {ts : List Tk} {s : St} (h : Good ts s) (hlt : s.pos < ts.length) : Good ts (stepS s) := ⟨hlt, h.2.1, h.2.2⟩
theorem parser_ok (ts : List Tk) : ∀ f,
    (∀ s, Good ts s → Ok ts s (opS ts f s) ∧ Read s (opS ts f s)) ∧
    (∀ s b, Good ts s → 1 ≤ b → Ok ts s (exS ts f s b) ∧ Read s (exS ts f s b)) ∧
    (∀ s b, Good ts s → 1 ≤ b → Ok ts s (loopS ts f s b)) := by
  have hself : ∀ s (c : Int), 0 ≤ c → c ≤ 10 → Good ts s → Ok ts s (c, s) := fun s c h0 h1 h => ⟨h.1, Nat.le_refl _, rfl, Nat.le_refl _, h.2.2, h0, h1⟩
  have hone : ∀ s (c : Int), c ≠ 0 → Read s (c, s) := fun s c h0 h => absurd h h0
  intro f
  induction f with
  | zero =>
    refine ⟨fun s h => ?_, fun s b h _ => ?_, fun s b h _ => ?_⟩
    · rw [opS]; exact ⟨hself s 1 (by decide) (by decide) h, hone s 1 (by decide)⟩
    · rw [exS]; exact ⟨hself s 1 (by decide) (by decide) h, hone s 1 (by decide)⟩
    · rw [loopS]; exact hself s 1 (by decide) (by decide) h
  | succ f ih =>
    obtain ⟨iho, ihe, ihl⟩ := ih
    refine ⟨fun s h => ?_, fun s b h hb => ?_, fun s b h hb => ?_⟩
    · have hadd : s.pos < ts.length → ∀ n, Ok ts s (addS (stepS s) n) ∧ Read s (addS (stepS s) n) := by
        intro hlt n
        obtain ⟨h1, h2⟩ := addS_ok (step_ok h hlt) n
        refine ⟨⟨h1.1, Nat.le_of_succ_le h1.2.1, h1.2.2⟩, fun h0 => ?_⟩
        obtain ⟨h3, h4⟩ := h2 h0
        exact ⟨by rw [h3]; exact Nat.lt_succ_self _, by rw [h4]; exact Nat.lt_succ_self _⟩
      have hin : s.pos < ts.length → s.dep ≠ 8 → Good ts (inS s) := fun hlt hd => ⟨hlt, by show s.dep + 1 ≤ 8; have := h.2.1; omega, h.2.2⟩
      have hout : ∀ r : Int × St, Ok ts (inS s) r → ∀ c : Int, 0 ≤ c → c ≤ 10 → Ok ts s (c, outS r.2) := fun r hr c h0 h1 =>
        ⟨hr.1, Nat.le_of_succ_le hr.2.1, by show r.2.dep - 1 = s.dep; rw [hr.2.2.1]; rfl, hr.2.2.2.1, hr.2.2.2.2.1, h0, h1⟩
      rw [opS]
      split
      · rename_i hk; exact hadd (next_lt (.inl (by rw [hk]; decide))) _
      · split
        · rename_i hk; exact hadd (next_lt (.inl (by rw [hk]; decide))) _
        · split
          · rename_i hk
            have hlt := next_lt (.inr (text_of_kind (by decide) hk))
            split
            · exact ⟨hself s 10 (by decide) (by decide) h, hone s 10 (by decide)⟩
            · rename_i hd
              obtain ⟨h1, h2⟩ := iho (inS s) (hin hlt hd)
              generalize opS ts f (inS s) = r at h1 h2
              split
              · rename_i h0
                exact ⟨hout r h1 _ h1.2.2.2.2.2.1 h1.2.2.2.2.2.2, fun h => absurd h h0⟩
              · rename_i h0
                have h0 : r.1 = 0 := Classical.not_not.1 h0
                obtain ⟨h5, h6⟩ := addS_ok (h1.good (hin hlt hd)) (unN (kindL (nextT ts s.pos).text 1) (rootS r.2))
                generalize addS r.2 (unN (kindL (nextT ts s.pos).text 1) (rootS r.2)) = q at h5 h6
                refine ⟨hout q (h1.trans h5) _ h5.2.2.2.2.2.1 h5.2.2.2.2.2.2, fun hq => ?_⟩
                obtain ⟨h7, h8⟩ := h6 hq
                obtain ⟨h9, h10⟩ := h2 h0
                exact ⟨by show s.pos < q.2.pos; rw [h7]; exact Nat.lt_of_succ_lt h9, by show s.nodes.length < q.2.nodes.length; rw [h8]; exact Nat.lt_succ_of_lt h10⟩
          · split
            · rename_i hk
              have hlt : s.pos < ts.length := next_lt (.inr (by rw [hk]; decide))
              split
              · exact ⟨hself s 10 (by decide) (by decide) h, hone s 10 (by decide)⟩
              · rename_i hd
                obtain ⟨h1, h2⟩ := ihe (inS s) 1 (hin hlt hd) (Nat.le_refl 1)
                generalize exS ts f (inS s) 1 = r at h1 h2
                split
                · rename_i h0
                  exact ⟨hout r h1 _ h1.2.2.2.2.2.1 h1.2.2.2.2.2.2, fun h => absurd h h0⟩
                · rename_i h0
                  have h0 : r.1 = 0 := Classical.not_not.1 h0
                  obtain ⟨h9, h10⟩ := h2 h0
                  split
                  · exact ⟨hout r h1 1 (by decide) (by decide), fun h => absurd h (by show ¬ (1 : Int) = 0; decide)⟩
                  · rename_i ht
                    have ht := Classical.not_not.1 ht
                    have hlt2 : r.2.pos < ts.length := next_lt (.inr (by rw [ht]; decide))
                    refine ⟨hout (0, stepS r.2) ⟨hlt2, Nat.le_succ_of_le h1.2.1, h1.2.2.1, h1.2.2.2.1, h1.2.2.2.2.1, Int.le_refl (0 : Int), show (0 : Int) ≤ 10 from by decide⟩ 0 (by decide) (by decide), fun _ => ⟨?_, h10⟩⟩
                    show s.pos < r.2.pos + 1
                    exact Nat.lt_succ_of_lt (Nat.lt_of_succ_lt h9)
            · exact ⟨hself s 1 (by decide) (by decide) h, hone s 1 (by decide)⟩
    · obtain ⟨h1, h2⟩ := iho s h
      rw [exS]
      generalize opS ts f s = r at h1 h2
      split
      · rename_i h0; exact ⟨h1, fun h => absurd h h0⟩
      · rename_i h0
        have h0 : r.1 = 0 := Classical.not_not.1 h0
        obtain ⟨h9, h10⟩ := h2 h0
        have h3 := ihl r.2 b (h1.good h) hb
        exact ⟨h1.trans h3, fun _ => ⟨Nat.lt_of_lt_of_le h9 h3.2.1, Nat.lt_of_lt_of_le h10 h3.2.2.2.1⟩⟩
    · rw [loopS]
      split
      · exact hself s 0 (by decide) (by decide) h
      · rename_i hk
        obtain ⟨k0, k1, k2, k3⟩ := kind2 (s := (nextT ts s.pos).text) (by omega)
        have hlt : s.pos < ts.length := next_lt (.inr (text_of_kind (c := 2) (by decide) (by omega)))
        obtain ⟨h1, h2⟩ := ihe (stepS s) (bindL (kindL (nextT ts s.pos).text 2) + 1) (step_ok h hlt) (by omega)
        generalize exS ts f (stepS s) (bindL (kindL (nextT ts s.pos).text 2) + 1) = r at h1 h2
        have h1' : Ok ts s r := ⟨h1.1, Nat.le_of_succ_le h1.2.1, h1.2.2⟩
        split
        · exact h1'
        · obtain ⟨h5, -⟩ := addS_ok (h1.good (step_ok h hlt)) (binN (kindL (nextT ts s.pos).text 2) (rootS s) (rootS r.2))
          generalize addS r.2 (binN (kindL (nextT ts s.pos).text 2) (rootS s) (rootS r.2)) = q at h5
          have h6 : Ok ts s q := h1'.trans h5
          split
          · exact h6
          · exact h6.trans (ihl q.2 b (h6.good h) hb)
theorem op_ok {ts : List Tk} {s : St} (f : Nat) (h : Good ts s) : Ok ts s (opS ts f s) ∧ Read s (opS ts f s) := (parser_ok ts f).1 s h
theorem ex_ok {ts : List Tk} {s : St} {b : Nat} (f : Nat) (h : Good ts s) (hb : 1 ≤ b) : Ok ts s (exS ts f s b) ∧ Read s (exS ts f s b) := (parser_ok ts f).2.1 s b h hb
theorem loop_ok {ts : List Tk} {s : St} {b : Nat} (f : Nat) (h : Good ts s) (hb : 1 ≤ b) : Ok ts s (loopS ts f s b) := (parser_ok ts f).2.2 s b h hb
end Go.Proofs.YtchpkdpefpiegaaDoor.Tok
