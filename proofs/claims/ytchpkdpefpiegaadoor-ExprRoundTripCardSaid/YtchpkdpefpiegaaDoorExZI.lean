/- What a sum with multiplicities (its names, their multiplicities, its number) reads as, and its box while it grows. -/
import Derived.Test.YtchpkdpefpiegaaDoorExZG
import Derived.Maps.AppendAt
import Derived.OneCell
namespace Go.Proofs.YtchpkdpefpiegaaDoor.Tok
open Go Go.RowKit

def nmv (ns : List (List UInt8)) : List Value := ns.map strV
def tiv (ts : List Int) : List Value := ts.map fun t => .int .i64 t
theorem nmv_snoc (ns : List (List UInt8)) (x : List UInt8) : nmv (ns ++ [x]) = nmv ns ++ [strV x] := by simp [nmv]
theorem tiv_snoc (ts : List Int) (x : Int) : tiv (ts ++ [x]) = tiv ts ++ [.int .i64 x] := by simp [tiv]
/-- the sum value v reads as l with the number n; its cells lie below block B -/
def SumAt (L B : Nat) (w : World) (v : Value) (n : Int) (l : List (List UInt8 × Int)) : Prop :=
  ∃ A c A2 c2, v = .agg #[.slice A l.length c, .slice A2 l.length c2, .int .i64 n] ∧ (l.length ≤ c ∧ l.length ≤ c2) ∧
   (0 < l.length → ∃ b o b2 o2, A = some ⟨b, o, none⟩ ∧ A2 = some ⟨b2, o2, none⟩ ∧ ((L ≤ b ∧ L ≤ b2) ∧ b < B ∧ b2 < B) ∧ ∀ j x, l[j]? = some x → w.cell? ⟨b, o + j, none⟩ = some (strV x.1) ∧ w.cell? ⟨b2, o2 + j, none⟩ = some (.int .i64 x.2))
theorem SumAt.below {L B : Nat} {w w' : World} {v : Value} {n : Int} {l : List (List UInt8 × Int)} (h : SumAt L B w v n l) (hb : Below B w w') : SumAt L B w' v n l := by
  obtain ⟨A, c, A2, c2, h1, h2, h3⟩ := h
  refine ⟨A, c, A2, c2, h1, h2, fun h0 => ?_⟩
  obtain ⟨b, o, b2, o2, e1, e2, ⟨l0, l1, l2⟩, hc⟩ := h3 h0
  exact ⟨b, o, b2, o2, e1, e2, ⟨l0, l1, l2⟩, fun j x hx => ⟨(hb.cell (p := ⟨b, o + j, none⟩) l1).trans (hc j x hx).1, (hb.cell (p := ⟨b2, o2 + j, none⟩) l2).trans (hc j x hx).2⟩⟩
theorem SumAt.more {L B B' : Nat} {w : World} {v : Value} {n : Int} {l : List (List UInt8 × Int)} (h : SumAt L B w v n l) (hB : B ≤ B') : SumAt L B' w v n l := by
  obtain ⟨A, c, A2, c2, h1, h2, h3⟩ := h
  refine ⟨A, c, A2, c2, h1, h2, fun h0 => ?_⟩
  obtain ⟨b, o, b2, o2, e1, e2, ⟨l0, l1, l2⟩, hc⟩ := h3 h0
  exact ⟨b, o, b2, o2, e1, e2, ⟨l0, by omega, by omega⟩, hc⟩
theorem SumAt.opens {L B : Nat} {w : World} {v : Value} {n : Int} {l : List (List UInt8 × Int)} (h : SumAt L B w v n l) : ∃ A c A2 c2 m, v = .agg #[.slice A m c, .slice A2 m c2, .int .i64 n] ∧ Hid (l.length = m) ∧ (m ≤ c ∧ m ≤ c2) ∧
    Hid (0 < m → ∃ b o b2 o2, A = some ⟨b, o, none⟩ ∧ A2 = some ⟨b2, o2, none⟩ ∧ ((L ≤ b ∧ L ≤ b2) ∧ b < B ∧ b2 < B) ∧ ∀ j x, l[j]? = some x → w.cell? ⟨b, o + j, none⟩ = some (strV x.1) ∧ w.cell? ⟨b2, o2 + j, none⟩ = some (.int .i64 x.2)) := by
  obtain ⟨A, c, A2, c2, h1, h2, h3⟩ := h
  exact ⟨A, c, A2, c2, _, h1, Lib.hid rfl, h2, Lib.hid h3⟩
theorem SumAt.nil (L : Nat) (w : World) (n : Int) : SumAt L 0 w (.agg #[.slice none 0 0, .slice none 0 0, .int .i64 n]) n [] := ⟨none, 0, none, 0, rfl, by simp, fun h => absurd h (by simp)⟩
theorem SumAt.set {L B S : Nat} {w : World} {v : Value} {n : Int} {l : List (List UInt8 × Int)} (h : SumAt L B w v n l) (hS : S < L) (i : Nat) (u : Value) : SumAt L B (w.setCell ⟨S, i, none⟩ u) v n l := by
  obtain ⟨A, c, A2, c2, h1, h2, h3⟩ := h
  refine ⟨A, c, A2, c2, h1, h2, fun h0 => ?_⟩
  obtain ⟨b, o, b2, o2, e1, e2, ⟨⟨l1, l2⟩, l3⟩, hc⟩ := h3 h0
  refine ⟨b, o, b2, o2, e1, e2, ⟨⟨l1, l2⟩, l3⟩, fun j x hx => ⟨?_, ?_⟩⟩
  · rw [World.cell?_setCell_other _ _ _ _ (by intro e; injection e with e; omega)]; exact (hc j x hx).1
  · rw [World.cell?_setCell_other _ _ _ _ (by intro e; injection e with e; omega)]; exact (hc j x hx).2
theorem SumAt.since {L L' B : Nat} {w : World} {v : Value} {n : Int} {l : List (List UInt8 × Int)} (h : SumAt L B w v n l) (hL : L' ≤ L) : SumAt L' B w v n l := by
  obtain ⟨A, c, A2, c2, h1, h2, h3⟩ := h
  refine ⟨A, c, A2, c2, h1, h2, fun h0 => ?_⟩
  obtain ⟨b, o, b2, o2, e1, e2, ⟨⟨l1, l2⟩, l3⟩, hc⟩ := h3 h0
  exact ⟨b, o, b2, o2, e1, e2, ⟨⟨by omega, by omega⟩, l3⟩, hc⟩
/-- the box of a sum that grows -/
structure SumB (O base : Nat) (w : World) (ns : List (List UInt8)) (ts : List Int) (n : Int) (nv tv : Value) : Prop where
  box : w.heap[O]? = some (.cells #[nv, tv, .int .i64 n] 119 (0, 0))
  low : O < base
  r1 : w.ownsRow base 9 1 nv ns.length (nmv ns)
  r2 : w.ownsRow base 3 1 tv ts.length (tiv ts)
  apart : ∀ r, nv.ownBlock = some r → tv.ownBlock ≠ some r
variable {O base : Nat} {w w' : World} {ns : List (List UInt8)} {ts : List Int} {n : Int} {nv tv : Value}
theorem SumB.below (h : SumB O base w ns ts n nv tv) (hb : Below w.heap.size w w') : SumB O base w' ns ts n nv tv :=
  ⟨(hb.block _ (lt_of_block h.box)).trans h.box, h.low, ownsRow_below h.r1 hb, ownsRow_below h.r2 hb, h.apart⟩
theorem SumB.cells (h : SumB O base w ns ts n nv tv) : (w.cell? ⟨O, 0, none⟩ = some nv ∧ w.cell? ⟨O, 1, none⟩ = some tv ∧ w.cell? ⟨O, 2, none⟩ = some (.int .i64 n)) ∧ (w.frozen? ⟨O, 0, none⟩ = false ∧ w.frozen? ⟨O, 1, none⟩ = false ∧ w.frozen? ⟨O, 2, none⟩ = false) ∧ O < w.heap.size := by
  obtain ⟨r1, r2, r3⟩ := cells_of h.box
  exact ⟨⟨r1 0 _ rfl, r1 1 _ rfl, r1 2 _ rfl⟩, ⟨r2 0, r2 1, r2 2⟩, r3⟩
theorem row_far {e : TypeId} {size m : Nat} {v : Value} {xs : List Value} (h : w.ownsRow base e size v m xs) (hO : O < base) : v.ownBlock ≠ some O := fun e => by have := (h.lt O e).1; omega
/-- a name behind the names -/
theorem SumB.name {U : World} {x : List UInt8} {v' : Value} (h : SumB O base w ns ts n nv tv) (hrow : U.ownsRow base 9 1 v' (ns.length + 1) (nmv ns ++ [strV x])) (hg : w.grownBy U nv.ownBlock) (hat : v'.ownBlock = nv.ownBlock ∨ v'.ownBlock = some w.heap.size) :
    SumB O base (U.setCell ⟨O, 0, none⟩ v') (ns ++ [x]) ts n v' tv := by
  have f1 := row_far h.r1 h.low
  have f2 := row_far h.r2 h.low
  have f3 := row_far hrow h.low
  have hbox : U.heap[O]? = some (.cells #[nv, tv, .int .i64 n] 119 (0, 0)) := (hg.block O (lt_of_block h.box) (fun e => f1 e.symm)).trans h.box
  have hr2 : U.ownsRow base 3 1 tv ts.length (tiv ts) := h.r2.kept hg (by
    cases e : tv.ownBlock with
    | none => exact .inl rfl
    | some r => exact .inr (fun e2 => h.apart r e2.symm e))
  refine ⟨heap_setCell_same U O 0 _ _ v' hbox, h.low, ?_, ownsRow_setCell_other hr2 f2 _, ?_⟩
  · rw [nmv_snoc, List.length_append]
    exact ownsRow_setCell_other hrow f3 _
  · intro r hr
    rcases hat with e | e
    · rw [e] at hr; exact h.apart r hr
    · rw [e] at hr
      injection hr with hr
      intro e2
      have := (h.r2.lt r e2).2
      omega
/-- a multiplicity behind the multiplicities -/
theorem SumB.time {U : World} {x : Int} {v' : Value} (h : SumB O base w ns ts n nv tv) (hrow : U.ownsRow base 3 1 v' (ts.length + 1) (tiv ts ++ [.int .i64 x])) (hg : w.grownBy U tv.ownBlock) (hat : v'.ownBlock = tv.ownBlock ∨ v'.ownBlock = some w.heap.size) :
    SumB O base (U.setCell ⟨O, 1, none⟩ v') ns (ts ++ [x]) n nv v' := by
  have f1 := row_far h.r1 h.low
  have f2 := row_far h.r2 h.low
  have f3 := row_far hrow h.low
  have hbox : U.heap[O]? = some (.cells #[nv, tv, .int .i64 n] 119 (0, 0)) := (hg.block O (lt_of_block h.box) (fun e => f2 e.symm)).trans h.box
  have hr1 : U.ownsRow base 9 1 nv ns.length (nmv ns) := h.r1.kept hg (by
    cases e : nv.ownBlock with
    | none => exact .inl rfl
    | some r => exact .inr (fun e2 => h.apart r e e2.symm))
  refine ⟨heap_setCell_same U O 1 _ _ v' hbox, h.low, ownsRow_setCell_other hr1 f1 _, ?_, ?_⟩
  · rw [tiv_snoc, List.length_append]
    exact ownsRow_setCell_other hrow f3 _
  · intro r hr
    rcases hat with e | e
    · rw [e]; exact h.apart r hr
    · rw [e]
      intro e2
      injection e2 with e2
      have := (h.r1.lt r hr).2
      omega
theorem below_grown {K : Nat} {U : World} {v : Value} (hb : Below K w w') (hK : K ≤ w'.heap.size) (hg : w'.grownBy U v.ownBlock) (hv : ∀ r, v.ownBlock = some r → K ≤ r) : Below K w U := hb.grown hg hK hv
theorem SumB.sum {B : Nat} {l : List (List UInt8 × Int)} (h : SumB O base w (l.map (·.1)) (l.map (·.2)) n nv tv) (hB : w.heap.size ≤ B) : SumAt base B w (.agg #[nv, tv, .int .i64 n]) n l := by
  have h1 := h.r1
  have h2 := h.r2
  rw [List.length_map] at h1 h2
  rcases Nat.eq_zero_or_pos l.length with h0 | h0
  · have hl : l = [] := List.eq_nil_of_length_eq_zero h0
    subst hl
    obtain ⟨A, c, rfl⟩ := row_is h1
    obtain ⟨A2, c2, rfl⟩ := row_is h2
    refine ⟨A, c, A2, c2, rfl, ⟨Nat.zero_le _, Nat.zero_le _⟩, fun h => absurd h (by simp)⟩
  · rcases h1.2 with ⟨-, e0⟩ | ⟨g, cap, cur, rfl, _, _, hc, _⟩
    · omega
    · rcases h2.2 with ⟨-, e0⟩ | ⟨g2, cap2, cur2, rfl, _, _, hc2, _⟩
      · omega
      · refine ⟨_, cap, _, cap2, rfl, ⟨hc, hc2⟩, fun _ => ⟨g, 0, g2, 0, rfl, rfl, ⟨⟨(h1.lt g rfl).1, (h2.lt g2 rfl).1⟩, Nat.lt_of_lt_of_le (h1.lt g rfl).2 hB, Nat.lt_of_lt_of_le (h2.lt g2 rfl).2 hB⟩, fun j x hx => ?_⟩⟩
        have hj := (List.getElem?_eq_some_iff.1 hx).1
        rw [Nat.zero_add, h1.cellAt j (by omega), h2.cellAt j (by omega)]
        unfold nmv tiv
        rw [List.getElem?_map, List.getElem?_map, List.getElem?_map, List.getElem?_map, hx]
        exact ⟨rfl, rfl⟩
/-! ## a name that occurs more often -/
def keepM (l : List (List UInt8 × Int)) (nm : List UInt8) (t : Int) : List (List UInt8 × Int) := (l.map fun x => (x.1, if x.1 = nm then x.2 + t else x.2)).filter fun x => x.2 != 0
def hasM (l : List (List UInt8 × Int)) (nm : List UInt8) : Bool := l.any fun x => x.1 == nm
theorem keep_snoc (l : List (List UInt8 × Int)) (x : List UInt8 × Int) (nm : List UInt8) (t : Int) : keepM (l ++ [x]) nm t = keepM l nm t ++ if (if x.1 = nm then x.2 + t else x.2) = 0 then [] else [(x.1, if x.1 = nm then x.2 + t else x.2)] := by
  unfold keepM
  rw [List.map_append, List.filter_append]
  congr 1
  by_cases h : (if x.1 = nm then x.2 + t else x.2) = 0
  · rw [if_pos h]; simp [h]
  · rw [if_neg h]; simp [h]
theorem has_snoc (l : List (List UInt8 × Int)) (x : List UInt8 × Int) (nm : List UInt8) : hasM (l ++ [x]) nm = (hasM l nm || (x.1 == nm)) := by unfold hasM; simp
theorem addM_eq (l : List (List UInt8 × Int)) (nm : List UInt8) (t : Int) : addM l nm t = keepM l nm t ++ if hasM l nm = false ∧ nm ≠ [] then [(nm, t)] else [] := by
  unfold addM keepM
  congr 1
  have : (l.all fun x => decide (x.1 ≠ nm)) = !hasM l nm := by
    unfold hasM
    induction l with
    | nil => rfl
    | cons x r ih => rw [List.all_cons, List.any_cons, ih]; by_cases h : x.1 = nm <;> simp [h]
  rw [this]
  by_cases h1 : nm = [] <;> cases h2 : hasM l nm <;> simp [h1]
theorem keep_len (l : List (List UInt8 × Int)) (nm : List UInt8) (t : Int) : (keepM l nm t).length ≤ l.length := by
  unfold keepM
  exact Nat.le_trans (List.length_filter_le _ _) (by simp)
theorem keep_bound {l : List (List UInt8 × Int)} {nm : List UInt8} {t K : Int} (h : ∀ x ∈ l, -K ≤ x.2 ∧ x.2 ≤ K) (ht : -1 ≤ t ∧ t ≤ 1) (hK : 0 ≤ K) : ∀ x ∈ addM l nm t, -(K + 1) ≤ x.2 ∧ x.2 ≤ K + 1 := by
  intro x hx
  rw [addM_eq] at hx
  rcases List.mem_append.1 hx with hx | hx
  · unfold keepM at hx
    obtain ⟨y, hy, rfl⟩ := List.mem_map.1 (List.mem_filter.1 hx).1
    have := h y hy
    dsimp only
    split <;> omega
  · split at hx
    · rw [List.mem_singleton] at hx
      subst hx
      dsimp only
      omega
    · simp at hx
theorem add_len (l : List (List UInt8 × Int)) (nm : List UInt8) (t : Int) : (addM l nm t).length ≤ l.length + 1 := by
  rw [addM_eq, List.length_append]
  have := keep_len l nm t
  split <;> simp <;> omega
end Go.Proofs.YtchpkdpefpiegaaDoor.Tok
