/- Contracts of the parser's small functions: kindOf, next, root, add. Conditions: the table of kinds reads as its text lays it. -/
import Derived.Laws.Rows
import Derived.Lib.OthersKept
import Derived.Test.YtchpkdpefpiegaaDoorTokO
import Derived.StillTailTactics
import Derived.Deep.AppendLies
import Derived.Deep.RegionLaw
import Derived.Test.YtchpkdpefpiegaaDoorTokE
import Derived.Test.YtchpkdpefpiegaaDoorExA
namespace Go.Proofs.YtchpkdpefpiegaaDoor.Tok
open Go Go.RowKit

/-! ## the table in memory -/
def trC (t : Nat × List UInt8 × Nat) : List Value := [.int .i64 t.1, strV t.2.1, .int .i64 t.2.2]
def kcs : Array Value := (table.flatMap trC).toArray
def trV (k : Nat) : Value := .agg #[.int .i64 (childL k), strV (signL k), .int .i64 (bindL k)]
/-- the variable that holds the table -/
def KindsAt (w : World) : Prop := ∃ fr, w.heap[0]? = some (.cells kcs 87 fr)
theorem KindsAt.below {B : Nat} {w w' : World} (h : KindsAt w) (hb : Below B w w') (hB : 0 < B) : KindsAt w' := by
  obtain ⟨fr, h⟩ := h
  exact ⟨fr, (hb.block _ hB).trans h⟩
theorem KindsAt.lt {w : World} (h : KindsAt w) : 0 < w.heap.size := by obtain ⟨fr, h⟩ := h; exact lt_of_block h
theorem KindsAt.up {w w' : World} (h : KindsAt w) (hb : Below w.heap.size w w') : KindsAt w' := h.below hb h.lt
theorem index_run : ∀ k : Nat, k < 15 → ∀ w, (Instr.index 87 (.agg kcs) (.int .i64 (k : Int))).run Tryd.prog w = .ok (trV k) w
  | 0, _ => fun _ => by kernel_rfl
  | 1, _ => fun _ => by kernel_rfl
  | 2, _ => fun _ => by kernel_rfl
  | 3, _ => fun _ => by kernel_rfl
  | 4, _ => fun _ => by kernel_rfl
  | 5, _ => fun _ => by kernel_rfl
  | 6, _ => fun _ => by kernel_rfl
  | 7, _ => fun _ => by kernel_rfl
  | 8, _ => fun _ => by kernel_rfl
  | 9, _ => fun _ => by kernel_rfl
  | 10, _ => fun _ => by kernel_rfl
  | 11, _ => fun _ => by kernel_rfl
  | 12, _ => fun _ => by kernel_rfl
  | 13, _ => fun _ => by kernel_rfl
  | 14, _ => fun _ => by kernel_rfl
  | k + 15, h => absurd h (by omega)
theorem sizeKinds : (Tryd.prog.info? 87).map (·.size) = some kcs.size := by kernel_rfl
theorem noKind_next {s : List UInt8} {c k : Nat} (h : NoKind s c k) (hk : ¬ (childL k = c ∧ signL k = s)) : NoKind s c (k + 1) := fun j hj => by
  rcases Nat.lt_succ_iff_lt_or_eq.1 hj with h1 | rfl
  · exact h j h1
  · exact hk
set_option maxRecDepth 100000 in
set_option maxHeartbeats 2000000 in
theorem kindOf_any (s : List UInt8) (c : Nat) (w : World) (hK : KindsAt w) : Calls Tryd.prog 47 #[strV s, .int .i64 (c : Int)] w fun e w' => e = .returned (.int .i64 (kindL s c : Int)) ∧ Below w.heap.size w w' := by
  obtain ⟨fr, hg⟩ := hK
  go_enter Tryd.func47, Tryd.ntmps47
  go_wp2_with (refine wpList_load_row rfl 87 _ rfl _ rfl _ _ _ _ hg Tryd.underlying87 rfl sizeKinds ?_)
  go_loopw [8] (fun u8 wr => ∃ k : Nat, k ≤ 15 ∧ u8 = .int .i64 (k : Int) ∧ Hid (NoKind s c k) ∧ Hid (Below w.heap.size w wr)) (fun i _ => 15 - (intOf i).toNat)
  case atStart => exact ⟨0, Nat.zero_le _, rfl, Lib.hid (fun j hj => absurd hj (Nat.not_lt_zero _)), Lib.hid (Below.refl _ _)⟩
  case round =>
    obtain ⟨k, hk, rfl, HN, HB⟩ := hrel
    by_cases hlt : k < 15
    · have hix := index_run k hlt
      unfold trV at hix
      have HB2 := Lib.hid (HB.out.alloc HB.out.size (.cells #[.int .i64 (childL k), strV (signL k), .int .i64 (bindL k)] 86))
      by_cases hc : childL k = c
      · by_cases hs : signL k = s
        · have HF := Lib.hid (kindL_hit HN.out hlt hc hs)
          rw [hs] at hix HB2
          rw [hc] at hix HB2
          clear hc hs
          go_wp2
          go_ret
          exact ⟨ret_int (by rw [HF.out]), HB2.out⟩
        · have HF := Lib.hid (noKind_next HN.out (fun h => hs h.2))
          have hs2 : (signL k == s) = false := beq_eq_false_iff_ne.2 hs
          rw [hc] at hix HB2
          clear hc hs
          go_wp2
          go_roundw
          case rel => exact ⟨k + 1, by omega, by go_num, HF, HB2⟩
          case measure => simp [intOf]; omega
      · have HF := Lib.hid (noKind_next HN.out (fun h => hc h.1))
        have hc2 : ((childL k : Int) == (c : Int)) = false := beq_eq_false_iff_ne.2 (by omega)
        clear hc
        go_wp2
        go_roundw
        case rel => exact ⟨k + 1, by omega, by go_num, HF, HB2⟩
        case measure => simp [intOf]; omega
    · obtain rfl : k = 15 := by omega
      go_wp2
      go_ret
      exact ⟨ret_int (by rw [kindL_none HN.out]; rfl), HB.out⟩

/-! ## the parser's box -/
def ndC (n : Nd) : List Value := [.int .i64 n.kind, .int .i64 n.val, strV n.name, .int .i64 n.left, .int .i64 n.right]
def ndv (ns : List Nd) : List Value := ns.flatMap ndC
def Nd.v (n : Nd) : Value := .agg #[.int .i64 n.kind, .int .i64 n.val, strV n.name, .int .i64 n.left, .int .i64 n.right]
theorem ndv_snoc (ns : List Nd) (n : Nd) : ndv (ns ++ [n]) = ndv ns ++ ndC n := by simp [ndv]
theorem ndC_one (n : Nd) : ∀ u ∈ ndC n, u.oneCell' = true := by
  intro u hu
  simp only [ndC, List.mem_cons, List.not_mem_nil, or_false] at hu
  rcases hu with rfl | rfl | rfl | rfl | rfl <;> rfl
/-- block X holds the parser: its tokens tv, what it has reached, the nodes that it has read -/
def PSt (X : Nat) (tv : Value) (s : St) (w : World) : Prop :=
  ∃ nv, w.heap[X]? = some (.cells #[tv, .int .i64 (s.pos : Int), .int .i64 (s.dep : Int), nv] 62 (0, 0)) ∧ w.ownsRow X 59 5 nv s.nodes.length (ndv s.nodes) ∧ nv.ownBlock ≠ some X
/-- what a method may change: the parser's block, its nodes, what is new -/
def PF (X : Nat) (w w' : World) : Prop := Below X w w' ∧ Lib.OthersKept 59 (some X) w w'
theorem PF.refl (X : Nat) (w : World) : PF X w w := ⟨Below.refl _ _, Lib.OthersKept.refl _ _ _⟩
theorem PF.trans {X : Nat} {a b c : World} (h : PF X a b) (k : PF X b c) : PF X a c := ⟨h.1.trans k.1, h.2.trans k.2⟩
theorem PF.of {X : Nat} {w w' : World} (h : Below w.heap.size w w') (hX : X ≤ w.heap.size) : PF X w w' := ⟨h.mono hX, fun k _ hk _ _ => (h.block k (lt_of_block hk)).trans hk⟩
theorem PF.up {X : Nat} {a w w' : World} (h : PF X a w) (hb : Below w.heap.size w w') (hX : X ≤ w.heap.size) : PF X a w' := h.trans (PF.of hb hX)
theorem PSt.lt {X : Nat} {tv : Value} {s : St} {w : World} (h : PSt X tv s w) : X < w.heap.size := by obtain ⟨nv, h, -⟩ := h; exact lt_of_block h
theorem PSt.up {X : Nat} {tv : Value} {s : St} {w w' : World} (h : PSt X tv s w) (hb : Below w.heap.size w w') : PSt X tv s w' := by
  obtain ⟨nv, h1, h2, h3⟩ := h
  exact ⟨nv, (hb.block _ (lt_of_block h1)).trans h1, ownsRow_below h2 hb, h3⟩
/-- a box of another kind stays -/
theorem PF.kept {X k : Nat} {w w' : World} {cs : Array Value} {t : TypeId} {fr : Nat × Nat} (h : PF X w w') (hk : w.heap[k]? = some (.cells cs t fr)) (hX : k ≠ X) (ht : t ≠ 59) : w'.heap[k]? = some (.cells cs t fr) :=
  h.2 k _ hk (fun e => hX (Option.some.inj e)) (fun c fz e => by injection e with e1 e2; exact ht e2)
theorem cells_of {w : World} {X : Nat} {cs : Array Value} {t : TypeId} (h : w.heap[X]? = some (.cells cs t (0, 0))) : (∀ j v, cs[j]? = some v → w.cell? ⟨X, j, none⟩ = some v) ∧ (∀ j, w.frozen? ⟨X, j, none⟩ = false) ∧ X < w.heap.size :=
  ⟨fun j v hv => by simp [World.cell?, h, hv], fun j => by simp [World.frozen?, h], lt_of_block h⟩
theorem PSt.opens {X : Nat} {tv : Value} {s : St} {w : World} (h : PSt X tv s w) : ∃ nv, w.cell? ⟨X, 0, none⟩ = some tv ∧ w.cell? ⟨X, 1, none⟩ = some (.int .i64 (s.pos : Int)) ∧ w.cell? ⟨X, 2, none⟩ = some (.int .i64 (s.dep : Int)) ∧ w.cell? ⟨X, 3, none⟩ = some nv ∧
    w.frozen? ⟨X, 1, none⟩ = false ∧ w.frozen? ⟨X, 2, none⟩ = false ∧ w.frozen? ⟨X, 3, none⟩ = false ∧ X < w.heap.size ∧
    w.heap[X]? = some (.cells #[tv, .int .i64 (s.pos : Int), .int .i64 (s.dep : Int), nv] 62 (0, 0)) ∧ w.ownsRow X 59 5 nv s.nodes.length (ndv s.nodes) ∧ nv.ownBlock ≠ some X := by
  obtain ⟨nv, h1, h2, h3⟩ := h
  obtain ⟨hc, hf, hl⟩ := cells_of h1
  exact ⟨nv, hc 0 _ rfl, hc 1 _ rfl, hc 2 _ rfl, hc 3 _ rfl, hf 1, hf 2, hf 3, hl, h1, h2, h3⟩
theorem tok_new4 (w : World) (a b c d : Value) (t : TypeId) : (w.alloc (.cells #[a, b, c, d] t)).cell? ⟨w.heap.size, 0, none⟩ = some a ∧ (w.alloc (.cells #[a, b, c, d] t)).cell? ⟨w.heap.size, 1, none⟩ = some b ∧ (w.alloc (.cells #[a, b, c, d] t)).cell? ⟨w.heap.size, 2, none⟩ = some c ∧ (w.alloc (.cells #[a, b, c, d] t)).cell? ⟨w.heap.size, 3, none⟩ = some d :=
  ⟨cells_new 0 _ rfl, cells_new 1 _ rfl, cells_new 2 _ rfl, cells_new 3 _ rfl⟩
theorem nextT_at {ts : List Tk} {i : Nat} (h : i < ts.length) : ts[i]? = some (nextT ts i) := by
  unfold nextT; rw [List.getElem?_eq_getElem h]; rfl
theorem nextT_end {ts : List Tk} {i : Nat} (h : ts.length ≤ i) : nextT ts i = zeroT := by unfold nextT; rw [List.getElem?_eq_none h]; rfl
set_option maxRecDepth 100000 in
set_option maxHeartbeats 2000000 in
theorem next_any (X : Nat) (tv : Value) (ts : List Tk) (s : St) (w : World) (hT : TksAt X w tv ts) (hS : PSt X tv s w) (hp : s.pos ≤ ts.length) :
    Calls Tryd.prog 48 #[.pointer (some ⟨X, 0, none⟩)] w fun e w' => e = .returned (nextT ts s.pos).v ∧ Below w.heap.size w w' := by
  obtain ⟨A, n, c, rfl, Hn, ⟨hn, -⟩, -, HC⟩ := hT.opens
  obtain ⟨nv, c0, c1, -, -, -, -, -, hX, -⟩ := hS.opens
  obtain ⟨p, d, ns⟩ := s
  dsimp only at c1 hp ⊢
  by_cases hlt : p < n
  · obtain ⟨b1, o1, rfl, hb1, g1⟩ := HC.out (by omega)
    have hx := nextT_at (ts := ts) (i := p) (by rw [Hn.out]; exact hlt)
    obtain ⟨p0, p1, p2, p3⟩ := g1 p _ hx
    generalize nextT ts p = x at p0 p1 p2 p3 hx ⊢
    have hne : ((p : Int) == (n : Int)) = false := beq_eq_false_iff_ne.2 (by omega)
    have hl0 := block_lt_of_cell p0
    clear HC g1 hx hT hS hp
    go_enter Tryd.func48, Tryd.ntmps48
    go_wp2_with fail
    go_quiet (fail)
    go_wp2_with fail
    have hb0 : Below w.heap.size w ((w.alloc (.cells #[.int .i64 0, strV [], .int .i64 0, .int .i64 0] 31)).drewN nq) := below_drewN ((Below.refl _ _).alloc (Nat.le_refl _) _) _
    obtain ⟨r0, r1, r2, r3⟩ := tok_new4 w (.int .i64 0) (strV []) (.int .i64 0) (.int .i64 0) 31
    have hz : w.heap.size < (w.alloc (.cells #[.int .i64 0, strV [], .int .i64 0, .int .i64 0] 31)).heap.size := by simp
    have hfz : ∀ j, (w.alloc (.cells #[.int .i64 0, strV [], .int .i64 0, .int .i64 0] 31)).frozen? ⟨w.heap.size, j, none⟩ = false := fun j => (cells_of (heap_alloc_new w _)).2.1 j
    obtain ⟨W, hW⟩ : ∃ W, W = ((w.alloc (.cells #[.int .i64 0, strV [], .int .i64 0, .int .i64 0] 31)).drewN nq) := ⟨_, rfl⟩
    rw [← hW] at hb0
    have e0 : W.cell? ⟨w.heap.size, 0, none⟩ = some (.int .i64 0) := by rw [hW]; exact r0
    have e1 : W.cell? ⟨w.heap.size, 1, none⟩ = some (strV []) := by rw [hW]; exact r1
    have e2 : W.cell? ⟨w.heap.size, 2, none⟩ = some (.int .i64 0) := by rw [hW]; exact r2
    have e3 : W.cell? ⟨w.heap.size, 3, none⟩ = some (.int .i64 0) := by rw [hW]; exact r3
    have f0 : W.frozen? ⟨w.heap.size, 0, none⟩ = false := by rw [hW]; exact hfz 0
    have f1 : W.frozen? ⟨w.heap.size, 1, none⟩ = false := by rw [hW]; exact hfz 1
    have f2 : W.frozen? ⟨w.heap.size, 2, none⟩ = false := by rw [hW]; exact hfz 2
    have f3 : W.frozen? ⟨w.heap.size, 3, none⟩ = false := by rw [hW]; exact hfz 3
    have d0 := (hb0.cell (p := ⟨X, 0, none⟩) hX).trans c0
    have d1 := (hb0.cell (p := ⟨X, 1, none⟩) hX).trans c1
    have q0 := (hb0.cell (p := ⟨b1, o1 + p * 4, none⟩) hl0).trans p0
    have q1 := (hb0.cell (p := ⟨b1, o1 + p * 4 + 1, none⟩) hl0).trans p1
    have q2 := (hb0.cell (p := ⟨b1, o1 + p * 4 + 2, none⟩) hl0).trans p2
    have q3 := (hb0.cell (p := ⟨b1, o1 + p * 4 + 3, none⟩) hl0).trans p3
    rw [show ((w.alloc (.cells #[.int .i64 0, .string { data := #[] }, .int .i64 0, .int .i64 0] 31)).drewN nq) = W from hW.symm]
    have HB := Lib.hid hb0
    clear r0 r1 r2 r3 hfz hW c0 c1 p0 p1 p2 p3 hb0 hz
    go_still_tail 10, (by kernel_rfl)
    change wpList _ _ _ _ _ W.drew
    go_wp2_with fail
    refine bodyPost_ret (v := x.v) (by unfold Tk.v; simp [results, Tryd.results48, go_sem, e0, e1, e2, e3]) rfl ⟨rfl, ?_⟩
    exact ((((HB.out.setCell (p := ⟨w.heap.size, 0, none⟩) (Nat.le_refl _) _).setCell (p := ⟨w.heap.size, 1, none⟩) (Nat.le_refl _) _).setCell (p := ⟨w.heap.size, 2, none⟩) (Nat.le_refl _) _).setCell (p := ⟨w.heap.size, 3, none⟩) (Nat.le_refl _) _).drew
  · obtain rfl : p = n := by have := Hn.out; omega
    rw [nextT_end (by rw [Hn.out]; exact Nat.le_refl _)]
    have hne : ((p : Int) == (p : Int)) = true := by simp
    clear HC hT hS hp
    go_enter Tryd.func48, Tryd.ntmps48
    go_wp2_with fail
    go_quiet (fail)
    go_wp2_with fail
    have hb0 : Below w.heap.size w ((w.alloc (.cells #[.int .i64 0, strV [], .int .i64 0, .int .i64 0] 31)).drewN nq) := below_drewN ((Below.refl _ _).alloc (Nat.le_refl _) _) _
    obtain ⟨r0, r1, r2, r3⟩ := tok_new4 w (.int .i64 0) (strV []) (.int .i64 0) (.int .i64 0) 31
    refine bodyPost_ret (v := zeroT.v) (by unfold Tk.v zeroT; simp [results, Tryd.results48, go_sem, r0, r1, r2, r3]) rfl ⟨rfl, ?_⟩
    exact ((((hb0.setCell (p := ⟨w.heap.size, 0, none⟩) (Nat.le_refl _) _).setCell (p := ⟨w.heap.size, 1, none⟩) (Nat.le_refl _) _).setCell (p := ⟨w.heap.size, 2, none⟩) (Nat.le_refl _) _).setCell (p := ⟨w.heap.size, 3, none⟩) (Nat.le_refl _) _)
set_option maxHeartbeats 1000000 in
theorem root_any (X : Nat) (tv : Value) (s : St) (w : World) (hS : PSt X tv s w) (hl : s.nodes.length ≤ 60) : Calls Tryd.prog 49 #[.pointer (some ⟨X, 0, none⟩)] w fun e w' => e = .returned (.int .i64 (rootS s)) ∧ w = w' := by
  obtain ⟨nv, -, -, -, c3, -, -, -, hX, -, hown, -⟩ := hS.opens
  have E := Lib.hid (show rootS s = (s.nodes.length : Int) - 1 from rfl)
  obtain ⟨A, c, rfl⟩ := row_is hown
  generalize s.nodes.length = n at hl E c3
  clear hown hS
  go_enter Tryd.func49, Tryd.ntmps49
  go_wp2_with fail
  go_ret
  exact ⟨by rw [E.out]; rfl, rfl⟩
theorem infoNode : (Tryd.prog.info? 59).map (fun i => (i.zero, i.size, i.bytes)) = some (some (.agg #[.int .i64 0, .int .i64 0, strV [], .int .i64 0, .int .i64 0]), 5, 48) := by kernel_rfl
/-- the box of a node -/
def ndObj (n : Nd) : Obj := .cells #[.int .i64 n.kind, .int .i64 n.val, strV n.name, .int .i64 n.left, .int .i64 n.right] 59
theorem nd_new (w : World) (n : Nd) : ∀ j u, (ndC n)[j]? = some u → (w.alloc (ndObj n)).cell? ⟨w.heap.size, j, none⟩ = some u := fun j u h => cells_new (xs := ndC n) j u h
theorem addS_full {s : St} {n : Nd} (h : s.nodes.length = 60) : addS s n = (2, s) := by unfold addS; rw [if_pos h]
theorem addS_more {s : St} {n : Nd} (h : s.nodes.length ≠ 60) : addS s n = (0, { s with nodes := s.nodes ++ [n] }) := by unfold addS; rw [if_neg h]
theorem PF.alloc {X : Nat} {a w : World} (h : PF X a w) (hX : X ≤ w.heap.size) (o : Obj) : PF X a (w.alloc o) := ⟨h.1.alloc hX o, h.2.alloc o⟩
theorem row_nodes {w : World} {B n : Nat} {v : Value} {xs : List Value} (h : w.ownsRow B 59 5 v n xs) : ∀ g, v.ownBlock = some g → ∃ c fz, w.heap[g]? = some (.cells c 59 fz) := by
  intro g hg
  rcases h.2 with ⟨rfl, -⟩ | ⟨g', cap, cur, rfl, -, h3, -⟩
  · cases hg
  · have : g' = g := by simpa [Value.ownBlock] using hg
    subst this
    exact ⟨_, _, h3⟩
theorem heap_allocL {W : World} {k : Nat} {x : Obj} (o : Obj) (h : W.heap[k]? = some x) : (W.alloc o).heap[k]? = some x := (Below.heap_alloc _ _ _ (lt_of_block h)).trans h
theorem add_keep {V w1 : World} {X : Nat} {a b c d : Value} {t : TypeId} {o : Obj} {r : Option Nat} (h : V.heap[X]? = some (.cells #[a, b, c, d] t (0, 0))) (hg : ((V.alloc o).drew).grownBy w1 r) (hne : r ≠ some X) :
    w1.heap[X]? = some (.cells #[a, b, c, d] t (0, 0)) ∧ w1.cell? ⟨X, 3, none⟩ = some d ∧ w1.frozen? ⟨X, 3, none⟩ = false := by
  have h1 : (V.alloc o).drew.heap[X]? = some (.cells #[a, b, c, d] t (0, 0)) := heap_allocL _ h
  have h2 := (hg.block X (lt_of_block h1) (fun e => hne e.symm)).trans h1
  exact ⟨h2, (cells_of h2).1 3 _ rfl, (cells_of h2).2.1 3⟩
set_option maxRecDepth 100000 in
set_option maxHeartbeats 4000000 in
theorem add_any (X : Nat) (tv : Value) (s : St) (n : Nd) (w : World) (hS : PSt X tv s w) (hl : s.nodes.length ≤ 60) :
    Calls Tryd.prog 50 #[.pointer (some ⟨X, 0, none⟩), n.v] w fun e w' => e = .returned (.int .i64 (addS s n).1) ∧ PSt X tv (addS s n).2 w' ∧ PF X w w' := by
  obtain ⟨i0, hi, hz0, hz1, hz2⟩ := info_parts infoNode
  have hb0 : Below w.heap.size w (w.alloc (ndObj n)) := (Below.refl _ _).alloc (Nat.le_refl _) _
  have hS1 := hS.up hb0
  have HXw := Lib.hid (Nat.le_of_lt hS.lt)
  obtain ⟨nv, -, -, -, c3, -, -, f3, hX, hbX, hown, hne⟩ := hS1.opens
  by_cases h60 : s.nodes.length = 60
  · rw [addS_full h60]
    have HS1 := Lib.hid hS1
    obtain ⟨A, c, rfl⟩ := row_is hown
    rw [h60] at c3
    have HB := Lib.hid hb0
    clear hown hS hS1 hbX hb0 hne
    unfold ndObj at HS1 HB c3 f3 hX
    unfold Nd.v
    go_enter Tryd.func50, Tryd.ntmps50
    go_wp2_with fail
    go_ret
    exact ⟨rfl, HS1.out, PF.of HB.out HXw.out⟩
  · rw [addS_more h60]
    have h59 : s.nodes.length ≤ 59 := by omega
    have H59 := Lib.hid h59
    have n0 := nd_new w n 0 _ rfl
    have n1 := nd_new w n 1 _ rfl
    have n2 := nd_new w n 2 _ rfl
    have n3 := nd_new w n 3 _ rfl
    have n4 := nd_new w n 4 _ rfl
    have HO := Lib.hid hown
    have HBX := Lib.hid hbX
    have HNE := Lib.hid hne
    obtain ⟨A, c, rfl⟩ := row_is hown
    have hcmp : ((s.nodes.length : Int) == 60) = false := beq_eq_false_iff_ne.2 (by omega)
    have HB := Lib.hid hb0
    clear hown hS hS1 hbX hb0 hne
    unfold ndObj at n0 n1 n2 n3 n4 c3 f3 hX HO HBX HB
    unfold Nd.v
    go_enter Tryd.func50, Tryd.ntmps50
    go_wp2_with fail
    obtain ⟨V, hV⟩ : ∃ V, V = w.alloc (.cells #[.int .i64 n.kind, .int .i64 n.val, strV n.name, .int .i64 n.left, .int .i64 n.right] 59) := ⟨_, rfl⟩
    rw [← hV] at n0 n1 n2 n3 n4 c3 f3 hX HO HBX HB ⊢
    clear hV
    have hown := HO.out
    go_region_law ((refine step_append_lies _ (by rfl) _ _ _ (by rfl) X 59 i0 _ 5 48 Tryd.underlying24 hi hz0 hz1 hz2 rfl (by decide) (.slice A s.nodes.length c) s.nodes.length _ (by rfl) ((hown.alloc _).drew) ⟨V.heap.size, 0, none⟩ 1 1 (ndC n) (by rfl) (by rfl) (World.news_of_block (cs := #[.int .i64 n.kind, .int .i64 n.val, strV n.name, .int .i64 n.left, .int .i64 n.right]) (t := 59) (fr := (0, 0)) (heap_alloc_new V _)) (ndC_one n) (by decide) (by have := H59.out; unfold maxLen; omega) (by have := H59.out; omega) (by simp; omega) (V.heap.size + 1) (by simp) ?_; intro gg cap w1 hown1 hgrow hat hlt1; obtain ⟨hbX1, cX1, fX1⟩ := add_keep HBX.out hgrow HNE.out))
    all_goals
      have hlt' : gg ≠ X := by
        rcases hat with h | h
        · intro e; rw [e] at h; exact HNE.out h
        · omega
      have hst : PSt X tv { s with nodes := s.nodes ++ [n] } (w1.setCell ⟨X, 3, none⟩ (.slice (some ⟨gg, 0, none⟩) (s.nodes.length + 1) cap)) := by
        refine ⟨.slice (some ⟨gg, 0, none⟩) (s.nodes.length + 1) cap, heap_setCell_same w1 X 3 _ _ _ hbX1, ?_, fun e => hlt' (by simpa [Value.ownBlock] using e)⟩
        show (w1.setCell _ _).ownsRow X 59 5 _ (s.nodes ++ [n]).length (ndv (s.nodes ++ [n]))
        rw [ndv_snoc, List.length_append]
        exact ownsRow_setCell_other hown1 (fun e => hlt' (by simpa [Value.ownBlock] using e)) _
      have hpf : PF X w (w1.setCell ⟨X, 3, none⟩ (.slice (some ⟨gg, 0, none⟩) (s.nodes.length + 1) cap)) := by
        have h1 : PF X w (V.alloc (.cells #[.int .i64 n.kind, .int .i64 n.val, strV n.name, .int .i64 n.left, .int .i64 n.right] 59)).drew := by
          have h2 := (PF.of HB.out HXw.out).alloc (Nat.le_of_lt hX) (.cells #[.int .i64 n.kind, .int .i64 n.val, strV n.name, .int .i64 n.left, .int .i64 n.right] 59)
          exact ⟨h2.1.drew, h2.2.drew⟩
        refine ⟨(h1.1.grown hgrow (by simp; omega) (fun k e => (HO.out.lt k e).1)).setCell (p := ⟨X, 3, none⟩) (Nat.le_refl _) _, ?_⟩
        refine (h1.2.grown hgrow (fun g hg => ?_)).setCell ⟨X, 3, none⟩ rfl _
        obtain ⟨c', fz, h3⟩ := row_nodes HO.out g hg
        exact ⟨c', fz, heap_allocL _ h3⟩
      have HST := Lib.hid (And.intro hst hpf)
      clear hst hpf hown1 hgrow hat hown hbX1 n0 n1 n2 n3 n4 c3 f3 cX1 fX1
      go_wp2_with fail
      go_ret
      exact ⟨rfl, HST.out.1, HST.out.2⟩
end Go.Proofs.YtchpkdpefpiegaaDoor.Tok
