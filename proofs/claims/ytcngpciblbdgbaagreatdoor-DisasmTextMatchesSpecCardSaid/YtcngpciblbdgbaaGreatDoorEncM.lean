/- Contract of Patch, and of slices.Clone. Conditions: the table reads as forms; the code reads as bytes. -/
import Derived.Laws.CopyOwn
import Derived.WalkSpells
import Derived.Test.YtcngpciblbdgbaaGreatDoorEncL
namespace Go.Proofs.YtcngpciblbdgbaaGreatDoor
open Go Go.RowKit Go.Shelf

theorem bv_one (l : List UInt8) : ∀ u ∈ bv l, u.oneCell' = true := by
  intro u hu
  simp only [bv, List.mem_map] at hu
  obtain ⟨x, _, rfl⟩ := hu
  rfl
theorem bv_cells {B : Nat} {w : World} {b o n c : Nat} {l : List UInt8} (h : BytesAt B w (.slice (some ⟨b, o, none⟩) n c) l) : ∀ j u, (bv l)[j]? = some u → w.cell? ((⟨b, o, none⟩ : Addr).add j) = some u := by
  intro j u hu
  have hj : j < l.length := by have := (List.getElem?_eq_some_iff.1 hu).1; rwa [bv_length] at this
  obtain ⟨A, c', e, _, h3⟩ := h
  injection e with e1
  subst e1
  obtain ⟨b', o', e, _, hc⟩ := h3 (by omega)
  injection e with e
  injection e with e4 e5
  subst e4
  subst e5
  have ea : (⟨b, o, none⟩ : Addr).add j = ⟨b, o + j, none⟩ := by
    unfold Addr.add
    split
    · rename_i h0; rw [h0]; rfl
    · rfl
  rw [ea, hc j hj, ← hu, bv_at l j hj]
/-- an owned row that is not empty lies somewhere -/
theorem row_some {w : World} {B n size : Nat} {e : TypeId} {v : Value} {xs : List Value} (h : w.ownsRow B e size v n xs) (h0 : 0 < n) : ∃ g c, v = .slice (some ⟨g, 0, none⟩) n c ∧ n ≤ c := by
  rcases h.2 with ⟨_, h'⟩ | ⟨g, cap, _, h1, _, _, h2, _⟩
  · omega
  · exact ⟨g, cap, h1, h2⟩
theorem pat_row {w : World} {b R m j : Nat} {xs : List Int} (h : w.ownsRow b 3 1 (.slice (some ⟨R, 0, none⟩) m m) m (iv xs)) (hl : xs.length = m) (hj : j < m) : w.cell? ⟨R, j, none⟩ = some (.int .i64 (xs[j]?.getD 0)) ∧ w.frozen? ⟨R, j, none⟩ = false := ⟨iv_cell h j (by omega), h.frozenAt j⟩
theorem box_fault (w : World) : Two (w.alloc (.cells #[.int .i64 0, .int .i64 0] 27)) w.heap.size (.int .i64 0) (.int .i64 0) := Two.new w _ _ _
theorem Two.grown {W W' : World} {R S : Nat} {x y : Value} (h : Two W R x y) (hg : W.grownBy W' (some S)) (hne : R ≠ S) : Two W' R x y :=
  ⟨hg.cell h.1 (by simp; omega), hg.cell h.2.1 (by simp; omega), (World.frozen?_of_block (a := ⟨R, 0, none⟩) (hg.block R h.lt (by simp; omega))).trans h.2.2.1, (World.frozen?_of_block (a := ⟨R, 1, none⟩) (hg.block R h.lt (by simp; omega))).trans h.2.2.2⟩
/-- behind the store of the new argument, and the boxes beside -/
theorem pat_after {w W1 : World} {b R m j : Nat} {xs : List Int} {val : Int} (h : W1.ownsRow b 3 1 (.slice (some ⟨R, 0, none⟩) m m) m (iv xs)) (hb : Below w.heap.size w W1) (hR : w.heap.size < R) (t1 : Two W1 w.heap.size (.int .i64 0) (.int .i64 0)) (o1 o2 o3 : Obj) :
    ((((W1.setCell ⟨R, j, none⟩ (.int .i64 val)).alloc o1).alloc o2).alloc o3).ownsRow b 3 1 (.slice (some ⟨R, 0, none⟩) m m) m (iv (xs.set j val)) ∧
    Below w.heap.size w ((((W1.setCell ⟨R, j, none⟩ (.int .i64 val)).alloc o1).alloc o2).alloc o3) ∧
    Two ((((W1.setCell ⟨R, j, none⟩ (.int .i64 val)).alloc o1).alloc o2).alloc o3) w.heap.size (.int .i64 0) (.int .i64 0) := by
  have hst := h.stored j (.int .i64 val)
  rw [iv_set] at hst
  have hz := hb.size
  refine ⟨((hst.1.alloc _).alloc _).alloc _, (((hb.grown hst.2 hz (fun r e => by injection e with e; omega)).alloc (by simp; omega) _).alloc (by simp; omega) _).alloc (by simp; omega) _, ?_⟩
  exact (((t1.grown hst.2 (by omega)).below ((Below.refl _ _).alloc (Nat.le_refl _) _)).below ((Below.refl _ _).alloc (Nat.le_refl _) _)).below ((Below.refl _ _).alloc (Nat.le_refl _) _)
/-- the boxes of the instruction and of the form behind the call of outside -/
theorem pat_boxes {W1 W3 : World} {R j : Nat} {val x y nm q kv p i : Value} {t1 t2 t3 : TypeId} (hb : Below ((((W1.setCell ⟨R, j, none⟩ val).alloc (.cells #[x, y] t1)).alloc (.cells #[p, i] t2)).alloc (.cells #[nm, q, kv] t3)).heap.size ((((W1.setCell ⟨R, j, none⟩ val).alloc (.cells #[x, y] t1)).alloc (.cells #[p, i] t2)).alloc (.cells #[nm, q, kv] t3)) W3) :
    W3.cell? ⟨W1.heap.size, 1, none⟩ = some y ∧ (W3.cell? ⟨W1.heap.size + 1 + 1, 0, none⟩ = some nm ∧ W3.cell? ⟨W1.heap.size + 1 + 1, 1, none⟩ = some q ∧ W3.cell? ⟨W1.heap.size + 1 + 1, 2, none⟩ = some kv) := by
  have hz : W1.heap.size + 1 + 1 < ((((W1.setCell ⟨R, j, none⟩ val).alloc (.cells #[x, y] t1)).alloc (.cells #[p, i] t2)).alloc (.cells #[nm, q, kv] t3)).heap.size := by simp
  have t := (Two.new (W1.setCell ⟨R, j, none⟩ val) x y t1)
  have t' := (t.below ((Below.refl _ _).alloc (Nat.le_refl _) (.cells #[p, i] t2))).below ((Below.refl _ _).alloc (Nat.le_refl _) (.cells #[nm, q, kv] t3))
  rw [World.size_setCell] at t'
  obtain ⟨V, hV⟩ : ∃ V, V = ((W1.setCell ⟨R, j, none⟩ val).alloc (.cells #[x, y] t1)).alloc (.cells #[p, i] t2) := ⟨_, rfl⟩
  have hs : V.heap.size = W1.heap.size + 1 + 1 := by rw [hV]; simp
  rw [← hV] at hb t' hz
  rw [← hs] at hz ⊢
  refine ⟨(t'.below hb).2.1, ?_, ?_, ?_⟩
  · exact (hb.cell (p := ⟨V.heap.size, 0, none⟩) hz).trans (by simp)
  · exact (hb.cell (p := ⟨V.heap.size, 1, none⟩) hz).trans (by simp)
  · exact (hb.cell (p := ⟨V.heap.size, 2, none⟩) hz).trans (by simp)
theorem row_block {w : World} {B g n c : Nat} {e : TypeId} {xs : List Value} (h : w.ownsRow B e 1 (.slice (some ⟨g, 0, none⟩) n c) n xs) : ∃ cur : List Value, w.heap[g]? = some (.cells cur.toArray e (0, 0)) ∧ cur.length = c ∧ cur.take n = xs ∧ (n ≤ c ∧ c ≤ maxLen ∧ B ≤ g) := by
  rcases h.2 with ⟨h', _⟩ | ⟨g', cap, cur, h', hb, hg, h1, h2, h3, h4⟩
  · simp at h'
  · simp only [Value.slice.injEq, Option.some.injEq, Addr.mk.injEq, and_true, true_and] at h'
    obtain ⟨rfl, rfl⟩ := h'
    exact ⟨cur.toList, by rw [Array.toArray_toList]; exact hg, by rw [Array.length_toList, h3]; omega, by rw [Nat.mul_one] at h4; exact h4, h1, h2, hb⟩
theorem block_row {w : World} {B g n c : Nat} {e : TypeId} {cur : List Value} (hg : w.heap[g]? = some (.cells cur.toArray e (0, 0))) (h1 : cur.length = c) (h2 : n ≤ c) (h3 : c ≤ maxLen) (hB : B ≤ g) : w.ownsRow B e 1 (.slice (some ⟨g, 0, none⟩) n c) n (cur.take n) :=
  ⟨by rw [List.length_take]; omega, .inr ⟨g, c, cur.toArray, rfl, hB, hg, h2, h3, by simp; omega, by simp⟩⟩
theorem row_cell {w : World} {B g n c : Nat} {e : TypeId} {xs : List Value} (h : w.ownsRow B e 1 (.slice (some ⟨g, 0, none⟩) n c) n xs) : ∀ j u, xs[j]? = some u → w.cell? ((⟨g, 0, none⟩ : Addr).add j) = some u := by
  intro j u hu
  have hj : j < xs.length := (List.getElem?_eq_some_iff.1 hu).1
  have ea : (⟨g, 0, none⟩ : Addr).add j = ⟨g, j, none⟩ := by
    unfold Addr.add
    split
    · rename_i h0; rw [h0]
    · simp
  rw [ea, h.cellAt j (by rw [← h.1]; exact hj), hu]
theorem splice_take {α : Type} (L cs : List α) (a : Nat) {n : Nat} (h : a + cs.length ≤ n) (hL : n ≤ L.length) : (splice L a cs).take n = splice (L.take n) a cs := by
  unfold splice
  apply List.ext_getElem?
  intro j
  rw [List.getElem?_take, List.getElem?_append, List.getElem?_append, List.getElem?_append, List.getElem?_append]
  simp only [List.length_take, List.getElem?_take, List.getElem?_drop, show min a L.length = a by omega, show min a (min n L.length) = a by omega]
  repeat' split
  all_goals (first | rfl | omega | (congr 1; omega) | (exfalso; omega))
theorem splice_bv (l bl : List UInt8) (a : Nat) : splice (bv l) a (bv bl) = bv (l.take a ++ bl ++ l.drop (a + bl.length)) := by
  unfold splice bv
  simp [List.map_take, List.map_drop]
theorem pat_keep {W : World} {R j b o : Nat} {v : Value} {f : Frm} (h : FrmCells W b o f) (hne : b < R) : FrmCells (W.setCell ⟨R, j, none⟩ v) b o f :=
  ⟨(grown_set W R j v).cell h.1 (by simp; omega), (grown_set W R j v).cell h.2.1 (by simp; omega), (grown_set W R j v).cell h.2.2 (by simp; omega)⟩
def patW (W1 : World) (k : Int) (R n : Nat) : World := (W1.alloc (.cells #[.int .i64 k, .slice (some ⟨R, 0, none⟩) n n] 34)).alloc (.cells #[.int .i64 0, .int .i64 0] 27)
theorem patW_below (W1 : World) (k : Int) (R n : Nat) : Below W1.heap.size W1 (patW W1 k R n) := ((Below.refl _ _).alloc (Nat.le_refl _) _).alloc (by simp) _
theorem patW_ins (W1 : World) (k : Int) (R n : Nat) : Two (patW W1 k R n) W1.heap.size (.int .i64 k) (.slice (some ⟨R, 0, none⟩) n n) := (Two.new W1 _ _ _).below ((Below.refl _ _).alloc (Nat.le_refl _) _)
theorem patW_fault (W1 : World) (k : Int) (R n : Nat) : Two (patW W1 k R n) (W1.heap.size + 1) (.int .i64 0) (.int .i64 0) := by
  have := Two.new (W1.alloc (.cells #[.int .i64 k, .slice (some ⟨R, 0, none⟩) n n] 34)) (.int .i64 0) (.int .i64 0) 27
  rw [World.size_alloc] at this
  exact this

end Go.Proofs.YtcngpciblbdgbaaGreatDoor
