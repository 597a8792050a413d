/- What NodeValue reads and keeps; pure facts on the value of one node. -/
import Derived.Test.YtchpkdpefpiegaaDoorExZL
namespace Go.Proofs.YtchpkdpefpiegaaDoor.Tok
open Go Go.RowKit

/-! ## rows of linear values -/
def lnC (a : Ln) : List Value := [strV a.sym, strV a.minus, .int .i64 a.num]
def lnv (vs : List Ln) : List Value := vs.flatMap lnC
theorem lnv_snoc (vs : List Ln) (a : Ln) : lnv (vs ++ [a]) = lnv vs ++ lnC a := by simp [lnv]
theorem lnv_length (vs : List Ln) : (lnv vs).length = vs.length * 3 := by
  induction vs with
  | nil => rfl
  | cons a r ih => rw [lnv, List.flatMap_cons, List.length_append]; rw [lnv] at ih; rw [ih]; simp [lnC]; omega
theorem lnv_at {vs : List Ln} {j : Nat} {a : Ln} (h : vs[j]? = some a) : ∀ i, i < 3 → (lnv vs)[j * 3 + i]? = (lnC a)[i]? := by
  induction vs generalizing j with
  | nil => simp at h
  | cons x r ih =>
    intro i hi
    rw [lnv, List.flatMap_cons]
    cases j with
    | zero =>
      have hx : x = a := by simpa using h
      subst hx
      rw [Nat.zero_mul, Nat.zero_add, List.getElem?_append_left (by simp [lnC]; omega)]
    | succ j =>
      have hj : r[j]? = some a := by simpa using h
      have h2 := ih hj i hi
      rw [List.getElem?_append_right (by simp [lnC]; omega)]
      have : (j + 1) * 3 + i - (lnC x).length = j * 3 + i := by simp [lnC]; omega
      rw [this]
      exact h2
def LnCells (w : World) (b o : Nat) (a : Ln) : Prop := w.cell? ⟨b, o, none⟩ = some (strV a.sym) ∧ w.cell? ⟨b, o + 1, none⟩ = some (strV a.minus) ∧ w.cell? ⟨b, o + 2, none⟩ = some (.int .i64 a.num)
/-- the slice value v reads as the linear values vs; its cells lie below block B -/
def LnsAt (B : Nat) (w : World) (v : Value) (vs : List Ln) : Prop :=
  ∃ A c, v = .slice A vs.length c ∧ vs.length ≤ c ∧ (0 < vs.length → ∃ b o, A = some ⟨b, o, none⟩ ∧ b < B ∧ ∀ j y, vs[j]? = some y → LnCells w b (o + j * 3) y)
theorem LnCells.below {B : Nat} {w w' : World} {b o : Nat} {a : Ln} (h : LnCells w b o a) (hb : Below B w w') (hlt : b < B) : LnCells w' b o a :=
  ⟨(hb.cell (p := ⟨b, o, none⟩) hlt).trans h.1, (hb.cell (p := ⟨b, o + 1, none⟩) hlt).trans h.2.1, (hb.cell (p := ⟨b, o + 2, none⟩) hlt).trans h.2.2⟩
theorem LnsAt.opens {B : Nat} {w : World} {v : Value} {vs : List Ln} (h : LnsAt B w v vs) : ∃ A n c, v = .slice A n c ∧ Hid (vs.length = n) ∧ n ≤ c ∧ Hid (0 < n → ∃ b o, A = some ⟨b, o, none⟩ ∧ b < B ∧ ∀ j y, vs[j]? = some y → LnCells w b (o + j * 3) y) := by
  obtain ⟨A, c, h1, h2, h3⟩ := h
  exact ⟨A, _, c, h1, Lib.hid rfl, h2, Lib.hid h3⟩
theorem LnsAt.nil (w : World) : LnsAt 0 w (.slice none 0 0) [] := ⟨none, 0, rfl, by simp, fun h => absurd h (by simp)⟩
theorem lns_of_row {w : World} {B n : Nat} {v : Value} {vs : List Ln} (h : w.ownsRow B 40 3 v n (lnv vs)) : LnsAt w.heap.size w v vs := by
  have hl : vs.length = n := by have := h.1; rw [lnv_length] at this; omega
  rcases h.2 with ⟨rfl, h0⟩ | ⟨g, cap, cur, rfl, hB, hcap, h3, h4⟩
  · subst h0
    have hl : vs = [] := List.eq_nil_of_length_eq_zero hl
    subst hl
    exact ⟨none, 0, rfl, by simp, fun h => absurd h (by simp)⟩
  · refine ⟨_, cap, by rw [hl], by omega, fun _ => ⟨g, 0, rfl, (h.lt g rfl).2, fun j y hj => ?_⟩⟩
    have hj2 : j < vs.length := (List.getElem?_eq_some_iff.1 hj).1
    have hat := lnv_at hj
    rw [Nat.zero_add]
    exact ⟨(h.cellAt (j * 3) (by omega)).trans (hat 0 (by decide)), (h.cellAt (j * 3 + 1) (by omega)).trans (hat 1 (by decide)), (h.cellAt (j * 3 + 2) (by omega)).trans (hat 2 (by decide))⟩
/-! ## the boxes -/
def nvW (w : World) (x : Nd) (o : Ln) : World := ((w.alloc (.cells #[strV [], strV [], .int .i64 0] 40)).alloc (.cells #[.int .i64 x.kind, .int .i64 x.val, strV x.name, .int .i64 x.left, .int .i64 x.right] 59)).alloc (.cells #[strV o.sym, strV o.minus, .int .i64 o.num] 40)
structure NvB (w0 : World) (x : Nd) (o : Ln) (w : World) : Prop where
  r : w.heap[w0.heap.size]? = some (.cells #[strV [], strV [], .int .i64 0] 40 (0, 0))
  nd : w.heap[w0.heap.size + 1]? = some (.cells #[.int .i64 x.kind, .int .i64 x.val, strV x.name, .int .i64 x.left, .int .i64 x.right] 59 (0, 0))
  o : w.heap[w0.heap.size + 2]? = some (.cells #[strV o.sym, strV o.minus, .int .i64 o.num] 40 (0, 0))
  low : Below w0.heap.size w0 w
theorem nvW_box (w : World) (x : Nd) (o : Ln) : NvB w x o (nvW w x o) :=
  ⟨heap_allocL _ (heap_allocL _ (heap_alloc_new _ _)), heap_allocL _ (heap_new1 _ _ _), heap_new2 _ _ _ _, (((Below.refl _ _).alloc (Nat.le_refl _) _).alloc (by simp) _).alloc (by simp; omega) _⟩
section
variable {w0 w w' : World} {x : Nd} {o : Ln}
theorem NvB.up (h : NvB w0 x o w) (hb : Below w.heap.size w w') : NvB w0 x o w' :=
  ⟨(hb.block _ (lt_of_block h.r)).trans h.r, (hb.block _ (lt_of_block h.nd)).trans h.nd, (hb.block _ (lt_of_block h.o)).trans h.o, h.low.trans (hb.mono h.low.size)⟩
theorem NvB.set (h : NvB w0 x o w) (r : Ln) : NvB w0 x r (((w.setCell ⟨w0.heap.size + 2, 0, none⟩ (strV r.sym)).setCell ⟨w0.heap.size + 2, 1, none⟩ (strV r.minus)).setCell ⟨w0.heap.size + 2, 2, none⟩ (.int .i64 r.num)) := by
  have e1 := heap_setCell_same w (w0.heap.size + 2) 0 _ _ (strV r.sym) h.o
  have e2 := heap_setCell_same _ (w0.heap.size + 2) 1 _ _ (strV r.minus) e1
  have e3 := heap_setCell_same _ (w0.heap.size + 2) 2 _ _ (.int .i64 r.num) e2
  have ho : ∀ c, c ≠ w0.heap.size + 2 → (((w.setCell ⟨w0.heap.size + 2, 0, none⟩ (strV r.sym)).setCell ⟨w0.heap.size + 2, 1, none⟩ (strV r.minus)).setCell ⟨w0.heap.size + 2, 2, none⟩ (.int .i64 r.num)).heap[c]? = w.heap[c]? := fun c hc => by
    rw [heap_setCell_other _ _ _ _ hc, heap_setCell_other _ _ _ _ hc, heap_setCell_other _ _ _ _ hc]
  exact ⟨(ho _ (by omega)).trans h.r, (ho _ (by omega)).trans h.nd, e3, three_set h.low (by omega) _ _ _⟩
theorem NvB.num (h : NvB w0 x o w) (n : Int) : NvB w0 x ⟨o.sym, o.minus, n⟩ (w.setCell ⟨w0.heap.size + 2, 2, none⟩ (.int .i64 n)) := by
  have e1 := heap_setCell_same w (w0.heap.size + 2) 2 _ _ (.int .i64 n) h.o
  have ho : ∀ c, c ≠ w0.heap.size + 2 → (w.setCell ⟨w0.heap.size + 2, 2, none⟩ (.int .i64 n)).heap[c]? = w.heap[c]? := fun c hc => heap_setCell_other _ _ _ _ hc
  exact ⟨(ho _ (by omega)).trans h.r, (ho _ (by omega)).trans h.nd, e1, h.low.setCell (p := ⟨w0.heap.size + 2, 2, none⟩) (by show w0.heap.size ≤ w0.heap.size + 2; omega) _⟩
theorem NvB.opens (h : NvB w0 x o w) : ((w.cell? ⟨w0.heap.size, 0, none⟩ = some (strV []) ∧ w.cell? ⟨w0.heap.size, 1, none⟩ = some (strV []) ∧ w.cell? ⟨w0.heap.size, 2, none⟩ = some (.int .i64 0)) ∧
    (w.frozen? ⟨w0.heap.size, 0, none⟩ = false ∧ w.frozen? ⟨w0.heap.size, 1, none⟩ = false ∧ w.frozen? ⟨w0.heap.size, 2, none⟩ = false)) ∧
    (w.cell? ⟨w0.heap.size + 1, 0, none⟩ = some (.int .i64 x.kind) ∧ w.cell? ⟨w0.heap.size + 1, 1, none⟩ = some (.int .i64 x.val) ∧ w.cell? ⟨w0.heap.size + 1, 2, none⟩ = some (strV x.name) ∧ w.cell? ⟨w0.heap.size + 1, 3, none⟩ = some (.int .i64 x.left) ∧ w.cell? ⟨w0.heap.size + 1, 4, none⟩ = some (.int .i64 x.right)) ∧
    ((w.cell? ⟨w0.heap.size + 2, 0, none⟩ = some (strV o.sym) ∧ w.cell? ⟨w0.heap.size + 2, 1, none⟩ = some (strV o.minus) ∧ w.cell? ⟨w0.heap.size + 2, 2, none⟩ = some (.int .i64 o.num)) ∧
    (w.frozen? ⟨w0.heap.size + 2, 0, none⟩ = false ∧ w.frozen? ⟨w0.heap.size + 2, 1, none⟩ = false ∧ w.frozen? ⟨w0.heap.size + 2, 2, none⟩ = false)) ∧ w0.heap.size + 2 < w.heap.size := by
  obtain ⟨r1, r2, r3⟩ := cells_of h.r
  obtain ⟨q1, q2, q3⟩ := cells_of h.nd
  obtain ⟨p1, p2, p3⟩ := cells_of h.o
  exact ⟨⟨⟨r1 0 _ rfl, r1 1 _ rfl, r1 2 _ rfl⟩, r2 0, r2 1, r2 2⟩, ⟨q1 0 _ rfl, q1 1 _ rfl, q1 2 _ rfl, q1 3 _ rfl, q1 4 _ rfl⟩, ⟨⟨p1 0 _ rfl, p1 1 _ rfl, p1 2 _ rfl⟩, p2 0, p2 1, p2 2⟩, p3⟩
end
/-! ## the value of one node -/
theorem eval_one {x : Nd} {a b : Ln} {l : List Nm} (h : x.kind = 1) : evalL x a b l = (⟨[], [], x.val⟩, 0) := by unfold evalL; rw [if_pos h]
theorem eval_two {x : Nd} {a b : Ln} {l : List Nm} (h : x.kind = 2) : evalL x a b l = (lookL x.name l, 0) := by unfold evalL; rw [if_neg (by omega), if_pos h]
theorem eval_op {x : Nd} {a b : Ln} {l : List Nm} (h : 3 ≤ x.kind) : evalL x a b l = ((operL x.kind a b).1, if (operL x.kind a b).2 = 0 ∧ isOutL (operL x.kind a b).1.num = true then 10 else (operL x.kind a b).2) := by unfold evalL; rw [if_neg (by omega), if_neg (by omega)]
/-- a value, out of range or not -/
theorem node_some {x : Nd} {a b r : Ln} {l : List Nm} (h : 3 ≤ x.kind) (ho : operL x.kind a b = (r, 0)) : NodeOk (evalL x a b l) r (if isOutL r.num = true then 10 else 0) := by
  rw [eval_op h, ho]
  unfold NodeOk
  dsimp only
  cases isOutL r.num <;> simp
theorem node_bad {x : Nd} {a b : Ln} {l : List Nm} {c : Int} (h : 3 ≤ x.kind) (ho : (operL x.kind a b).2 = c) (hc : c ≠ 0) (u : Ln) : NodeOk (evalL x a b l) u c := by
  rw [eval_op h]
  unfold NodeOk
  dsimp only
  rw [ho, if_neg (fun e => hc e.1)]
  exact ⟨rfl, fun e => absurd e hc⟩
theorem look_cons (s : List UInt8) (m : Nm) (r : List Nm) : lookL s (m :: r) = if m.name = s then m.lin else lookL s r := by
  unfold lookL
  rw [List.find?_cons]
  by_cases h : m.name = s
  · rw [if_pos h, show (m.name == s) = true from by simp [h]]
  · rw [if_neg h, show (m.name == s) = false from beq_eq_false_iff_ne.2 h]
theorem look_in {l : List Nm} (h : ∀ m ∈ l, chkS m 0 = 0) (s : List UInt8) : InR (lookL s l).num := by
  unfold lookL
  split
  · rename_i m hm
    exact chk_sym (h m (List.mem_of_find?_eq_some hm))
  · exact ⟨show (-1099511627776 : Int) ≤ 0 by decide, show (0 : Int) ≤ 1099511627776 by decide⟩
theorem not_out {n : Int} : inB n (-1099511627776) 1099511627776 = !isOutL n := by
  unfold inB isOutL
  rw [Bool.eq_iff_iff]
  simp
theorem in_out {n : Int} (h : InR n) : isOutL n = false := by
  unfold isOutL
  obtain ⟨h1, h2⟩ := h
  simp; omega
end Go.Proofs.YtchpkdpefpiegaaDoor.Tok
