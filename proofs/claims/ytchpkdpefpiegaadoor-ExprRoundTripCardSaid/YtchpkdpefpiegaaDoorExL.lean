/- Contract of evaluate: the value of one node. Conditions: the readings; numbers within the range of values. -/
import Derived.Test.YtchpkdpefpiegaaDoorExJ
import Derived.Test.YtchpkdpefpiegaaDoorExK
namespace Go.Proofs.YtchpkdpefpiegaaDoor.Tok
open Go Go.RowKit

def evalL (n : Nd) (a b : Ln) (syms : List Nm) : Ln × Int :=
  if n.kind = 1 then (⟨[], [], n.val⟩, 0) else if n.kind = 2 then (lookL n.name syms, 0)
  else ((operL n.kind a b).1, if (operL n.kind a b).2 = 0 ∧ isOutL (operL n.kind a b).1.num = true then 10 else (operL n.kind a b).2)
/-- the boxes of evaluate: the node, the operands, the result -/
def Ev (w0 : World) (n : Nd) (a b : Ln) (w : World) : Prop :=
  w.heap[w0.heap.size]? = some (.cells #[.int .i64 n.kind, .int .i64 n.val, strV n.name, .int .i64 n.left, .int .i64 n.right] 59 (0, 0)) ∧
  w.heap[w0.heap.size + 1]? = some (.cells #[strV a.sym, strV a.minus, .int .i64 a.num, strV b.sym, strV b.minus, .int .i64 b.num] 70 (0, 0)) ∧
  w.heap[w0.heap.size + 1 + 1]? = some (.cells #[strV [], strV [], .int .i64 0] 40 (0, 0))
def evW (w : World) (n : Nd) (a b : Ln) : World := ((w.alloc (.cells #[.int .i64 n.kind, .int .i64 n.val, strV n.name, .int .i64 n.left, .int .i64 n.right] 59)).alloc (.cells #[strV a.sym, strV a.minus, .int .i64 a.num, strV b.sym, strV b.minus, .int .i64 b.num] 70)).alloc (.cells #[strV [], strV [], .int .i64 0] 40)
theorem heap_new1 (w : World) (o1 o2 : Obj) : ((w.alloc o1).alloc o2).heap[w.heap.size + 1]? = some o2 := by
  have := heap_alloc_new (w.alloc o1) o2
  rw [World.size_alloc] at this
  exact this
theorem heap_new2 (w : World) (o1 o2 o3 : Obj) : (((w.alloc o1).alloc o2).alloc o3).heap[w.heap.size + 1 + 1]? = some o3 := by
  have := heap_alloc_new ((w.alloc o1).alloc o2) o3
  rw [World.size_alloc, World.size_alloc] at this
  exact this
theorem evW_ev (w : World) (n : Nd) (a b : Ln) : Ev w n a b (evW w n a b) := ⟨heap_allocL _ (heap_allocL _ (heap_alloc_new _ _)), heap_allocL _ (heap_new1 _ _ _), heap_new2 _ _ _ _⟩
theorem evW_below (w : World) (n : Nd) (a b : Ln) : Below w.heap.size w (evW w n a b) := (((Below.refl _ _).alloc (Nat.le_refl _) _).alloc (by simp) _).alloc (by simp; omega) _
theorem Ev.up {w0 w w' : World} {n : Nd} {a b : Ln} (h : Ev w0 n a b w) (hb : Below w.heap.size w w') : Ev w0 n a b w' :=
  ⟨(hb.block _ (lt_of_block h.1)).trans h.1, (hb.block _ (lt_of_block h.2.1)).trans h.2.1, (hb.block _ (lt_of_block h.2.2)).trans h.2.2⟩
theorem Ev.res {w0 w : World} {n : Nd} {a b : Ln} (h : Ev w0 n a b w) : (w.cell? ⟨w0.heap.size + 1 + 1, 0, none⟩ = some (strV []) ∧ w.cell? ⟨w0.heap.size + 1 + 1, 1, none⟩ = some (strV []) ∧ w.cell? ⟨w0.heap.size + 1 + 1, 2, none⟩ = some (.int .i64 0)) ∧
    (w.frozen? ⟨w0.heap.size + 1 + 1, 0, none⟩ = false ∧ w.frozen? ⟨w0.heap.size + 1 + 1, 1, none⟩ = false ∧ w.frozen? ⟨w0.heap.size + 1 + 1, 2, none⟩ = false) ∧ w0.heap.size + 1 + 1 < w.heap.size := by
  obtain ⟨r1, r2, r3⟩ := cells_of h.2.2
  exact ⟨⟨r1 0 _ rfl, r1 1 _ rfl, r1 2 _ rfl⟩, ⟨r2 0, r2 1, r2 2⟩, r3⟩
theorem three_at {W : World} {R : Nat} {x y z u0 u1 u2 : Value} (h0 : W.cell? ⟨R, 0, none⟩ = some u0) (h1 : W.cell? ⟨R, 1, none⟩ = some u1) (h2 : W.cell? ⟨R, 2, none⟩ = some u2) :
    (((W.setCell ⟨R, 0, none⟩ x).setCell ⟨R, 1, none⟩ y).setCell ⟨R, 2, none⟩ z).cell? ⟨R, 0, none⟩ = some x ∧ (((W.setCell ⟨R, 0, none⟩ x).setCell ⟨R, 1, none⟩ y).setCell ⟨R, 2, none⟩ z).cell? ⟨R, 1, none⟩ = some y ∧ (((W.setCell ⟨R, 0, none⟩ x).setCell ⟨R, 1, none⟩ y).setCell ⟨R, 2, none⟩ z).cell? ⟨R, 2, none⟩ = some z := by
  obtain ⟨a0, a1⟩ := two_set (x := x) (y := y) h0 h1
  refine ⟨(World.cell?_setCell_other _ _ _ _ (by simp)).trans a0, (World.cell?_setCell_other _ _ _ _ (by simp)).trans a1, World.cell?_setCell_same' _ _ _ ?_⟩
  rw [World.cell?_setCell_other _ _ _ _ (by simp), World.cell?_setCell_other _ _ _ _ (by simp), h2]
  rfl
set_option maxRecDepth 100000 in
set_option maxHeartbeats 4000000 in
theorem evaluate_any (B : Nat) (v : Value) (l : List Nm) (n : Nd) (a b : Ln) (w : World) (h : NmsAt B w v l) (hB : B ≤ w.heap.size) (hk : 1 ≤ n.kind ∧ n.kind ≤ 14) (ha : a.Ok) (hb : b.Ok) :
    Calls Tryd.prog 37 #[n.v, .agg #[strV a.sym, strV a.minus, .int .i64 a.num, strV b.sym, strV b.minus, .int .i64 b.num], v] w fun e w' => e = .returned (.tuple #[(evalL n a b l).1.v, .int .i64 (evalL n a b l).2]) ∧ Below w.heap.size w w' := by
  have E0 := Lib.hid (show evalL n a b l = if n.kind = 1 then (⟨[], [], n.val⟩, 0) else if n.kind = 2 then (lookL n.name l, 0)
    else ((operL n.kind a b).1, if (operL n.kind a b).2 = 0 ∧ isOutL (operL n.kind a b).1.num = true then 10 else (operL n.kind a b).2) from rfl)
  have HE := Lib.hid (evW_ev w n a b)
  have HB0 := Lib.hid (evW_below w n a b)
  have CL := Lib.hid (fun W (hbw : Below w.heap.size w W) => lookUp_any B v l n.name W (h.below (hbw.mono hB)) (Nat.le_trans hB hbw.size))
  have CO := Lib.hid (fun W (hk3 : 3 ≤ n.kind) => operate_any n.kind a b W ⟨hk3, hk.2⟩ ha hb)
  obtain ⟨A, c, rfl⟩ : ∃ A c, v = .slice A l.length c := by obtain ⟨A, c, h1, -⟩ := h; exact ⟨A, c, h1⟩
  obtain ⟨k, vl, nm, le, ri⟩ := n
  unfold evW at HE HB0
  unfold Nd.v
  dsimp only at E0 HE HB0 CL CO hk ⊢
  clear h
  by_cases h1 : k = 1
  · subst h1
    have E := Lib.hid (E0.out.trans (if_pos rfl))
    clear E0 CL CO ha hb hk
    obtain ⟨⟨z0, z1, z2⟩, ⟨f0, f1, f2⟩, hR⟩ := HE.out.res
    go_enter Tryd.func37, Tryd.ntmps37
    go_wp2_with fail
    have hq := heap_new2 w (.cells #[.int .i64 1, .int .i64 vl, strV nm, .int .i64 le, .int .i64 ri] 59) (.cells #[strV a.sym, strV a.minus, .int .i64 a.num, strV b.sym, strV b.minus, .int .i64 b.num] 70) (.cells #[strV [], strV [], .int .i64 vl] 40)
    have y0 := (cells_of hq).1 0 _ rfl
    have y1 := (cells_of hq).1 1 _ rfl
    have y2 := (cells_of hq).1 2 _ rfl
    refine bodyPost_ret (v := .tuple #[.agg #[strV [], strV [], .int .i64 vl], .int .i64 0]) (by simp [results, Tryd.results37, go_sem, y0, y1, y2]) rfl ⟨?_, ?_⟩
    · rw [E.out]; rfl
    · exact (((Below.refl _ _).alloc (Nat.le_refl _) _).alloc (by simp) _).alloc (by simp; omega) _
  · have n1 : (k == 1) = false := beq_eq_false_iff_ne.2 h1
    by_cases h2 : k = 2
    · subst h2
      have E := Lib.hid (E0.out.trans ((if_neg h1).trans (if_pos rfl)))
      clear E0 CO ha hb hk
      go_enter Tryd.func37, Tryd.ntmps37
      go_wp2_with fail
      refine (CL.out _ HB0.out).mono ?_
      rintro e W1 ⟨rfl, hb1⟩
      obtain ⟨⟨z0, z1, z2⟩, ⟨f0, f1, f2⟩, hR⟩ := (HE.out.up hb1).res
      have HB1 := Lib.hid (HB0.out.trans (hb1.mono HB0.out.size))
      clear hb1
      generalize lookL nm l = r at E
      unfold Ln.v
      go_wp2_with fail
      refine bodyPost_ret (v := .tuple #[r.v, .int .i64 0]) (by unfold Ln.v; simp [results, Tryd.results37, go_sem, z0, z1, z2]) rfl ⟨?_, ?_⟩
      · rw [E.out]
      · exact three_set (R := w.heap.size + 1 + 1) HB1.out (by omega) _ _ _
    · have n2 : (k == 2) = false := beq_eq_false_iff_ne.2 h2
      have E1 := Lib.hid (E0.out.trans ((if_neg h1).trans (if_neg h2)))
      have C := Lib.hid (fun W => CO.out W (by omega))
      generalize operL k a b = r at C E1
      obtain ⟨r, cd⟩ := r
      unfold Ln.v at C
      dsimp only at C E1
      clear E0 CL CO ha hb hk
      go_enter Tryd.func37, Tryd.ntmps37
      go_wp2_with fail
      refine (C.out _).mono ?_
      rintro e W1 ⟨rfl, hb1⟩
      obtain ⟨⟨z0, z1, z2⟩, ⟨f0, f1, f2⟩, hR⟩ := (HE.out.up hb1).res
      have HB1 := Lib.hid (HB0.out.trans (hb1.mono HB0.out.size))
      clear hb1 C
      by_cases h0 : cd = 0
      · subst h0
        have C2 := Lib.hid (fun W => out_any r.num W)
        cases ho : isOutL r.num with
        | true =>
          rw [ho] at C2 E1
          have E := Lib.hid (E1.out.trans (show _ = (r, (10 : Int)) by simp))
          clear E1 ho
          go_wp2_with fail
          refine (C2.out _).mono ?_
          rintro e w' ⟨rfl, rfl⟩
          go_wp2_with fail
          obtain ⟨m0, m1, m2⟩ := three_at (x := strV r.sym) (y := strV r.minus) (z := .int .i64 r.num) z0 z1 z2
          have m0 := cell_alloc_l (.cells #[strV r.sym, strV r.minus, .int .i64 r.num] 40) m0
          have m1 := cell_alloc_l (.cells #[strV r.sym, strV r.minus, .int .i64 r.num] 40) m1
          have m2 := cell_alloc_l (.cells #[strV r.sym, strV r.minus, .int .i64 r.num] 40) m2
          refine bodyPost_ret (v := .tuple #[r.v, .int .i64 10]) (by unfold Ln.v; simp [results, Tryd.results37, go_sem, m0, m1, m2]) rfl ⟨?_, ?_⟩
          · rw [E.out]
          · exact (three_set (R := w.heap.size + 1 + 1) HB1.out (by omega) _ _ _).alloc (by simp <;> omega) _
        | false =>
          rw [ho] at C2 E1
          have E := Lib.hid (E1.out.trans (show _ = (r, (0 : Int)) by simp))
          clear E1 ho
          go_wp2_with fail
          refine (C2.out _).mono ?_
          rintro e w' ⟨rfl, rfl⟩
          go_wp2_with fail
          obtain ⟨m0, m1, m2⟩ := three_at (x := strV r.sym) (y := strV r.minus) (z := .int .i64 r.num) z0 z1 z2
          have m0 := cell_alloc_l (.cells #[strV r.sym, strV r.minus, .int .i64 r.num] 40) m0
          have m1 := cell_alloc_l (.cells #[strV r.sym, strV r.minus, .int .i64 r.num] 40) m1
          have m2 := cell_alloc_l (.cells #[strV r.sym, strV r.minus, .int .i64 r.num] 40) m2
          refine bodyPost_ret (v := .tuple #[r.v, .int .i64 0]) (by unfold Ln.v; simp [results, Tryd.results37, go_sem, m0, m1, m2]) rfl ⟨?_, ?_⟩
          · rw [E.out]
          · exact (three_set (R := w.heap.size + 1 + 1) HB1.out (by omega) _ _ _).alloc (by simp <;> omega) _
      · have E := Lib.hid (E1.out.trans (show _ = (r, cd) by rw [if_neg (fun h => h0 h.1)]))
        have h01 : (cd == 0) = false := beq_eq_false_iff_ne.2 h0
        clear h0 E1
        go_wp2_with fail
        obtain ⟨m0, m1, m2⟩ := three_at (x := strV r.sym) (y := strV r.minus) (z := .int .i64 r.num) z0 z1 z2
        have m0 := cell_alloc_l (.cells #[strV r.sym, strV r.minus, .int .i64 r.num] 40) m0
        have m1 := cell_alloc_l (.cells #[strV r.sym, strV r.minus, .int .i64 r.num] 40) m1
        have m2 := cell_alloc_l (.cells #[strV r.sym, strV r.minus, .int .i64 r.num] 40) m2
        refine bodyPost_ret (v := .tuple #[r.v, .int .i64 cd]) (by unfold Ln.v; simp [results, Tryd.results37, go_sem, m0, m1, m2]) rfl ⟨?_, ?_⟩
        · rw [E.out]
        · exact (three_set (R := w.heap.size + 1 + 1) HB1.out (by omega) _ _ _).alloc (by simp <;> omega) _
end Go.Proofs.YtchpkdpefpiegaaDoor.Tok
