/- Contract of Patch, and of slices.Clone. Conditions: the table reads as forms; the code reads as bytes. -/
import Derived.Laws.CopyOwn
import Derived.WalkSpells
import Derived.Test.YtianmiipnlkihaaEncL
namespace Go.Proofs.Ytianmiipnlkihaa
open Go Go.RowKit Go.Shelf

theorem bv_one (l : List UInt8) : ∀ u ∈ bv l, u.oneCell' = true := by
  intro u hu
  simp only [bv, List.mem_map] at hu
  obtain ⟨x, _, rfl⟩ := hu
  rfl
theorem bv_cells {B : Nat} {w : World} {b o n c : Nat} {l : List UInt8} (h : BytesAt B w (.slice (some ⟨b, o, none⟩) n c) l) : ∀ j u, (bv l)[j]? = some u → w.cell? ((⟨b, o, none⟩ : Addr).add j) = some u := by
  intro j u hu
  have hj : j < l.length := by have := (List.getElem?_eq_some_iff.1 hu).1; rwa [bv_length] at this
  obtain ⟨A, c', e, _, h3⟩ := h
  injection e with e1
  subst e1
  obtain ⟨b', o', e, _, hc⟩ := h3 (by omega)
  injection e with e
  injection e with e4 e5
  subst e4
  subst e5
  have ea : (⟨b, o, none⟩ : Addr).add j = ⟨b, o + j, none⟩ := by
    unfold Addr.add
    split
    · rename_i h0; rw [h0]; rfl
    · rfl
  rw [ea, hc j hj, ← hu, bv_at l j hj]
/-- an owned row that is not empty lies somewhere -/
theorem row_some {w : World} {B n size : Nat} {e : TypeId} {v : Value} {xs : List Value} (h : w.ownsRow B e size v n xs) (h0 : 0 < n) : ∃ g c, v = .slice (some ⟨g, 0, none⟩) n c ∧ n ≤ c := by
  rcases h.2 with ⟨_, h'⟩ | ⟨g, cap, _, h1, _, _, h2, _⟩
  · omega
  · exact ⟨g, cap, h1, h2⟩
theorem pat_row {w : World} {b R m j : Nat} {xs : List Int} (h : w.ownsRow b 3 1 (.slice (some ⟨R, 0, none⟩) m m) m (iv xs)) (hl : xs.length = m) (hj : j < m) : w.cell? ⟨R, j, none⟩ = some (.int .i64 (xs[j]?.getD 0)) ∧ w.frozen? ⟨R, j, none⟩ = false := ⟨iv_cell h j (by omega), h.frozenAt j⟩
set_option maxHeartbeats 400000 in
theorem clone_any (B : Nat) (v : Value) (l : List UInt8) (w : World) (h : BytesAt B w v l) (hB : B ≤ w.heap.size) (h0 : 0 < l.length) :
    Calls Try.prog 32 #[v] w fun e w' => ∃ g c, e = .returned (.slice (some ⟨g, 0, none⟩) l.length c) ∧ l.length ≤ c ∧ w'.ownsRow w.heap.size 5 1 (.slice (some ⟨g, 0, none⟩) l.length c) l.length (bv l) ∧ Below w.heap.size w w' := by
  obtain ⟨i0, hi, hz0, hz1, hz2⟩ := info_parts infoByte
  have hnil := fun (w : World) (a : Option Addr) (n c : Nat) => Lib.run_eql_slice_nil (P := Try.prog) w 27 5 a n c 0 0 Try.underlying27
  have hb0 : Below w.heap.size w (w.alloc (.cells #[] 5)) := (Below.refl _ _).alloc (Nat.le_refl _) _
  have h1 := h.below (hb0.mono hB)
  obtain ⟨A, n, c, rfl, Hl, ⟨hn, hc⟩, hcc⟩ := h.opens
  rw [Hl.out] at h0 ⊢
  obtain ⟨b, o, rfl, _⟩ := hcc h0
  have hcells := bv_cells h1
  have hlen : (bv l).length = n * 1 := by rw [bv_length, Hl.out]; omega
  have hown : (w.alloc (.cells #[] 5)).ownsRow w.heap.size 5 1 (.slice (some ⟨w.heap.size, 0, none⟩) 0 0) 0 [] := World.ownsRow_lit w #[] 0 (Nat.le_refl _) (by unfold maxLen; omega) rfl
  have Hown := Lib.hid hown
  have Hcells := Lib.hid hcells
  have Hlen := Lib.hid hlen
  clear h h1 hcc hcells hown hlen
  go_enter Try.func32, Try.ntmps32
  go_wp2_with (at_builtin; refine wpList_append_own _ rfl (.tmp 5) (.tmp 6) 27 rfl w.heap.size 5 i0 _ 1 1 Try.underlying27 hi hz0 hz1 hz2 (by rfl) (by decide) (.slice (some ⟨w.heap.size, 0, none⟩) 0 0) 0 [] rfl Hown.out ⟨b, o, none⟩ n c (bv l) rfl Hlen.out Hcells.out (bv_one l) (by unfold maxLen; omega) (by omega) (by simp) ?_; intro v' W2 hrow hg hnil2)
  have hgb := (hb0.grown hg (by simp) (fun r e => by injection e with e; subst e; exact Nat.le_refl _))
  rw [Nat.zero_add, List.nil_append] at hrow
  obtain ⟨g, c', rfl, hc'⟩ := row_some hrow h0
  refine bodyPost_ret (v := .slice (some ⟨g, 0, none⟩) n c') (by simp [results, Try.results32, go_sem]) rfl ⟨g, c', rfl, hc', hrow, hgb⟩

/-! ## Patch -/
theorem box_fault (w : World) : Two (w.alloc (.cells #[.int .i64 0, .int .i64 0] 29)) w.heap.size (.int .i64 0) (.int .i64 0) := Two.new w _ _ _
theorem Two.grown {W W' : World} {R S : Nat} {x y : Value} (h : Two W R x y) (hg : W.grownBy W' (some S)) (hne : R ≠ S) : Two W' R x y :=
  ⟨hg.cell h.1 (by simp; omega), hg.cell h.2.1 (by simp; omega), (World.frozen?_of_block (a := ⟨R, 0, none⟩) (hg.block R h.lt (by simp; omega))).trans h.2.2.1, (World.frozen?_of_block (a := ⟨R, 1, none⟩) (hg.block R h.lt (by simp; omega))).trans h.2.2.2⟩
/-- behind the store of the new argument, and the boxes beside -/
theorem pat_after {w W1 : World} {b R m j : Nat} {xs : List Int} {val : Int} (h : W1.ownsRow b 3 1 (.slice (some ⟨R, 0, none⟩) m m) m (iv xs)) (hb : Below w.heap.size w W1) (hR : w.heap.size < R) (t1 : Two W1 w.heap.size (.int .i64 0) (.int .i64 0)) (o1 o2 o3 : Obj) :
    ((((W1.setCell ⟨R, j, none⟩ (.int .i64 val)).alloc o1).alloc o2).alloc o3).ownsRow b 3 1 (.slice (some ⟨R, 0, none⟩) m m) m (iv (xs.set j val)) ∧
    Below w.heap.size w ((((W1.setCell ⟨R, j, none⟩ (.int .i64 val)).alloc o1).alloc o2).alloc o3) ∧
    Two ((((W1.setCell ⟨R, j, none⟩ (.int .i64 val)).alloc o1).alloc o2).alloc o3) w.heap.size (.int .i64 0) (.int .i64 0) := by
  have hst := h.stored j (.int .i64 val)
  rw [iv_set] at hst
  have hz := hb.size
  refine ⟨((hst.1.alloc _).alloc _).alloc _, (((hb.grown hst.2 hz (fun r e => by injection e with e; omega)).alloc (by simp; omega) _).alloc (by simp; omega) _).alloc (by simp; omega) _, ?_⟩
  exact (((t1.grown hst.2 (by omega)).below ((Below.refl _ _).alloc (Nat.le_refl _) _)).below ((Below.refl _ _).alloc (Nat.le_refl _) _)).below ((Below.refl _ _).alloc (Nat.le_refl _) _)
/-- the boxes of the instruction and of the form behind the call of outside -/
theorem pat_boxes {W1 W3 : World} {R j : Nat} {val x y nm q kv p i : Value} {t1 t2 t3 : TypeId} (hb : Below ((((W1.setCell ⟨R, j, none⟩ val).alloc (.cells #[x, y] t1)).alloc (.cells #[p, i] t2)).alloc (.cells #[nm, q, kv] t3)).heap.size ((((W1.setCell ⟨R, j, none⟩ val).alloc (.cells #[x, y] t1)).alloc (.cells #[p, i] t2)).alloc (.cells #[nm, q, kv] t3)) W3) :
    W3.cell? ⟨W1.heap.size, 1, none⟩ = some y ∧ (W3.cell? ⟨W1.heap.size + 1 + 1, 0, none⟩ = some nm ∧ W3.cell? ⟨W1.heap.size + 1 + 1, 1, none⟩ = some q ∧ W3.cell? ⟨W1.heap.size + 1 + 1, 2, none⟩ = some kv) := by
  have hz : W1.heap.size + 1 + 1 < ((((W1.setCell ⟨R, j, none⟩ val).alloc (.cells #[x, y] t1)).alloc (.cells #[p, i] t2)).alloc (.cells #[nm, q, kv] t3)).heap.size := by simp
  have t := (Two.new (W1.setCell ⟨R, j, none⟩ val) x y t1)
  have t' := (t.below ((Below.refl _ _).alloc (Nat.le_refl _) (.cells #[p, i] t2))).below ((Below.refl _ _).alloc (Nat.le_refl _) (.cells #[nm, q, kv] t3))
  rw [World.size_setCell] at t'
  obtain ⟨V, hV⟩ : ∃ V, V = ((W1.setCell ⟨R, j, none⟩ val).alloc (.cells #[x, y] t1)).alloc (.cells #[p, i] t2) := ⟨_, rfl⟩
  have hs : V.heap.size = W1.heap.size + 1 + 1 := by rw [hV]; simp
  rw [← hV] at hb t' hz
  rw [← hs] at hz ⊢
  refine ⟨(t'.below hb).2.1, ?_, ?_, ?_⟩
  · exact (hb.cell (p := ⟨V.heap.size, 0, none⟩) hz).trans (by simp)
  · exact (hb.cell (p := ⟨V.heap.size, 1, none⟩) hz).trans (by simp)
  · exact (hb.cell (p := ⟨V.heap.size, 2, none⟩) hz).trans (by simp)
theorem row_block {w : World} {B g n c : Nat} {e : TypeId} {xs : List Value} (h : w.ownsRow B e 1 (.slice (some ⟨g, 0, none⟩) n c) n xs) : ∃ cur : List Value, w.heap[g]? = some (.cells cur.toArray e (0, 0)) ∧ cur.length = c ∧ cur.take n = xs ∧ (n ≤ c ∧ c ≤ maxLen ∧ B ≤ g) := by
  rcases h.2 with ⟨h', _⟩ | ⟨g', cap, cur, h', hb, hg, h1, h2, h3, h4⟩
  · simp at h'
  · simp only [Value.slice.injEq, Option.some.injEq, Addr.mk.injEq, and_true, true_and] at h'
    obtain ⟨rfl, rfl⟩ := h'
    exact ⟨cur.toList, by rw [Array.toArray_toList]; exact hg, by rw [Array.length_toList, h3]; omega, by rw [Nat.mul_one] at h4; exact h4, h1, h2, hb⟩
theorem block_row {w : World} {B g n c : Nat} {e : TypeId} {cur : List Value} (hg : w.heap[g]? = some (.cells cur.toArray e (0, 0))) (h1 : cur.length = c) (h2 : n ≤ c) (h3 : c ≤ maxLen) (hB : B ≤ g) : w.ownsRow B e 1 (.slice (some ⟨g, 0, none⟩) n c) n (cur.take n) :=
  ⟨by rw [List.length_take]; omega, .inr ⟨g, c, cur.toArray, rfl, hB, hg, h2, h3, by simp; omega, by simp⟩⟩
theorem row_cell {w : World} {B g n c : Nat} {e : TypeId} {xs : List Value} (h : w.ownsRow B e 1 (.slice (some ⟨g, 0, none⟩) n c) n xs) : ∀ j u, xs[j]? = some u → w.cell? ((⟨g, 0, none⟩ : Addr).add j) = some u := by
  intro j u hu
  have hj : j < xs.length := (List.getElem?_eq_some_iff.1 hu).1
  have ea : (⟨g, 0, none⟩ : Addr).add j = ⟨g, j, none⟩ := by
    unfold Addr.add
    split
    · rename_i h0; rw [h0]
    · simp
  rw [ea, h.cellAt j (by rw [← h.1]; exact hj), hu]
theorem splice_take {α : Type} (L cs : List α) (a : Nat) {n : Nat} (h : a + cs.length ≤ n) (hL : n ≤ L.length) : (splice L a cs).take n = splice (L.take n) a cs := by
  unfold splice
  apply List.ext_getElem?
  intro j
  rw [List.getElem?_take, List.getElem?_append, List.getElem?_append, List.getElem?_append, List.getElem?_append]
  simp only [List.length_take, List.getElem?_take, List.getElem?_drop, show min a L.length = a by omega, show min a (min n L.length) = a by omega]
  repeat' split
  all_goals (first | rfl | omega | (congr 1; omega) | (exfalso; omega))
theorem splice_bv (l bl : List UInt8) (a : Nat) : splice (bv l) a (bv bl) = bv (l.take a ++ bl ++ l.drop (a + bl.length)) := by
  unfold splice bv
  simp [List.map_take, List.map_drop]
theorem pat_keep {W : World} {R j b o : Nat} {v : Value} {f : Frm} (h : FrmCells W b o f) (hne : b < R) : FrmCells (W.setCell ⟨R, j, none⟩ v) b o f :=
  ⟨(grown_set W R j v).cell h.1 (by simp; omega), (grown_set W R j v).cell h.2.1 (by simp; omega), (grown_set W R j v).cell h.2.2 (by simp; omega)⟩
set_option maxHeartbeats 800000 in
theorem patch_bad (v : Value) (cv : Value) (A : Option Addr) (n c : Nat) (A2 : Option Addr) (n2 c2 : Nat) (hv : v = .slice A n c) (hcv : cv = .slice A2 n2 c2) (at_ arg val p i : Int) (w : World) (hne : p ≠ 0)
    (D : ∀ W, Below w.heap.size w W → Calls Try.prog 12 #[v, cv, .int .i64 at_] W fun e w' => e = .returned (.tuple #[noIns, .int .i64 0, faultV (p, i)]) ∧ Below W.heap.size W w') :
    Calls Try.prog 18 #[v, cv, .int .i64 at_, .int .i64 arg, .int .i64 val] w fun e w' => e = .returned (.tuple #[.slice none 0 0, faultV (p, i)]) ∧ Below w.heap.size w w' := by
  subst hv
  subst hcv
  have hp : (p == 0) = false := by simpa using hne
  have HD := Lib.hid D
  have T1 := Lib.hid (box_fault w)
  have hbw : Below w.heap.size w (w.alloc (.cells #[.int .i64 0, .int .i64 0] 29)) := (Below.refl _ _).alloc (Nat.le_refl _) _
  have Hbw := Lib.hid hbw
  clear D hne hbw
  go_enter Try.func18, Try.ntmps18
  go_wp2_with (go_at_call 12; refine (HD.out _ Hbw.out).mono ?_; rintro e W1 ⟨rfl, hb1⟩; obtain ⟨r4, r5, r6, r7⟩ := T1.out.below hb1; have hR1 := (T1.out.below hb1).lt)
  obtain ⟨W2, hW2⟩ : ∃ W2, W2 = (W1.alloc (.cells #[.int .i64 0, .slice none 0 0] 25)).alloc (.cells #[.int .i64 p, .int .i64 i] 29) := ⟨_, rfl⟩
  have hb2 : Below W1.heap.size W1 W2 := by rw [hW2]; exact ((Below.refl _ _).alloc (Nat.le_refl _) _).alloc (by simp) _
  obtain ⟨q0, q1, _, _⟩ : Two W2 (W1.heap.size + 1) (.int .i64 p) (.int .i64 i) := by
    have := Two.new (W1.alloc (.cells #[.int .i64 0, .slice none 0 0] 25)) (.int .i64 p) (.int .i64 i) 29
    rw [World.size_alloc] at this
    rw [hW2]; exact this
  obtain ⟨s4, s5, s6, s7⟩ := (show Two W1 _ _ _ from ⟨r4, r5, r6, r7⟩).below hb2
  have hbR : Below w.heap.size w W2 := (Hbw.out.trans (hb1.mono Hbw.out.size)).trans (hb2.mono (Nat.le_trans Hbw.out.size hb1.size))
  rw [← hW2]
  clear hW2 r4 r5 r6 r7
  go_still_tail 2, (by kernel_rfl)
  change wpList _ _ _ _ _ W2.drew
  go_wp2
  refine bodyPost_ret (v := .tuple #[.slice none 0 0, faultV (p, i)]) ?_ rfl ⟨rfl, ?_⟩
  · simp [results, Try.results18, go_sem, s4, s5]
  · exact ((hbR.setCell (p := ⟨w.heap.size, 0, none⟩) (Nat.le_refl _) _).setCell (p := ⟨w.heap.size, 1, none⟩) (Nat.le_refl _) _).drew

/-- what lies behind Decode in Patch: the boxes of the instruction and of the fault -/
def patW (W1 : World) (k : Int) (R n : Nat) : World := (W1.alloc (.cells #[.int .i64 k, .slice (some ⟨R, 0, none⟩) n n] 25)).alloc (.cells #[.int .i64 0, .int .i64 0] 29)
theorem patW_below (W1 : World) (k : Int) (R n : Nat) : Below W1.heap.size W1 (patW W1 k R n) := ((Below.refl _ _).alloc (Nat.le_refl _) _).alloc (by simp) _
theorem patW_ins (W1 : World) (k : Int) (R n : Nat) : Two (patW W1 k R n) W1.heap.size (.int .i64 k) (.slice (some ⟨R, 0, none⟩) n n) := (Two.new W1 _ _ _).below ((Below.refl _ _).alloc (Nat.le_refl _) _)
theorem patW_fault (W1 : World) (k : Int) (R n : Nat) : Two (patW W1 k R n) (W1.heap.size + 1) (.int .i64 0) (.int .i64 0) := by
  have := Two.new (W1.alloc (.cells #[.int .i64 k, .slice (some ⟨R, 0, none⟩) n n] 25)) (.int .i64 0) (.int .i64 0) 29
  rw [World.size_alloc] at this
  exact this

set_option maxHeartbeats 800000 in
theorem patch_low (v cv : Value) (A : Option Addr) (n c : Nat) (A2 : Option Addr) (n2 c2 : Nat) (hv : v = .slice A n c) (hcv : cv = .slice A2 n2 c2) (at_ arg val : Int) (k m sz : Nat) (xs : List Int) (w : World) (ha : arg < 0)
    (D : ∀ W, Below w.heap.size w W → Calls Try.prog 12 #[v, cv, .int .i64 at_] W fun e w' => ∃ R, e = .returned (.tuple #[.agg #[.int .i64 (k : Int), .slice (some ⟨R, 0, none⟩) m m], .int .i64 (sz : Nat), faultV (0, 0)]) ∧ w'.ownsRow W.heap.size 3 1 (.slice (some ⟨R, 0, none⟩) m m) m (iv xs) ∧ Below W.heap.size W w') :
    Calls Try.prog 18 #[v, cv, .int .i64 at_, .int .i64 arg, .int .i64 val] w fun e w' => e = .returned (.tuple #[.slice none 0 0, faultV (3, -6)]) ∧ Below w.heap.size w w' := by
  subst hv
  subst hcv
  have hd : decide (arg < 0) = true := by simpa using ha
  have HD := Lib.hid D
  have T1 := Lib.hid (box_fault w)
  have hbw : Below w.heap.size w (w.alloc (.cells #[.int .i64 0, .int .i64 0] 29)) := (Below.refl _ _).alloc (Nat.le_refl _) _
  have Hbw := Lib.hid hbw
  clear D hbw
  go_enter Try.func18, Try.ntmps18
  go_wp2_with (go_at_call 12; refine (HD.out _ Hbw.out).mono ?_; rintro e W1 ⟨R, rfl, hrow, hb1⟩; obtain ⟨r4, r5, r6, r7⟩ := T1.out.below hb1; have hR1 := (T1.out.below hb1).lt)
  have hbR := Hbw.out.trans (hb1.mono Hbw.out.size)
  refine bodyPost_ret (v := .tuple #[.slice none 0 0, faultV (3, -6)]) ?_ rfl ⟨rfl, ?_⟩
  · obtain ⟨e0, e1⟩ := two_set (x := .int .i64 3) (y := .int .i64 (-6)) r4 r5
    simp [results, Try.results18, go_sem, cell_alloc_l _ (cell_alloc_l _ e0), cell_alloc_l _ (cell_alloc_l _ e1)]
  · exact (((hbR.setCell (p := ⟨w.heap.size, 0, none⟩) (Nat.le_refl _) _).setCell (p := ⟨w.heap.size, 1, none⟩) (Nat.le_refl _) _).alloc (by simp; omega) _).alloc (by simp; omega) _

set_option maxHeartbeats 800000 in
theorem patch_high (v cv : Value) (A : Option Addr) (n c : Nat) (A2 : Option Addr) (n2 c2 : Nat) (hv : v = .slice A n c) (hcv : cv = .slice A2 n2 c2) (at_ arg val : Int) (k m sz : Nat) (xs : List Int) (w : World) (ha : (m : Int) ≤ arg)
    (D : ∀ W, Below w.heap.size w W → Calls Try.prog 12 #[v, cv, .int .i64 at_] W fun e w' => ∃ R, e = .returned (.tuple #[.agg #[.int .i64 (k : Int), .slice (some ⟨R, 0, none⟩) m m], .int .i64 (sz : Nat), faultV (0, 0)]) ∧ w'.ownsRow W.heap.size 3 1 (.slice (some ⟨R, 0, none⟩) m m) m (iv xs) ∧ Below W.heap.size W w') :
    Calls Try.prog 18 #[v, cv, .int .i64 at_, .int .i64 arg, .int .i64 val] w fun e w' => e = .returned (.tuple #[.slice none 0 0, faultV (3, -6)]) ∧ Below w.heap.size w w' := by
  subst hv
  subst hcv
  have hd : decide (arg < 0) = false := by simp; omega
  have hd2 : decide ((m : Int) ≤ arg) = true := by simpa using ha
  have HD := Lib.hid D
  have T1 := Lib.hid (box_fault w)
  have hbw : Below w.heap.size w (w.alloc (.cells #[.int .i64 0, .int .i64 0] 29)) := (Below.refl _ _).alloc (Nat.le_refl _) _
  have Hbw := Lib.hid hbw
  clear D hbw
  go_enter Try.func18, Try.ntmps18
  go_wp2_with (go_at_call 12; refine (HD.out _ Hbw.out).mono ?_; rintro e W1 ⟨R, rfl, hrow, hb1⟩; obtain ⟨r4, r5, r6, r7⟩ := T1.out.below hb1; have hR1 := (T1.out.below hb1).lt)
  have hbR := Hbw.out.trans (hb1.mono Hbw.out.size)
  refine bodyPost_ret (v := .tuple #[.slice none 0 0, faultV (3, -6)]) ?_ rfl ⟨rfl, ?_⟩
  · obtain ⟨e0, e1⟩ := two_set (x := .int .i64 3) (y := .int .i64 (-6)) r4 r5
    simp [results, Try.results18, go_sem, cell_alloc_l _ (cell_alloc_l _ e0), cell_alloc_l _ (cell_alloc_l _ e1)]
  · exact (((hbR.setCell (p := ⟨w.heap.size, 0, none⟩) (Nat.le_refl _) _).setCell (p := ⟨w.heap.size, 1, none⟩) (Nat.le_refl _) _).alloc (by simp; omega) _).alloc (by simp; omega) _

set_option maxHeartbeats 2000000 in
theorem patch_far (B : Nat) (v cv : Value) (fs : List Frm) (A2 : Option Addr) (n2 c2 : Nat) (hcv : cv = .slice A2 n2 c2) (at_ val : Int) (j k sz : Nat) (f : Frm) (xs : List Int) (w : World) (h : FormsAt B w v fs) (hB : B ≤ w.heap.size) (ht : tableFault fs = (0, 0)) (hx : fs[k]? = some f) (hl : xs.length = f.kinds.length) (hj : j < f.kinds.length)
    (ho : 0 ≤ outIdx f.kinds (xs.set j val)) (D : ∀ W, Below w.heap.size w W → Calls Try.prog 12 #[v, cv, .int .i64 at_] W fun e w' => ∃ R, e = .returned (.tuple #[.agg #[.int .i64 (k : Int), .slice (some ⟨R, 0, none⟩) f.kinds.length f.kinds.length], .int .i64 (sz : Nat), faultV (0, 0)]) ∧ w'.ownsRow W.heap.size 3 1 (.slice (some ⟨R, 0, none⟩) f.kinds.length f.kinds.length) f.kinds.length (iv xs) ∧ Below W.heap.size W w') :
    Calls Try.prog 18 #[v, cv, .int .i64 at_, .int .i64 (j : Int), .int .i64 val] w fun e w' => e = .returned (.tuple #[.slice none 0 0, faultV (16, -7)]) ∧ Below w.heap.size w w' := by
  subst hcv
  have hfm := List.mem_of_getElem? hx
  have hkf := h.kinds hfm
  have hok := valid_form ht hfm
  have h4 := hok.short
  have hlx : (xs.set j val).length = f.kinds.length := by simpa using hl
  have E : ∀ (W : World) (b R : Nat), Below w.heap.size w W → W.ownsRow b 3 1 (.slice (some ⟨R, 0, none⟩) f.kinds.length f.kinds.length) f.kinds.length (iv (xs.set j val)) → Calls Try.prog 25 #[f.kv, .slice (some ⟨R, 0, none⟩) f.kinds.length f.kinds.length] W fun e w' => e = .returned (.int .i64 (outIdx f.kinds (xs.set j val))) ∧ Below W.heap.size W w' := fun W b R hW hr =>
    outside_any W.heap.size _ _ _ _ W ((hkf.below (hW.mono hB)).more (Nat.le_trans hB hW.size)) (kinds_of_row hr (by omega)) (Nat.le_refl _) hlx h4 hok.known
  obtain ⟨g, hg⟩ := Int.eq_ofNat_of_zero_le ho
  rw [hg] at E
  obtain ⟨A, n, c, rfl, hfs, ⟨hn, _⟩, _, hc⟩ := h.opens
  have hkn : k < n := by rw [← hfs.out]; exact (List.getElem?_eq_some_iff.1 hx).1
  obtain ⟨b1, o1, rfl, hb1', gg⟩ := hc (by omega)
  have Hg := Lib.hid (gg k f hx)
  obtain ⟨nm, q, kv, ks⟩ := f
  obtain ⟨A3, n3, c3, e3, Hl3, hn3, _⟩ := hkf.opens
  dsimp only at e3 hl hj h4 hlx
  subst e3
  simp only [Hl3.out] at D E hj h4
  have Hl := Lib.hid (hl.trans Hl3.out)
  have HD := Lib.hid D
  have HE := Lib.hid E
  have T1 := Lib.hid (box_fault w)
  have hbw : Below w.heap.size w (w.alloc (.cells #[.int .i64 0, .int .i64 0] 29)) := (Below.refl _ _).alloc (Nat.le_refl _) _
  have Hbw := Lib.hid hbw
  clear D E hbw h ht hx hl hfm hkf hok hlx ho hg hc gg
  go_enter Try.func18, Try.ntmps18
  go_wp2_with (first
    | (go_at_call 12; refine (HD.out _ Hbw.out).mono ?_; rintro e W1 ⟨R, rfl, hrow, hb1⟩; obtain ⟨r4, r5, r6, r7⟩ := T1.out.below hb1; have hR1 := (T1.out.below hb1).lt; have hbR := Hbw.out.trans (hb1.mono Hbw.out.size); obtain ⟨d1, d2, d3⟩ := Hg.out.below (hbR.mono hB) hb1'; have z1 : b1 < W1.heap.size := (by have := hbR.size; omega); have m1 := pat_row hrow Hl.out hj; have z2 := (hrow.lt R rfl).2; have Hrow := Lib.hid hrow; clear hrow; obtain ⟨m2, m3⟩ := m1; obtain ⟨d4, d5, d6⟩ := pat_keep (R := R) (j := j) (v := .int .i64 val) (show FrmCells W1 b1 (o1 + k * 3) ⟨nm, q, .slice A3 n3 c3, ks⟩ from ⟨d1, d2, d3⟩) (by have := (Hrow.out.lt R rfl).1; simp at this; omega); have T1b := Lib.hid (show Two W1 w.heap.size (.int .i64 0) (.int .i64 0) from ⟨r4, r5, r6, r7⟩))
    | (go_at_call 25; obtain ⟨n1, n2, n3⟩ := pat_after (j := j) (val := val) Hrow.out hbR (by have := (Hrow.out.lt R rfl).1; simp at this; omega) T1b.out _ _ _; refine (HE.out _ _ R n2 n1).mono ?_; rintro e W3 ⟨rfl, hb3⟩; obtain ⟨s4, s5, s6, s7⟩ := n3.below hb3; have z3 : w.heap.size < W3.heap.size := block_lt_of_cell s4; have hb3w := n2.trans (hb3.mono n2.size)))
  refine bodyPost_ret (v := .tuple #[.slice none 0 0, faultV (16, -7)]) ?_ rfl ⟨rfl, ?_⟩
  · obtain ⟨e0, e1⟩ := two_set (x := .int .i64 16) (y := .int .i64 (-7)) s4 s5
    simp [results, Try.results18, go_sem, e0, e1]
  · exact (hb3w.setCell (p := ⟨w.heap.size, 0, none⟩) (Nat.le_refl _) _).setCell (p := ⟨w.heap.size, 1, none⟩) (Nat.le_refl _) _

set_option maxHeartbeats 2000000 in
theorem patch_ok (B : Nat) (v cv : Value) (fs : List Frm) (l : List UInt8) (at_ : Nat) (val : Int) (j k sz : Nat) (f : Frm) (xs : List Int) (w : World) (h : FormsAt B w v fs) (hcv : BytesAt B w cv l) (hB : B ≤ w.heap.size) (ht : tableFault fs = (0, 0)) (hx : fs[k]? = some f) (hl : xs.length = f.kinds.length) (hj : j < f.kinds.length)
    (ho : outIdx f.kinds (xs.set j val) = -1) (hsz : sizeOf f.kinds = sz) (ha : at_ + sz ≤ l.length) (D : ∀ W, Below w.heap.size w W → Calls Try.prog 12 #[v, cv, .int .i64 (at_ : Int)] W fun e w' => ∃ R, e = .returned (.tuple #[.agg #[.int .i64 (k : Int), .slice (some ⟨R, 0, none⟩) f.kinds.length f.kinds.length], .int .i64 (sz : Nat), faultV (0, 0)]) ∧ w'.ownsRow W.heap.size 3 1 (.slice (some ⟨R, 0, none⟩) f.kinds.length f.kinds.length) f.kinds.length (iv xs) ∧ Below W.heap.size W w') :
    Calls Try.prog 18 #[v, cv, .int .i64 (at_ : Int), .int .i64 (j : Int), .int .i64 val] w fun e w' => ∃ g c, e = .returned (.tuple #[.slice (some ⟨g, 0, none⟩) l.length c, faultV (0, 0)]) ∧ l.length ≤ c ∧
      w'.ownsRow w.heap.size 5 1 (.slice (some ⟨g, 0, none⟩) l.length c) l.length (bv (l.take at_ ++ encL f.code (f.kinds.zip (xs.set j val)) ++ l.drop (at_ + sz))) ∧ Below w.heap.size w w' := by
  have hfm := List.mem_of_getElem? hx
  have hkf := h.kinds hfm
  have hok := valid_form ht hfm
  have h4 := hok.short
  have hlx : (xs.set j val).length = f.kinds.length := by simpa using hl
  have hnm : f.name.size ≤ 140737488351232 := by obtain ⟨_, _, _, _, h3, _⟩ := h; exact (h3 f hfm).2
  have E : ∀ (W : World) (b R : Nat), Below w.heap.size w W → W.ownsRow b 3 1 (.slice (some ⟨R, 0, none⟩) f.kinds.length f.kinds.length) f.kinds.length (iv (xs.set j val)) → Calls Try.prog 25 #[f.kv, .slice (some ⟨R, 0, none⟩) f.kinds.length f.kinds.length] W fun e w' => e = .returned (.int .i64 (-1)) ∧ Below W.heap.size W w' := fun W b R hW hr => by
    have := outside_any W.heap.size _ _ _ _ W ((hkf.below (hW.mono hB)).more (Nat.le_trans hB hW.size)) (kinds_of_row hr (by omega)) (Nat.le_refl _) hlx h4 hok.known
    rw [ho] at this
    exact this
  have F0 : ∀ (W : World) (b R : Nat), Below w.heap.size w W → W.ownsRow b 3 1 (.slice (some ⟨R, 0, none⟩) f.kinds.length f.kinds.length) f.kinds.length (iv (xs.set j val)) → Calls Try.prog 26 #[f.val, .slice (some ⟨R, 0, none⟩) f.kinds.length f.kinds.length] W fun e w' => ∃ R', e = .returned (.slice (some ⟨R', 0, none⟩) sz sz) ∧ w'.ownsRow W.heap.size 5 1 (.slice (some ⟨R', 0, none⟩) sz sz) sz (bv (encL f.code (f.kinds.zip (xs.set j val)))) ∧ Below W.heap.size W w' := fun W b R hW hr => by
    have := encoding_any W.heap.size f _ _ W ((hkf.below (hW.mono hB)).more (Nat.le_trans hB hW.size)) (kinds_of_row hr (by omega)) (Nat.le_refl _) hnm hok hlx (inside_of_idx hlx ho)
    rw [hsz] at this
    exact this
  have hs1 : 1 ≤ sz := by rw [← hsz]; unfold sizeOf; omega
  have hbl : (encL f.code (f.kinds.zip (xs.set j val))).length = sz := by rw [encL_length hlx, hsz]
  generalize encL f.code (f.kinds.zip (xs.set j val)) = bl at *
  have G := fun (W : World) (hW : Below w.heap.size w W) => clone_any B cv l W (hcv.below (hW.mono hB)) (Nat.le_trans hB hW.size) (by omega)
  obtain ⟨A2, n2, c2, rfl, H2, ⟨hn2, hc2⟩, _⟩ := hcv.opens
  rw [H2.out] at ha G
  have hHl2 := H2.out
  obtain ⟨A, n, c, rfl, hfs, ⟨hn, _⟩, _, hc⟩ := h.opens
  have hkn : k < n := by rw [← hfs.out]; exact (List.getElem?_eq_some_iff.1 hx).1
  obtain ⟨b1, o1, rfl, hb1', gg⟩ := hc (by omega)
  have Hg := Lib.hid (gg k f hx)
  obtain ⟨nm, q, kv, ks⟩ := f
  obtain ⟨A3, n3, c3, e3, Hl3, hn3, _⟩ := hkf.opens
  dsimp only at e3 hl hj h4 hlx hsz
  dsimp only [Frm.val] at F0
  subst e3
  simp only [Hl3.out] at D E F0 hj h4
  rw [H2.out]
  have Hl := Lib.hid (hl.trans Hl3.out)
  have HD := Lib.hid D
  have HE := Lib.hid E
  have HF := Lib.hid F0
  have HG := Lib.hid G
  have Hbl := Lib.hid hbl
  have T1 := Lib.hid (box_fault w)
  have hbw : Below w.heap.size w (w.alloc (.cells #[.int .i64 0, .int .i64 0] 29)) := (Below.refl _ _).alloc (Nat.le_refl _) _
  have Hbw := Lib.hid hbw
  clear D E F0 G hbw h ht hx hl hfm hkf hok hlx ho hc gg hcv hnm hsz hbl hHl2
  go_enter Try.func18, Try.ntmps18
  go_wp2_with (first
    | (go_at_call 12; refine (HD.out _ Hbw.out).mono ?_; rintro e W1 ⟨R, rfl, hrow, hb1⟩; obtain ⟨r4, r5, r6, r7⟩ := T1.out.below hb1; have hR1 := (T1.out.below hb1).lt; have hbR := Hbw.out.trans (hb1.mono Hbw.out.size); obtain ⟨d1, d2, d3⟩ := Hg.out.below (hbR.mono hB) hb1'; have z1 : b1 < W1.heap.size := (by have := hbR.size; omega); have m1 := pat_row hrow Hl.out hj; have z2 := (hrow.lt R rfl).2; have Hrow := Lib.hid hrow; clear hrow; obtain ⟨m2, m3⟩ := m1; obtain ⟨d4, d5, d6⟩ := pat_keep (R := R) (j := j) (v := .int .i64 val) (show FrmCells W1 b1 (o1 + k * 3) ⟨nm, q, .slice A3 n3 c3, ks⟩ from ⟨d1, d2, d3⟩) (by have := (Hrow.out.lt R rfl).1; simp at this; omega); have T1b := Lib.hid (show Two W1 w.heap.size (.int .i64 0) (.int .i64 0) from ⟨r4, r5, r6, r7⟩))
    | (go_at_call 25; obtain ⟨n1, nn2, nn3⟩ := pat_after (j := j) (val := val) Hrow.out hbR (by have := (Hrow.out.lt R rfl).1; simp at this; omega) T1b.out _ _ _; refine (HE.out _ _ R nn2 n1).mono ?_; rintro e W3 ⟨rfl, hb3⟩; have P3 := Lib.hid (pat_boxes hb3); have N3 := Lib.hid (nn3.below hb3); have R3 := Lib.hid (n1.kept (grown_none hb3) (.inr (by simp [Value.ownBlock]))); have hb3w := nn2.trans (hb3.mono nn2.size))
    | (go_at_call 32; refine (HG.out _ hb3w).mono ?_; rintro e W4 ⟨g, cg, rfl, hcg, hrow4, hb4⟩))
  have hb34 : Below W3.heap.size W3 W4 := hb4
  obtain ⟨p1, p2, p3, p4⟩ := P3.out
  have c0 : W4.cell? ⟨W1.heap.size, 1, none⟩ = some (.slice (some ⟨R, 0, none⟩) n3 n3) := (hb34.cell (p := ⟨W1.heap.size, 1, none⟩) (block_lt_of_cell p1)).trans p1
  have c1 : W4.cell? ⟨W1.heap.size + 1 + 1, 0, none⟩ = some (.string nm) := (hb34.cell (p := ⟨W1.heap.size + 1 + 1, 0, none⟩) (block_lt_of_cell p2)).trans p2
  have c2' : W4.cell? ⟨W1.heap.size + 1 + 1, 1, none⟩ = some (.int .i64 q) := (hb34.cell (p := ⟨W1.heap.size + 1 + 1, 1, none⟩) (block_lt_of_cell p3)).trans p3
  have c3' : W4.cell? ⟨W1.heap.size + 1 + 1, 2, none⟩ = some (.slice A3 n3 c3) := (hb34.cell (p := ⟨W1.heap.size + 1 + 1, 2, none⟩) (block_lt_of_cell p4)).trans p4
  have N4 := N3.out.below hb34
  have hbR4 := hb3w.trans (hb34.mono hb3w.size)
  have R4 := Lib.hid (R3.out.kept (grown_none hb34) (.inr (by simp [Value.ownBlock])))
  have Hrow4 := Lib.hid hrow4
  have hXW : W1.heap.size < W4.heap.size := block_lt_of_cell c0
  have hXW2 : W1.heap.size + 1 + 1 < W4.heap.size := block_lt_of_cell c1
  have hat : at_ ≤ n2 := by omega
  have hac : ¬ cg = at_ := by omega
  have HN4 := Lib.hid N4
  have h43 : w.heap.size < W3.heap.size := N3.out.lt
  clear p1 p2 p3 p4 hrow4 d1 d2 d3 d4 d5 d6 r4 r5 r6 r7 m2 m3 N4
  refine wp_region_held (S := fun V => V.cell? ⟨W1.heap.size, 1, none⟩ = some (.slice (some ⟨R, 0, none⟩) n3 n3) ∧ V.cell? ⟨W1.heap.size + 1 + 1, 0, none⟩ = some (.string nm) ∧ V.cell? ⟨W1.heap.size + 1 + 1, 1, none⟩ = some (.int .i64 q) ∧ V.cell? ⟨W1.heap.size + 1 + 1, 2, none⟩ = some (.slice A3 n3 c3)) (by kernel_rfl) ?_
  have hS : W4.drew.cell? ⟨W1.heap.size, 1, none⟩ = some (.slice (some ⟨R, 0, none⟩) n3 n3) ∧ W4.drew.cell? ⟨W1.heap.size + 1 + 1, 0, none⟩ = some (.string nm) ∧ W4.drew.cell? ⟨W1.heap.size + 1 + 1, 1, none⟩ = some (.int .i64 q) ∧ W4.drew.cell? ⟨W1.heap.size + 1 + 1, 2, none⟩ = some (.slice A3 n3 c3) := ⟨c0, c1, c2', c3'⟩
  change wpAnyH _ _ _ _ _ _ _ _ W4.drew
  refine wpAnyH_take (i := 0) (v := ?_) rfl (by kernel_rfl) (by kernel_rfl) (by kernel_rfl) (fun _ _ _ h => h) (Or.inl ⟨by rfl, ?_⟩) hS ?_
  rotate_left
  · rintro W' ⟨s0, s1, s2, s3⟩; go_simp; rfl
  simp [Act.put]
  refine wpAnyH_take (i := 1) (v := ?_) rfl (by kernel_rfl) (by kernel_rfl) (by kernel_rfl) (fun _ _ _ h => h) (Or.inl ⟨by rfl, ?_⟩) hS ?_
  rotate_left
  · rintro W' ⟨s0, s1, s2, s3⟩; go_simp; rfl
  simp [Act.put]
  refine wpAnyH_take (i := 2) (v := ?_) rfl (by kernel_rfl) (by kernel_rfl) (by kernel_rfl) (fun _ _ _ h => h) (Or.inl ⟨by rfl, ?_⟩) hS ?_
  rotate_left
  · rintro W' ⟨s0, s1, s2, s3⟩; go_simp; rfl
  simp [Act.put]
  refine wpAnyH_take (i := 3) (v := ?_) rfl (by kernel_rfl) (by kernel_rfl) (by kernel_rfl) (fun _ _ _ h => h) (Or.inl ⟨by rfl, ?_⟩) hS ?_
  rotate_left
  · rintro W' ⟨s0, s1, s2, s3⟩; go_simp; rfl
  simp [Act.put]
  refine wpAnyH_take (i := 4) (v := ?_) rfl (by kernel_rfl) (by kernel_rfl) (by kernel_rfl) (fun _ _ _ h => h) (Or.inl ⟨by rfl, ?_⟩) hS ?_
  rotate_left
  · rintro W' ⟨s0, s1, s2, s3⟩; go_simp; rfl
  simp [Act.put]
  refine wpAnyH_take (i := 5) (v := ?_) rfl (by kernel_rfl) (by kernel_rfl) (by kernel_rfl) (fun _ _ _ h => h) (Or.inl ⟨by rfl, ?_⟩) hS ?_
  rotate_left
  · rintro W' ⟨s0, s1, s2, s3⟩; go_simp; rfl
  simp [Act.put]
  refine wpAnyH_ready (rs := [6]) (by kernel_rfl) (by simp) ?_
  refine AllReadyH.cons rfl (fun K hK => ?_) AllReadyH.nil
  go_simp
  refine (HF.out _ _ R hbR4.drew R4.out.drew).mono ?_
  rintro e W5 ⟨R5, rfl, hrow5, hb5⟩
  have hrb5 := hrow5.lt R5 rfl
  have hg4 := Hrow4.out.lt g rfl
  have hgR : W3.heap.size ≤ g := hg4.1
  have hb45 : Below W4.heap.size W4 W5 := (Below.refl _ _).drew.trans hb5
  have N5 := HN4.out.below hb45
  have hbR5 := hbR4.trans (hb45.mono hbR4.size)
  have hn1 : W1.heap.size < g := by have : W1.heap.size < W3.heap.size := block_lt_of_cell P3.out.1; omega
  have hn2' : W1.heap.size + 1 + 1 < g := by have : W1.heap.size + 1 + 1 < W3.heap.size := block_lt_of_cell P3.out.2.1; omega
  have e0 : W5.cell? ⟨W1.heap.size, 1, none⟩ = some (.slice (some ⟨R, 0, none⟩) n3 n3) := (hb45.cell (p := ⟨W1.heap.size, 1, none⟩) hXW).trans c0
  have e1 : W5.cell? ⟨W1.heap.size + 1 + 1, 0, none⟩ = some (.string nm) := (hb45.cell (p := ⟨W1.heap.size + 1 + 1, 0, none⟩) hXW2).trans c1
  have e2 : W5.cell? ⟨W1.heap.size + 1 + 1, 1, none⟩ = some (.int .i64 q) := (hb45.cell (p := ⟨W1.heap.size + 1 + 1, 1, none⟩) hXW2).trans c2'
  have e3 : W5.cell? ⟨W1.heap.size + 1 + 1, 2, none⟩ = some (.slice A3 n3 c3) := (hb45.cell (p := ⟨W1.heap.size + 1 + 1, 2, none⟩) hXW2).trans c3'
  have hrow45 := Hrow4.out.kept (grown_none hb45) (.inr (by simp [Value.ownBlock]))
  obtain ⟨cur, hcur, hcl, hct, hcm⟩ := row_block hrow45
  have H5 := Lib.hid hrow5
  have HN5 := Lib.hid N5
  have HE0 := Lib.hid e0
  refine hK.out _ _ ⟨e0, e1, e2, e3⟩ (fun _ => ?_)
  clear hK K hS c0 c1 c2' c3' hb5 hrow5 N5
  try simp [Act.put]
  refine wpAnyH_ready (rs := [7]) (by kernel_rfl) (by simp) ?_
  refine AllReadyH.cons rfl (fun K hK => ?_) AllReadyH.nil
  refine step_copy_splice rfl (.tmp 60) (.tmp 64) 27 27 rfl 5 Try.underlying27 (by kernel_rfl) (some ⟨g, at_, none⟩) (some ⟨R5, 0, none⟩) (n2 - at_) (cg - at_) sz sz rfl rfl g at_ cur 5 hcur (bv bl) (by rw [bv_length, Hbl.out]; exact (Nat.min_eq_left (by omega)).symm) (fun _ => ⟨rfl, _, rfl, fun jj u hu => row_cell H5.out jj u hu⟩) (by rw [bv_length, Hbl.out, hcl]; omega) (bv_one bl) g W5 (Below.refl _ _) (Nat.le_refl _) ?_
  intro W6 hW6 hb6
  refine hK.out _ _ ⟨(hb6.cell (p := ⟨W1.heap.size, 1, none⟩) hn1).trans e0, (hb6.cell (p := ⟨W1.heap.size + 1 + 1, 0, none⟩) hn2').trans e1, (hb6.cell (p := ⟨W1.heap.size + 1 + 1, 1, none⟩) hn2').trans e2, (hb6.cell (p := ⟨W1.heap.size + 1 + 1, 2, none⟩) hn2').trans e3⟩ (fun _ => ?_)
  clear hK K e0 e1 e2 e3
  refine wpAnyH_done (by kernel_rfl) ?_ _
  have hNg : w.heap.size < g := by omega
  obtain ⟨t4, t5, t6, t7⟩ := HN5.out
  have s4 : W6.cell? ⟨w.heap.size, 0, none⟩ = some (.int .i64 0) := (hb6.cell (p := ⟨w.heap.size, 0, none⟩) hNg).trans t4
  have s5 : W6.cell? ⟨w.heap.size, 1, none⟩ = some (.int .i64 0) := (hb6.cell (p := ⟨w.heap.size, 1, none⟩) hNg).trans t5
  have s6 : W6.frozen? ⟨w.heap.size, 0, none⟩ = false := (hb6.frozen (p := ⟨w.heap.size, 0, none⟩) hNg).trans t6
  have s7 : W6.frozen? ⟨w.heap.size, 1, none⟩ = false := (hb6.frozen (p := ⟨w.heap.size, 1, none⟩) hNg).trans t7
  have hbR6 : Below w.heap.size w W6 := hbR5.trans (hb6.mono (by omega))
  have y6 : w.heap.size < W6.heap.size := block_lt_of_cell s4
  have hrow6 := block_row (n := n2) (B := w.heap.size) hW6.out (by rw [length_splice _ _ _ (by rw [bv_length, Hbl.out, hcl]; omega), hcl]) hcm.1 hcm.2.1 (by omega)
  rw [splice_take _ _ _ (by rw [bv_length, Hbl.out]; omega) (by omega), hct, splice_bv, Hbl.out] at hrow6
  have Hrow6 := Lib.hid hrow6
  clear hrow6 hct hcl hcm hcur t4 t5 t6 t7
  simp [Act.put]
  go_wp2
  have k1 := grown_set W6 w.heap.size 0 (.int .i64 0)
  have k2 := grown_set (W6.setCell ⟨w.heap.size, 0, none⟩ (.int .i64 0)) w.heap.size 1 (.int .i64 0)
  have hne : (Value.slice (some ⟨g, 0, none⟩) n2 cg).ownBlock = none ∨ (Value.slice (some ⟨g, 0, none⟩) n2 cg).ownBlock ≠ some w.heap.size := .inr (by simp [Value.ownBlock]; omega)
  refine bodyPost_ret (v := .tuple #[.slice (some ⟨g, 0, none⟩) n2 cg, faultV (0, 0)]) ?_ rfl ⟨g, cg, rfl, hcg, (Hrow6.out.kept k1 hne).kept k2 hne, ?_⟩
  · obtain ⟨e0, e1⟩ := two_set (x := .int .i64 0) (y := .int .i64 0) s4 s5
    simp [results, Try.results18, go_sem, e0, e1]
  · exact (hbR6.setCell (p := ⟨w.heap.size, 0, none⟩) (Nat.le_refl _) _).setCell (p := ⟨w.heap.size, 1, none⟩) (Nat.le_refl _) _
end Go.Proofs.Ytianmiipnlkihaa
