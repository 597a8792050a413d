/- Contract of disasm.instruction for a text that has operands. Conditions: the table is valid and reads as forms, the text is short enough, the library's variables are laid. -/
import Derived.Test.YtcngpciblbdgbaaGreatDoorDisFK
import Derived.Test.YtcngpciblbdgbaaGreatDoorDisLR
/-! Contract of Read where it stops before the text is read: a table that is not valid, a text that is too long. Conditions: the table reads as forms. -/
namespace Go.Proofs.YtcngpciblbdgbaaGreatDoor
open Go Go.RowKit Go.Shelf
/-- the world behind the result's two boxes -/
def rdW (w : World) : World := (w.alloc (.cells #[.int .i64 0, .slice none 0 0] 34)).alloc (.cells #[.int .i64 0, .int .i64 0] 27)
theorem rdW_below (w : World) : Below w.heap.size w (rdW w) := two_more w _ _
theorem rdW_ins (w : World) : Two (rdW w) w.heap.size (.int .i64 0) (.slice none 0 0) := (Two.new w _ _ 34).below (one_more _ _)
theorem rdW_fault (w : World) : Two (rdW w) (w.heap.size + 1) (.int .i64 0) (.int .i64 0) := by
  have t := Two.new (w.alloc (.cells #[.int .i64 0, .slice none 0 0] 34)) (.int .i64 0) (.int .i64 0) 27
  rwa [World.size_alloc] at t
set_option maxRecDepth 100000 in
set_option maxHeartbeats 1000000 in
theorem read_table (B : Nat) (v : Value) (fs : List Frm) (s : ByteArray) (w : World) (h : FormsAt B w v fs) (hB : B ≤ w.heap.size) (p i : Int) (ht : tableFault fs = (p, i)) (hp : p ≠ 0) :
    Calls Tryz.prog 17 #[v, .string s] w fun e w' => e = .returned (.tuple #[noIns, faultV (p, i)]) ∧ Below w.heap.size w w' := by
  have HBX := Lib.hid (rdW_below w)
  have HT1 := Lib.hid (rdW_ins w)
  have HT2 := Lib.hid (rdW_fault w)
  have C := validate_any B v fs (rdW w) (h.below (HBX.out.mono hB)) (Nat.le_trans hB HBX.out.size)
  rw [ht] at C
  have HC := Lib.hid C
  have hpz : (p == 0) = false := by simpa using hp
  have hpn : (p != 0) = true := by simpa using hp
  clear C h ht
  go_enter Tryz.func17, Tryz.ntmps17
  go_wp2_with fail
  refine HC.out.mono ?_
  rintro e W1 ⟨rfl, hb1⟩
  have a3 := one_more W1 (.cells #[.int .i64 p, .int .i64 i] 27)
  have g := hb1.trans (a3.mono hb1.size)
  have q1 := HT1.out.below g
  have q2 := HT2.out.below g
  have u := Two.new W1 (.int .i64 p) (.int .i64 i) 27
  have hz1 := q1.lt
  have hz2 := q2.lt
  have hz3 := u.lt
  have HFN := Lib.hid (HBX.out.trans (g.mono HBX.out.size))
  have hx : w.heap.size + 1 < W1.heap.size := (HT2.out.below hb1).lt
  have n1 : ¬ w.heap.size = W1.heap.size := by omega
  have n2 : ¬ W1.heap.size = w.heap.size := by omega
  have n3 : ¬ w.heap.size + 1 = W1.heap.size := by omega
  have n4 : ¬ W1.heap.size = w.heap.size + 1 := by omega
  obtain ⟨q0, q1', q2', q3⟩ := q1
  obtain ⟨t0, t1, t2, t3⟩ := q2
  obtain ⟨u0, u1, u2, u3⟩ := u
  clear a3 g hb1 hx
  go_wp2_with fail
  obtain ⟨W2, hW2⟩ : ∃ W2, W2 = W1.alloc (.cells #[.int .i64 p, .int .i64 i] 27) := ⟨_, rfl⟩
  rw [← hW2] at q0 q1' q2' q3 t0 t1 t2 t3 u0 u1 u2 u3 hz1 hz2 hz3 HFN ⊢
  clear hW2
  go_region
  all_goals go_wp2
  all_goals
    refine bodyPost_ret (v := .tuple #[noIns, faultV (p, i)]) ?_ rfl ⟨rfl, ?_⟩
  · simp [results, Tryz.results17, go_sem, q0, q1', t0, t1]
  · exact ((((HFN.out.setCell (p := ⟨w.heap.size, 0, none⟩) (Nat.le_refl _) _).setCell (p := ⟨w.heap.size, 1, none⟩) (Nat.le_refl _) _).setCell (p := ⟨w.heap.size + 1, 0, none⟩) (Nat.le_succ _) _).setCell (p := ⟨w.heap.size + 1, 1, none⟩) (Nat.le_succ _) _).drew
set_option maxRecDepth 100000 in
set_option maxHeartbeats 1000000 in
theorem read_long (B : Nat) (v : Value) (fs : List Frm) (s : ByteArray) (w : World) (h : FormsAt B w v fs) (hB : B ≤ w.heap.size) (ht : tableFault fs = (0, 0)) (hs : 8000 < s.size) :
    Calls Tryz.prog 17 #[v, .string s] w fun e w' => e = .returned (.tuple #[noIns, faultV (2, -4)]) ∧ Below w.heap.size w w' := by
  have HBX := Lib.hid (rdW_below w)
  have HT1 := Lib.hid (rdW_ins w)
  have HT2 := Lib.hid (rdW_fault w)
  have C := validate_any B v fs (rdW w) (h.below (HBX.out.mono hB)) (Nat.le_trans hB HBX.out.size)
  rw [ht] at C
  have HC := Lib.hid C
  have hd : decide ((8000 : Int) < (s.size : Int)) = true := decide_eq_true (by omega)
  have hd2 : decide ((s.size : Int) > (8000 : Int)) = true := decide_eq_true (by omega)
  clear C h ht hs
  go_enter Tryz.func17, Tryz.ntmps17
  go_wp2_with fail
  refine HC.out.mono ?_
  rintro e W1 ⟨rfl, hb1⟩
  have a3 := one_more W1 (.cells #[.int .i64 0, .int .i64 0] 27)
  have g := hb1.trans (a3.mono hb1.size)
  have q1 := HT1.out.below g
  have q2 := HT2.out.below g
  have u := Two.new W1 (.int .i64 0) (.int .i64 0) 27
  have hz1 := q1.lt
  have hz2 := q2.lt
  have hz3 := u.lt
  have HFN := Lib.hid (HBX.out.trans (g.mono HBX.out.size))
  obtain ⟨q0, q1', q2', q3⟩ := q1
  obtain ⟨t0, t1, t2, t3⟩ := q2
  obtain ⟨u0, u1, u2, u3⟩ := u
  clear a3 g hb1
  go_wp2_with fail
  obtain ⟨W2, hW2⟩ : ∃ W2, W2 = W1.alloc (.cells #[.int .i64 0, .int .i64 0] 27) := ⟨_, rfl⟩
  rw [← hW2] at q0 q1' q2' q3 t0 t1 t2 t3 u0 u1 u2 u3 hz1 hz2 hz3 HFN ⊢
  clear hW2
  refine bodyPost_ret (v := .tuple #[noIns, faultV (2, -4)]) ?_ rfl ⟨rfl, ?_⟩
  · simp [results, Tryz.results17, go_sem, q0, q1', t0, t1]
  · exact (((HFN.out.setCell (p := ⟨w.heap.size, 0, none⟩) (Nat.le_refl _) _).setCell (p := ⟨w.heap.size, 1, none⟩) (Nat.le_refl _) _).setCell (p := ⟨w.heap.size + 1, 0, none⟩) (Nat.le_succ _) _).setCell (p := ⟨w.heap.size + 1, 1, none⟩) (Nat.le_succ _) _
end Go.Proofs.YtcngpciblbdgbaaGreatDoor

/-! The loop of disasm.instruction over the operands of a text. Conditions: the text is short enough, the library's variables are laid. -/
namespace Go.Proofs.YtcngpciblbdgbaaGreatDoor
open Go Go.RowKit Go.Shelf
attribute [local go_sem] Oper.semAt_some
/-- the pieces read so far have these kinds and numbers -/
def Got (pre : List (List UInt8)) (ks xs : List Int) : Prop := ks.length = pre.length ∧ xs.length = pre.length ∧ pre.map readOp = (ks.zip xs).map some
theorem got_nil : Got [] [] [] := ⟨rfl, rfl, rfl⟩
theorem got_snoc {pre : List (List UInt8)} {ks xs : List Int} {y : List UInt8} {k x : Int} (h : Got pre ks xs) (hy : readOp y = some (k, x)) : Got (pre ++ [y]) (ks ++ [k]) (xs ++ [x]) := by
  obtain ⟨h1, h2, h3⟩ := h
  refine ⟨by simp [h1], by simp [h2], ?_⟩
  rw [List.map_append, h3, List.zip_append (by rw [h1, h2])]
  simp [hy]
/-- the boxes of the result -/
def InsBox (W : World) (b : Nat) (x y : Value) : Prop := W.heap[b]? = some (.cells #[x, y] 34 (0, 0))
/-- what holds of the operands read so far; N: where the boxes of the result lie; K: the kinds' box, behind it the numbers' -/
structure Ops (N K : Nat) (w : World) (pre : List (List UInt8)) (W : World) : Prop where
  ins : InsBox W N (.int .i64 0) (.slice none 0 0)
  flag : Boxed W (N + 1) 4 (.bool false)
  rows : ∃ (v1 v2 : Value) (ks xs : List Int), Got pre ks xs ∧ Boxed W K 32 v1 ∧ Boxed W (K + 1) 32 v2 ∧ W.ownsRow (K + 5) 3 1 v1 pre.length (iv ks) ∧ W.ownsRow (K + 5) 3 1 v2 pre.length (iv xs) ∧ ∀ r, v1.ownBlock = some r → v2.ownBlock ≠ some r
  low : Below N w W
  ahead : N + 1 < K
/-- where the loop was left: an operand that has no kind -/
structure NoOp (N : Nat) (w : World) (pre : List (List UInt8)) (W : World) : Prop where
  ins : InsBox W N (.int .i64 0) (.slice none 0 0)
  flag : Boxed W (N + 1) 4 (.bool false)
  low : Below N w W
  bad : ∃ (p : List (List UInt8)) (y : List UInt8), pre = p ++ [y] ∧ readOp y = none
theorem InsBox.lt {W : World} {b : Nat} {x y : Value} (h : InsBox W b x y) : b < W.heap.size := (Array.getElem?_eq_some_iff.1 h).1
theorem InsBox.two {W : World} {b : Nat} {x y : Value} (h : InsBox W b x y) : Two W b x y := ⟨by simp [World.cell?, show W.heap[b]? = _ from h], by simp [World.cell?, show W.heap[b]? = _ from h], by simp [World.frozen?, show W.heap[b]? = _ from h], by simp [World.frozen?, show W.heap[b]? = _ from h]⟩
theorem InsBox.kept {W W' : World} {b : Nat} {x y : Value} {row : Option Nat} (h : InsBox W b x y) (hg : W.grownBy W' row) (hne : some b ≠ row) : InsBox W' b x y := (hg.block b h.lt hne).trans h
theorem InsBox.below {W W' : World} {b : Nat} {x y : Value} (h : InsBox W b x y) (hb : Below W.heap.size W W') : InsBox W' b x y := (hb.block b h.lt).trans h
theorem InsBox.far {W : World} {b : Nat} {x y : Value} {row : Option Nat} (h : InsBox W b x y) (hr : ∀ r, row = some r → ∃ o : Obj, W.heap[r]? = some o ∧ o.isCells = false) : some b ≠ row := fun e => by
  obtain ⟨o, ho, hc⟩ := hr b e.symm
  rw [show W.heap[b]? = _ from h] at ho
  injection ho with ho
  subst ho
  cases hc
theorem Ops.far {N K : Nat} {w W W' : World} {pre : List (List UInt8)} {row : Option Nat} (h : Ops N K w pre W) (hg : W.grownBy W' row) (hr : ∀ r, row = some r → N ≤ r ∧ ∃ o : Obj, W.heap[r]? = some o ∧ o.isCells = false) : Ops N K w pre W' := by
  have hr' := fun r e => (hr r e).2
  obtain ⟨v1, v2, ks, xs, h1, h2, h3, h4, h5, h6⟩ := h.rows
  exact ⟨h.ins.kept hg (h.ins.far hr'), h.flag.kept hg (boxed_far h.flag hr'), ⟨v1, v2, ks, xs, h1, h2.kept hg (boxed_far h2 hr'), h3.kept hg (boxed_far h3 hr'), h4.kept hg (rows_far hr' h4), h5.kept hg (rows_far hr' h5), h6⟩,
    h.low.grown hg (Nat.le_of_lt h.ins.lt) (fun r e => (hr r e).1), h.ahead⟩
theorem Ops.below {N K : Nat} {w W W' : World} {pre : List (List UInt8)} (h : Ops N K w pre W) (hb : Below W.heap.size W W') : Ops N K w pre W' := by
  obtain ⟨v1, v2, ks, xs, h1, h2, h3, h4, h5, h6⟩ := h.rows
  exact ⟨h.ins.below hb, boxed_below h.flag hb, ⟨v1, v2, ks, xs, h1, boxed_below h2 hb, boxed_below h3 hb, rows_below h4 hb, rows_below h5 hb, h6⟩, h.low.trans (hb.mono (Nat.le_of_lt h.ins.lt)), h.ahead⟩
theorem NoOp.far {N : Nat} {w W W' : World} {pre : List (List UInt8)} {row : Option Nat} (h : NoOp N w pre W) (hg : W.grownBy W' row) (hr : ∀ r, row = some r → N ≤ r ∧ ∃ o : Obj, W.heap[r]? = some o ∧ o.isCells = false) : NoOp N w pre W' := by
  have hr' := fun r e => (hr r e).2
  exact ⟨h.ins.kept hg (h.ins.far hr'), h.flag.kept hg (boxed_far h.flag hr'), h.low.grown hg (Nat.le_of_lt h.ins.lt) (fun r e => (hr r e).1), h.bad⟩
/-- a store of the iterator into its own variable -/
theorem boxed_other {W : World} {b c : Nat} {t : TypeId} {v u : Value} (h : Boxed W b t v) (hne : b ≠ c) : Boxed (W.setCell ⟨c, 0, none⟩ u) b t v := h.kept (grown_set W c 0 u) (fun e => by injection e with e; exact hne e)
theorem Ops.own {N K b : Nat} {w A C : World} {pre : List (List UInt8)} (h : Ops N K w pre A) (hb : b = K + 2) (ho : OwnSplit b A C) : Ops N K w pre C := by
  obtain ⟨s, rfl⟩ := ho
  obtain ⟨v1, v2, ks, xs, h1, h2, h3, h4, h5, h6⟩ := h.rows
  have ha := h.ahead
  have hg := grown_set A b 0 (.string s)
  have hk : ∀ {v : Value} {ys : List Value}, A.ownsRow (K + 5) 3 1 v pre.length ys → v.ownBlock = none ∨ v.ownBlock ≠ some b := fun {v} {ys} hv => by
    cases e : v.ownBlock with
    | none => exact .inl rfl
    | some r => exact .inr (fun e2 => by have := (hv.lt r e).1; injection e2 with e2; omega)
  exact ⟨h.ins.kept hg (fun e => by injection e with e; omega), boxed_other h.flag (by omega), ⟨v1, v2, ks, xs, h1, boxed_other h2 (by omega), boxed_other h3 (by omega), h4.kept hg (hk h4), h5.kept hg (hk h5), h6⟩, h.low.setCell (by show N ≤ b; omega) _, ha⟩
theorem NoOp.own {N K b : Nat} {w A C : World} {pre : List (List UInt8)} (h : NoOp N w pre A) (ha : N + 1 < K) (hb : b = K + 2) (ho : OwnSplit b A C) : NoOp N w pre C := by
  obtain ⟨s, rfl⟩ := ho
  exact ⟨h.ins.kept (grown_set A b 0 (.string s)) (fun e => by injection e with e; omega), boxed_other h.flag (by omega), h.low.setCell (by show N ≤ b; omega) _, h.bad⟩
/-- two stores behind two appends -/
theorem Ops.step {N K : Nat} {w W U : World} {pre : List (List UInt8)} {y : List UInt8} {v1 v2 v1' v2' : Value} {ks xs : List Int} {k x : Int} (h : Ops N K w pre W) (hg : Got pre ks xs) (hy : readOp y = some (k, x)) (b1 : Boxed W K 32 v1) (b2 : Boxed W (K + 1) 32 v2)
    (h1 : W.ownsRow (K + 5) 3 1 v1 pre.length (iv ks)) (h2 : W.ownsRow (K + 5) 3 1 v2 pre.length (iv xs)) (hB : Both (K + 5) W U v1 v2 pre.length ks xs k x (.done v1') (.done v2')) :
    Ops N K w (pre ++ [y]) ((U.setCell ⟨K, 0, none⟩ v1').setCell ⟨K + 1, 0, none⟩ v2') := by
  have ha := h.ahead
  have hne : ∀ j, j < K + 5 → v1.ownBlock ≠ some j ∧ v2.ownBlock ≠ some j := fun j hj => ⟨fun e => by have := (h1.lt j e).1; omega, fun e => by have := (h2.lt j e).1; omega⟩
  have kp : ∀ j, j < K + 5 → j < W.heap.size → U.heap[j]? = W.heap[j]? := fun j hj hw => hB.keep j hw (hne j hj).1 (hne j hj).2
  have c1 : Boxed U K 32 v1 := (kp K (by omega) b1.lt).trans b1
  have c2 : Boxed U (K + 1) 32 v2 := (kp (K + 1) (by omega) b2.lt).trans b2
  have cI : InsBox U N (.int .i64 0) (.slice none 0 0) := (kp N (by omega) h.ins.lt).trans h.ins
  have cF : Boxed U (N + 1) 4 (.bool false) := (kp (N + 1) (by omega) h.flag.lt).trans h.flag
  have g1 := grown_set U K 0 v1'
  have g2 := grown_set (U.setCell ⟨K, 0, none⟩ v1') (K + 1) 0 v2'
  have r1 : U.ownsRow (K + 5) 3 1 v1' (pre.length + 1) (iv (ks ++ [k])) := hB.r1
  have r2 : U.ownsRow (K + 5) 3 1 v2' (pre.length + 1) (iv (xs ++ [x])) := hB.r2
  have far : ∀ {v : Value} {ys : List Value} {m : Nat}, U.ownsRow (K + 5) 3 1 v m ys → ∀ j, j < K + 5 → v.ownBlock = none ∨ v.ownBlock ≠ some j := fun {v} {ys} {m} hv j hj => by
    cases e : v.ownBlock with
    | none => exact .inl rfl
    | some r => exact .inr (fun e2 => by have := (hv.lt r e).1; injection e2 with e2; omega)
  have s1 := r1.kept g1 (far r1 K (by omega))
  have s2 := r2.kept g1 (far r2 K (by omega))
  refine ⟨(cI.kept g1 (fun e => by injection e with e; omega)).kept g2 (fun e => by injection e with e; omega), boxed_other (boxed_other cF (by omega)) (by omega), ⟨v1', v2', ks ++ [k], xs ++ [x], got_snoc hg hy, boxed_other (c1.set v1') (by omega), (boxed_other c2 (by omega)).set v2', ?_, ?_, hB.apart⟩, ?_, ha⟩
  · rw [List.length_append]
    refine s1.kept g2 ?_
    cases e : v1'.ownBlock with
    | none => exact .inl rfl
    | some r => exact .inr (fun e2 => by have := (r1.lt r e).1; injection e2 with e2; omega)
  · rw [List.length_append]
    refine s2.kept g2 ?_
    cases e : v2'.ownBlock with
    | none => exact .inl rfl
    | some r => exact .inr (fun e2 => by have := (r2.lt r e).1; injection e2 with e2; omega)
  · have hz := h.ins.lt
    have hl : Below N w U := h.low.trans ⟨hB.os, hB.tape, hB.output, hB.size, fun j hj => kp j (by omega) (by omega)⟩
    exact (hl.setCell (p := ⟨K, 0, none⟩) (by show N ≤ K; omega) _).setCell (p := ⟨K + 1, 0, none⟩) (by show N ≤ K + 1; omega) _
end Go.Proofs.YtcngpciblbdgbaaGreatDoor

/-! Contract of disasm.instruction, the reading of a text as an instruction. Conditions: the table is valid and reads as forms, the text is short enough, the library's variables are laid. -/
namespace Go.Proofs.YtcngpciblbdgbaaGreatDoor
open Go Go.RowKit Go.Shelf
attribute [local go_sem] Oper.semAt_some
/-- the operands of a text, if it has any -/
def Reads (s : List UInt8) (ks xs : List Int) : Prop := ((Lib.cut s [32]).2.2 = false ∧ ks = [] ∧ xs = []) ∨ ((Lib.cut s [32]).2.2 = true ∧ Got (pieces (Lib.cut s [32]).2.1.length (Lib.cut s [32]).2.1) ks xs)
def NoReads (s : List UInt8) : Prop := (Lib.cut s [32]).2.2 = true ∧ ∃ y ∈ pieces (Lib.cut s [32]).2.1.length (Lib.cut s [32]).2.1, readOp y = none
/-- the position of the form that a text names -/
def namedAt (fs : List Frm) (s : List UInt8) (ks : List Int) : Int := idxOf (hasB ⟨(Lib.cut s [32]).1.toArray⟩ ks) fs
def InsPost (fs : List Frm) (s : List UInt8) (w : World) (e : Ending) (w' : World) : Prop :=
  Below w.heap.size w w' ∧ ((∃ (j : Int) (A : Option Addr) (m c : Nat), e = .returned (.tuple #[.agg #[.int .i64 j, .slice A m c], .bool false]) ∧ (NoReads s ∨ ∃ ks xs, Reads s ks xs ∧ (namedAt fs s ks < 0 ∨ ∃ p i, p ≠ 0 ∧ encFault fs (namedAt fs s ks) xs = (p, i)))) ∨
    ∃ (ks xs : List Int) (k : Nat) (f : Frm) (av : Value), Reads s ks xs ∧ namedAt fs s ks = (k : Int) ∧ EncOk fs k xs f ∧ e = .returned (.tuple #[.agg #[.int .i64 (k : Int), av], .bool true]) ∧ w'.ownsRow w.heap.size 3 1 av xs.length (iv xs))
/-- the boxes of the result, as they are left -/
structure InsFin (N : Nat) (w : World) (x y : Value) (b : Bool) (xs : List Int) (W : World) : Prop where
  ins : InsBox W N x y
  flag : Boxed W (N + 1) 4 (.bool b)
  low : Below N w W
  row : b = true → W.ownsRow N 3 1 y xs.length (iv xs)
theorem InsFin.far {N : Nat} {w W W' : World} {x y : Value} {b : Bool} {xs : List Int} {row : Option Nat} (h : InsFin N w x y b xs W) (hg : W.grownBy W' row) (hr : ∀ r, row = some r → N ≤ r ∧ ∃ o : Obj, W.heap[r]? = some o ∧ o.isCells = false) : InsFin N w x y b xs W' := by
  have hr' := fun r e => (hr r e).2
  exact ⟨h.ins.kept hg (h.ins.far hr'), h.flag.kept hg (boxed_far h.flag hr'), h.low.grown hg (Nat.le_of_lt h.ins.lt) (fun r e => (hr r e).1), fun hb => (h.row hb).kept hg (rows_far hr' (h.row hb))⟩
theorem InsFin.drew {N : Nat} {w W : World} {x y : Value} {b : Bool} {xs : List Int} (h : InsFin N w x y b xs W) : InsFin N w x y b xs W.drew := ⟨h.ins, h.flag, h.low.drew, fun hb => h.row hb⟩
/-- what holds behind the reading of the operands -/
structure Mid (N K : Nat) (w : World) (v1 v2 : Value) (ks xs : List Int) (W : World) : Prop where
  ins : InsBox W N (.int .i64 0) (.slice none 0 0)
  flag : Boxed W (N + 1) 4 (.bool false)
  k1 : Boxed W K 32 v1
  k2 : Boxed W (K + 1) 32 v2
  r1 : W.ownsRow (K + 2) 3 1 v1 ks.length (iv ks)
  r2 : W.ownsRow (K + 2) 3 1 v2 xs.length (iv xs)
  low : Below N w W
  ahead : N + 1 < K
theorem Mid.below {N K : Nat} {w W W' : World} {v1 v2 : Value} {ks xs : List Int} (h : Mid N K w v1 v2 ks xs W) (hb : Below W.heap.size W W') : Mid N K w v1 v2 ks xs W' :=
  ⟨h.ins.below hb, boxed_below h.flag hb, boxed_below h.k1 hb, boxed_below h.k2 hb, rows_below h.r1 hb, rows_below h.r2 hb, h.low.trans (hb.mono (Nat.le_of_lt h.ins.lt)), h.ahead⟩
theorem insbox_one {W : World} {b : Nat} {x y : Value} (h : InsBox W b x y) (u0 : Value) : InsBox (W.setCell ⟨b, 0, none⟩ u0) b u0 y := by
  obtain ⟨hlt, hk⟩ := Array.getElem?_eq_some_iff.1 h
  show (W.heap.modify b _)[b]? = _
  rw [Array.getElem?_eq_getElem (by rw [Array.size_modify]; exact hlt), Array.getElem_modify_self, hk]
  rfl
theorem insbox_next {W : World} {b : Nat} {x y : Value} (h : InsBox W b x y) (u1 : Value) : InsBox (W.setCell ⟨b, 1, none⟩ u1) b x u1 := by
  obtain ⟨hlt, hk⟩ := Array.getElem?_eq_some_iff.1 h
  show (W.heap.modify b _)[b]? = _
  rw [Array.getElem?_eq_getElem (by rw [Array.size_modify]; exact hlt), Array.getElem_modify_self, hk]
  rfl
theorem boxed_at {W : World} {b c j : Nat} {t : TypeId} {v u : Value} (h : Boxed W b t v) (hne : b ≠ c) : Boxed (W.setCell ⟨c, j, none⟩ u) b t v := h.kept (grown_set W c j u) (fun e => by injection e with e; exact hne e)
theorem InsBox.at' {W : World} {b c j : Nat} {x y u : Value} (h : InsBox W b x y) (hne : b ≠ c) : InsBox (W.setCell ⟨c, j, none⟩ u) b x y := h.kept (grown_set W c j u) (fun e => by injection e with e; exact hne e)
/-- a store into a box that holds none of these -/
theorem Mid.box {N K b j : Nat} {w W : World} {v1 v2 u : Value} {ks xs : List Int} (h : Mid N K w v1 v2 ks xs W) (hb : K + 1 < b) (h1 : v1.ownBlock ≠ some b) (h2 : v2.ownBlock ≠ some b) : Mid N K w v1 v2 ks xs (W.setCell ⟨b, j, none⟩ u) := by
  have ha := h.ahead
  exact ⟨h.ins.at' (by omega), boxed_at h.flag (by omega), boxed_at h.k1 (by omega), boxed_at h.k2 (by omega), h.r1.kept (grown_set W b j u) (.inr h1), h.r2.kept (grown_set W b j u) (.inr h2), h.low.setCell (by show N ≤ b; omega) _, ha⟩
/-- the stores of the result -/
theorem Mid.fin {N K : Nat} {w W : World} {v1 v2 : Value} {ks xs : List Int} (h : Mid N K w v1 v2 ks xs W) (x y : Value) (b : Bool) (hy : b = true → y = v2) :
    InsFin N w x y b xs (((W.setCell ⟨N, 0, none⟩ x).setCell ⟨N, 1, none⟩ y).setCell ⟨N + 1, 0, none⟩ (.bool b)) := by
  have ha := h.ahead
  have far : ∀ j, j < K + 2 → v2.ownBlock ≠ some j := fun j hj e => by have := (h.r2.lt j e).1; omega
  refine ⟨(insbox_next (insbox_one h.ins x) y).at' (by omega), ?_, ?_, fun hb => ?_⟩
  · exact (boxed_at (boxed_at h.flag (by omega)) (by omega)).set _
  · exact ((h.low.setCell (p := ⟨N, 0, none⟩) (Nat.le_refl _) _).setCell (p := ⟨N, 1, none⟩) (Nat.le_refl _) _).setCell (p := ⟨N + 1, 0, none⟩) (Nat.le_succ _) _
  · have e := hy hb
    subst e
    exact ownsRow_base (((h.r2.kept (grown_set W N 0 x) (.inr (far N (by omega)))).kept (grown_set _ N 1 y) (.inr (far N (by omega)))).kept (grown_set _ (N + 1) 0 _) (.inr (far (N + 1) (by omega)))) (by omega)
/-- the two boxes of the results -/
def inzW (w : World) : World := (w.alloc (.cells #[.int .i64 0, .slice none 0 0] 34)).alloc (.cells #[.bool false] 4)
theorem inzW_low (w : World) : Below w.heap.size w (inzW w) := two_more w _ _
theorem inzW_ins (w : World) : InsBox (inzW w) w.heap.size (.int .i64 0) (.slice none 0 0) := (Below.heap_alloc _ _ _ (by simp)).trans (heap_alloc_new w _)
theorem inzW_flag (w : World) : Boxed (inzW w) (w.heap.size + 1) 4 (.bool false) := by
  have := Boxed.new (w.alloc (.cells #[.int .i64 0, .slice none 0 0] 34)) 4 (.bool false)
  rwa [World.size_alloc] at this
set_option maxRecDepth 100000 in
set_option maxHeartbeats 2000000 in
theorem ins_plain (B : Nat) (v : Value) (fs : List Frm) (s : List UInt8) (w : World) (h : FormsAt B w v fs) (hB : B ≤ w.heap.size) (hV : VarsAt B w) (ht : tableFault fs = (0, 0)) (hs : s.length ≤ 8000) (hc : (Lib.cut s [32]).2.2 = false) :
    Calls Tryz.prog 31 #[v, strV s] w (InsPost fs s w) := by
  obtain ⟨m, hm⟩ := (hV.below ((inzW_low w).mono hB)).max
  have C := cut_any s m (inzW w) hs hm
  rw [hc] at C
  obtain ⟨A, n, c, rfl, -, -, -⟩ := h.opens
  obtain ⟨nl, hnl⟩ : ∃ nl, nl = (Lib.cut s [32]).1 := ⟨_, rfl⟩
  obtain ⟨rl, hrl⟩ : ∃ rl, rl = (Lib.cut s [32]).2.1 := ⟨_, rfl⟩
  rw [← hnl, ← hrl] at C
  obtain ⟨nm, hnm⟩ : ∃ nm : ByteArray, nm = ⟨nl.toArray⟩ := ⟨_, rfl⟩
  rw [show strV nl = .string nm by rw [hnm]] at C
  have HC := Lib.hid C
  have HF := Lib.hid h
  have HB := Lib.hid hB
  have HT := Lib.hid ht
  have HCUT := Lib.hid hc
  have HNM : Hid (∀ ks, namedAt fs s ks = idxOf (hasB nm ks) fs) := Lib.hid (fun ks => by unfold namedAt; rw [hnm, hnl])
  clear C h hB hV ht hs hc hm hnl hrl hnm
  go_enter Tryz.func31, Tryz.ntmps31
  go_wp2_with fail
  refine HC.out.mono ?_
  rintro e W1 ⟨rfl, hb1⟩
  go_wp2_with fail
  obtain ⟨W, hW⟩ : ∃ W, W = (W1.alloc (.cells #[.slice none 0 0] 32)).alloc (.cells #[.slice none 0 0] 32) := ⟨_, rfl⟩
  have b2 := two_more W1 (.cells #[.slice none 0 0] 32) (.cells #[.slice none 0 0] 32)
  rw [← hW] at b2 ⊢
  have b3 := hb1.trans (b2.mono hb1.size)
  have b4 : Below w.heap.size w W := (inzW_low w).trans (b3.mono (inzW_low w).size)
  have hlt : w.heap.size + 1 < W1.heap.size := (boxed_below (inzW_flag w) hb1).lt
  have hk1 : Boxed W W1.heap.size 32 (.slice none 0 0) := by rw [hW]; exact (Boxed.new W1 _ _).alloc _
  have hk2 : Boxed W (W1.heap.size + 1) 32 (.slice none 0 0) := by
    have e := Boxed.new (W1.alloc (.cells #[.slice none 0 0] 32)) 32 (.slice none 0 0)
    rwa [World.size_alloc, ← hW] at e
  have HM : Hid (Mid w.heap.size W1.heap.size w (.slice none 0 0) (.slice none 0 0) [] [] W) := Lib.hid ⟨(inzW_ins w).below b3, boxed_below (inzW_flag w) b3, hk1, hk2, World.ownsRow_nil _ _ _ _, World.ownsRow_nil _ _ _ _, b4, hlt⟩
  have HFW : Hid (FormsAt B W (.slice A n c) fs) := Lib.hid (HF.out.below (b4.mono HB.out))
  have HBW := Lib.hid (Nat.le_trans HB.out b4.size)
  have HKS := Lib.hid (show ([] : List Int).length ≤ 17592186044416 by simp)
  have HXS := HKS
  have HRD : Hid (Reads s [] []) := Lib.hid (.inl ⟨HCUT.out, rfl, rfl⟩)
  obtain ⟨N, hN⟩ : ∃ N, N = w.heap.size := ⟨_, rfl⟩
  obtain ⟨K, hK⟩ : ∃ K, K = W1.heap.size := ⟨_, rfl⟩
  rw [← hN, ← hK] at HM
  rw [← hN, ← hK]
  have HN := Lib.hid hN
  clear hN hK hW b2 b3 b4 hlt hk1 hk2 hb1 HC HF HB
  have hFm := HM.out
  have hkinds : KindsAt W.heap.size W (.slice none 0 0) [] := by
    exact kinds_of_row' hFm.r1 HKS.out
  have C2 := find_good W.heap.size _ fs nm (.slice none 0 0) [] W (HFW.out.more HBW.out) hkinds (Nat.le_refl _) HT.out
  have HC2 := Lib.hid C2
  have q0 := hFm.k1.cell
  have s0 := hFm.k1.lt
  clear C2 hFm hkinds
  by_cases hneg : idxOf (hasB nm []) fs < 0
  · rw [if_pos hneg] at HC2
    have HNEG := Lib.hid hneg
    clear hneg
    go_wp2_with fail
    refine HC2.out.mono ?_
    rintro e W3 ⟨rfl, hb3⟩
    have hM3 := (HM.out.below hb3).below (one_more W3 (.cells #[.int .i64 6, .int .i64 (-2)] 27))
    have u := Two.new W3 (.int .i64 6) (.int .i64 (-2)) 27
    have hz3 := u.lt
    obtain ⟨u0, u1, u2, u3⟩ := u
    obtain ⟨t0, t1, t2, t3⟩ := hM3.ins.two
    have t4 := hM3.flag.cell
    have t5 := hM3.flag.frozen
    have s4 := hM3.flag.lt
    have s5 := hM3.ins.lt
    have HM3 := Lib.hid hM3
    clear hM3 hb3 HC2 q0 s0
    go_wp2_with fail
    have hfin := HM3.out.fin (.int .i64 0) (.slice none 0 0) false (fun e => by cases e)
    have HPB : Hid (NoReads s ∨ ∃ ks xs, Reads s ks xs ∧ (namedAt fs s ks < 0 ∨ ∃ p i, p ≠ 0 ∧ encFault fs (namedAt fs s ks) xs = (p, i))) := Lib.hid (.inr ⟨[], [], HRD.out, .inl (by rw [HNM.out]; exact HNEG.out)⟩)
    have k0 := hfin.flag.cell
    obtain ⟨k1, k2, -, -⟩ := hfin.ins.two
    refine bodyPost_ret (v := .tuple #[.agg #[.int .i64 0, .slice none 0 0], .bool false]) ?_ rfl ⟨by rw [← HN.out]; exact hfin.low, .inl ⟨_, _, _, _, rfl, HPB.out⟩⟩
    simp [results, Tryz.results31, go_sem, k0, k1, k2]
  · rw [if_neg hneg] at HC2
    obtain ⟨k, hk⟩ : ∃ k : Nat, idxOf (hasB nm []) fs = (k : Int) := ⟨(idxOf (hasB nm []) fs).toNat, by omega⟩
    rw [hk] at HC2
    have HK := Lib.hid hk
    clear hneg hk
    go_wp2_with fail
    refine HC2.out.mono ?_
    rintro e W3 ⟨rfl, hb3⟩
    have b5 := two_more W3 (.cells #[.int .i64 0, .int .i64 0] 27) (.cells #[.int .i64 (k : Int), (.slice none 0 0)] 34)
    have hM5 := (HM.out.below hb3).below b5
    have u := (Two.new W3 (.int .i64 0) (.int .i64 0) 27).below (one_more _ (.cells #[.int .i64 (k : Int), (.slice none 0 0)] 34))
    have x := Two.new (W3.alloc (.cells #[.int .i64 0, .int .i64 0] 27)) (.int .i64 (k : Int)) (.slice none 0 0) 34
    rw [World.size_alloc] at x
    have HM5 := Lib.hid hM5
    have HU := Lib.hid u
    have HX := Lib.hid x
    have hkx : KindsAt ((W3.alloc (.cells #[.int .i64 0, .int .i64 0] 27)).alloc (.cells #[.int .i64 (k : Int), (.slice none 0 0)] 34)).heap.size _ (.slice none 0 0) [] := kinds_of_row' hM5.r2 HXS.out
    have HF5 := Lib.hid ((HFW.out.below ((hb3.trans (b5.mono hb3.size)).mono HBW.out)).more (Nat.le_trans HBW.out (hb3.trans (b5.mono hb3.size)).size))
    have HKX := Lib.hid hkx
    have q1 := (HM.out.below hb3).k2.cell
    have q2 := (hM5.k2).cell
    have s1 := (HM.out.below hb3).k2.lt
    have hM3 := ((HM.out.below hb3).below (one_more W3 (.cells #[.int .i64 0, .int .i64 0] 27))).k2
    have q3 := hM3.cell
    have s3 := hM3.lt
    have HS := Lib.hid (show K + 1 < W3.heap.size from s1)
    have HR := Lib.hid (show ((.slice none 0 0) : Value).ownBlock ≠ some W3.heap.size ∧ ((.slice none 0 0) : Value).ownBlock ≠ some W3.heap.size from ⟨fun e => by have := ((HM.out.below hb3).r2.lt _ e).2; omega, fun e => by have := ((HM.out.below hb3).r1.lt _ e).2; omega⟩)
    clear hM5 hkx hb3 b5 hM3 HC2 HM HFW HBW u x q0 s0
    rcases enc_cases fs (k : Int) [] with ⟨p, i, hp, he, E⟩ | ⟨k', f, hkk, o, -⟩
    · have C := E _ _ _ _ HF5.out HKX.out (Nat.le_refl _)
      have HC := Lib.hid C
      have HE := Lib.hid he
      have HP := Lib.hid hp
      have hpz : (p == 0) = false := by simpa using hp
      clear C he E hp
      go_wp2_with fail
      refine HC.out.mono ?_
      rintro e W6 ⟨rfl, hb6⟩
      have hU := HU.out.below hb6
      have hX := HX.out.below hb6
      have hM := HM5.out.below hb6
      have hz := hU.lt
      obtain ⟨u0, u1, u2, u3⟩ := hU
      have HU6 := Lib.hid (show Two W6 W3.heap.size (.int .i64 0) (.int .i64 0) from ⟨u0, u1, u2, u3⟩)
      clear q1 q2 q3 s1 s3
      go_wp2_with fail
      have hM7 := (hM.box (j := 0) (u := .int .i64 p) HS.out HR.out.2 HR.out.1).box (j := 1) (u := .int .i64 i) HS.out HR.out.2 HR.out.1
      have hU7 := two_sets HU6.out (.int .i64 p) (.int .i64 i)
      have hX7 := two_kept (two_kept hX (grown_set W6 W3.heap.size 0 (.int .i64 p)) (fun e => by injection e with e; omega)) (grown_set _ W3.heap.size 1 (.int .i64 i)) (fun e => by injection e with e; omega)
      obtain ⟨W7, hW7⟩ : ∃ W7, W7 = (W6.setCell ⟨W3.heap.size, 0, none⟩ (.int .i64 p)).setCell ⟨W3.heap.size, 1, none⟩ (.int .i64 i) := ⟨_, rfl⟩
      rw [← hW7] at hM7 hU7 hX7 ⊢
      clear hW7 hM hX u0 u1 u2 u3 hz hb6 HU6 HC HF5 HKX HU HX HM5
      obtain ⟨M, hMM⟩ : ∃ M, M = W3.heap.size := ⟨_, rfl⟩
      rw [← hMM] at hU7 hX7 HS ⊢
      have HM7 := Lib.hid hM7
      have u9 := hU7.lt
      have x9 := hX7.lt
      obtain ⟨u0, u1, u2, u3⟩ := hU7
      obtain ⟨x0, x1, x2, x3⟩ := hX7
      obtain ⟨t0, t1, t2, t3⟩ := hM7.ins.two
      have t4 := hM7.flag.cell
      have t5 := hM7.flag.frozen
      have t6 := hM7.flag.lt
      have t7 := hM7.ins.lt
      have n0 := hM7.ahead
      have n1 : ¬ M = N := by have := HS.out; omega
      have n2 : ¬ M = N + 1 := by have := HS.out; omega
      have n3 : ¬ M + 1 = N := by have := HS.out; omega
      have n4 : ¬ M + 1 = N + 1 := by have := HS.out; omega
      clear hM7 n0 hMM HS HR
      go_region
      all_goals go_wp2
      all_goals have hfin := (HM7.out.fin (.int .i64 (k : Int)) (.slice none 0 0) false (fun _ => rfl)).drew
      all_goals
        have k0 := hfin.flag.cell
        obtain ⟨k1, k2, -, -⟩ := hfin.ins.two
        refine bodyPost_ret (v := .tuple #[.agg #[.int .i64 (k : Int), (.slice none 0 0)], .bool false]) ?_ rfl ⟨by rw [← HN.out]; exact hfin.low, .inl ⟨_, _, _, _, rfl, .inr ⟨[], [], HRD.out, .inr ⟨p, i, HP.out, by rw [HNM.out, HK.out]; exact HE.out⟩⟩⟩⟩
        simp [results, Tryz.results31, go_sem, k0, k1, k2]
    · obtain rfl : k = k' := by omega
      have C := o.calls _ _ _ _ HF5.out HKX.out (Nat.le_refl _)
      have HC := Lib.hid C
      have HO := Lib.hid o
      clear C o hkk
      go_wp2_with fail
      refine HC.out.mono ?_
      rintro e W6 ⟨R, rfl, -, hb6⟩
      have hU := HU.out.below hb6
      have hX := HX.out.below hb6
      have hM := HM5.out.below hb6
      have hz := hU.lt
      obtain ⟨u0, u1, u2, u3⟩ := hU
      have HU6 := Lib.hid (show Two W6 W3.heap.size (.int .i64 0) (.int .i64 0) from ⟨u0, u1, u2, u3⟩)
      clear q1 q2 q3 s1 s3
      go_wp2_with fail
      have hM7 := (hM.box (j := 0) (u := .int .i64 0) HS.out HR.out.2 HR.out.1).box (j := 1) (u := .int .i64 0) HS.out HR.out.2 HR.out.1
      have hU7 := two_sets HU6.out (.int .i64 0) (.int .i64 0)
      have hX7 := two_kept (two_kept hX (grown_set W6 W3.heap.size 0 (.int .i64 0)) (fun e => by injection e with e; omega)) (grown_set _ W3.heap.size 1 (.int .i64 0)) (fun e => by injection e with e; omega)
      obtain ⟨W7, hW7⟩ : ∃ W7, W7 = (W6.setCell ⟨W3.heap.size, 0, none⟩ (.int .i64 0)).setCell ⟨W3.heap.size, 1, none⟩ (.int .i64 0) := ⟨_, rfl⟩
      rw [← hW7] at hM7 hU7 hX7 ⊢
      clear hW7 hM hX u0 u1 u2 u3 hz hb6 HU6 HC HF5 HKX HU HX HM5
      obtain ⟨M, hMM⟩ : ∃ M, M = W3.heap.size := ⟨_, rfl⟩
      rw [← hMM] at hU7 hX7 HS ⊢
      have HM7 := Lib.hid hM7
      have u9 := hU7.lt
      have x9 := hX7.lt
      obtain ⟨u0, u1, u2, u3⟩ := hU7
      obtain ⟨x0, x1, x2, x3⟩ := hX7
      obtain ⟨t0, t1, t2, t3⟩ := hM7.ins.two
      have t4 := hM7.flag.cell
      have t5 := hM7.flag.frozen
      have t6 := hM7.flag.lt
      have t7 := hM7.ins.lt
      have n0 := hM7.ahead
      have n1 : ¬ M = N := by have := HS.out; omega
      have n2 : ¬ M = N + 1 := by have := HS.out; omega
      have n3 : ¬ M + 1 = N := by have := HS.out; omega
      have n4 : ¬ M + 1 = N + 1 := by have := HS.out; omega
      clear hM7 n0 hMM HS HR
      go_region
      all_goals go_wp2
      all_goals have hfin := (HM7.out.fin (.int .i64 (k : Int)) (.slice none 0 0) true (fun _ => rfl)).drew
      all_goals
        have k0 := hfin.flag.cell
        obtain ⟨k1, k2, -, -⟩ := hfin.ins.two
        refine bodyPost_ret (v := .tuple #[.agg #[.int .i64 (k : Int), (.slice none 0 0)], .bool true]) ?_ rfl ⟨by rw [← HN.out]; exact hfin.low, .inr ⟨[], [], k, f, _, HRD.out, by rw [HNM.out, HK.out], HO.out, rfl, by rw [← HN.out]; exact hfin.row rfl⟩⟩
        simp [results, Tryz.results31, go_sem, k0, k1, k2]
end Go.Proofs.YtcngpciblbdgbaaGreatDoor

/-! Contract of disasm.instruction for a text that has operands. Conditions: the table is valid and reads as forms, the text is short enough, the library's variables are laid. -/
namespace Go.Proofs.YtcngpciblbdgbaaGreatDoor
open Go Go.RowKit Go.Shelf
attribute [local go_sem] Oper.semAt_some
theorem pieces_len : ∀ (m : Nat) (s : List UInt8), (pieces m s).length ≤ m + 1
  | 0, s => by simp [pieces]
  | m + 1, s => by
    unfold pieces
    split
    · simp
    · have := pieces_len m (s.drop ((Lib.index s [44, 32]).toNat + 2))
      simp only [List.length_cons]
      omega
theorem cut_short (s : List UInt8) (h : s.length ≤ 8000) : (Lib.cut s [32]).2.1.length ≤ 8000 := by
  rcases e : Lib.cut s [32] with ⟨a, b, t⟩
  cases t with
  | true =>
    have := cut_join e
    rw [this] at h
    simp at h ⊢
    omega
  | false =>
    have h1 : b = [] := by
      unfold Lib.cut at e
      split at e <;> simp at e <;> simp [e]
    simp [h1]
theorem keeps_own {L b : Nat} {A C : World} (h : OwnSplit b A C) : KeepsFrom L A C := by
  obtain ⟨s, rfl⟩ := h
  exact (KeepsOthers.setCell A ⟨b, 0, none⟩ (.string s)).from L
theorem Ops.stop {N K : Nat} {w W : World} {pre : List (List UInt8)} {y : List UInt8} (h : Ops N K w pre W) (hy : readOp y = none) :
    NoOp N w (pre ++ [y]) (((W.setCell ⟨N, 0, none⟩ (.int .i64 0)).setCell ⟨N, 1, none⟩ (.slice none 0 0)).setCell ⟨N + 1, 0, none⟩ (.bool false)) := by
  refine ⟨(insbox_next (insbox_one h.ins _) _).at' (by omega), (boxed_at (boxed_at h.flag (by omega)) (by omega)).set _, ?_, pre, y, rfl, hy⟩
  exact ((h.low.setCell (p := ⟨N, 0, none⟩) (Nat.le_refl _) _).setCell (p := ⟨N, 1, none⟩) (Nat.le_refl _) _).setCell (p := ⟨N + 1, 0, none⟩) (Nat.le_succ _) _
theorem keeps_stop3 {L N : Nat} {W : World} {u0 u1 u2 : Value} : KeepsFrom L W (((W.setCell ⟨N, 0, none⟩ u0).setCell ⟨N, 1, none⟩ u1).setCell ⟨N + 1, 0, none⟩ u2) := by
  have h := ((KeepsOthers.setCell W ⟨N, 0, none⟩ u0).trans (KeepsOthers.setCell _ ⟨N, 1, none⟩ u1)).trans (KeepsOthers.setCell _ ⟨N + 1, 0, none⟩ u2)
  exact ⟨h.size, fun k o _ hk ho => h.same k o hk ho⟩
theorem ops_keep {N K n : Nat} {V1 W2 W3 U : World} {v1 v2 v1' v2' : Value} {ks xs : List Int} {k x : Int} {p q : Prog} {o : Obj} (ha : N + 1 < K) (hN : 6 ≤ N) (h5 : K + 5 + 1 < V1.heap.size) (g2 : W2 = V1.putObj (K + 5 + 1) o) (b3 : Below W2.heap.size W2 W3)
    (h1 : W3.ownsRow (K + 5) 3 1 v1 n (iv ks)) (h2 : W3.ownsRow (K + 5) 3 1 v2 n (iv xs)) (hB : Both (K + 5) W3 U v1 v2 n ks xs k x p q) : KeepZ (ZSplit (K + 2)) V1 ((U.setCell ⟨K, 0, none⟩ v1').setCell ⟨K + 1, 0, none⟩ v2') := by
  have s2 : W2.heap.size = V1.heap.size := by rw [g2]; simp [World.putObj]
  have s3 := b3.size
  have g4 := grown_set U K 0 v1'
  have g5 := grown_set (U.setCell ⟨K, 0, none⟩ v1') (K + 1) 0 v2'
  have s4 := g4.size
  have s5 := g5.size
  have sB := hB.size
  refine ⟨by omega, fun j hj => ?_⟩
  have hj' : j < K + 5 ∧ j ≠ K ∧ j ≠ K + 1 := by
    rcases hj with rfl | rfl | rfl | rfl
    · omega
    · omega
    · omega
    · have hm : 0 < 6 := by decide
      refine ⟨?_, ?_, ?_⟩ <;> omega
  obtain ⟨j1, j2, j3⟩ := hj'
  have e2 : W2.heap[j]? = V1.heap[j]? := by rw [g2]; exact World.putObj_heap_other (by omega)
  have e3 := b3.block j (by omega)
  have e4 := hB.keep j (by omega) (fun e => by have := (h1.lt j e).1; omega) (fun e => by have := (h2.lt j e).1; omega)
  have e5 := g4.block j (by omega) (fun e => by injection e with e; exact j2 e)
  have e6 := g5.block j (by omega) (fun e => by injection e with e; exact j3 e)
  exact e6.trans (e5.trans (e4.trans (e3.trans e2)))
theorem book_both {K : Nat} {r : Loop} {W3 U : World} {v1 v2 v1' v2' : Value} {n : Nat} {ks xs : List Int} {k x : Int} {p q : Prog} {L : Nat} (hb : Book L r W3) (hB : Both (K + 5) W3 U v1 v2 n ks xs k x p q)
    (h1 : W3.ownsRow (K + 5) 3 1 v1 n (iv ks)) (h2 : W3.ownsRow (K + 5) 3 1 v2 n (iv xs)) : Book L r ((U.setCell ⟨K, 0, none⟩ v1').setCell ⟨K + 1, 0, none⟩ v2') := by
  have hne : ∀ {v : Value} {ys : List Value} {j : Nat} {o : Obj}, W3.ownsRow (K + 5) 3 1 v n ys → W3.heap[j]? = some o → o.isCells = false → v.ownBlock ≠ some j := fun {v} {ys} {j} {o} hv ho hc e => by
    rcases hv.2 with ⟨rfl, -⟩ | ⟨g, cap, cur, rfl, -, hg, -⟩
    · simp [Value.ownBlock] at e
    · simp only [Value.ownBlock, Option.some.injEq] at e
      subst e
      rw [hg] at ho
      injection ho with ho
      subst ho
      cases hc
  have hU : Book L r U := ⟨(hB.keep _ (Array.getElem?_eq_some_iff.1 hb.1).1 (hne h1 hb.1 rfl) (hne h2 hb.1 rfl)).trans hb.1, (hB.keep _ (Array.getElem?_eq_some_iff.1 hb.2).1 (hne h1 hb.2 rfl) (hne h2 hb.2 rfl)).trans hb.2⟩
  exact (hU.others ((KeepsOthers.setCell U ⟨K, 0, none⟩ v1').from L)).others ((KeepsOthers.setCell _ ⟨K + 1, 0, none⟩ v2').from L)
def DAt (D : Nat) (W : World) : Prop := W.heap[D]? = some (.deferred (some []))
theorem DAt.below {D : Nat} {W W' : World} (h : DAt D W) (hb : Below W.heap.size W W') : DAt D W' := (hb.block D (Array.getElem?_eq_some_iff.1 h).1).trans h
theorem DAt.set {D : Nat} {W : World} (h : DAt D W) (b j : Nat) (u : Value) : DAt D (W.setCell ⟨b, j, none⟩ u) := (KeepsOthers.setCell W ⟨b, j, none⟩ u).same D _ h rfl
theorem mark_of {N D ub : Nat} {W : World} (h1 : N ≤ D) (h2 : D < ub) (h : DAt D W) : Marks N W ub [{ target := .collected D, args := #[] }] := ⟨D, rfl, h1, h2, h, trivial⟩
theorem both_start {K n : Nat} {W : World} {v1 v2 : Value} {ks xs : List Int} {k x : Int} (h1 : W.ownsRow (K + 5) 3 1 v1 n (iv ks)) (h2 : W.ownsRow (K + 5) 3 1 v2 n (iv xs)) (h6 : ∀ r, v1.ownBlock = some r → v2.ownBlock ≠ some r) : Both (K + 5) W W.drew v1 v2 n ks xs k x .todo .todo :=
  ⟨h1, h2, h6, (fun L hL => by cases hL), (fun L hL => by cases hL), rfl, rfl, rfl, Nat.le_refl _, fun _ _ _ _ => rfl, .inl rfl, .inl rfl⟩
theorem both_box {K n b : Nat} {t : TypeId} {u : Value} {W U : World} {v1 v2 : Value} {ks xs : List Int} {k x : Int} {p q : Prog} (hB : Both (K + 5) W U v1 v2 n ks xs k x p q) (hb : Boxed W b t u) (h1 : W.ownsRow (K + 5) 3 1 v1 n (iv ks)) (h2 : W.ownsRow (K + 5) 3 1 v2 n (iv xs)) (hk : b < K + 5) : Boxed U b t u :=
  (hB.keep b hb.lt (fun e => by have := (h1.lt b e).1; omega) (fun e => by have := (h2.lt b e).1; omega)).trans hb
theorem both_S {K n : Nat} {W U : World} {v1 v2 : Value} {ks xs : List Int} {k x : Int} {p q : Prog} (hB : Both (K + 5) W U v1 v2 n ks xs k x p q) (b1 : Boxed W K 32 v1) (b2 : Boxed W (K + 1) 32 v2) (h1 : W.ownsRow (K + 5) 3 1 v1 n (iv ks)) (h2 : W.ownsRow (K + 5) 3 1 v2 n (iv xs)) :
    U.cell? ⟨K, 0, none⟩ = some v1 ∧ U.cell? ⟨K + 1, 0, none⟩ = some v2 := ⟨(both_box hB b1 h1 h2 (by omega)).cell, (both_box hB b2 h1 h2 (by omega)).cell⟩
theorem one_news {W : World} {L : Nat} {u : Value} (h : W.cell? ⟨L, 0, none⟩ = some u) : ∀ j v, [u][j]? = some v → W.cell? ((⟨L, 0, none⟩ : Addr).add j) = some v := fun j v hj => by
  match j, hj with
  | 0, hj => simp at hj; subst hj; exact h
  | j + 1, hj => simp at hj
theorem base_le {K n : Nat} {W U : World} {v1 v2 : Value} {ks xs : List Int} {k x : Int} {p q : Prog} (hB : Both (K + 5) W U v1 v2 n ks xs k x p q) (h : K + 5 ≤ W.heap.size) : K + 5 ≤ U.heap.size := Nat.le_trans h hB.size
set_option maxRecDepth 100000 in
set_option maxHeartbeats 4000000 in
theorem ins_ops (B : Nat) (v : Value) (fs : List Frm) (s : List UInt8) (w : World) (h : FormsAt B w v fs) (hB : B ≤ w.heap.size) (hV : VarsAt B w) (ht : tableFault fs = (0, 0)) (hs : s.length ≤ 8000) (hc : (Lib.cut s [32]).2.2 = true) :
    Calls Tryz.prog 31 #[v, strV s] w (InsPost fs s w) := by
  obtain ⟨i0, hi, hz0, hz1, hz2⟩ := info_parts infoInt
  have hv0 := hV.below ((inzW_low w).mono hB)
  obtain ⟨m, hm⟩ := hv0.max
  have C := cut_any s m (inzW w) hs hm
  rw [hc] at C
  obtain ⟨A, n, c, rfl, -, -, -⟩ := h.opens
  obtain ⟨nl, hnl⟩ : ∃ nl, nl = (Lib.cut s [32]).1 := ⟨_, rfl⟩
  obtain ⟨rl, hrl⟩ : ∃ rl, rl = (Lib.cut s [32]).2.1 := ⟨_, rfl⟩
  have hr8 : rl.length ≤ 8000 := by rw [hrl]; exact cut_short s hs
  rw [← hnl, ← hrl] at C
  obtain ⟨nm, hnm⟩ : ∃ nm : ByteArray, nm = ⟨nl.toArray⟩ := ⟨_, rfl⟩
  rw [show strV nl = .string nm by rw [hnm]] at C
  have HC := Lib.hid C
  have HF := Lib.hid h
  have HB := Lib.hid hB
  have HT := Lib.hid ht
  have HV := Lib.hid hV
  have HR8 := Lib.hid hr8
  have HCUT := Lib.hid hc
  have HRL := Lib.hid hrl
  have HNM : Hid (∀ ks, namedAt fs s ks = idxOf (hasB nm ks) fs) := Lib.hid (fun ks => by unfold namedAt; rw [hnm, hnl])
  clear C h hB hV ht hs hc hm hnl hrl hnm hr8 hv0
  refine (callsIn_wide (n := 3)).1 ?_
  refine callsIn_of_wp_marks Tryz.func31 rfl trivial ?_ rfl
  simp only [Tryz.ntmps31, List.size_toArray, List.length_cons, List.length_nil, Nat.reduceAdd, Nat.reduceSub, Array.replicate_succ, Array.replicate_zero, List.push_toArray, List.append_toArray, List.nil_append, List.cons_append]
  refine wpIn_wide.2 ?_
  go_wp2_with fail
  refine HC.out.mono ?_
  rintro e W1 ⟨rfl, hb1⟩
  go_wp2_with (go_at_call 44; refine (splitSeq_any rl _).mono ?_; rintro e w' ⟨rfl, rfl⟩)
  obtain ⟨W, hW⟩ : ∃ W, W = (W1.alloc (.cells #[.slice none 0 0] 32)).alloc (.cells #[.slice none 0 0] 32) := ⟨_, rfl⟩
  have b2 := two_more W1 (.cells #[.slice none 0 0] 32) (.cells #[.slice none 0 0] 32)
  rw [← hW] at b2 ⊢
  have b3 := hb1.trans (b2.mono hb1.size)
  have b4 : Below w.heap.size w W := (inzW_low w).trans (b3.mono (inzW_low w).size)
  have hlt : w.heap.size + 1 < W1.heap.size := (boxed_below (inzW_flag w) hb1).lt
  have hk1 : Boxed W W1.heap.size 32 (.slice none 0 0) := by rw [hW]; exact (Boxed.new W1 _ _).alloc _
  have hk2 : Boxed W (W1.heap.size + 1) 32 (.slice none 0 0) := by
    have e := Boxed.new (W1.alloc (.cells #[.slice none 0 0] 32)) 32 (.slice none 0 0)
    rwa [World.size_alloc, ← hW] at e
  have hzW : W.heap.size = W1.heap.size + 2 := by rw [hW]; simp
  have hO : Ops w.heap.size W1.heap.size w [] W := ⟨(inzW_ins w).below b3, boxed_below (inzW_flag w) b3, ⟨_, _, [], [], got_nil, hk1, hk2, World.ownsRow_nil _ _ _ _, World.ownsRow_nil _ _ _ _, fun r e => by cases e⟩, b4, hlt⟩
  have hVW := HV.out.below (b4.mono HB.out)
  have hSA := splW_at (s := rl) hVW.max (Nat.lt_of_lt_of_le (Nat.lt_of_lt_of_le (by decide : 0 < 6) HV.out.low) (Nat.le_trans HB.out b4.size))
  have hz0 : (splW W rl).heap.size = W1.heap.size + 5 := by simp [splW, hzW]
  have b5 := splW_below W rl
  have hO0 := hO.below b5
  have hF0 : FormsAt B (splW W rl) (.slice A n c) fs := HF.out.below ((b4.trans (b5.mono b4.size)).mono HB.out)
  have hV0 : VarsAt B (splW W rl) := hVW.below (b5.mono (Nat.le_trans HB.out b4.size))
  have hB6 := HV.out.low
  have HBW := Lib.hid (Nat.le_trans HB.out (Nat.le_trans b4.size b5.size))
  obtain ⟨N, hN⟩ : ∃ N, N = w.heap.size := ⟨_, rfl⟩
  obtain ⟨K, hK⟩ : ∃ K, K = W1.heap.size := ⟨_, rfl⟩
  rw [hzW, ← hK] at hSA
  rw [← hN, ← hK] at hO0 hlt
  rw [← hK] at hz0
  rw [show W1.heap.size + 1 + 1 = K + 2 by rw [hK]]
  rw [← hN, ← hK]
  have HN := Lib.hid hN
  have HVN : Hid (VarsAt N w) := Lib.hid ⟨HV.out.tab, HV.out.syn, HV.out.rng, HV.out.max, by rw [hN]; exact Nat.le_trans hB6 HB.out⟩
  have HN6 := Lib.hid (show 6 ≤ N by rw [hN]; exact Nat.le_trans hB6 HB.out)
  obtain ⟨W0, hW0⟩ : ∃ W0, W0 = splW W rl := ⟨_, rfl⟩
  rw [← hW0] at hO0 hF0 hV0 hSA hz0 HBW ⊢
  have HZ := Lib.hid hz0
  have HA := Lib.hid hlt
  have HF0 := Lib.hid hF0
  have HFO := HF
  have HV0 := Lib.hid hV0
  clear hW0 hN hK hW b2 b3 b4 b5 hlt hk1 hk2 hb1 HC HF HV hO hVW hz0 hF0 hV0 hB6 hzW
  refine (wpIn_wide (n := 3)).1 ?_
  refine range_owns (n := 3) rfl (by omega) (gf := 80) (lb := #[.pointer (some ⟨K + 2 + 1, 0, none⟩), .pointer (some ⟨K + 2, 0, none⟩), .pointer (some ⟨K + 2 + 2, 0, none⟩)]) rfl trivial (enters_of Tryz.func80 (by kernel_rfl) rfl)
    (split_owns 2 (Nat.le_refl _) (K + 2) rl HR8.out W0 hSA) (fun _ _ h => keeps_own h) ?hZ (Below.refl _ _) (fun x => rfl)
    (fun pre W => Ops N K w pre W) (fun cd pre W => cd = .ret ∧ NoOp N w pre W) ?own1 ?own2 (fun _ _ _ h ho => h.own rfl ho) (fun _ _ _ _ h ho => ⟨h.1, h.2.own HA.out rfl ho⟩) hO0 ?round ?done ?stop
  case hZ =>
    rintro x V0 V1 k - hL hz
    rw [HZ.out] at hL ⊢
    have hm : 0 < 6 := by decide
    rcases hz with rfl | rfl | rfl | rfl <;> omega
  case own1 =>
    rintro pre W W' row h hg hr
    exact h.far hg (fun r e => ⟨by have := (hr r e).1; have := HZ.out; have := HA.out; omega, (hr r e).2⟩)
  case own2 =>
    rintro cd pre W W' row ⟨h0, h⟩ hg hr
    exact ⟨h0, h.far hg (fun r e => ⟨by have := (hr r e).1; have := HZ.out; have := HA.out; omega, (hr r e).2⟩)⟩
  case round =>
    rintro lp pre x V0 V1 r r' - hI hV hBk0 hBk1 hlen
    obtain ⟨rfl, hx8⟩ := hV
    dsimp only [encL1]
    gi_wp2
    refine ⟨hBk1, ?_⟩
    obtain ⟨W2, hW2⟩ : ∃ W2, W2 = V0.putObj (W0.heap.size + 1) (.loop r') := ⟨_, rfl⟩
    rw [← hW2]
    have hg2 : V0.grownBy W2 (some (W0.heap.size + 1)) := by rw [hW2]; exact grownBy_putObj' _ _ _
    have hr2 : ∀ q, some (W0.heap.size + 1) = some q → N ≤ q ∧ ∃ o : Obj, V0.heap[q]? = some o ∧ o.isCells = false := fun q e => by cases e; exact ⟨by have := HZ.out; have := HA.out; omega, _, hBk1.1, rfl⟩
    have hB2 : Book W0.heap.size r' W2 := by rw [hW2]; exact hBk1.put
    have hI2 := hI.far hg2 hr2
    have hs1 : K + 5 + 1 < V0.heap.size := by have h1 := (Array.getElem?_eq_some_iff.1 hBk1.1).1; rw [HZ.out] at h1; exact h1
    have hVB : VarsAt N W2 := by
      exact HVN.out.below hI2.low
    have C := readOperand_any N x hx8 W2 hVB (by have := hI2.ins.lt; omega)
    have HC := Lib.hid C
    have HB2 := Lib.hid hB2
    have HI2 := Lib.hid hI2
    have HS1 := Lib.hid hs1
    have HW2 := Lib.hid hW2
    have HLEN := Lib.hid (show pre.length + 1 ≤ 8001 by have := pieces_len rl.length rl; have := HR8.out; omega)
    clear C hVB hI hBk0 hBk1 hlen hg2 hr2 hB2 hI2 hs1 hW2
    gi_wp2_with fail
    refine ⟨trivial, (CallsIn.inRound _ (callsIn_wide.2 HC.out)).mono ?_⟩
    rintro e W3 ⟨rfl, hb3⟩
    have HB3 := Lib.hid hb3
    have hI3 := HI2.out.below hb3
    have HI3 := Lib.hid hI3
    have HBK := Lib.hid (HB2.out.others (keeps_of_below hb3))
    have HW2' : Hid (W2 = V0.putObj (K + 5 + 1) (.loop r')) := Lib.hid (by rw [HW2.out, HZ.out])
    clear HC HW2 HI2 HB2
    rcases hro : readOp x with - | ⟨k, y⟩
    · have HRO := Lib.hid hro
      dsimp only [gotT]
      obtain ⟨t0, t1, t2, t3⟩ := hI3.ins.two
      have t4 := hI3.flag.cell
      have t5 := hI3.flag.frozen
      have t6 := hI3.flag.lt
      have t7 := hI3.ins.lt
      clear hI3 hb3 hro
      gi_wp2
      exact ⟨HBK.out.others keeps_stop3, rfl, HI3.out.stop HRO.out⟩
    · have HRO := Lib.hid hro
      dsimp only [gotT]
      obtain ⟨v1, v2, ks, xs, g1, g2, g3, g4, g5, g6⟩ := hI3.rows
      have Q1 := Lib.hid g2
      have Q2 := Lib.hid g3
      have R1 := Lib.hid g4
      have R2 := Lib.hid g5
      have HG := Lib.hid g1
      have q1 := g2.cell
      have q3 := g3.cell
      have hS0 : W3.drew.cell? ⟨K, 0, none⟩ = some v1 ∧ W3.drew.cell? ⟨K + 1, 0, none⟩ = some v2 := ⟨q1, q3⟩
      have HB : Hid (Both (K + 5) W3 W3.drew v1 v2 pre.length ks xs k y .todo .todo) := Lib.hid (both_start g4 g5 g6)
      have HL1 : Hid (pre.length + 1 ≤ maxLen) := Lib.hid (by have := HLEN.out; unfold maxLen; omega)
      have HL2 : Hid ((pre.length + 1) * 8 ≤ 140737488355328) := Lib.hid (by have := HLEN.out; omega)
      have HS3 : Hid (K + 5 ≤ W3.heap.size) := Lib.hid (by have h1 := (Array.getElem?_eq_some_iff.1 HBK.out.1).1; rw [HZ.out] at h1; omega)
      clear hI3 hb3 hro g1 g2 g3 g4 g5 g6
      gi_wp2_with fail
      refine region_inRound_till 8 (fun W' => W'.cell? ⟨K, 0, none⟩ = some v1 ∧ W'.cell? ⟨K + 1, 0, none⟩ = some v2) (by kernel_rfl) (by kernel_rfl) (fun ⟨_, _, h⟩ => h) ?_
      change anyTill _ _ _ _ _ _ _ _ _ W3.drew
      clear q1 q3
      refine till_take (i := 0) [8, 9] (v := ?_) rfl (by kernel_rfl) (by kernel_rfl) (by kernel_rfl) (by kernel_rfl) (fun _ _ _ h => h) (Or.inl ⟨by rfl, ?_⟩) hS0 ?_
      rotate_left
      · rintro W' ⟨h1, h2⟩; go_simp; rfl
      simp [Act.put]
      refine till_take (i := 1) [8, 9] (v := ?_) rfl (by kernel_rfl) (by kernel_rfl) (by kernel_rfl) (by kernel_rfl) (fun _ _ _ h => h) (Or.inl ⟨by rfl, ?_⟩) hS0 ?_
      rotate_left
      · rintro W' ⟨h1, h2⟩; go_simp; rfl
      simp [Act.put]
      refine till_take (i := 4) [7, 8, 9] (v := ?_) rfl (by kernel_rfl) (by kernel_rfl) (by kernel_rfl) (by kernel_rfl) (fun _ _ _ h => h) (Or.inl ⟨by rfl, ?_⟩) hS0 ?_
      rotate_left
      · rintro W' ⟨h1, h2⟩; go_simp; rfl
      simp [Act.put]
      refine till_take (i := 5) [6, 7, 8, 9] (v := ?_) rfl (by kernel_rfl) (by kernel_rfl) (by kernel_rfl) (by kernel_rfl) (fun _ _ _ h => h) (Or.inl ⟨by rfl, ?_⟩) hS0 ?_
      rotate_left
      · rintro W' ⟨h1, h2⟩; go_simp; rfl
      simp [Act.put]
      clear hS0
      refine till_two (i := 2) (i' := 6) (by kernel_rfl) rfl (by rfl) rfl (by rfl) (fun K' hK => ?_) (fun K' hK => ?_)
      ·
        go_simp
        have HB2 := Lib.hid HB.out.lit
        refine hK _ _ (fun _ => both_S HB2.out Q1.out Q2.out R1.out R2.out) ?_
        clear hK K' HB
        have HB := HB2
        clear HB2
        refine till_two (i := 3) (i' := 6) (by kernel_rfl) rfl (by rfl) rfl (by rfl) (fun K' hK => ?_) (fun K' hK => ?_)
        ·
          refine wp_append_lies _ (.tmp 37) (.tmp 39) 32 rfl (K + 5) 3 i0 _ 1 8 Tryz.underlying32 hi hz0 hz1 hz2 (by rfl) (by decide) _ pre.length _ rfl HB.out.r1.1 ⟨_, 0, none⟩ 1 1 [.int .i64 k] rfl rfl (one_news (by have h := HB.out.r1.2; first | exact h | (simp; done) | simpa using h)) (by simp [Value.oneCell']) (by decide) HL1.out HL2.out (base_le HB.out HS3.out) _ rfl ?_
          intro g cap U' hown hg hat _
          have HB3 := Lib.hid (HB.out.app hown hg hat)
          clear hown hg hat
          refine hK _ _ (fun _ => both_S HB3.out Q1.out Q2.out R1.out R2.out) ?_
          clear hK K' HB
          have HB := HB3
          clear HB3
          simp [Act.put]
          refine till_one (i := 6) (by kernel_rfl) rfl (by rfl) (fun K' hK => ?_)
          go_simp
          have HB6 := Lib.hid HB.out.swap.lit.swap
          refine hK _ _ (fun _ => both_S HB6.out Q1.out Q2.out R1.out R2.out) ?_
          clear hK K' HB
          have HB := HB6
          clear HB6
          refine till_one (i := 7) (by kernel_rfl) rfl (by rfl) (fun K' hK => ?_)
          refine wp_append_lies _ (.tmp 41) (.tmp 43) 32 rfl (K + 5) 3 i0 _ 1 8 Tryz.underlying32 hi hz0 hz1 hz2 (by rfl) (by decide) _ pre.length _ rfl HB.out.r2.1 ⟨_, 0, none⟩ 1 1 [.int .i64 y] rfl rfl (one_news (by have h := HB.out.r2.2; first | exact h | (simp; done) | simpa using h)) (by simp [Value.oneCell']) (by decide) HL1.out HL2.out (base_le HB.out HS3.out) _ rfl ?_
          intro g cap U' hown hg hat _
          have HB7 := Lib.hid (HB.out.swap.app hown hg hat).swap
          clear hown hg hat
          refine hK _ _ (fun _ => both_S HB7.out Q1.out Q2.out R1.out R2.out) ?_
          clear hK K' HB
          have HB := HB7
          clear HB7
          simp [Act.put]
          have q1 := (both_box HB.out Q1.out R1.out R2.out (by omega)).cell
          have q2 := (both_box HB.out Q1.out R1.out R2.out (by omega)).frozen
          have q3 := (both_box HB.out Q2.out R1.out R2.out (by omega)).cell
          have q4 := (both_box HB.out Q2.out R1.out R2.out (by omega)).frozen
          refine till_one (i := 8) (by kernel_rfl) rfl (by rfl) (fun K' hK => ?_)
          go_simp
          refine hK _ _ (fun h => absurd h (by decide)) ?_
          clear hK K'
          refine till_one (i := 9) (by kernel_rfl) rfl (by rfl) (fun K' hK => ?_)
          go_simp
          refine hK _ _ (fun h => absurd h (by decide)) ?_
          clear hK K'
          refine till_done (by kernel_rfl) ?_ _
          gi_wp2
          exact ⟨book_both HBK.out HB.out R1.out R2.out, ops_keep HA.out HN6.out HS1.out HW2'.out HB3.out R1.out R2.out HB.out, HI3.out.step HG.out HRO.out Q1.out Q2.out R1.out R2.out HB.out⟩
        ·
          go_simp
          have HB6 := Lib.hid HB.out.swap.lit.swap
          refine hK _ _ (fun _ => both_S HB6.out Q1.out Q2.out R1.out R2.out) ?_
          clear hK K' HB
          have HB := HB6
          clear HB6
          refine till_one (i := 3) (by kernel_rfl) rfl (by rfl) (fun K' hK => ?_)
          refine wp_append_lies _ (.tmp 37) (.tmp 39) 32 rfl (K + 5) 3 i0 _ 1 8 Tryz.underlying32 hi hz0 hz1 hz2 (by rfl) (by decide) _ pre.length _ rfl HB.out.r1.1 ⟨_, 0, none⟩ 1 1 [.int .i64 k] rfl rfl (one_news (by have h := HB.out.r1.2; first | exact h | (simp; done) | simpa using h)) (by simp [Value.oneCell']) (by decide) HL1.out HL2.out (base_le HB.out HS3.out) _ rfl ?_
          intro g cap U' hown hg hat _
          have HB3 := Lib.hid (HB.out.app hown hg hat)
          clear hown hg hat
          refine hK _ _ (fun _ => both_S HB3.out Q1.out Q2.out R1.out R2.out) ?_
          clear hK K' HB
          have HB := HB3
          clear HB3
          simp [Act.put]
          refine till_one (i := 7) (by kernel_rfl) rfl (by rfl) (fun K' hK => ?_)
          refine wp_append_lies _ (.tmp 41) (.tmp 43) 32 rfl (K + 5) 3 i0 _ 1 8 Tryz.underlying32 hi hz0 hz1 hz2 (by rfl) (by decide) _ pre.length _ rfl HB.out.r2.1 ⟨_, 0, none⟩ 1 1 [.int .i64 y] rfl rfl (one_news (by have h := HB.out.r2.2; first | exact h | (simp; done) | simpa using h)) (by simp [Value.oneCell']) (by decide) HL1.out HL2.out (base_le HB.out HS3.out) _ rfl ?_
          intro g cap U' hown hg hat _
          have HB7 := Lib.hid (HB.out.swap.app hown hg hat).swap
          clear hown hg hat
          refine hK _ _ (fun _ => both_S HB7.out Q1.out Q2.out R1.out R2.out) ?_
          clear hK K' HB
          have HB := HB7
          clear HB7
          simp [Act.put]
          have q1 := (both_box HB.out Q1.out R1.out R2.out (by omega)).cell
          have q2 := (both_box HB.out Q1.out R1.out R2.out (by omega)).frozen
          have q3 := (both_box HB.out Q2.out R1.out R2.out (by omega)).cell
          have q4 := (both_box HB.out Q2.out R1.out R2.out (by omega)).frozen
          refine till_one (i := 8) (by kernel_rfl) rfl (by rfl) (fun K' hK => ?_)
          go_simp
          refine hK _ _ (fun h => absurd h (by decide)) ?_
          clear hK K'
          refine till_one (i := 9) (by kernel_rfl) rfl (by rfl) (fun K' hK => ?_)
          go_simp
          refine hK _ _ (fun h => absurd h (by decide)) ?_
          clear hK K'
          refine till_done (by kernel_rfl) ?_ _
          gi_wp2
          exact ⟨book_both HBK.out HB.out R1.out R2.out, ops_keep HA.out HN6.out HS1.out HW2'.out HB3.out R1.out R2.out HB.out, HI3.out.step HG.out HRO.out Q1.out Q2.out R1.out R2.out HB.out⟩
      ·
        go_simp
        have HB6 := Lib.hid HB.out.swap.lit.swap
        refine hK _ _ (fun _ => both_S HB6.out Q1.out Q2.out R1.out R2.out) ?_
        clear hK K' HB
        have HB := HB6
        clear HB6
        refine till_one (i := 2) (by kernel_rfl) rfl (by rfl) (fun K' hK => ?_)
        go_simp
        have HB2 := Lib.hid HB.out.lit
        refine hK _ _ (fun _ => both_S HB2.out Q1.out Q2.out R1.out R2.out) ?_
        clear hK K' HB
        have HB := HB2
        clear HB2
        refine till_one (i := 3) (by kernel_rfl) rfl (by rfl) (fun K' hK => ?_)
        refine wp_append_lies _ (.tmp 37) (.tmp 39) 32 rfl (K + 5) 3 i0 _ 1 8 Tryz.underlying32 hi hz0 hz1 hz2 (by rfl) (by decide) _ pre.length _ rfl HB.out.r1.1 ⟨_, 0, none⟩ 1 1 [.int .i64 k] rfl rfl (one_news (by have h := HB.out.r1.2; first | exact h | (simp; done) | simpa using h)) (by simp [Value.oneCell']) (by decide) HL1.out HL2.out (base_le HB.out HS3.out) _ rfl ?_
        intro g cap U' hown hg hat _
        have HB3 := Lib.hid (HB.out.app hown hg hat)
        clear hown hg hat
        refine hK _ _ (fun _ => both_S HB3.out Q1.out Q2.out R1.out R2.out) ?_
        clear hK K' HB
        have HB := HB3
        clear HB3
        simp [Act.put]
        refine till_one (i := 7) (by kernel_rfl) rfl (by rfl) (fun K' hK => ?_)
        refine wp_append_lies _ (.tmp 41) (.tmp 43) 32 rfl (K + 5) 3 i0 _ 1 8 Tryz.underlying32 hi hz0 hz1 hz2 (by rfl) (by decide) _ pre.length _ rfl HB.out.r2.1 ⟨_, 0, none⟩ 1 1 [.int .i64 y] rfl rfl (one_news (by have h := HB.out.r2.2; first | exact h | (simp; done) | simpa using h)) (by simp [Value.oneCell']) (by decide) HL1.out HL2.out (base_le HB.out HS3.out) _ rfl ?_
        intro g cap U' hown hg hat _
        have HB7 := Lib.hid (HB.out.swap.app hown hg hat).swap
        clear hown hg hat
        refine hK _ _ (fun _ => both_S HB7.out Q1.out Q2.out R1.out R2.out) ?_
        clear hK K' HB
        have HB := HB7
        clear HB7
        simp [Act.put]
        have q1 := (both_box HB.out Q1.out R1.out R2.out (by omega)).cell
        have q2 := (both_box HB.out Q1.out R1.out R2.out (by omega)).frozen
        have q3 := (both_box HB.out Q2.out R1.out R2.out (by omega)).cell
        have q4 := (both_box HB.out Q2.out R1.out R2.out (by omega)).frozen
        refine till_one (i := 8) (by kernel_rfl) rfl (by rfl) (fun K' hK => ?_)
        go_simp
        refine hK _ _ (fun h => absurd h (by decide)) ?_
        clear hK K'
        refine till_one (i := 9) (by kernel_rfl) rfl (by rfl) (fun K' hK => ?_)
        go_simp
        refine hK _ _ (fun h => absurd h (by decide)) ?_
        clear hK K'
        refine till_done (by kernel_rfl) ?_ _
        gi_wp2
        exact ⟨book_both HBK.out HB.out R1.out R2.out, ops_keep HA.out HN6.out HS1.out HW2'.out HB3.out R1.out R2.out HB.out, HI3.out.step HG.out HRO.out Q1.out Q2.out R1.out R2.out HB.out⟩
  case stop =>
    rintro D cd pre W hD hpre ⟨rfl, hst⟩ hK
    have HM := Lib.hid (show Marks (N + 2) W W.heap.size [{ target := .collected D, args := #[] }] from ⟨D, rfl, by have := HZ.out; have := HA.out; omega, (Array.getElem?_eq_some_iff.1 hK).1, hK, trivial⟩)
    have HST := Lib.hid hst
    clear hst hK
    gi_wp2
    refine leaves_marks (B := N + 2) (fun W' => NoOp N w pre W') ?_ ?_ _ W.heap.size _ HM.out HST.out
    · rintro W' D' hD' hK' h
      exact h.far (grownBy_putObj' W' D' _) (fun r e => by cases e; exact ⟨by omega, _, hK', rfl⟩)
    · rintro W' h
      have k0 := h.flag.cell
      obtain ⟨k1, k2, -, -⟩ := h.ins.two
      obtain ⟨p, y, hp, hy⟩ := h.bad
      refine ⟨.tuple #[.agg #[.int .i64 0, .slice none 0 0], .bool false], by simp [results, Tryz.results31, go_sem, k0, k1, k2], by rw [← HN.out]; exact h.low, .inl ⟨_, _, _, _, rfl, .inl ⟨HCUT.out, y, ?_, hy⟩⟩⟩
      rw [← HRL.out]
      exact hpre.subset (by rw [hp]; simp)
  case done =>
    rintro D ys W hD hS hI hDD
    have HD := Lib.hid (show DAt D W from hDD)
    have HL := Lib.hid (show N + 2 ≤ D by have := HZ.out; have := HA.out; omega)
    have HLT := Lib.hid (Array.getElem?_eq_some_iff.1 hDD).1
    obtain ⟨v1, v2, ks, xs, g1, g2, g3, g4, g5, -⟩ := hI.rows
    obtain ⟨e1, e2, -⟩ := id g1
    rw [← e1] at g4
    rw [← e2] at g5
    have hyl : ys.length ≤ 8001 := by rw [hS]; have := pieces_len rl.length rl; have := HR8.out; omega
    have HKS := Lib.hid (show ks.length ≤ 17592186044416 by omega)
    have HXS := Lib.hid (show xs.length ≤ 17592186044416 by omega)
    have HRD : Hid (Reads s ks xs) := Lib.hid (.inr ⟨HCUT.out, by rw [← HRL.out, ← hS]; exact g1⟩)
    obtain ⟨A1, c1, rfl⟩ := row_is g4
    obtain ⟨A2, c2, rfl⟩ := row_is g5
    have HM : Hid (Mid N K w (.slice A1 ks.length c1) (.slice A2 xs.length c2) ks xs W) := Lib.hid ⟨hI.ins, hI.flag, g2, g3, ownsRow_base g4 (by omega), ownsRow_base g5 (by omega), hI.low, hI.ahead⟩
    have hBN : B ≤ N := by rw [HN.out]; exact HB.out
    have HFW : Hid (FormsAt B W (.slice A n c) fs) := Lib.hid (HFO.out.below (hI.low.mono hBN))
    have HBW : Hid (B ≤ W.heap.size) := Lib.hid (Nat.le_trans hBN (Nat.le_of_lt hI.ins.lt))
    clear hDD hS hI g1 g2 g3 g4 g5 e1 e2 hyl hBN
    gi_wp2_with fail
    have hFm := HM.out
    have hkinds : KindsAt W.heap.size W (.slice A1 ks.length c1) ks := by
      exact kinds_of_row' hFm.r1 HKS.out
    have C2 := find_good W.heap.size _ fs nm (.slice A1 ks.length c1) ks W (HFW.out.more HBW.out) hkinds (Nat.le_refl _) HT.out
    have HC2 := Lib.hid C2
    have q0 := hFm.k1.cell
    have s0 := hFm.k1.lt
    clear C2 hFm hkinds
    by_cases hneg : idxOf (hasB nm ks) fs < 0
    · rw [if_pos hneg] at HC2
      have HNEG := Lib.hid hneg
      clear hneg
      go_wp2_with fail
      refine HC2.out.mono ?_
      rintro e W3 ⟨rfl, hb3⟩
      replace HD := Lib.hid ((HD.out.below hb3).below (one_more W3 (.cells #[.int .i64 6, .int .i64 (-2)] 27)))
      have hM3 := (HM.out.below hb3).below (one_more W3 (.cells #[.int .i64 6, .int .i64 (-2)] 27))
      have u := Two.new W3 (.int .i64 6) (.int .i64 (-2)) 27
      have hz3 := u.lt
      obtain ⟨u0, u1, u2, u3⟩ := u
      obtain ⟨t0, t1, t2, t3⟩ := hM3.ins.two
      have t4 := hM3.flag.cell
      have t5 := hM3.flag.frozen
      have s4 := hM3.flag.lt
      have s5 := hM3.ins.lt
      have HM3 := Lib.hid hM3
      clear hM3 hb3 HC2 q0 s0
      go_wp2_with fail
      have hfin := HM3.out.fin (.int .i64 0) (.slice none 0 0) false (fun e => by cases e)
      have HPB : Hid (NoReads s ∨ ∃ ks xs, Reads s ks xs ∧ (namedAt fs s ks < 0 ∨ ∃ p i, p ≠ 0 ∧ encFault fs (namedAt fs s ks) xs = (p, i))) := Lib.hid (.inr ⟨ks, xs, HRD.out, .inl (by rw [HNM.out]; exact HNEG.out)⟩)
      refine leaves_marks (B := N + 2) (fun W' => InsFin N w (.int .i64 0) (.slice none 0 0) false xs W') ?_ ?_ _ W.heap.size _ (mark_of HL.out HLT.out (((HD.out.set _ _ _).set _ _ _).set _ _ _)) hfin
      · rintro W' D' hD' hK' h
        exact h.far (grownBy_putObj' W' D' _) (fun r e => by cases e; exact ⟨by omega, _, hK', rfl⟩)
      · rintro W' h
        have k0 := h.flag.cell
        obtain ⟨k1, k2, -, -⟩ := h.ins.two
        exact ⟨.tuple #[.agg #[.int .i64 0, .slice none 0 0], .bool false], by simp [results, Tryz.results31, go_sem, k0, k1, k2], by rw [← HN.out]; exact h.low, .inl ⟨_, _, _, _, rfl, HPB.out⟩⟩
    · rw [if_neg hneg] at HC2
      obtain ⟨k, hk⟩ : ∃ k : Nat, idxOf (hasB nm ks) fs = (k : Int) := ⟨(idxOf (hasB nm ks) fs).toNat, by omega⟩
      rw [hk] at HC2
      have HK := Lib.hid hk
      clear hneg hk
      go_wp2_with fail
      refine HC2.out.mono ?_
      rintro e W3 ⟨rfl, hb3⟩
      have b5 := two_more W3 (.cells #[.int .i64 0, .int .i64 0] 27) (.cells #[.int .i64 (k : Int), (.slice A2 xs.length c2)] 34)
      have hM5 := (HM.out.below hb3).below b5
      replace HD := Lib.hid ((HD.out.below hb3).below b5)
      have u := (Two.new W3 (.int .i64 0) (.int .i64 0) 27).below (one_more _ (.cells #[.int .i64 (k : Int), (.slice A2 xs.length c2)] 34))
      have x := Two.new (W3.alloc (.cells #[.int .i64 0, .int .i64 0] 27)) (.int .i64 (k : Int)) (.slice A2 xs.length c2) 34
      rw [World.size_alloc] at x
      have HM5 := Lib.hid hM5
      have HU := Lib.hid u
      have HX := Lib.hid x
      have hkx : KindsAt ((W3.alloc (.cells #[.int .i64 0, .int .i64 0] 27)).alloc (.cells #[.int .i64 (k : Int), (.slice A2 xs.length c2)] 34)).heap.size _ (.slice A2 xs.length c2) xs := kinds_of_row' hM5.r2 HXS.out
      have HF5 := Lib.hid ((HFW.out.below ((hb3.trans (b5.mono hb3.size)).mono HBW.out)).more (Nat.le_trans HBW.out (hb3.trans (b5.mono hb3.size)).size))
      have HKX := Lib.hid hkx
      have q1 := (HM.out.below hb3).k2.cell
      have q2 := (hM5.k2).cell
      have s1 := (HM.out.below hb3).k2.lt
      have hM3 := ((HM.out.below hb3).below (one_more W3 (.cells #[.int .i64 0, .int .i64 0] 27))).k2
      have q3 := hM3.cell
      have s3 := hM3.lt
      have HS := Lib.hid (show K + 1 < W3.heap.size from s1)
      have HR := Lib.hid (show ((.slice A2 xs.length c2) : Value).ownBlock ≠ some W3.heap.size ∧ ((.slice A1 ks.length c1) : Value).ownBlock ≠ some W3.heap.size from ⟨fun e => by have := ((HM.out.below hb3).r2.lt _ e).2; omega, fun e => by have := ((HM.out.below hb3).r1.lt _ e).2; omega⟩)
      clear hM5 hkx hb3 b5 hM3 HC2 HM HFW HBW u x q0 s0
      rcases enc_cases fs (k : Int) xs with ⟨p, i, hp, he, E⟩ | ⟨k', f, hkk, o, -⟩
      · have C := E _ _ _ _ HF5.out HKX.out (Nat.le_refl _)
        have HC := Lib.hid C
        have HE := Lib.hid he
        have HP := Lib.hid hp
        have hpz : (p == 0) = false := by simpa using hp
        clear C he E hp
        go_wp2_with fail
        refine HC.out.mono ?_
        rintro e W6 ⟨rfl, hb6⟩
        replace HD := Lib.hid (HD.out.below hb6)
        have hU := HU.out.below hb6
        have hX := HX.out.below hb6
        have hM := HM5.out.below hb6
        have hz := hU.lt
        obtain ⟨u0, u1, u2, u3⟩ := hU
        have HU6 := Lib.hid (show Two W6 W3.heap.size (.int .i64 0) (.int .i64 0) from ⟨u0, u1, u2, u3⟩)
        clear q1 q2 q3 s1 s3
        go_wp2_with fail
        have hM7 := (hM.box (j := 0) (u := .int .i64 p) HS.out HR.out.2 HR.out.1).box (j := 1) (u := .int .i64 i) HS.out HR.out.2 HR.out.1
        have hU7 := two_sets HU6.out (.int .i64 p) (.int .i64 i)
        have hX7 := two_kept (two_kept hX (grown_set W6 W3.heap.size 0 (.int .i64 p)) (fun e => by injection e with e; omega)) (grown_set _ W3.heap.size 1 (.int .i64 i)) (fun e => by injection e with e; omega)
        have hD7 := (HD.out.set W3.heap.size 0 (.int .i64 p)).set W3.heap.size 1 (.int .i64 i)
        obtain ⟨W7, hW7⟩ : ∃ W7, W7 = (W6.setCell ⟨W3.heap.size, 0, none⟩ (.int .i64 p)).setCell ⟨W3.heap.size, 1, none⟩ (.int .i64 i) := ⟨_, rfl⟩
        rw [← hW7] at hM7 hU7 hX7 hD7 ⊢
        replace HD := Lib.hid hD7
        clear hD7
        clear hW7 hM hX u0 u1 u2 u3 hz hb6 HU6 HC HF5 HKX HU HX HM5
        obtain ⟨M, hMM⟩ : ∃ M, M = W3.heap.size := ⟨_, rfl⟩
        rw [← hMM] at hU7 hX7 HS ⊢
        have HM7 := Lib.hid hM7
        have u9 := hU7.lt
        have x9 := hX7.lt
        obtain ⟨u0, u1, u2, u3⟩ := hU7
        obtain ⟨x0, x1, x2, x3⟩ := hX7
        obtain ⟨t0, t1, t2, t3⟩ := hM7.ins.two
        have t4 := hM7.flag.cell
        have t5 := hM7.flag.frozen
        have t6 := hM7.flag.lt
        have t7 := hM7.ins.lt
        have n0 := hM7.ahead
        have n1 : ¬ M = N := by have := HS.out; omega
        have n2 : ¬ M = N + 1 := by have := HS.out; omega
        have n3 : ¬ M + 1 = N := by have := HS.out; omega
        have n4 : ¬ M + 1 = N + 1 := by have := HS.out; omega
        clear hM7 n0 hMM HS HR
        go_region
        all_goals go_wp2
        all_goals have hfin := (HM7.out.fin (.int .i64 (k : Int)) (.slice A2 xs.length c2) false (fun _ => rfl)).drew
        all_goals
          refine leaves_marks (B := N + 2) (fun W' => InsFin N w (.int .i64 (k : Int)) (.slice A2 xs.length c2) false xs W') ?_ ?_ _ W.heap.size _ (mark_of HL.out HLT.out (((HD.out.set _ _ _).set _ _ _).set _ _ _)) hfin
          · rintro W' D' hD' hK' h
            exact h.far (grownBy_putObj' W' D' _) (fun r e => by cases e; exact ⟨by omega, _, hK', rfl⟩)
          · rintro W' h
            have k0 := h.flag.cell
            obtain ⟨k1, k2, -, -⟩ := h.ins.two
            exact ⟨.tuple #[.agg #[.int .i64 (k : Int), (.slice A2 xs.length c2)], .bool false], by simp [results, Tryz.results31, go_sem, k0, k1, k2], by rw [← HN.out]; exact h.low, .inl ⟨_, _, _, _, rfl, .inr ⟨ks, xs, HRD.out, .inr ⟨p, i, HP.out, by rw [HNM.out, HK.out]; exact HE.out⟩⟩⟩⟩
      · obtain rfl : k = k' := by omega
        have C := o.calls _ _ _ _ HF5.out HKX.out (Nat.le_refl _)
        have HC := Lib.hid C
        have HO := Lib.hid o
        clear C o hkk
        go_wp2_with fail
        refine HC.out.mono ?_
        rintro e W6 ⟨R, rfl, -, hb6⟩
        replace HD := Lib.hid (HD.out.below hb6)
        have hU := HU.out.below hb6
        have hX := HX.out.below hb6
        have hM := HM5.out.below hb6
        have hz := hU.lt
        obtain ⟨u0, u1, u2, u3⟩ := hU
        have HU6 := Lib.hid (show Two W6 W3.heap.size (.int .i64 0) (.int .i64 0) from ⟨u0, u1, u2, u3⟩)
        clear q1 q2 q3 s1 s3
        go_wp2_with fail
        have hM7 := (hM.box (j := 0) (u := .int .i64 0) HS.out HR.out.2 HR.out.1).box (j := 1) (u := .int .i64 0) HS.out HR.out.2 HR.out.1
        have hU7 := two_sets HU6.out (.int .i64 0) (.int .i64 0)
        have hX7 := two_kept (two_kept hX (grown_set W6 W3.heap.size 0 (.int .i64 0)) (fun e => by injection e with e; omega)) (grown_set _ W3.heap.size 1 (.int .i64 0)) (fun e => by injection e with e; omega)
        have hD7 := (HD.out.set W3.heap.size 0 (.int .i64 0)).set W3.heap.size 1 (.int .i64 0)
        obtain ⟨W7, hW7⟩ : ∃ W7, W7 = (W6.setCell ⟨W3.heap.size, 0, none⟩ (.int .i64 0)).setCell ⟨W3.heap.size, 1, none⟩ (.int .i64 0) := ⟨_, rfl⟩
        rw [← hW7] at hM7 hU7 hX7 hD7 ⊢
        replace HD := Lib.hid hD7
        clear hD7
        clear hW7 hM hX u0 u1 u2 u3 hz hb6 HU6 HC HF5 HKX HU HX HM5
        obtain ⟨M, hMM⟩ : ∃ M, M = W3.heap.size := ⟨_, rfl⟩
        rw [← hMM] at hU7 hX7 HS ⊢
        have HM7 := Lib.hid hM7
        have u9 := hU7.lt
        have x9 := hX7.lt
        obtain ⟨u0, u1, u2, u3⟩ := hU7
        obtain ⟨x0, x1, x2, x3⟩ := hX7
        obtain ⟨t0, t1, t2, t3⟩ := hM7.ins.two
        have t4 := hM7.flag.cell
        have t5 := hM7.flag.frozen
        have t6 := hM7.flag.lt
        have t7 := hM7.ins.lt
        have n0 := hM7.ahead
        have n1 : ¬ M = N := by have := HS.out; omega
        have n2 : ¬ M = N + 1 := by have := HS.out; omega
        have n3 : ¬ M + 1 = N := by have := HS.out; omega
        have n4 : ¬ M + 1 = N + 1 := by have := HS.out; omega
        clear hM7 n0 hMM HS HR
        go_region
        all_goals go_wp2
        all_goals have hfin := (HM7.out.fin (.int .i64 (k : Int)) (.slice A2 xs.length c2) true (fun _ => rfl)).drew
        all_goals
          refine leaves_marks (B := N + 2) (fun W' => InsFin N w (.int .i64 (k : Int)) (.slice A2 xs.length c2) true xs W') ?_ ?_ _ W.heap.size _ (mark_of HL.out HLT.out (((HD.out.set _ _ _).set _ _ _).set _ _ _)) hfin
          · rintro W' D' hD' hK' h
            exact h.far (grownBy_putObj' W' D' _) (fun r e => by cases e; exact ⟨by omega, _, hK', rfl⟩)
          · rintro W' h
            have k0 := h.flag.cell
            obtain ⟨k1, k2, -, -⟩ := h.ins.two
            exact ⟨.tuple #[.agg #[.int .i64 (k : Int), (.slice A2 xs.length c2)], .bool true], by simp [results, Tryz.results31, go_sem, k0, k1, k2], by rw [← HN.out]; exact h.low, .inr ⟨ks, xs, k, f, _, HRD.out, by rw [HNM.out, HK.out], HO.out, rfl, by rw [← HN.out]; exact h.row rfl⟩⟩

end Go.Proofs.YtcngpciblbdgbaaGreatDoor
