/- The law DisasmTextMatchesSpec for a good instruction. Conditions: the arguments read as forms and an instruction, the library's variables are laid. -/
import Derived.Deep.RegionHeld3
import Derived.Test.YtcngpciblbdgbaaGreatDoorDisVX
import Derived.Deep.DeepCutAuto
/-! The law DisasmTextMatchesSpec: Text returns the text of every instruction, and Read reads it. Conditions: the arguments read as forms and an instruction, the library's variables are laid. -/
namespace Go.Proofs.YtcngpciblbdgbaaGreatDoor
open Go Go.RowKit Go.Shelf
attribute [local go_sem] Oper.semAt_some
set_option maxRecDepth 100000 in
set_option maxHeartbeats 4000000 in
theorem textlaw_bad (B : Nat) (v av : Value) (fs : List Frm) (form : Int) (xs : List Int) (p i : Int) (w : World) (h : FormsAt B w v fs) (ha : KindsAt B w av xs) (hB : B ≤ w.heap.size) (hV : VarsAt B w) (hp : p ≠ 0) (hef : encFault fs form xs = (p, i)) (E1 : EncBad fs form xs p i) :
    Calls Tryz.prog 4 #[v, .agg #[.int .i64 form, av]] w fun e w' => e = .returned (.bool true) ∧ Below w.heap.size w w' := by
  obtain ⟨A, n, c, rfl, hfs, -, -, hop⟩ := h.opens
  obtain ⟨A1, n1, c1, rfl, -⟩ := ha.opens
  have bx := one_more w (.cells #[.int .i64 form, .slice A1 n1 c1] 34)
  obtain ⟨j0, j1⟩ := one_box w (.int .i64 form) (.slice A1 n1 c1) 34
  have J0 := Lib.hid j0
  have J1 := Lib.hid j1
  have X := disExample_any B (w.alloc (.cells #[.int .i64 form, .slice A1 n1 c1] 34)) (Nat.le_trans hB bx.size) (hV.below (bx.mono hB))
  have HX := Lib.hid X
  have Y1 := Lib.hid E1
  have HP := Lib.hid hp
  have HEF := Lib.hid hef
  have hpz : (p == 0) = false := by simpa using hp
  have hpn : (p != 0) = true := by simpa using hp
  clear j0 j1 X E1 hp hef
  go_enter Tryz.func4, Tryz.ntmps4
  go_wp2_with fail
  refine HX.out.mono ?_
  rintro e W1 ⟨rfl, hb1⟩
  have x0 := cell_below J0.out hb1
  have x1 := cell_below J1.out hb1
  have w1 := bx.trans (hb1.mono bx.size)
  have FA := Lib.hid (h.below (w1.mono hB))
  have KA := Lib.hid (ha.below (w1.mono hB))
  have hB1 : B ≤ W1.heap.size := Nat.le_trans hB w1.size
  have z1 := block_lt_of_cell x0
  have X0 := Lib.hid x0
  have X1 := Lib.hid x1
  have HW1 := Lib.hid w1
  clear h ha bx hb1 w1 hop hfs hV
  go_wp2_with fail
  refine (text_bad _ _ _ _ _ _ _ _ _ FA.out KA.out hB1 HP.out Y1.out).mono ?_
  rintro e W2 ⟨rfl, hb2⟩
  have a3 := one_more W2 (.cells #[.int .i64 p, .int .i64 i] 27)
  have g3 := hb2.trans (a3.mono hb2.size)
  have u3 : Two (W2.alloc (.cells #[.int .i64 p, .int .i64 i] 27)) W2.heap.size (.int .i64 p) (.int .i64 i) := Two.new _ _ _ _
  have C := tableFault_any B _ fs _ (FA.out.below (g3.mono hB1)) (Nat.le_trans hB1 g3.size)
  have HC := Lib.hid C
  have G3 := Lib.hid g3
  have U3 := Lib.hid u3
  clear C a3 g3 u3 hb2
  go_wp2_with fail
  refine HC.out.mono ?_
  rintro e W4 ⟨rfl, hb4⟩
  have u4 := U3.out.below hb4
  have g4 := G3.out.trans (hb4.mono G3.out.size)
  have x0' := cell_below X0.out g4
  have x1' := cell_below X1.out g4
  have G4 := Lib.hid g4
  have U4 := Lib.hid u4
  have z2 := u4.lt
  have z1' := block_lt_of_cell x0'
  obtain ⟨r0, r1, r2, r3⟩ := u4
  clear hb4 g4 x0 x1 z1 HC
  by_cases ht : (tableFault fs).1 = 0
  · have hi : insFault fs form xs = (p, i) := by
      have h0 := HEF.out
      unfold encFault at h0
      rwa [if_neg (by simpa using ht)] at h0
    have ht2 := fault_pair ht
    rw [ht2]
    have D := insFault_any B _ _ fs form xs (W4.alloc (.cells #[.int .i64 0, .int .i64 0] 27)) (FA.out.below ((G4.out.trans ((one_more W4 _).mono G4.out.size)).mono hB1)) (KA.out.below ((G4.out.trans ((one_more W4 _).mono G4.out.size)).mono hB1)) (Nat.le_trans hB1 (G4.out.trans ((one_more W4 _).mono G4.out.size)).size)
    rw [hi] at D
    have HD := Lib.hid D
    clear D ht ht2 hi
    go_wp2_with fail
    refine HD.out.mono ?_
    rintro e W5 ⟨rfl, hb5⟩
    have a5 := one_more W4 (.cells #[.int .i64 0, .int .i64 0] 27)
    obtain ⟨v0, v1, v2, v3⟩ := (Two.new W4 (.int .i64 0) (.int .i64 0) 27).below hb5
    obtain ⟨s0, s1, s2, s3⟩ := (U4.out.below a5).below hb5
    have z4 := block_lt_of_cell v0
    have z5 := block_lt_of_cell s0
    have hne : ¬ W4.heap.size = W2.heap.size := by have := U4.out.lt; omega
    have hne' : ¬ W2.heap.size = W4.heap.size := fun h => hne h.symm
    have hfin := HW1.out.trans ((G4.out.trans ((a5.trans (hb5.mono a5.size)).mono G4.out.size)).mono HW1.out.size)
    have HFN := Lib.hid hfin
    have HZ := Lib.hid (show w.heap.size ≤ W4.heap.size from Nat.le_trans HW1.out.size G4.out.size)
    clear hb5 a5 hfin r0 r1 r2 r3
    go_wp2_with fail
    refine bodyPost_ret (v := .bool true) (by simp [results, Tryz.results4, go_sem]) rfl ⟨rfl, ?_⟩
    exact (HFN.out.setCell (p := ⟨W4.heap.size, 0, none⟩) HZ.out _).setCell (p := ⟨W4.heap.size, 1, none⟩) HZ.out _
  · have hi : tableFault fs = (p, i) := by
      have h0 := HEF.out
      unfold encFault at h0
      rwa [if_pos ht] at h0
    rw [hi]
    clear hi ht
    go_wp2_with fail
    refine bodyPost_ret (v := .bool true) (by simp [results, Tryz.results4, go_sem]) rfl ⟨rfl, ?_⟩
    have hfin := HW1.out.trans (G4.out.mono HW1.out.size)
    exact hfin.alloc hfin.size _
theorem ins_new {W W' : World} (h : Below (W.alloc (.cells #[.int .i64 0, .slice none 0 0] 34)).heap.size (W.alloc (.cells #[.int .i64 0, .slice none 0 0] 34)) W') : Two W' W.heap.size (.int .i64 0) (.slice none 0 0) := (Two.new W _ _ _).below h
theorem flt_new {W W' : World} (h : Below (W.alloc (.cells #[.int .i64 0, .int .i64 0] 27)).heap.size (W.alloc (.cells #[.int .i64 0, .int .i64 0] 27)) W') : Two W' W.heap.size (.int .i64 0) (.int .i64 0) := (Two.new W _ _ _).below h
theorem bel_alloc {w0 w : World} (h : Below w0.heap.size w0 w) (o : Obj) : Below w0.heap.size w0 (w.alloc o) := h.alloc h.size o
theorem bel_set {w0 w : World} {b j : Nat} (h : Below w0.heap.size w0 w) (hb : w0.heap.size ≤ b) (u : Value) : Below w0.heap.size w0 (w.setCell ⟨b, j, none⟩ u) := h.setCell (p := ⟨b, j, none⟩) hb u
theorem bel_call {w0 w w7 : World} (h : Below w0.heap.size w0 w) (hb : Below w.heap.size w w7) : Below w0.heap.size w0 w7 := h.trans (hb.mono h.size)
theorem ins_new' {W W' : World} (h : Below (W.alloc (.cells #[.int .i64 0, .slice none 0 0] 34)).drew.heap.size (W.alloc (.cells #[.int .i64 0, .slice none 0 0] 34)).drew W') : Two W' W.heap.size (.int .i64 0) (.slice none 0 0) :=
  (show Two (W.alloc (.cells #[.int .i64 0, .slice none 0 0] 34)).drew _ _ _ from Two.new W _ _ _).below h
theorem flt_new' {W W' : World} (h : Below (W.alloc (.cells #[.int .i64 0, .int .i64 0] 27)).drew.heap.size (W.alloc (.cells #[.int .i64 0, .int .i64 0] 27)).drew W') : Two W' W.heap.size (.int .i64 0) (.int .i64 0) :=
  (show Two (W.alloc (.cells #[.int .i64 0, .int .i64 0] 27)).drew _ _ _ from Two.new W _ _ _).below h
theorem two_ne {W : World} {X Y : Nat} {a b a' b' : Value} (h : Two W X a b) (h' : Two W Y a' b') (hb : b ≠ b') : ¬ X = Y := fun e => by
  subst e
  exact hb (Option.some.inj (h.2.1.symm.trans h'.2.1))
theorem two_pair {W W' : World} {x y x' y' : Value} {t t' : TypeId} (h : Below ((W.alloc (.cells #[x, y] t)).alloc (.cells #[x', y'] t')).heap.size ((W.alloc (.cells #[x, y] t)).alloc (.cells #[x', y'] t')) W') : Two W' W.heap.size x y ∧ Two W' (W.heap.size + 1) x' y' := by
  have t1 := ((Two.new W x y t).below (one_more _ (.cells #[x', y'] t'))).below h
  have t2 := (Two.new (W.alloc (.cells #[x, y] t)) x' y' t').below h
  rw [World.size_alloc] at t2
  exact ⟨t1, t2⟩
theorem two_pair' {W W' : World} {x y x' y' : Value} {t t' : TypeId} (h : Below ((W.alloc (.cells #[x, y] t)).alloc (.cells #[x', y'] t')).drew.heap.size ((W.alloc (.cells #[x, y] t)).alloc (.cells #[x', y'] t')).drew W') : Two W' W.heap.size x y ∧ Two W' (W.heap.size + 1) x' y' := by
  have t1 := (Two.new W x y t).below (one_more _ (.cells #[x', y'] t'))
  have t2 := Two.new (W.alloc (.cells #[x, y] t)) x' y' t'
  rw [World.size_alloc] at t2
  exact ⟨(show Two ((W.alloc (.cells #[x, y] t)).alloc (.cells #[x', y'] t')).drew _ _ _ from t1).below h, (show Two ((W.alloc (.cells #[x, y] t)).alloc (.cells #[x', y'] t')).drew _ _ _ from t2).below h⟩
end Go.Proofs.YtcngpciblbdgbaaGreatDoor

/-! The boxes of the law DisasmTextMatchesSpec, one lemma for each way in which they are made and filled. Conditions: those named. -/
namespace Go.Proofs.YtcngpciblbdgbaaGreatDoor
open Go Go.RowKit Go.Shelf
structure TwoBoxes (W6 : World) (k : Int) (A : Option Addr) (c : Nat) (xs : List Int) (X Y : Nat) (V : World) : Prop where
  low : Below W6.heap.size W6 V
  i0 : V.cell? ⟨X, 0, none⟩ = some (.int .i64 k)
  i1 : V.cell? ⟨X, 1, none⟩ = some (.slice A xs.length c)
  f0 : V.cell? ⟨Y, 0, none⟩ = some (.int .i64 0)
  row : ∃ base, V.ownsRow base 3 1 (.slice A xs.length c) xs.length (iv xs)
/-- what is known of the world behind both calls: the row of the operands lies in it, in block g (if it has one) -/
def RowOff (V : World) (A : Option Addr) (c : Nat) (xs : List Int) (X : Nat) : Prop := V.ownsRow 0 3 1 (.slice A xs.length c) xs.length (iv xs) ∧ (Value.slice A xs.length c).ownBlock ≠ some X
theorem rowoff_set {V : World} {A : Option Addr} {c : Nat} {xs : List Int} {X Y j : Nat} {u : Value} (h : RowOff V A c xs X) (h' : (Value.slice A xs.length c).ownBlock ≠ some Y) : RowOff (V.setCell ⟨Y, j, none⟩ u) A c xs X :=
  ⟨h.1.kept (grown_set _ Y j u) (.inr h'), h.2⟩
theorem rowoff_any {V V' : World} {base : Nat} {A : Option Addr} {c : Nat} {xs : List Int} (h : V.ownsRow base 3 1 (.slice A xs.length c) xs.length (iv xs)) (hb : Below V.heap.size V V') : V'.ownsRow 0 3 1 (.slice A xs.length c) xs.length (iv xs) := ownsRow_base (rows_below h hb) (Nat.zero_le _)
theorem rowoff_new {V V' : World} {base X : Nat} {A : Option Addr} {c : Nat} {xs : List Int} (h : V.ownsRow base 3 1 (.slice A xs.length c) xs.length (iv xs)) (hb : Below V.heap.size V V') (hX : V.heap.size ≤ X) : RowOff V' A c xs X :=
  ⟨rowoff_any h hb, fun e => by
    have := (h.lt X e).2
    omega⟩
theorem rowoff_old {V V' : World} {base X : Nat} {A : Option Addr} {c : Nat} {xs : List Int} (h : V.ownsRow base 3 1 (.slice A xs.length c) xs.length (iv xs)) (hb : Below V.heap.size V V') (hX : X < base) : RowOff V' A c xs X :=
  ⟨rowoff_any h hb, fun e => by
    have := (h.lt X e).1
    omega⟩
theorem bel_more {V cur W : World} (_ : Below V.heap.size V V) (hc : Below V.heap.size V cur) (hb : Below cur.heap.size cur W) : Below V.heap.size V W := hc.trans (hb.mono hc.size)
theorem boxes_new (W6 V : World) (k : Int) (A : Option Addr) (c : Nat) (xs : List Int) (hl : Below W6.heap.size W6 V) (hr : ∃ base, V.ownsRow base 3 1 (.slice A xs.length c) xs.length (iv xs)) :
    TwoBoxes W6 k A c xs V.heap.size (V.heap.size + 1) ((V.alloc (.cells #[.int .i64 k, .slice A xs.length c] 34)).alloc (.cells #[.int .i64 0, .int .i64 0] 27)) := by
  obtain ⟨base, hr⟩ := hr
  exact ⟨(hl.alloc hl.size _).alloc (Nat.le_trans hl.size (by simp)) _, by simp, by simp, by simp, base, (hr.alloc _).alloc _⟩
theorem boxes_new' (W6 V : World) (k : Int) (A : Option Addr) (c : Nat) (xs : List Int) (hl : Below W6.heap.size W6 V) (hr : ∃ base, V.ownsRow base 3 1 (.slice A xs.length c) xs.length (iv xs)) :
    TwoBoxes W6 k A c xs (V.heap.size + 1) V.heap.size ((V.alloc (.cells #[.int .i64 0, .int .i64 0] 27)).alloc (.cells #[.int .i64 k, .slice A xs.length c] 34)) := by
  obtain ⟨base, hr⟩ := hr
  exact ⟨(hl.alloc hl.size _).alloc (Nat.le_trans hl.size (by simp)) _, by simp, by simp, by simp, base, (hr.alloc _).alloc _⟩
/-- the instruction's box stood, the fault's is made last -/
theorem boxes_ins (W6 V : World) (k : Int) (A : Option Addr) (c : Nat) (xs : List Int) {X : Nat} {a b : Value} (hl : Below W6.heap.size W6 V) (hX : W6.heap.size ≤ X) (t : Two V X a b) (hr : RowOff V A c xs X) :
    TwoBoxes W6 k A c xs X V.heap.size (((V.setCell ⟨X, 0, none⟩ (.int .i64 k)).setCell ⟨X, 1, none⟩ (.slice A xs.length c)).alloc (.cells #[.int .i64 0, .int .i64 0] 27)) := by
  obtain ⟨i0, i1, i2, i3⟩ := t
  have iz := block_lt_of_cell i0
  have iy := Nat.ne_of_lt iz
  have ix := Nat.ne_of_gt iz
  exact ⟨bel_alloc (bel_set (bel_set hl hX _) hX _) _, by simp [go_sem, i0, iz], by simp [go_sem, i1, iz], by simp [go_sem], 0, ((rowoff_set (rowoff_set hr hr.2) hr.2).1).alloc _⟩
/-- the fault's box stood, the instruction's is made last -/
theorem boxes_flt (W6 V : World) (k : Int) (A : Option Addr) (c : Nat) (xs : List Int) {Y : Nat} {a b : Value} (hl : Below W6.heap.size W6 V) (hY : W6.heap.size ≤ Y) (t : Two V Y a b) (hr : RowOff V A c xs Y) :
    TwoBoxes W6 k A c xs V.heap.size Y (((V.setCell ⟨Y, 0, none⟩ (.int .i64 0)).setCell ⟨Y, 1, none⟩ (.int .i64 0)).alloc (.cells #[.int .i64 k, .slice A xs.length c] 34)) := by
  obtain ⟨i0, i1, i2, i3⟩ := t
  have iz := block_lt_of_cell i0
  have iy := Nat.ne_of_lt iz
  have ix := Nat.ne_of_gt iz
  exact ⟨bel_alloc (bel_set (bel_set hl hY _) hY _) _, by simp [go_sem], by simp [go_sem], by simp [go_sem, i0, iz], 0, ((rowoff_set (rowoff_set hr hr.2) hr.2).1).alloc _⟩
/-- both stood -/
theorem boxes_both (W6 V : World) (k : Int) (A : Option Addr) (c : Nat) (xs : List Int) {X Y : Nat} {a b a' b' : Value} (hl : Below W6.heap.size W6 V) (hX : W6.heap.size ≤ X) (hY : W6.heap.size ≤ Y) (t : Two V X a b) (t' : Two V Y a' b') (ne : ¬ X = Y) (hr : RowOff V A c xs X) (hr' : RowOff V A c xs Y) :
    TwoBoxes W6 k A c xs X Y ((((V.setCell ⟨X, 0, none⟩ (.int .i64 k)).setCell ⟨X, 1, none⟩ (.slice A xs.length c)).setCell ⟨Y, 0, none⟩ (.int .i64 0)).setCell ⟨Y, 1, none⟩ (.int .i64 0)) := by
  obtain ⟨i0, i1, i2, i3⟩ := t
  obtain ⟨f0, f1, f2, f3⟩ := t'
  have ne' : ¬ Y = X := fun e => ne e.symm
  exact ⟨bel_set (bel_set (bel_set (bel_set hl hX _) hX _) hY _) hY _, by simp [go_sem, i0], by simp [go_sem, i1], by simp [go_sem, f0], 0, (rowoff_set (rowoff_set (rowoff_set (rowoff_set hr hr.2) hr.2) hr'.2) hr'.2).1⟩
end Go.Proofs.YtcngpciblbdgbaaGreatDoor

/-! The law DisasmTextMatchesSpec for a good instruction. Conditions: the arguments read as forms and an instruction, the library's variables are laid. -/
namespace Go.Proofs.YtcngpciblbdgbaaGreatDoor
open Go Go.RowKit Go.Shelf
attribute [local go_sem] Oper.semAt_some
set_option maxRecDepth 100000 in
set_option maxHeartbeats 16000000 in
theorem textlaw_ok (B : Nat) (v av : Value) (fs : List Frm) (k : Nat) (f : Frm) (xs : List Int) (w : World) (h : FormsAt B w v fs) (ha : KindsAt B w av xs) (hB : B ≤ w.heap.size) (hV : VarsAt B w) (o1 : EncOk fs k xs f) :
    Calls Tryz.prog 4 #[v, .agg #[.int .i64 (k : Int), av]] w fun e w' => e = .returned (.bool true) ∧ Below w.heap.size w w' := by
  obtain ⟨A, n, c, rfl, hfs, -, -, hop⟩ := h.opens
  obtain ⟨A1, n1, c1, rfl, -⟩ := ha.opens
  have ht := o1.1
  have hx := o1.2.1
  have hok := valid_form ht (List.mem_of_getElem? hx)
  have hi : insFault fs (k : Int) xs = (0, 0) := by
    have h0 := encOk_fault o1
    unfold encFault at h0
    rwa [if_neg (by rw [ht]; decide)] at h0
  have hkn : k < n := by rw [← hfs.out]; exact (List.getElem?_eq_some_iff.1 hx).1
  obtain ⟨b1, p1, rfl, hb1, hg⟩ := hop (Nat.lt_of_le_of_lt (Nat.zero_le _) hkn)
  have HG := Lib.hid (hg k f hx)
  have HB1 := Lib.hid hb1
  have hki : (k : Int) < (n : Int) := small_int hkn
  have hk0 : (0 : Int) ≤ (k : Int) := Int.natCast_nonneg _
  have HX := Lib.hid hx
  have HO := Lib.hid o1
  have HOK := Lib.hid hok
  have HT := Lib.hid ht
  have HI := Lib.hid hi
  have bx := one_more w (.cells #[.int .i64 (k : Int), .slice A1 n1 c1] 34)
  obtain ⟨j0, j1⟩ := one_box w (.int .i64 (k : Int)) (.slice A1 n1 c1) 34
  have J0 := Lib.hid j0
  have J1 := Lib.hid j1
  have HV := Lib.hid (hV.below (bx.mono hB))
  have X := disExample_any B (w.alloc (.cells #[.int .i64 (k : Int), .slice A1 n1 c1] 34)) (Nat.le_trans hB bx.size) HV.out
  have HE := Lib.hid X
  obtain ⟨sb, hsb⟩ : ∃ sb : ByteArray, sb = ⟨(insT f.name.data.toList (opsT f.kinds xs)).toArray⟩ := ⟨_, rfl⟩
  have HSB := Lib.hid (show strV (insT f.name.data.toList (opsT f.kinds xs)) = .string sb by rw [hsb])
  clear j0 j1 X hsb o1 hok ht hi hx hb1 hg hop hfs hkn hV
  go_enter Tryz.func4, Tryz.ntmps4
  go_wp2_with fail
  refine HE.out.mono ?_
  rintro e W1 ⟨rfl, hb1⟩
  have x0 := cell_below J0.out hb1
  have x1 := cell_below J1.out hb1
  have w1 := bx.trans (hb1.mono bx.size)
  have FA := Lib.hid (h.below (w1.mono hB))
  have KA := Lib.hid (ha.below (w1.mono hB))
  have VA := Lib.hid (HV.out.below (hb1.mono (Nat.le_trans hB bx.size)))
  have hB1 : B ≤ W1.heap.size := Nat.le_trans hB w1.size
  have z1 := block_lt_of_cell x0
  have X0 := Lib.hid x0
  have X1 := Lib.hid x1
  have HW1 := Lib.hid w1
  have HBB := Lib.hid hB1
  have HB0 := Lib.hid hB
  clear h ha bx hb1 w1 HV HE
  go_wp2_with fail
  refine (text_ok _ _ _ _ _ _ _ _ FA.out KA.out HBB.out VA.out HO.out).mono ?_
  rintro e W2 ⟨rfl, hb2⟩
  rw [HSB.out]
  have a3 := one_more W2 (.cells #[.int .i64 0, .int .i64 0] 27)
  have g3 := hb2.trans (a3.mono hb2.size)
  have u3 : Two (W2.alloc (.cells #[.int .i64 0, .int .i64 0] 27)) W2.heap.size (.int .i64 0) (.int .i64 0) := Two.new _ _ _ _
  have C := tableFault_any B _ fs _ (FA.out.below (g3.mono hB1)) (Nat.le_trans hB1 g3.size)
  rw [HT.out] at C
  have HC := Lib.hid C
  have G3 := Lib.hid g3
  have U3 := Lib.hid u3
  clear C a3 g3 u3 hb2
  go_wp2_with fail
  refine HC.out.mono ?_
  rintro e W4 ⟨rfl, hb4⟩
  have u4 := U3.out.below hb4
  have g4 := G3.out.trans (hb4.mono G3.out.size)
  have x0' := cell_below X0.out g4
  have x1' := cell_below X1.out g4
  have G4 := Lib.hid g4
  have U4 := Lib.hid u4
  have z2 := u4.lt
  have z1' := block_lt_of_cell x0'
  obtain ⟨r0, r1, r2, r3⟩ := u4
  have g5 := g4.trans ((one_more W4 (.cells #[.int .i64 0, .int .i64 0] 27)).mono g4.size)
  have D := insFault_any B _ _ fs (k : Int) xs (W4.alloc (.cells #[.int .i64 0, .int .i64 0] 27)) (FA.out.below (g5.mono hB1)) (KA.out.below (g5.mono hB1)) (Nat.le_trans hB1 g5.size)
  rw [HI.out] at D
  have HD := Lib.hid D
  clear hb4 g4 x0 x1 z1 HC D g5
  go_wp2_with fail
  refine HD.out.mono ?_
  rintro e W5 ⟨rfl, hb5⟩
  have a5 := one_more W4 (.cells #[.int .i64 0, .int .i64 0] 27)
  have g45 := a5.trans (hb5.mono a5.size)
  obtain ⟨v0, v1, v2, v3⟩ := (Two.new W4 (.int .i64 0) (.int .i64 0) 27).below hb5
  have z4 := block_lt_of_cell v0
  have g46 := g45.trans (((Below.refl W4.heap.size W5).setCell (p := ⟨W4.heap.size, 0, none⟩) (Nat.le_refl _) (.int .i64 0)).setCell (p := ⟨W4.heap.size, 1, none⟩) (Nat.le_refl _) (.int .i64 0))
  have G46 := Lib.hid g46
  clear hb5 a5 g45 g46 r0 r1 r2 r3
  go_wp2_with fail
  obtain ⟨W6, hW6⟩ : ∃ W6, W6 = (W5.setCell ⟨W4.heap.size, 0, none⟩ (.int .i64 0)).setCell ⟨W4.heap.size, 1, none⟩ (.int .i64 0) := ⟨_, rfl⟩
  rw [← hW6] at G46 ⊢
  clear hW6 v0 v1 v2 v3
  have g46 := G46.out
  have y0 := cell_below x0' g46
  have y1 := cell_below x1' g46
  have u6 := U4.out.below g46
  have g16 := G4.out.trans (g46.mono G4.out.size)
  have hB6 := Nat.le_trans hB1 g16.size
  have FW := (FA.out.below (g16.mono hB1)).more hB6
  have KW := (KA.out.below (g16.mono hB1)).more hB6
  have VW := (VA.out.below (g16.mono hB1)).more hB6
  have d := HG.out.below (((HW1.out.trans (g16.mono HW1.out.size))).mono HB0.out) HB1.out
  have hkf := FW.kinds (List.mem_of_getElem? HX.out)
  have HFW := Lib.hid FW
  have HKW := Lib.hid KW
  have HVW := Lib.hid VW
  have CT : Hid (∀ W', Below W6.heap.size W6 W' → Calls Tryz.prog 18 #[.agg #[.string f.name, .int .i64 f.code, f.kv], .slice A1 n1 c1] W' fun e w' => e = .returned (.string sb) ∧ Below W'.heap.size W' w') := Lib.hid (fun W' hb' => by
    have D := insText_any W6.heap.size f _ xs W' (hkf.below hb') (HKW.out.below hb') hb'.size HOK.out HO.out.2.2.1 (inside_of_idx HO.out.2.2.1 HO.out.2.2.2)
    rw [HSB.out] at D
    exact D)
  have CR : Hid (∀ W', Below W6.heap.size W6 W' → Calls Tryz.prog 17 #[.slice (some ⟨b1, p1, none⟩) n c, .string sb] W' fun e w' => ∃ (A : Option Addr) (c : Nat), e = .returned (.tuple #[.agg #[.int .i64 (k : Int), .slice A xs.length c], faultV (0, 0)]) ∧ Hid (w'.ownsRow W'.heap.size 3 1 (.slice A xs.length c) xs.length (iv xs)) ∧ Below W'.heap.size W' w') := Lib.hid (fun W' hb' => by
    have D := read_ok W6.heap.size _ fs (insT f.name.data.toList (opsT f.kinds xs)) W' (HFW.out.below hb') hb'.size (HVW.out.below hb') HT.out (own_text HO.out).2.2.2
    rw [HSB.out] at D
    refine D.mono fun e w' hp => ?_
    obtain ⟨hb, A, c, he, hr⟩ := read_own HO.out hp
    exact ⟨A, c, he, Lib.hid hr, hb⟩)
  obtain ⟨nm, q, kv, ks⟩ := f
  obtain ⟨A3, n3, c3, e3, -, -, -⟩ := hkf.opens
  dsimp only at e3
  subst e3
  obtain ⟨d0, d1, d2⟩ := d
  dsimp only at d0 d1 d2 CT
  obtain ⟨s0, s1, s2, s3⟩ := u6
  have hb1L : b1 < W6.heap.size := Nat.lt_of_lt_of_le HB1.out hB6
  have z6 := block_lt_of_cell y0
  have z7 := block_lt_of_cell s0
  have KS : Hid (∀ W', Below W6.heap.size W6 W' → _) := Lib.hid (fun W' hb' => And.intro (And.intro (cell_below d0 hb') (And.intro (cell_below d1 hb') (cell_below d2 hb'))) (And.intro (And.intro (cell_below y0 hb') (cell_below y1 hb')) (cell_below s0 hb')))
  have HFN := Lib.hid (HW1.out.trans (g16.mono HW1.out.size))
  have hcur : Below W6.heap.size W6 W6.drew := (Below.refl _ _).drew
  clear g46 g16 FW KW VW hkf x0' x1' hB6 z1' z2 z4 hB1 d0 d1 d2
  have heq : (sb.toList == sb.toList) = true := by simp
  go_cut [8, 9] (fun s8 s9 wx => ∃ (X Y : Nat) (A8 : Option Addr) (c8 : Nat), s8 = .pointer (some ⟨X, 0, none⟩) ∧ s9 = .pointer (some ⟨Y, 0, none⟩) ∧ Hid (TwoBoxes W6 (k : Int) A8 c8 xs X Y wx))
  case first =>
    go_region_held3 (fun W' => (W'.cell? ⟨b1, p1 + k * 3, none⟩ = some (.string nm) ∧ W'.cell? ⟨b1, p1 + k * 3 + 1, none⟩ = some (.int .i64 q) ∧ W'.cell? ⟨b1, p1 + k * 3 + 2, none⟩ = some (.slice A3 n3 c3)) ∧ (W'.cell? ⟨w.heap.size, 0, none⟩ = some (.int .i64 (k : Int)) ∧ W'.cell? ⟨w.heap.size, 1, none⟩ = some (.slice A1 n1 c1)) ∧ W'.cell? ⟨W2.heap.size, 0, none⟩ = some (.int .i64 0))
      (exact KS.out _ (by repeat (first | exact hcur | exact Below.refl _ _ | refine bel_alloc ?_ _ | refine Below.drew ?_ | refine bel_set ?_ (by first | assumption | exact hcur.size | exact Nat.le_succ_of_le hcur.size | exact Nat.le_refl _ | exact Nat.le_succ _) _)))
      (first
        | (go_at_call 18; refine (CT.out _ (by repeat (first | exact hcur | exact Below.refl _ _ | refine bel_alloc ?_ _ | refine Below.drew ?_ | refine bel_set ?_ (by first | assumption | exact hcur.size | exact Nat.le_succ_of_le hcur.size | exact Nat.le_refl _ | exact Nat.le_succ _) _))).mono ?_; rintro e W7 ⟨rfl, hb7⟩; (try (have BR := Lib.hid (bel_more BR.out (by repeat (first | exact Below.refl _ _ | refine bel_alloc ?_ _ | refine Below.drew ?_)) hb7))); (try (have TI := Lib.hid (TI.out.below (by first | exact hb7 | exact (one_more _ _).trans (hb7.mono (one_more _ _).size) | exact (two_more _ _ _).trans (hb7.mono (two_more _ _ _).size))))); (try (have TF := Lib.hid (TF.out.below (by first | exact hb7 | exact (one_more _ _).trans (hb7.mono (one_more _ _).size) | exact (two_more _ _ _).trans (hb7.mono (two_more _ _ _).size))))); (first | (have TI := Lib.hid (show Two W7 _ (.int .i64 0) (.slice none 0 0) from (two_pair hb7).1); have TF := Lib.hid (show Two W7 _ (.int .i64 0) (.int .i64 0) from (two_pair hb7).2)) | (have TF := Lib.hid (show Two W7 _ (.int .i64 0) (.int .i64 0) from (two_pair hb7).1); have TI := Lib.hid (show Two W7 _ (.int .i64 0) (.slice none 0 0) from (two_pair hb7).2)) | (have TI := Lib.hid (show Two W7 _ (.int .i64 0) (.slice none 0 0) from (two_pair' hb7).1); have TF := Lib.hid (show Two W7 _ (.int .i64 0) (.int .i64 0) from (two_pair' hb7).2)) | (have TF := Lib.hid (show Two W7 _ (.int .i64 0) (.int .i64 0) from (two_pair' hb7).1); have TI := Lib.hid (show Two W7 _ (.int .i64 0) (.slice none 0 0) from (two_pair' hb7).2)) | have TI := Lib.hid (ins_new hb7) | have TI := Lib.hid (ins_new' hb7) | have TF := Lib.hid (flt_new hb7) | have TF := Lib.hid (flt_new' hb7) | skip); have qa := hcur.size; have qb := Nat.le_succ_of_le hcur.size; have hcur := bel_call (w0 := W6) (by repeat (first | exact hcur | exact Below.refl _ _ | refine bel_alloc ?_ _ | refine Below.drew ?_ | refine bel_set ?_ (by first | assumption | exact hcur.size | exact Nat.le_succ_of_le hcur.size | exact Nat.le_refl _ | exact Nat.le_succ _) _)) hb7)
        | (go_at_call 17; refine (CR.out _ (by repeat (first | exact hcur | exact Below.refl _ _ | refine bel_alloc ?_ _ | refine Below.drew ?_ | refine bel_set ?_ (by first | assumption | exact hcur.size | exact Nat.le_succ_of_le hcur.size | exact Nat.le_refl _ | exact Nat.le_succ _) _))).mono ?_; rintro e W7 ⟨A8, c8, rfl, KI, hb7⟩; have BR := Lib.hid (Below.refl W7.heap.size W7); (try (have tz := TI.out.lt)); (try (have sz := TF.out.lt)); (try (have TI := Lib.hid (TI.out.below (by first | exact hb7 | exact (one_more _ _).trans (hb7.mono (one_more _ _).size) | exact (two_more _ _ _).trans (hb7.mono (two_more _ _ _).size))))); (try (have TF := Lib.hid (TF.out.below (by first | exact hb7 | exact (one_more _ _).trans (hb7.mono (one_more _ _).size) | exact (two_more _ _ _).trans (hb7.mono (two_more _ _ _).size))))); (first | (have TI := Lib.hid (show Two W7 _ (.int .i64 0) (.slice none 0 0) from (two_pair hb7).1); have TF := Lib.hid (show Two W7 _ (.int .i64 0) (.int .i64 0) from (two_pair hb7).2)) | (have TF := Lib.hid (show Two W7 _ (.int .i64 0) (.int .i64 0) from (two_pair hb7).1); have TI := Lib.hid (show Two W7 _ (.int .i64 0) (.slice none 0 0) from (two_pair hb7).2)) | (have TI := Lib.hid (show Two W7 _ (.int .i64 0) (.slice none 0 0) from (two_pair' hb7).1); have TF := Lib.hid (show Two W7 _ (.int .i64 0) (.int .i64 0) from (two_pair' hb7).2)) | (have TF := Lib.hid (show Two W7 _ (.int .i64 0) (.int .i64 0) from (two_pair' hb7).1); have TI := Lib.hid (show Two W7 _ (.int .i64 0) (.slice none 0 0) from (two_pair' hb7).2)) | have TI := Lib.hid (ins_new hb7) | have TI := Lib.hid (ins_new' hb7) | have TF := Lib.hid (flt_new hb7) | have TF := Lib.hid (flt_new' hb7) | skip); have qa := hcur.size; have qb := Nat.le_succ_of_le hcur.size; have hcur := bel_call (w0 := W6) (by repeat (first | exact hcur | exact Below.refl _ _ | refine bel_alloc ?_ _ | refine Below.drew ?_ | refine bel_set ?_ (by first | assumption | exact hcur.size | exact Nat.le_succ_of_le hcur.size | exact Nat.le_refl _ | exact Nat.le_succ _) _)) hb7; (try (obtain ⟨i0, i1, i2, i3⟩ := TI.out; have iz := block_lt_of_cell i0; have iy := Nat.ne_of_lt iz; have ix := Nat.ne_of_gt iz)); (try (obtain ⟨f0, f1, f2, f3⟩ := TF.out; have fz := block_lt_of_cell f0; have fy := Nat.ne_of_lt fz; have fx := Nat.ne_of_gt fz)); (try (have ne1 := two_ne TI.out TF.out (by simp); have ne2 : ¬ _ = _ := fun e => ne1 e.symm))))
    all_goals
      go_wp2_with fail
      go_meet
      first
        | exact ⟨_, _, A8, c8, rfl, rfl, Lib.hid (boxes_new _ _ _ _ _ _ hcur ⟨0, rowoff_any KI.out BR.out⟩)⟩
        | exact ⟨_, _, A8, c8, rfl, rfl, Lib.hid (boxes_new' _ _ _ _ _ _ hcur ⟨0, rowoff_any KI.out BR.out⟩)⟩
        | exact ⟨_, _, A8, c8, rfl, rfl, Lib.hid (boxes_ins _ _ _ _ _ _ hcur (by first | exact Nat.le_refl _ | exact Nat.le_succ _ | exact qa | exact qb | assumption | omega) TI.out (by first | exact rowoff_new KI.out BR.out (by first | exact Nat.le_refl _ | exact Nat.le_succ _) | exact rowoff_old KI.out BR.out (by first | assumption | exact Nat.lt_succ_self _ | (simp; done) | omega | (simp; omega))))⟩
        | exact ⟨_, _, A8, c8, rfl, rfl, Lib.hid (boxes_flt _ _ _ _ _ _ hcur (by first | exact Nat.le_refl _ | exact Nat.le_succ _ | exact qa | exact qb | assumption | omega) TF.out (by first | exact rowoff_new KI.out BR.out (by first | exact Nat.le_refl _ | exact Nat.le_succ _) | exact rowoff_old KI.out BR.out (by first | assumption | exact Nat.lt_succ_self _ | (simp; done) | omega | (simp; omega))))⟩
        | exact ⟨_, _, A8, c8, rfl, rfl, Lib.hid (boxes_both _ _ _ _ _ _ hcur (by first | exact Nat.le_refl _ | exact Nat.le_succ _ | exact qa | exact qb | assumption | omega) (by first | exact Nat.le_refl _ | exact Nat.le_succ _ | exact qa | exact qb | assumption | omega) TI.out TF.out (two_ne TI.out TF.out (by simp)) (by first | exact rowoff_new KI.out BR.out (by first | exact Nat.le_refl _ | exact Nat.le_succ _) | exact rowoff_old KI.out BR.out (by first | assumption | exact Nat.lt_succ_self _ | (simp; done) | omega | (simp; omega))) (by first | exact rowoff_new KI.out BR.out (by first | exact Nat.le_refl _ | exact Nat.le_succ _) | exact rowoff_old KI.out BR.out (by first | assumption | exact Nat.lt_succ_self _ | (simp; done) | omega | (simp; omega))))⟩
  case rest =>
    obtain ⟨X, Y, A8, c8, rfl, rfl, HTB⟩ := hcut
    have hT := HTB.out
    obtain ⟨base, hrow⟩ := hT.row
    have hl := hT.low
    have hxl : xs.length ≤ 17592186044416 := by obtain ⟨_, _, _, h2, _⟩ := HKW.out; exact h2
    have K8 := kinds_of_row' hrow hxl
    have K1 := (HKW.out.below hl).more hl.size
    have HK8 := Lib.hid K8
    have HK1 := Lib.hid K1
    have HL := Lib.hid hl
    have CT2 : Hid (∀ W', Below wc.heap.size wc W' → Calls Tryz.prog 18 #[.agg #[.string nm, .int .i64 q, .slice A3 n3 c3], .slice A1 n1 c1] W' fun e w' => e = .returned (.string sb) ∧ Below W'.heap.size W' w') := Lib.hid (fun W' hb' => CT.out W' (HL.out.trans (hb'.mono HL.out.size)))
    have CS : Hid (∀ W', Below wc.heap.size wc W' → Calls Tryz.prog 14 #[.agg #[.int .i64 (k : Int), .slice A8 xs.length c8], .agg #[.int .i64 (k : Int), .slice A1 n1 c1]] W' fun e w' => e = .returned (.bool true) ∧ Below W'.heap.size W' w') := Lib.hid (fun W' hb' => by
      have D := sameIns_any wc.heap.size (k : Int) (k : Int) _ _ xs xs W' (HK8.out.below hb') (HK1.out.below hb') hb'.size
      refine D.mono fun e w' ⟨he, hb⟩ => ⟨by rw [he]; simp, hb⟩)
    have hk6 := KS.out wc HL.out
    obtain ⟨⟨e0, e1, e2⟩, ⟨e3, e4⟩, e5⟩ := hk6
    have e6 := hT.i0
    have e7 := hT.i1
    have e8 := hT.f0
    have KS2 : Hid (∀ W', Below wc.heap.size wc W' → _) := Lib.hid (fun W' hb' => And.intro (And.intro (cell_below e0 hb') (And.intro (cell_below e1 hb') (cell_below e2 hb'))) (And.intro (And.intro (cell_below e3 hb') (cell_below e4 hb')) (And.intro (cell_below e5 hb') (And.intro (And.intro (cell_below e6 hb') (cell_below e7 hb')) (cell_below e8 hb')))))
    have l1 := block_lt_of_cell e0
    have l2 := block_lt_of_cell e3
    have l3 := block_lt_of_cell e5
    have l4 := block_lt_of_cell e6
    have l5 := block_lt_of_cell e8
    have HFN2 := Lib.hid (HFN.out.trans (HL.out.mono HFN.out.size))
    have hcur : Below wc.heap.size wc wc.drew := (Below.refl _ _).drew
    clear hT hrow hl hxl K8 K1 e0 e1 e2 e3 e4 e5 e6 e7 e8 KS CT CR HL HTB HFN
    go_wp2_with fail
    go_region_held3 (fun W' => (W'.cell? ⟨b1, p1 + k * 3, none⟩ = some (.string nm) ∧ W'.cell? ⟨b1, p1 + k * 3 + 1, none⟩ = some (.int .i64 q) ∧ W'.cell? ⟨b1, p1 + k * 3 + 2, none⟩ = some (.slice A3 n3 c3)) ∧ (W'.cell? ⟨w.heap.size, 0, none⟩ = some (.int .i64 (k : Int)) ∧ W'.cell? ⟨w.heap.size, 1, none⟩ = some (.slice A1 n1 c1)) ∧ W'.cell? ⟨W2.heap.size, 0, none⟩ = some (.int .i64 0) ∧ (W'.cell? ⟨X, 0, none⟩ = some (.int .i64 (k : Int)) ∧ W'.cell? ⟨X, 1, none⟩ = some (.slice A8 xs.length c8)) ∧ W'.cell? ⟨Y, 0, none⟩ = some (.int .i64 0))
      (exact KS2.out _ hcur)
      (first
        | (go_at_call 18; refine (CT2.out _ hcur).mono ?_; rintro e W7 ⟨rfl, hb7⟩; have hcur := hcur.trans (hb7.mono hcur.size))
        | (go_at_call 14; refine (CS.out _ hcur).mono ?_; rintro e W7 ⟨rfl, hb7⟩; have hcur := hcur.trans (hb7.mono hcur.size)))
    go_wp2_with fail
    go_ret
    exact ⟨rfl, HFN2.out.trans (hcur.mono HFN2.out.size)⟩
end Go.Proofs.YtcngpciblbdgbaaGreatDoor
