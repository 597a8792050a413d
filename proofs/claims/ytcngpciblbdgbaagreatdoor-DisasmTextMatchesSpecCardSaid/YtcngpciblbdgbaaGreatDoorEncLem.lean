/- Lemmas behind the contract of Decoded: readings of rows, rounds, the values of operands. -/
import Derived.Test.YtcngpciblbdgbaaGreatDoorEncCode
namespace Go.Proofs.YtcngpciblbdgbaaGreatDoor
open Go Go.RowKit Go.Shelf
def boxI (w : World) : World := w.alloc (.cells #[.int .i64 0, .slice none 0 0] 34)
theorem held_form1 {W W2 : World} {b b2 o : Nat} {x y z u : Value} (hb : Below W.heap.size W W2) (h1 : b < W.heap.size) (h2 : b2 < W.heap.size) (d1 : W.cell? ⟨b, 0, none⟩ = some x) (d2 : W.cell? ⟨b, 1, none⟩ = some y) (d3 : W.cell? ⟨b, 2, none⟩ = some z) (r : W.cell? ⟨b2, o, none⟩ = some u) :
    (W2.cell? ⟨b, 0, none⟩ = some x ∧ W2.cell? ⟨b, 1, none⟩ = some y ∧ W2.cell? ⟨b, 2, none⟩ = some z) ∧ W2.cell? ⟨b2, o, none⟩ = some u :=
  ⟨⟨(hb.cell (p := ⟨b, 0, none⟩) h1).trans d1, (hb.cell (p := ⟨b, 1, none⟩) h1).trans d2, (hb.cell (p := ⟨b, 2, none⟩) h1).trans d3⟩, (hb.cell (p := ⟨b2, o, none⟩) h2).trans r⟩
theorem dec_round {k n : Nat} (h : k < n) (hn : n ≤ 17592186044416) : wrap64 ((k : Int) + 1) = ((k + 1 : Nat) : Int) ∧ n - (intOf (.int .i64 ((k + 1 : Nat) : Int))).toNat < n - (intOf (.int .i64 (k : Int))).toNat := by
  refine ⟨by rw [IntWalk.wrap64_in _ (by omega)]; omega, ?_⟩
  simp [intOf]
  omega
theorem int_succ {r : Nat} (h : r ≤ 17592186044416) : Value.int .i64 (wrap64 ((r : Int) + 1)) = Value.int .i64 ((r + 1 : Nat) : Int) := by
  rw [IntWalk.wrap64_in _ (by omega)]
  rfl
theorem bytes_cell_at {B n c b o P : Nat} {w : World} {l : List UInt8} (h : BytesAt B w (.slice (some ⟨b, o, none⟩) n c) l) (hP : P < n) : w.cell? ⟨b, o + P, none⟩ = some (.int .u8 ((l[P]?.getD 0).toNat : Int)) := by
  obtain ⟨A, c', e, _, h3⟩ := h
  injection e with e1 e2 e3
  subst e1
  obtain ⟨b', off, ha, _, hc⟩ := h3 (by omega)
  injection ha with ha
  injection ha with ha1 ha2
  subst ha1
  subst ha2
  exact hc P (by omega)
theorem getL_next {ks : List Int} {l : List UInt8} {j : Nat} (h : j < ks.length) : iv ((getL ks l).take j) ++ [.int .i64 (getA ks l j)] = iv ((getL ks l).take (j + 1)) := by
  have hl : j < (getL ks l).length := by simpa [getL] using h
  rw [List.take_add_one, List.getElem?_eq_getElem hl]
  simp [iv, getL]
theorem two_row {wr w4 : World} {X : Nat} {x av : Value} {o : Obj} {row : Option Nat} (T : Two wr X x av) (hg : (wr.alloc o).grownBy w4 row) (hr : ∀ r, row = some r → X ≠ r) : Two w4 X x av := by
  have t := T.below (one_more wr o)
  have hne : some X ≠ row := fun h => hr X h.symm rfl
  have hlt := t.lt
  exact ⟨hg.cell t.1 hne, hg.cell t.2.1 hne, (World.frozen?_of_block (a := ⟨X, 0, none⟩) (hg.block X hlt hne)).trans t.2.2.1, (World.frozen?_of_block (a := ⟨X, 1, none⟩) (hg.block X hlt hne)).trans t.2.2.2⟩
theorem dec_store {W wr w4 : World} {X b n n' : Nat} {x av v' : Value} {o : Obj} {xs ys : List Value} {e : TypeId} (HR : wr.ownsRow b e 1 av n xs) (hrow : w4.ownsRow b e 1 v' n' ys) (hg : (wr.alloc o).grownBy w4 av.ownBlock) (T : Two w4 X x av) (hX : X < b) (hB : Below X W wr) (hXs : X ≤ wr.heap.size) (hb : b ≤ wr.heap.size) :
    (w4.setCell ⟨X, 1, none⟩ v').ownsRow b e 1 v' n' ys ∧ Two (w4.setCell ⟨X, 1, none⟩ v') X x v' ∧ Below X W (w4.setCell ⟨X, 1, none⟩ v') ∧ b ≤ (w4.setCell ⟨X, 1, none⟩ v').heap.size := by
  have hgr : ∀ r, av.ownBlock = some r → X ≤ r := fun r h => Nat.le_of_lt (Nat.lt_of_lt_of_le hX (HR.lt r h).1)
  have h1 := ((hB.alloc hXs o).grown hg (Nat.le_trans hXs (by simp)) hgr).setCell (p := ⟨X, 1, none⟩) (Nat.le_refl _) v'
  refine ⟨hrow.kept (grown_set w4 X 1 v') ?_, ?_, h1, ?_⟩
  · cases hv : v'.ownBlock with
    | none => exact .inl rfl
    | some r => exact .inr fun h => by have := (hrow.lt r hv).1; injection h with h; omega
  · obtain ⟨t0, t1, t2, t3⟩ := T
    exact ⟨by rw [World.cell?_setCell_other _ _ _ _ (by simp)]; exact t0, World.cell?_setCell_same' _ _ _ (by rw [t1]; rfl), by simp [t2], by simp [t3]⟩
  · have h2 := hg.size
    simp at h2 ⊢
    omega
theorem reg_step {ks : List Int} {j p q : Nat} {kj : Int} (hj : j < ks.length) (hk : kj = ks[j]?.getD 0) (h : p = regAt ks j ∧ q = numAt ks j) : p + regsOf kj = regAt ks (j + 1) ∧ q + widthOf kj = numAt ks (j + 1) := by
  have h1 := regs_succ hj
  have h2 := widths_succ hj
  rw [← hk] at h1 h2
  unfold regAt numAt at *
  rw [h1, h2]
  omega
theorem step_regs {ks : List Int} {j p q : Nat} {kj : Int} (hj : j < ks.length) (hr : isReg kj = true) (hk : kj = ks[j]?.getD 0) (h : p = regAt ks j ∧ q = numAt ks j) : p + 1 = regAt ks (j + 1) ∧ q = numAt ks (j + 1) := by
  have := reg_step hj hk h
  rw [regsOf_reg hr, widthOf_reg hr] at this
  exact this
theorem step_nums {ks : List Int} {j p q w : Nat} {kj : Int} (hj : j < ks.length) (hr : isReg kj = false) (hw : widthOf kj = w) (hk : kj = ks[j]?.getD 0) (h : p = regAt ks j ∧ q = numAt ks j) : p = regAt ks (j + 1) ∧ q + w = numAt ks (j + 1) := by
  have := reg_step hj hk h
  rw [regsOf_num hr, hw] at this
  exact this
theorem x_even {ks : List Int} {l : List UInt8} {j p y : Nat} {kj : Int} (hr : isReg kj = true) (hk : kj = ks[j]?.getD 0) (hp : p = regAt ks j) (h2 : p % 2 = 0) (hy : y = (l[1 + p / 2]?.getD 0).toNat) : (y : Int) % 16 = getA ks l j := by
  unfold getA nib
  rw [← hk, if_pos hr, ← hp, ← hy, h2, if_pos rfl, Nat.div_one]
  omega
theorem x_odd {ks : List Int} {l : List UInt8} {j p y : Nat} {kj : Int} (hr : isReg kj = true) (hk : kj = ks[j]?.getD 0) (hp : p = regAt ks j) (h2 : p % 2 = 1) (hy : y = (l[1 + p / 2]?.getD 0).toNat) : wrap64 ((y : Int) / 16) = getA ks l j := by
  have h8 : y < 256 := by rw [hy]; exact u8_lt _
  unfold getA nib
  rw [← hk, if_pos hr, ← hp, ← hy, h2, if_neg (by decide), IntWalk.wrap64_in _ (by omega)]
  omega
theorem x_byte {ks : List Int} {l : List UInt8} {j q y : Nat} {kj : Int} (h35 : kj = 3 ∨ kj = 5) (hk : kj = ks[j]?.getD 0) (hq : q = numAt ks j) (hy : y = (l[q]?.getD 0).toNat) : wrap64 (IntKind.i8.wrap (y : Int)) = getA ks l j := by
  have h8 : y < 256 := by rw [hy]; exact u8_lt _
  have hw : IntKind.i8.wrap (y : Int) = if 127 < (y : Int) then (y : Int) - 256 else (y : Int) := by
    unfold IntKind.wrap
    simp [IntKind.signed, IntKind.bits]
    split <;> omega
  unfold getA
  rw [← hk]
  rcases h35 with rfl | rfl
  all_goals
    rw [if_neg (by decide), ← hq, hw]
    show _ = numOf _ (valAt l q 1)
    have hv : valAt l q 1 = y := by simp [valAt, hy]
    rw [hv]
    unfold numOf
    simp [lowOf, highOf, isReg, widthOf]
    split <;> rw [IntWalk.wrap64_in _ (by omega)]
theorem int_plus {q w : Nat} (h : q + w ≤ 1000000) : Value.int .i64 (wrap64 ((q : Int) + (w : Int))) = Value.int .i64 ((q + w : Nat) : Int) := by
  rw [IntWalk.wrap64_in _ (by omega)]
  rfl
theorem num_facts {ks : List Int} {j q n2 W : Nat} {kj : Int} (hj : j < ks.length) (h4 : ks.length ≤ 4) (hr : isReg kj = false) (hw : widthOf kj = W) (hk : kj = ks[j]?.getD 0) (hq : q = numAt ks j) (hs : sizeOf ks ≤ n2) : q + W ≤ n2 ∧ q ≤ 20 := by
  have h5 := fld_fits hj
  have h6 := sizeOf_le h4
  unfold fldAt at h5
  rw [← hk, hr, if_neg (by decide), if_neg (by decide), ← hq, hw] at h5
  omega
theorem reg_facts {ks : List Int} {j p n2 : Nat} {kj : Int} (hj : j < ks.length) (hr : isReg kj = true) (hk : kj = ks[j]?.getD 0) (hp : p = regAt ks j) (hs : sizeOf ks ≤ n2) : 1 + p / 2 < n2 := by
  have h5 := fld_fits hj
  unfold fldAt at h5
  rw [← hk, hr, if_pos rfl, if_pos rfl, ← hp] at h5
  omega
theorem reg_small {ks : List Int} {j p n3 : Nat} (hp : p = regAt ks j) (hj : j < n3) (hn : n3 ≤ 4) : p = 0 ∨ p = 1 ∨ p = 2 ∨ p = 3 := by
  have h5 := regs_le (ks.take j)
  rw [List.length_take] at h5
  unfold regAt at hp
  omega
theorem at_lt {q n2 W : Nat} (h : q + W ≤ n2) (hW : 0 < W) : q < n2 ∧ (q : Int) < (n2 : Int) := ⟨by omega, by omega⟩
theorem at_one {q n2 : Nat} (h : q + 1 < n2) (hq : q ≤ 20) : IntKind.i64.wrap ((q : Int) + 1) = (q : Int) + 1 ∧ ((q : Int) + 1).toNat = q + 1 ∧ (0 : Int) ≤ (q : Int) + 1 ∧ (q : Int) + 1 < (n2 : Int) := ⟨IntWalk.i64_in _ (by omega), by omega, by omega, by omega⟩
theorem at_two {q n2 : Nat} (h : q + 2 < n2) (hq : q ≤ 20) : IntKind.i64.wrap ((q : Int) + 2) = (q : Int) + 2 ∧ ((q : Int) + 2).toNat = q + 2 ∧ (0 : Int) ≤ (q : Int) + 2 ∧ (q : Int) + 2 < (n2 : Int) := ⟨IntWalk.i64_in _ (by omega), by omega, by omega, by omega⟩
theorem at_three {q n2 : Nat} (h : q + 3 < n2) (hq : q ≤ 20) : IntKind.i64.wrap ((q : Int) + 3) = (q : Int) + 3 ∧ ((q : Int) + 3).toNat = q + 3 ∧ (0 : Int) ≤ (q : Int) + 3 ∧ (q : Int) + 3 < (n2 : Int) := ⟨IntWalk.i64_in _ (by omega), by omega, by omega, by omega⟩
theorem byte_facts {l : List UInt8} {P y : Nat} (h : y = (l[P]?.getD 0).toNat) : IntKind.i64.wrap (y : Int) = (y : Int) ∧ y < 256 := by
  have : y < 256 := by rw [h]; exact u8_lt _
  exact ⟨IntWalk.i64_in _ (by omega), this⟩
theorem small_int {a n : Nat} (h : a < n) : (a : Int) < (n : Int) := by omega
theorem row_room {j n3 : Nat} (hj : j < n3) (h : n3 ≤ 4) : j + 1 ≤ maxLen ∧ (j + 1) * 8 ≤ 140737488355328 := by unfold maxLen; omega
theorem cell_drew {w wd : World} {a : Addr} {v : Value} {nq : Nat} (h : w.cell? a = some v) (e : wd = w.drewN nq) : wd.cell? a = some v := by rw [e]; exact h
theorem lt_le {q n2 t W : Nat} (h : q + W ≤ n2) (ht : t < W) : q + t < n2 := by omega
theorem decd_keep {wr W' : World} {b X : Nat} {x y z u v : Value} (hb : Below wr.heap.size wr W') (d1 : wr.cell? ⟨b, 0, none⟩ = some x) (d2 : wr.cell? ⟨b, 1, none⟩ = some y) (d3 : wr.cell? ⟨b, 2, none⟩ = some z) (r0 : wr.cell? ⟨X, 0, none⟩ = some u) (r1 : wr.cell? ⟨X, 1, none⟩ = some v) :
    (W'.cell? ⟨b, 0, none⟩ = some x ∧ W'.cell? ⟨b, 1, none⟩ = some y ∧ W'.cell? ⟨b, 2, none⟩ = some z) ∧ W'.cell? ⟨X, 0, none⟩ = some u ∧ W'.cell? ⟨X, 1, none⟩ = some v :=
  ⟨⟨cell_below d1 hb, cell_below d2 hb, cell_below d3 hb⟩, cell_below r0 hb, cell_below r1 hb⟩
theorem small_not {k n : Nat} (h : k < n) : ¬ ((k : Int) < 0 ∨ (n : Int) ≤ (k : Int)) := by omega
theorem kinds_of_row' {w : World} {B n c : Nat} {A : Option Addr} {l : List Int} (h : w.ownsRow B 3 1 (.slice A n c) n (iv l)) (hn : n ≤ 17592186044416) : KindsAt w.heap.size w (.slice A n c) l := by
  rcases h.2 with ⟨e, h0⟩ | ⟨g, cap, cur, e, _⟩
  · injection e with e1 e2 e3
    subst e1
    subst e3
    subst h0
    have hl : l = [] := by have := h.1; rw [iv_length] at this; exact List.eq_nil_of_length_eq_zero (by omega)
    subst hl
    exact ⟨none, 0, rfl, by simp, fun h => absurd h (by simp)⟩
  · injection e with e1 e2 e3
    subst e1
    exact kinds_of_row h hn
theorem bytes_of_row2 {w : World} {B n c : Nat} {A : Option Addr} {l : List UInt8} (h : w.ownsRow B 5 1 (.slice A n c) n (bv l)) (hn : n ≤ 140737488351232) : BytesAt w.heap.size w (.slice A n c) l := by
  rcases h.2 with ⟨e, h0⟩ | ⟨g, cap, cur, e, _, _, h3, _⟩
  · injection e with e1 e2 e3
    subst e1
    subst e3
    subst h0
    have hl : l = [] := by have := h.1; rw [bv_length] at this; exact List.eq_nil_of_length_eq_zero (by omega)
    subst hl
    exact ⟨none, 0, rfl, ⟨by simp, Nat.le_refl _⟩, fun h => absurd h (by simp)⟩
  · injection e with e1 e2 e3
    subst e1
    exact bytes_of_row h hn (by omega)
theorem dec_round3 {k n : Nat} (h : k < n) (hn : n * 48 ≤ 140737488351232) : wrap64 ((k : Int) + 1) = ((k + 1 : Nat) : Int) ∧ n - (intOf (.int .i64 ((k + 1 : Nat) : Int))).toNat < n - (intOf (.int .i64 (k : Int))).toNat := dec_round h (by omega)
theorem dec_slice {sz n2 c2 : Nat} (h : sz ≤ n2) (hc : n2 ≤ c2) : (sz : Int) ≤ (c2 : Int) ∧ sz ≤ c2 ∧ (0 : Int) ≤ (sz : Int) := ⟨by omega, by omega, by omega⟩
theorem code_keep {W W7 : World} {n c : Nat} {A : Option Addr} {l : List UInt8} (h : W7.ownsRow W.heap.size 5 1 (.slice A n c) n (bv l)) : ∀ W', Below W7.heap.size W7 W' → (n ≤ 140737488351232 → BytesAt W'.heap.size W' (.slice A n c) l) := fun _ hb hn =>
  ((bytes_of_row2 h hn).below hb).more hb.size
theorem x_word {ks : List Int} {l : List UInt8} {j q y0 y1 y2 y3 : Nat} (hk : (4 : Int) = ks[j]?.getD 0) (hq : q = numAt ks j) (h0 : y0 = (l[q]?.getD 0).toNat) (h1 : y1 = (l[q + 1]?.getD 0).toNat) (h2 : y2 = (l[q + 2]?.getD 0).toNat) (h3 : y3 = (l[q + 3]?.getD 0).toNat) :
    wrap64 (wrap64 (wrap64 (wrap64 (y0 : Int) + wrap64 (256 * wrap64 (y1 : Int))) + wrap64 (65536 * wrap64 (y2 : Int))) + wrap64 (16777216 * wrap64 (y3 : Int))) = getA ks l j := by
  have a0 : y0 < 256 := by rw [h0]; exact u8_lt _
  have a1 : y1 < 256 := by rw [h1]; exact u8_lt _
  have a2 : y2 < 256 := by rw [h2]; exact u8_lt _
  have a3 : y3 < 256 := by rw [h3]; exact u8_lt _
  unfold getA
  rw [← hk, if_neg (by decide), ← hq]
  have hv : valAt l q (widthOf 4) = y0 + y1 * 256 + y2 * 65536 + y3 * 16777216 := by
    show valAt l q 4 = _
    simp only [valAt, Nat.add_zero, ← h0, ← h1, ← h2, ← h3]
    omega
  rw [hv]
  unfold numOf
  rw [if_neg (by simp [lowOf, isReg])]
  rw [IntWalk.wrap64_in (y0 : Int) (by omega), IntWalk.wrap64_in (y1 : Int) (by omega), IntWalk.wrap64_in (y2 : Int) (by omega), IntWalk.wrap64_in (y3 : Int) (by omega), IntWalk.wrap64_in (256 * (y1 : Int)) (by omega), IntWalk.wrap64_in (65536 * (y2 : Int)) (by omega), IntWalk.wrap64_in (16777216 * (y3 : Int)) (by omega), IntWalk.wrap64_in ((y0 : Int) + 256 * y1) (by omega), IntWalk.wrap64_in ((y0 : Int) + 256 * y1 + 65536 * y2) (by omega), IntWalk.wrap64_in _ (by omega)]
  omega
theorem x_near {ks : List Int} {l : List UInt8} {j q y0 y1 : Nat} (hk : (6 : Int) = ks[j]?.getD 0) (hq : q = numAt ks j) (h0 : y0 = (l[q]?.getD 0).toNat) (h1 : y1 = (l[q + 1]?.getD 0).toNat) :
    wrap64 (IntKind.i16.wrap (IntKind.u16.wrap (IntKind.u16.wrap (y0 : Int) + IntKind.u16.wrap (256 * IntKind.u16.wrap (y1 : Int))))) = getA ks l j := by
  have a0 : y0 < 256 := by rw [h0]; exact u8_lt _
  have a1 : y1 < 256 := by rw [h1]; exact u8_lt _
  have w16 : ∀ n : Nat, n < 65536 → IntKind.u16.wrap (n : Int) = (n : Int) := fun n hn => by
    unfold IntKind.wrap
    simp [IntKind.signed, IntKind.bits]
    omega
  have e1 : (256 : Int) * (y1 : Int) = ((256 * y1 : Nat) : Int) := by omega
  have e2 : (y0 : Int) + ((256 * y1 : Nat) : Int) = ((y0 + 256 * y1 : Nat) : Int) := by omega
  rw [w16 y0 (by omega), w16 y1 (by omega), e1, w16 (256 * y1) (by omega), e2, w16 _ (by omega)]
  have hw : IntKind.i16.wrap ((y0 + 256 * y1 : Nat) : Int) = if 32767 < (y0 : Int) + 256 * y1 then (y0 : Int) + 256 * y1 - 65536 else (y0 : Int) + 256 * y1 := by
    unfold IntKind.wrap
    simp [IntKind.signed, IntKind.bits]
    split <;> omega
  unfold getA
  rw [← hk, if_neg (by decide), ← hq, hw]
  have hv : valAt l q (widthOf 6) = y0 + y1 * 256 := by
    show valAt l q 2 = _
    simp only [valAt, Nat.add_zero, ← h0, ← h1]
    omega
  rw [hv]
  unfold numOf
  simp [lowOf, highOf, isReg, widthOf]
  repeat' split
  all_goals (rw [IntWalk.wrap64_in _ (by omega)]; omega)
theorem row_below {wr W : World} {b n : Nat} {e : TypeId} {v : Value} {xs : List Value} (h : wr.ownsRow b e 1 v n xs) (hb : Below wr.heap.size wr W) : W.ownsRow b e 1 v n xs := by
  refine ⟨h.1, ?_⟩
  rcases h.2 with h1 | ⟨g, cap, cur, h1, h2, h3, h4⟩
  · exact .inl h1
  · exact .inr ⟨g, cap, cur, h1, h2, (hb.block g (h.lt g (by rw [h1]; rfl)).2).trans h3, h4⟩
theorem dec_good {fs : List Frm} {l : List UInt8} {k b0 : Nat} {f : Frm} {xs : List Int} (ht : tableFault fs = (0, 0)) (hx : fs[k]? = some ⟨f.name, (b0 : Int), f.kv, f.kinds⟩) (hb : b0 = (l[0]?.getD 0).toNat) (hs : sizeOf f.kinds ≤ l.length) (hxs : xs = getL f.kinds l) (ho : outIdx f.kinds xs = -1) (he : l.take (sizeOf f.kinds) = encL (b0 : Int) (f.kinds.zip xs)) : GoodAt fs l k ⟨f.name, (b0 : Int), f.kv, f.kinds⟩ xs := by
  refine ⟨idxOf_at hx (by simp [codeB, hb]) fun j g hj hg => ?_, hx, hs, hxs, ho, he⟩
  cases hc : codeB l g with
  | false => rfl
  | true =>
    have h1 : g.code = (b0 : Int) := by rw [hb]; simpa [codeB] using hc
    have := code_own ht hg hx h1
    omega
theorem dec_no {fs : List Frm} {l : List UInt8} {k : Nat} {f : Frm} (h : ∀ j g ys, j < k → ¬ GoodAt fs l j g ys) (hx : fs[k]? = some f) (hn : ∀ ys, ys = getL f.kinds l → outIdx f.kinds ys = -1 → l.take (sizeOf f.kinds) = encL f.code (f.kinds.zip ys) → False) : ∀ j g ys, j < k + 1 → ¬ GoodAt fs l j g ys := fun j g ys hj hg => by
  rcases Nat.lt_succ_iff_lt_or_eq.1 hj with h1 | rfl
  · exact h j g ys h1 hg
  · obtain ⟨_, g2, _, g4, g5, g6⟩ := hg
    rw [hx] at g2
    injection g2 with g2
    subst g2
    exact hn ys g4 g5 g6
theorem row_base {w : World} {b b' n : Nat} {e : TypeId} {v : Value} {xs : List Value} (h : w.ownsRow b e 1 v n xs) (hb : b' ≤ b) : w.ownsRow b' e 1 v n xs := by
  refine ⟨h.1, ?_⟩
  rcases h.2 with h1 | ⟨g, cap, cur, h1, h2, h3⟩
  · exact .inl h1
  · exact .inr ⟨g, cap, cur, h1, Nat.le_trans hb h2, h3⟩
theorem row_set {W : World} {X j b n : Nat} {e : TypeId} {v u : Value} {xs : List Value} (h : W.ownsRow b e 1 v n xs) (hX : X < b) : (W.setCell ⟨X, j, none⟩ u).ownsRow b e 1 v n xs := by
  refine h.kept (grown_set W X j u) ?_
  cases hv : v.ownBlock with
  | none => exact .inl rfl
  | some r => exact .inr fun h2 => by have := (h.lt r hv).1; injection h2 with h2; omega
theorem dec_rowend {W : World} {X b n : Nat} {e : TypeId} {v u u' : Value} {xs : List Value} (h : W.ownsRow b e 1 v n xs) (hX : X < b) : ((W.setCell ⟨X, 0, none⟩ u).setCell ⟨X, 1, none⟩ u').ownsRow X e 1 v n xs := row_base (row_set (row_set h hX) hX) (Nat.le_of_lt hX)
theorem box3_0 (w : World) (x y z : Value) (t : TypeId) : (w.alloc (.cells #[x, y, z] t)).cell? ⟨w.heap.size, 0, none⟩ = some x ∧ (w.alloc (.cells #[x, y, z] t)).cell? ⟨w.heap.size, 1, none⟩ = some y ∧ (w.alloc (.cells #[x, y, z] t)).cell? ⟨w.heap.size, 2, none⟩ = some z := ⟨by simp, by simp, by simp⟩
end Go.Proofs.YtcngpciblbdgbaaGreatDoor
