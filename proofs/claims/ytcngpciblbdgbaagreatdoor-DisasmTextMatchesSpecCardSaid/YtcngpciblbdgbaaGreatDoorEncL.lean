/- Contract of Decode. Conditions: the table reads as forms; the code reads as bytes. -/
import Derived.Test.YtcngpciblbdgbaaGreatDoorEncK
namespace Go.Proofs.YtcngpciblbdgbaaGreatDoor
open Go Go.RowKit Go.Shelf

/-- an instruction begins the bytes l: form number k, its form f, its arguments xs -/
def GoodAt (fs : List Frm) (l : List UInt8) (k : Nat) (f : Frm) (xs : List Int) : Prop :=
  idxOf (codeB l) fs = (k : Int) ∧ fs[k]? = some f ∧ sizeOf f.kinds ≤ l.length ∧ xs = getL f.kinds l ∧ outIdx f.kinds xs = -1 ∧ l.take (sizeOf f.kinds) = encL f.code (f.kinds.zip xs)
theorem idx_some {α : Type} {p : α → Bool} {fs : List α} (h : ¬ idxOf p fs < 0) : ∃ (k : Nat) (f : α), idxOf p fs = (k : Int) ∧ fs[k]? = some f ∧ p f = true := by
  unfold idxOf at h ⊢
  cases hf : fs.findIdx? p with
  | none => rw [hf] at h; exact absurd (by show (-1 : Int) < 0; decide) h
  | some k =>
    obtain ⟨hk, hp, _⟩ := List.findIdx?_eq_some_iff_getElem.1 hf
    exact ⟨k, fs[k], rfl, List.getElem?_eq_getElem hk, hp⟩
/-- no instruction begins the bytes -/
theorem first_no (B : Nat) (v cv : Value) (fs : List Frm) (l : List UInt8) (w : World) (h : FormsAt B w v fs) (hl : BytesAt B w cv l) (hB : B ≤ w.heap.size) (ht : tableFault fs = (0, 0)) (h0 : 0 < l.length) (hno : ¬ ∃ k f xs, GoodAt fs l k f xs) :
    Calls Tryz.prog 77 #[v, cv] w fun e w' => e = .returned (.tuple #[.agg #[.int .i64 0, .slice none 0 0], .bool false]) ∧ Below w.heap.size w w' := by
  by_cases hj : idxOf (codeB l) fs < 0
  · exact first_none B v cv fs l w h hl hB h0 hj
  · obtain ⟨k, f, h1, h2, _⟩ := idx_some hj
    by_cases hs : l.length < sizeOf f.kinds
    · exact first_short B v cv fs l k f w h hl hB ht h0 h1 h2 hs
    · rcases outIdx_cases (ks := f.kinds) (xs := getL f.kinds l) with ho | ho
      · refine first_pre B v cv fs l k f w h hl hB ht h0 h1 h2 (by omega) ho (fun hp => hno ⟨k, f, _, h1, h2, by omega, rfl, ho, hp⟩)
      · exact first_out B v cv fs l k f w h hl hB ht h0 h1 h2 (by omega) ho
theorem BytesAt.drop {B : Nat} {w : World} {b o n c k : Nat} {l : List UInt8} (h : BytesAt B w (.slice (some ⟨b, o, none⟩) n c) l) (hk : k ≤ n) : BytesAt B w (.slice (some ⟨b, o + k, none⟩) (n - k) (c - k)) (l.drop k) := by
  obtain ⟨A, c', e, ⟨h1, h2⟩, h3⟩ := h
  injection e with e1 e2 e3
  subst e1
  subst e3
  have hl : (l.drop k).length = n - k := by rw [List.length_drop]; omega
  refine ⟨_, c - k, by rw [hl], ⟨by omega, by omega⟩, fun hp => ?_⟩
  obtain ⟨b', o', e, hb, hc⟩ := h3 (by omega)
  injection e with e
  injection e with e4 e5
  subst e4
  subst e5
  refine ⟨b, o + k, rfl, hb, fun j hj => ?_⟩
  rw [List.getElem?_drop, Nat.add_assoc]
  exact hc (k + j) (by omega)

/-- Decode's world when it has laid its results -/
def decW (w : World) : World := (w.alloc (.cells #[.int .i64 0, .slice none 0 0] 34)).alloc (.cells #[.int .i64 0, .int .i64 0] 27)
theorem decW_below (w : World) : Below w.heap.size w (decW w) := ((Below.refl _ _).alloc (Nat.le_refl _) _).alloc (by simp) _
theorem decW_ins (w : World) : Two (decW w) w.heap.size (.int .i64 0) (.slice none 0 0) := (Two.new w _ _ _).below ((Below.refl _ _).alloc (Nat.le_refl _) _)
theorem decW_fault (w : World) : Two (decW w) (w.heap.size + 1) (.int .i64 0) (.int .i64 0) := by
  have := Two.new (w.alloc (.cells #[.int .i64 0, .slice none 0 0] 34)) (.int .i64 0) (.int .i64 0) 27
  rw [World.size_alloc] at this
  exact this
abbrev noIns : Value := .agg #[.int .i64 0, .slice none 0 0]
theorem four_set {W : World} {R S : Nat} (hRS : R ≠ S) {x y u v a b c d : Value} (h : Two W R a b) (h' : Two W S c d) :
    (((((W.setCell ⟨R, 0, none⟩ x).setCell ⟨R, 1, none⟩ y).setCell ⟨S, 0, none⟩ u).setCell ⟨S, 1, none⟩ v).cell? ⟨R, 0, none⟩ = some x ∧ ((((W.setCell ⟨R, 0, none⟩ x).setCell ⟨R, 1, none⟩ y).setCell ⟨S, 0, none⟩ u).setCell ⟨S, 1, none⟩ v).cell? ⟨R, 1, none⟩ = some y) ∧
    (((((W.setCell ⟨R, 0, none⟩ x).setCell ⟨R, 1, none⟩ y).setCell ⟨S, 0, none⟩ u).setCell ⟨S, 1, none⟩ v).cell? ⟨S, 0, none⟩ = some u ∧ ((((W.setCell ⟨R, 0, none⟩ x).setCell ⟨R, 1, none⟩ y).setCell ⟨S, 0, none⟩ u).setCell ⟨S, 1, none⟩ v).cell? ⟨S, 1, none⟩ = some v) := by
  obtain ⟨e0, e1⟩ := two_set (x := x) (y := y) h.1 h.2.1
  have k1 := grown_set W R 0 x
  have k2 := grown_set (W.setCell ⟨R, 0, none⟩ x) R 1 y
  have s0 := k2.cell (k1.cell h'.1 (by simp; omega)) (by simp; omega)
  have s1 := k2.cell (k1.cell h'.2.1 (by simp; omega)) (by simp; omega)
  have k3 := grown_set ((W.setCell ⟨R, 0, none⟩ x).setCell ⟨R, 1, none⟩ y) S 0 u
  have k4 := grown_set (((W.setCell ⟨R, 0, none⟩ x).setCell ⟨R, 1, none⟩ y).setCell ⟨S, 0, none⟩ u) S 1 v
  exact ⟨⟨k4.cell (k3.cell e0 (by simp; omega)) (by simp; omega), k4.cell (k3.cell e1 (by simp; omega)) (by simp; omega)⟩, two_set s0 s1⟩
theorem below_four {B R S : Nat} {w W : World} {x y u v : Value} (h : Below B w W) (hR : B ≤ R) (hS : B ≤ S) : Below B w ((((W.setCell ⟨R, 0, none⟩ x).setCell ⟨R, 1, none⟩ y).setCell ⟨S, 0, none⟩ u).setCell ⟨S, 1, none⟩ v) :=
  (((h.setCell (p := ⟨R, 0, none⟩) hR _).setCell (p := ⟨R, 1, none⟩) hR _).setCell (p := ⟨S, 0, none⟩) hS _).setCell (p := ⟨S, 1, none⟩) hS _

theorem far2 {W : World} {R S j : Nat} {x y z : Value} (h : W.cell? ⟨S, j, none⟩ = some z) (hne : R ≠ S) : ((W.setCell ⟨R, 0, none⟩ x).setCell ⟨R, 1, none⟩ y).drew.cell? ⟨S, j, none⟩ = some z :=
  (grown_set _ R 1 y).cell ((grown_set W R 0 x).cell h (by simp; omega)) (by simp; omega)
theorem far4 {W : World} {R T S j : Nat} {x y u v z : Value} (h : W.cell? ⟨S, j, none⟩ = some z) (hne : R ≠ S) (hne' : T ≠ S) : ((((W.setCell ⟨R, 0, none⟩ x).setCell ⟨R, 1, none⟩ y).setCell ⟨T, 0, none⟩ u).setCell ⟨T, 1, none⟩ v).drew.cell? ⟨S, j, none⟩ = some z :=
  far2 (W := (W.setCell ⟨R, 0, none⟩ x).setCell ⟨R, 1, none⟩ y) (far2 h hne) hne'

set_option maxRecDepth 100000 in
set_option maxHeartbeats 800000 in
theorem decode_table (B : Nat) (v cv : Value) (fs : List Frm) (l : List UInt8) (at_ : Int) (w : World) (h : FormsAt B w v fs) (hl : BytesAt B w cv l) (hB : B ≤ w.heap.size) (hne : (tableFault fs).1 ≠ 0) :
    Calls Tryz.prog 62 #[v, cv, .int .i64 at_] w fun e w' => e = .returned (.tuple #[noIns, .int .i64 0, faultV (tableFault fs)]) ∧ Below w.heap.size w w' := by
  have hbw := decW_below w
  have C := validate_any B v fs (decW w) (h.below (hbw.mono hB)) (Nat.le_trans hB hbw.size)
  obtain ⟨A, n, c, rfl, _⟩ := h.opens
  obtain ⟨A2, n2, c2, rfl, H2, ⟨hn2, hc2⟩, hcc⟩ := hl.opens
  generalize tableFault fs = t at *
  obtain ⟨p, i⟩ := t
  have hp : (p == 0) = false := by simpa using hne
  have HC := Lib.hid C
  have T1 := Lib.hid (decW_ins w)
  have T2 := Lib.hid (decW_fault w)
  have Hbw := Lib.hid hbw
  clear C h hl hbw hne hcc
  go_enter Tryz.func62, Tryz.ntmps62
  go_wp2_with (go_at_call 23; refine HC.out.mono ?_; rintro e W1 ⟨rfl, hb1⟩)
  obtain ⟨W2, hW2⟩ : ∃ W2, W2 = W1.alloc (.cells #[.int .i64 p, .int .i64 i] 27) := ⟨_, rfl⟩
  have hb2 : Below W1.heap.size W1 W2 := by rw [hW2]; exact (Below.refl _ _).alloc (Nat.le_refl _) _
  obtain ⟨q0, q1, _, _⟩ : Two W2 W1.heap.size (.int .i64 p) (.int .i64 i) := by rw [hW2]; exact Two.new _ _ _ _
  have t1 := (T1.out.below hb1).below hb2
  have t2 := (T2.out.below hb1).below hb2
  have hbR : Below w.heap.size w W2 := (Hbw.out.trans (hb1.mono Hbw.out.size)).trans (hb2.mono (Nat.le_trans Hbw.out.size hb1.size))
  have y1 := t1.lt
  have y2 := t2.lt
  have H1 := Lib.hid t1
  have H2 := Lib.hid t2
  obtain ⟨i4, i5, i6, i7⟩ := t1
  obtain ⟨s4, s5, s6, s7⟩ := t2
  rw [← hW2]
  clear hW2
  have y4 : w.heap.size < W1.heap.size := by have := (T1.out.below hb1).lt; omega
  have y5 : w.heap.size + 1 < W1.heap.size := by have := (T2.out.below hb1).lt; omega
  refine wp_region_held (S := fun W' => W'.cell? ⟨W1.heap.size, 0, none⟩ = some (.int .i64 p) ∧ W'.cell? ⟨W1.heap.size, 1, none⟩ = some (.int .i64 i)) (by kernel_rfl) ?_
  have hS : W2.drew.cell? ⟨W1.heap.size, 0, none⟩ = some (.int .i64 p) ∧ W2.drew.cell? ⟨W1.heap.size, 1, none⟩ = some (.int .i64 i) := ⟨q0, q1⟩
  change wpAnyH _ _ _ _ _ _ _ _ W2.drew
  refine wpAnyH_take (i := 0) (v := ?_) rfl (by kernel_rfl) (by kernel_rfl) (by kernel_rfl) (fun _ _ _ h => h) (Or.inl ⟨by rfl, ?_⟩) hS ?_
  rotate_left
  · rintro W' ⟨s0, s1⟩; go_simp; rfl
  simp [Act.put]
  refine wpAnyH_take (i := 1) (v := ?_) rfl (by kernel_rfl) (by kernel_rfl) (by kernel_rfl) (fun _ _ _ h => h) (Or.inl ⟨by rfl, ?_⟩) hS ?_
  rotate_left
  · rintro W' ⟨s0, s1⟩; go_simp; rfl
  simp [Act.put]
  refine wpAnyH_ready (rs := [2]) (by kernel_rfl) (by simp) ?_
  refine AllReadyH.cons rfl (fun K hK => ?_) AllReadyH.nil
  go_simp
  refine hK.out _ _ ⟨far2 q0 (by omega), far2 q1 (by omega)⟩ (fun _ => ?_)
  clear hK K
  try simp [Act.put]
  refine wpAnyH_ready (rs := [3]) (by kernel_rfl) (by simp) ?_
  refine AllReadyH.cons rfl (fun K hK => ?_) AllReadyH.nil
  go_simp
  refine hK.out _ _ ⟨far2 q0 (by omega), far2 q1 (by omega)⟩ (fun _ => ?_)
  clear hK K
  try simp [Act.put]
  refine wpAnyH_ready (rs := [4]) (by kernel_rfl) (by simp) ?_
  refine AllReadyH.cons rfl (fun K hK => ?_) AllReadyH.nil
  go_simp
  refine hK.out _ _ ⟨far4 q0 (by omega) (by omega), far4 q1 (by omega) (by omega)⟩ (fun _ => ?_)
  clear hK K
  refine wpAnyH_done (by kernel_rfl) ?_ _
  go_wp2
  refine bodyPost_ret (v := .tuple #[noIns, .int .i64 0, faultV (p, i)]) ?_ rfl ⟨rfl, (below_four hbR (Nat.le_refl _) (Nat.le_succ _)).drew⟩
  obtain ⟨⟨e0, e1⟩, e2, e3⟩ := four_set (x := .int .i64 0) (y := .slice none 0 0) (u := .int .i64 p) (v := .int .i64 i) (Nat.ne_of_lt (Nat.lt_succ_self w.heap.size)) H1.out H2.out
  simp [results, Tryz.results62, go_sem, e0, e1, e2, e3]

set_option maxRecDepth 100000 in
set_option maxHeartbeats 800000 in
theorem decode_long (B : Nat) (v cv : Value) (fs : List Frm) (l : List UInt8) (at_ : Int) (w : World) (h : FormsAt B w v fs) (hl : BytesAt B w cv l) (hB : B ≤ w.heap.size) (ht : tableFault fs = (0, 0)) (hlong : 1500 < l.length) :
    Calls Tryz.prog 62 #[v, cv, .int .i64 at_] w fun e w' => e = .returned (.tuple #[noIns, .int .i64 0, faultV (2, -4)]) ∧ Below w.heap.size w w' := by
  have hbw := decW_below w
  have C := validate_any B v fs (decW w) (h.below (hbw.mono hB)) (Nat.le_trans hB hbw.size)
  rw [ht] at C
  obtain ⟨A, n, c, rfl, _⟩ := h.opens
  obtain ⟨A2, n2, c2, rfl, H2, ⟨hn2, hc2⟩, hcc⟩ := hl.opens
  rw [H2.out] at hlong
  have HC := Lib.hid C
  have T1 := Lib.hid (decW_ins w)
  have T2 := Lib.hid (decW_fault w)
  have Hbw := Lib.hid hbw
  clear C h hl hbw ht hcc
  go_enter Tryz.func62, Tryz.ntmps62
  go_wp2_with (go_at_call 23; refine HC.out.mono ?_; rintro e W1 ⟨rfl, hb1⟩; obtain ⟨i4, i5, i6, i7⟩ := T1.out.below hb1; obtain ⟨s4, s5, s6, s7⟩ := T2.out.below hb1; have y1 := (T1.out.below hb1).lt; have y2 := (T2.out.below hb1).lt)
  have hbR : Below w.heap.size w W1 := Hbw.out.trans (hb1.mono Hbw.out.size)
  have t1 := T1.out.below hb1
  have t2 := T2.out.below hb1
  refine bodyPost_ret (v := .tuple #[noIns, .int .i64 0, faultV (2, (-4))]) ?_ rfl ⟨rfl, ?_⟩
  · obtain ⟨⟨e0, e1⟩, e2, e3⟩ := four_set (x := .int .i64 0) (y := .slice none 0 0) (u := .int .i64 2) (v := .int .i64 (-4)) (Nat.ne_of_lt (Nat.lt_succ_self w.heap.size)) t1 t2
    simp [results, Tryz.results62, go_sem, cell_alloc_l _ e0, cell_alloc_l _ e1, cell_alloc_l _ e2, cell_alloc_l _ e3]
  · exact (below_four hbR (Nat.le_refl _) (Nat.le_succ _)).alloc (by simp; omega) _

set_option maxRecDepth 100000 in
set_option maxHeartbeats 800000 in
theorem decode_low (B : Nat) (v cv : Value) (fs : List Frm) (l : List UInt8) (at_ : Int) (w : World) (h : FormsAt B w v fs) (hl : BytesAt B w cv l) (hB : B ≤ w.heap.size) (ht : tableFault fs = (0, 0)) (hlong : l.length ≤ 1500) (ha : at_ < 0) :
    Calls Tryz.prog 62 #[v, cv, .int .i64 at_] w fun e w' => e = .returned (.tuple #[noIns, .int .i64 0, faultV (3, -5)]) ∧ Below w.heap.size w w' := by
  have hbw := decW_below w
  have C := validate_any B v fs (decW w) (h.below (hbw.mono hB)) (Nat.le_trans hB hbw.size)
  rw [ht] at C
  obtain ⟨A, n, c, rfl, _⟩ := h.opens
  obtain ⟨A2, n2, c2, rfl, H2, ⟨hn2, hc2⟩, hcc⟩ := hl.opens
  rw [H2.out] at hlong
  have hd : decide (at_ < 0) = true := by simpa using ha
  have HC := Lib.hid C
  have T1 := Lib.hid (decW_ins w)
  have T2 := Lib.hid (decW_fault w)
  have Hbw := Lib.hid hbw
  clear C h hl hbw ht hcc
  go_enter Tryz.func62, Tryz.ntmps62
  go_wp2_with (go_at_call 23; refine HC.out.mono ?_; rintro e W1 ⟨rfl, hb1⟩; obtain ⟨i4, i5, i6, i7⟩ := T1.out.below hb1; obtain ⟨s4, s5, s6, s7⟩ := T2.out.below hb1; have y1 := (T1.out.below hb1).lt; have y2 := (T2.out.below hb1).lt)
  have hbR : Below w.heap.size w W1 := Hbw.out.trans (hb1.mono Hbw.out.size)
  have t1 := T1.out.below hb1
  have t2 := T2.out.below hb1
  refine bodyPost_ret (v := .tuple #[noIns, .int .i64 0, faultV (3, (-5))]) ?_ rfl ⟨rfl, ?_⟩
  · obtain ⟨⟨e0, e1⟩, e2, e3⟩ := four_set (x := .int .i64 0) (y := .slice none 0 0) (u := .int .i64 3) (v := .int .i64 (-5)) (Nat.ne_of_lt (Nat.lt_succ_self w.heap.size)) t1 t2
    simp [results, Tryz.results62, go_sem, cell_alloc_l _ e0, cell_alloc_l _ e1, cell_alloc_l _ e2, cell_alloc_l _ e3]
  · exact (below_four hbR (Nat.le_refl _) (Nat.le_succ _)).alloc (by simp; omega) _

set_option maxRecDepth 100000 in
set_option maxHeartbeats 800000 in
theorem decode_high (B : Nat) (v cv : Value) (fs : List Frm) (l : List UInt8) (at_ : Int) (w : World) (h : FormsAt B w v fs) (hl : BytesAt B w cv l) (hB : B ≤ w.heap.size) (ht : tableFault fs = (0, 0)) (hlong : l.length ≤ 1500) (ha : (l.length : Int) ≤ at_) :
    Calls Tryz.prog 62 #[v, cv, .int .i64 at_] w fun e w' => e = .returned (.tuple #[noIns, .int .i64 0, faultV (3, -5)]) ∧ Below w.heap.size w w' := by
  have hbw := decW_below w
  have C := validate_any B v fs (decW w) (h.below (hbw.mono hB)) (Nat.le_trans hB hbw.size)
  rw [ht] at C
  obtain ⟨A, n, c, rfl, _⟩ := h.opens
  obtain ⟨A2, n2, c2, rfl, H2, ⟨hn2, hc2⟩, hcc⟩ := hl.opens
  rw [H2.out] at hlong
  rw [H2.out] at ha
  have hd : decide (at_ < 0) = false := by simp; omega
  have hd2 : decide ((n2 : Int) ≤ at_) = true := by simpa using ha
  have HC := Lib.hid C
  have T1 := Lib.hid (decW_ins w)
  have T2 := Lib.hid (decW_fault w)
  have Hbw := Lib.hid hbw
  clear C h hl hbw ht hcc
  go_enter Tryz.func62, Tryz.ntmps62
  go_wp2_with (go_at_call 23; refine HC.out.mono ?_; rintro e W1 ⟨rfl, hb1⟩; obtain ⟨i4, i5, i6, i7⟩ := T1.out.below hb1; obtain ⟨s4, s5, s6, s7⟩ := T2.out.below hb1; have y1 := (T1.out.below hb1).lt; have y2 := (T2.out.below hb1).lt)
  have hbR : Below w.heap.size w W1 := Hbw.out.trans (hb1.mono Hbw.out.size)
  have t1 := T1.out.below hb1
  have t2 := T2.out.below hb1
  refine bodyPost_ret (v := .tuple #[noIns, .int .i64 0, faultV (3, (-5))]) ?_ rfl ⟨rfl, ?_⟩
  · obtain ⟨⟨e0, e1⟩, e2, e3⟩ := four_set (x := .int .i64 0) (y := .slice none 0 0) (u := .int .i64 3) (v := .int .i64 (-5)) (Nat.ne_of_lt (Nat.lt_succ_self w.heap.size)) t1 t2
    simp [results, Tryz.results62, go_sem, cell_alloc_l _ e0, cell_alloc_l _ e1, cell_alloc_l _ e2, cell_alloc_l _ e3]
  · exact (below_four hbR (Nat.le_refl _) (Nat.le_succ _)).alloc (by simp; omega) _

theorem dec_next {w W1 W2 : World} {x y : Value} {t : TypeId} (hb1 : Below (decW w).heap.size (decW w) W1) (hb2 : Below (W1.alloc (.cells #[x, y] t)).heap.size (W1.alloc (.cells #[x, y] t)) W2) :
    Two W2 w.heap.size (.int .i64 0) (.slice none 0 0) ∧ Two W2 (w.heap.size + 1) (.int .i64 0) (.int .i64 0) ∧ Below w.heap.size w W2 := by
  have h := hb1.trans ((((Below.refl W1.heap.size W1).alloc (Nat.le_refl _) (.cells #[x, y] t)).trans (hb2.mono (by simp))).mono hb1.size)
  exact ⟨(decW_ins w).below h, (decW_fault w).below h, (decW_below w).trans (h.mono (decW_below w).size)⟩

theorem far2n {W : World} {R S j : Nat} {x y z : Value} (h : W.cell? ⟨S, j, none⟩ = some z) (hne : R ≠ S) : ((W.setCell ⟨R, 0, none⟩ x).setCell ⟨R, 1, none⟩ y).cell? ⟨S, j, none⟩ = some z :=
  (grown_set _ R 1 y).cell ((grown_set W R 0 x).cell h (by simp; omega)) (by simp; omega)
theorem far4n {W : World} {R T S j : Nat} {x y u v z : Value} (h : W.cell? ⟨S, j, none⟩ = some z) (hne : R ≠ S) (hne' : T ≠ S) : ((((W.setCell ⟨R, 0, none⟩ x).setCell ⟨R, 1, none⟩ y).setCell ⟨T, 0, none⟩ u).setCell ⟨T, 1, none⟩ v).cell? ⟨S, j, none⟩ = some z :=
  far2n (far2n h hne) hne'
theorem dec_keep {W : World} {X R b o : Nat} {x y p q : Value} {f : Frm} (tx : Two W X p q) (gf : FrmCells W b o f) (h1 : R ≠ X) (h2 : R ≠ b) :
    ((((W.setCell ⟨R, 0, none⟩ x).setCell ⟨R, 1, none⟩ y).cell? ⟨X, 0, none⟩ = some p ∧ ((W.setCell ⟨R, 0, none⟩ x).setCell ⟨R, 1, none⟩ y).cell? ⟨X, 1, none⟩ = some q) ∧
      ((W.setCell ⟨R, 0, none⟩ x).setCell ⟨R, 1, none⟩ y).cell? ⟨b, o, none⟩ = some (.string f.name) ∧ ((W.setCell ⟨R, 0, none⟩ x).setCell ⟨R, 1, none⟩ y).cell? ⟨b, o + 1, none⟩ = some (.int .i64 f.code) ∧ ((W.setCell ⟨R, 0, none⟩ x).setCell ⟨R, 1, none⟩ y).cell? ⟨b, o + 2, none⟩ = some f.kv) :=
  ⟨⟨far2n tx.1 h1, far2n tx.2.1 h1⟩, far2n gf.1 h2, far2n gf.2.1 h2, far2n gf.2.2 h2⟩
theorem dec_keep4 {W : World} {X R T b o : Nat} {x y u v p q : Value} {f : Frm} (tx : Two W X p q) (gf : FrmCells W b o f) (h1 : R ≠ X) (h2 : R ≠ b) (h3 : T ≠ X) (h4 : T ≠ b) :
    ((((((W.setCell ⟨R, 0, none⟩ x).setCell ⟨R, 1, none⟩ y).setCell ⟨T, 0, none⟩ u).setCell ⟨T, 1, none⟩ v).cell? ⟨X, 0, none⟩ = some p ∧ ((((W.setCell ⟨R, 0, none⟩ x).setCell ⟨R, 1, none⟩ y).setCell ⟨T, 0, none⟩ u).setCell ⟨T, 1, none⟩ v).cell? ⟨X, 1, none⟩ = some q) ∧
      ((((W.setCell ⟨R, 0, none⟩ x).setCell ⟨R, 1, none⟩ y).setCell ⟨T, 0, none⟩ u).setCell ⟨T, 1, none⟩ v).cell? ⟨b, o, none⟩ = some (.string f.name) ∧ ((((W.setCell ⟨R, 0, none⟩ x).setCell ⟨R, 1, none⟩ y).setCell ⟨T, 0, none⟩ u).setCell ⟨T, 1, none⟩ v).cell? ⟨b, o + 1, none⟩ = some (.int .i64 f.code) ∧
      ((((W.setCell ⟨R, 0, none⟩ x).setCell ⟨R, 1, none⟩ y).setCell ⟨T, 0, none⟩ u).setCell ⟨T, 1, none⟩ v).cell? ⟨b, o + 2, none⟩ = some f.kv) :=
  ⟨⟨far4n tx.1 h1 h3, far4n tx.2.1 h1 h3⟩, far4n gf.1 h2 h4, far4n gf.2.1 h2 h4, far4n gf.2.2 h2 h4⟩
theorem row_four {W : World} {B R T S n c size : Nat} {e : TypeId} {x y u v : Value} {zs : List Value} (h : W.ownsRow B e size (.slice (some ⟨S, 0, none⟩) n c) n zs) (h1 : R ≠ S) (h2 : T ≠ S) :
    ((((W.setCell ⟨R, 0, none⟩ x).setCell ⟨R, 1, none⟩ y).setCell ⟨T, 0, none⟩ u).setCell ⟨T, 1, none⟩ v).ownsRow B e size (.slice (some ⟨S, 0, none⟩) n c) n zs :=
  (((h.kept (grown_set _ R 0 x) (.inr (by simp [Value.ownBlock]; omega))).kept (grown_set _ R 1 y) (.inr (by simp [Value.ownBlock]; omega))).kept (grown_set _ T 0 u) (.inr (by simp [Value.ownBlock]; omega))).kept (grown_set _ T 1 v) (.inr (by simp [Value.ownBlock]; omega))
set_option maxRecDepth 100000 in
set_option maxHeartbeats 2000000 in
theorem decode_corrupt (B : Nat) (v cv : Value) (fs : List Frm) (l : List UInt8) (a : Nat) (w : World) (h : FormsAt B w v fs) (hl : BytesAt B w cv l) (hB : B ≤ w.heap.size) (ht : tableFault fs = (0, 0)) (hlong : l.length ≤ 1500) (ha : a < l.length) (hno : ¬ ∃ k f xs, GoodAt fs (l.drop a) k f xs) :
    Calls Tryz.prog 62 #[v, cv, .int .i64 (a : Int)] w fun e w' => e = .returned (.tuple #[noIns, .int .i64 0, faultV (17, (a : Int))]) ∧ Below w.heap.size w w' := by
  have hbw := decW_below w
  have C := validate_any B v fs (decW w) (h.below (hbw.mono hB)) (Nat.le_trans hB hbw.size)
  rw [ht] at C
  obtain ⟨A, n, c, rfl, _⟩ := h.opens
  obtain ⟨A2, n2, c2, rfl, H2, ⟨hn2, hc2⟩, hcc⟩ := hl.opens
  have hz : l.length = n2 := H2.out
  rw [H2.out] at hlong ha
  obtain ⟨b, o, rfl, hbB, _⟩ := hcc (by omega)
  have hd : decide ((a : Int) < 0) = false := by simp
  have hd2 : decide ((n2 : Int) ≤ (a : Int)) = false := by simp; omega
  have hac : a ≤ c2 := by omega
  have D : ∀ W, Below w.heap.size w W → Calls Tryz.prog 77 #[.slice A n c, .slice (some ⟨b, o + a, none⟩) (n2 - a) (c2 - a)] W fun e w' => e = .returned (.tuple #[noIns, .bool false]) ∧ Below W.heap.size W w' := fun W hW =>
    first_no B _ _ fs (l.drop a) W (h.below (hW.mono hB)) ((hl.below (hW.mono hB)).drop (by omega)) (Nat.le_trans hB hW.size) ht (by rw [List.length_drop]; omega) hno
  have HC := Lib.hid C
  have HD := Lib.hid D
  have T1 := Lib.hid (decW_ins w)
  have T2 := Lib.hid (decW_fault w)
  have Hbw := Lib.hid hbw
  clear C D h hl hbw ht hcc hz hno
  go_enter Tryz.func62, Tryz.ntmps62
  go_wp2_with (first
    | (go_at_call 23; refine HC.out.mono ?_; rintro e W1 ⟨rfl, hb1⟩; have hbR := Hbw.out.trans (hb1.mono Hbw.out.size); have y1 := (T1.out.below hb1).lt; have y2 := (T2.out.below hb1).lt)
    | (go_at_call 77; refine (HD.out _ (hbR.alloc (by omega) _)).mono ?_; rintro e W2 ⟨rfl, hb2⟩; obtain ⟨t1, t2, hbR2⟩ := dec_next hb1 hb2; have H1 := Lib.hid t1; have H2 := Lib.hid t2; have z1 := t1.lt; have z2 := t2.lt; obtain ⟨i4, i5, i6, i7⟩ := t1; obtain ⟨s4, s5, s6, s7⟩ := t2))
  refine bodyPost_ret (v := .tuple #[noIns, .int .i64 0, faultV (17, (a : Int))]) ?_ rfl ⟨rfl, ?_⟩
  · obtain ⟨⟨e0, e1⟩, e2, e3⟩ := four_set (x := .int .i64 0) (y := .slice none 0 0) (u := .int .i64 17) (v := .int .i64 (a : Int)) (Nat.ne_of_lt (Nat.lt_succ_self w.heap.size)) H1.out H2.out
    simp [results, Tryz.results62, go_sem, cell_alloc_l _ e0, cell_alloc_l _ e1, cell_alloc_l _ e2, cell_alloc_l _ e3]
  · exact (below_four hbR2 (Nat.le_refl _) (Nat.le_succ _)).alloc (by simp; omega) _

set_option maxRecDepth 100000 in
set_option maxHeartbeats 2000000 in
theorem decode_ok (B : Nat) (v cv : Value) (fs : List Frm) (l : List UInt8) (a : Nat) (w : World) (h : FormsAt B w v fs) (hl : BytesAt B w cv l) (hB : B ≤ w.heap.size) (ht : tableFault fs = (0, 0)) (hlong : l.length ≤ 1500) (ha : a < l.length) (k : Nat) (f : Frm) (xs : List Int) (hg : GoodAt fs (l.drop a) k f xs) :
    Calls Tryz.prog 62 #[v, cv, .int .i64 (a : Int)] w fun e w' => ∃ R, e = .returned (.tuple #[.agg #[.int .i64 (k : Int), .slice (some ⟨R, 0, none⟩) f.kinds.length f.kinds.length], .int .i64 (sizeOf f.kinds : Nat), faultV (0, 0)]) ∧ w'.ownsRow w.heap.size 3 1 (.slice (some ⟨R, 0, none⟩) f.kinds.length f.kinds.length) f.kinds.length (iv xs) ∧ Below w.heap.size w w' := by
  have hbw := decW_below w
  have C := validate_any B v fs (decW w) (h.below (hbw.mono hB)) (Nat.le_trans hB hbw.size)
  rw [ht] at C
  obtain ⟨g1, g2, g3, rfl, g5, g6⟩ := hg
  have hfm := List.mem_of_getElem? g2
  have hkf := h.kinds hfm
  have hok := valid_form ht hfm
  have hnm : f.name.size ≤ 140737488351232 := by obtain ⟨_, _, _, _, h3, _⟩ := h; exact (h3 f hfm).2
  have E : ∀ W, Below w.heap.size w W → Calls Tryz.prog 50 #[f.val] W fun e w' => e = .returned (.int .i64 (sizeOf f.kinds : Nat)) ∧ Below W.heap.size W w' := fun W hW =>
    sizeForm_any B f W (hkf.below (hW.mono hB)) (Nat.le_trans hB hW.size) hnm hok
  obtain ⟨A, n, c, rfl, _⟩ := h.opens
  obtain ⟨A2, n2, c2, rfl, H2, ⟨hn2, hc2⟩, hcc⟩ := hl.opens
  have hz : l.length = n2 := H2.out
  rw [H2.out] at hlong ha
  obtain ⟨b, o, rfl, hbB, _⟩ := hcc (by omega)
  have hd : decide ((a : Int) < 0) = false := by simp
  have hd2 : decide ((n2 : Int) ≤ (a : Int)) = false := by simp; omega
  have hac : a ≤ c2 := by omega
  have D : ∀ W, Below w.heap.size w W → Calls Tryz.prog 77 #[.slice A n c, .slice (some ⟨b, o + a, none⟩) (n2 - a) (c2 - a)] W fun e w' => ∃ R, e = .returned (.tuple #[.agg #[.int .i64 (k : Int), .slice (some ⟨R, 0, none⟩) f.kinds.length f.kinds.length], .bool true]) ∧ w'.ownsRow W.heap.size 3 1 (.slice (some ⟨R, 0, none⟩) f.kinds.length f.kinds.length) f.kinds.length (iv (getL f.kinds (l.drop a))) ∧ Below W.heap.size W w' := fun W hW =>
    first_ok B _ _ fs (l.drop a) k f W (h.below (hW.mono hB)) ((hl.below (hW.mono hB)).drop (by omega)) (Nat.le_trans hB hW.size) ht (by rw [List.length_drop]; omega) g1 g2 g3 g5 g6
  obtain ⟨A0, n0, c0, e0, hfs, _, _, hc⟩ := h.opens
  injection e0 with e01 e02 e03
  subst e01
  subst e02
  subst e03
  have hkn : k < n := by rw [← hfs.out]; exact (List.getElem?_eq_some_iff.1 g2).1
  obtain ⟨b1, o1, rfl, hb1', gg⟩ := hc (by omega)
  have Hg := Lib.hid (gg k f g2)
  generalize sizeOf f.kinds = sz at *
  obtain ⟨nm, q, kv, ks⟩ := f
  obtain ⟨A3, n3, c3, e3, Hl3, hn3, _⟩ := hkf.opens
  dsimp only at e3
  dsimp only [Frm.val] at E D
  subst e3
  rw [Hl3.out] at D
  have HE := Lib.hid E
  have HC := Lib.hid C
  have HD := Lib.hid D
  have T1 := Lib.hid (decW_ins w)
  have T2 := Lib.hid (decW_fault w)
  have Hbw := Lib.hid hbw
  clear C D h hl hbw ht hcc hz E g1 g2 g3 g5 g6 hfm hkf hok hnm hc gg
  go_enter Tryz.func62, Tryz.ntmps62
  go_wp2_with (first
    | (go_at_call 23; refine HC.out.mono ?_; rintro e W1 ⟨rfl, hb1⟩; have hbR := Hbw.out.trans (hb1.mono Hbw.out.size); have y1 := (T1.out.below hb1).lt; have y2 := (T2.out.below hb1).lt)
    | (go_at_call 77; refine (HD.out _ (hbR.alloc (by omega) _)).mono ?_; rintro e W2 ⟨R, rfl, hrow, hb2⟩))
  obtain ⟨t1, t2, hbR2⟩ := dec_next hb1 hb2
  obtain ⟨X, hX⟩ : ∃ X, X = W2.heap.size := ⟨_, rfl⟩
  obtain ⟨V, hV⟩ : ∃ V, V = W2.alloc (.cells #[.int .i64 (k : Int), .slice (some ⟨R, 0, none⟩) n3 n3] 34) := ⟨_, rfl⟩
  have hVb : Below W2.heap.size W2 V := by rw [hV]; exact (Below.refl _ _).alloc (Nat.le_refl _) _
  have tx : Two V X (.int .i64 (k : Int)) (.slice (some ⟨R, 0, none⟩) n3 n3) := by rw [hV, hX]; exact Two.new _ _ _ _
  have hbV := hbR2.trans (hVb.mono hbR2.size)
  have gf := Hg.out.below (hbV.mono hB) hb1'
  have H1 := Lib.hid (t1.below hVb)
  have H2 := Lib.hid (t2.below hVb)
  have hNX : w.heap.size + 1 < X := by rw [hX]; exact t2.lt
  have hbX : b1 < X := by omega
  have hrowV := hrow.kept (grown_none hVb) (.inr (by simp [Value.ownBlock]))
  have hRX : w.heap.size + 1 < R := by have := (hrow.lt R rfl).1; simp at this; omega
  have Hrow := Lib.hid hrowV
  have hXV : X < V.heap.size := tx.lt
  have TX := Lib.hid tx
  have GF := Lib.hid gf
  rw [← hV, ← hX]
  clear hV hX hrow hrowV hb1 hb2 t1 t2 hVb hbR2 gf tx y1 y2
  refine wp_region_held (S := fun V => (V.cell? ⟨X, 0, none⟩ = some (.int .i64 (k : Int)) ∧ V.cell? ⟨X, 1, none⟩ = some (.slice (some ⟨R, 0, none⟩) n3 n3)) ∧ V.cell? ⟨b1, o1 + k * 3, none⟩ = some (.string nm) ∧ V.cell? ⟨b1, o1 + k * 3 + 1, none⟩ = some (.int .i64 q) ∧ V.cell? ⟨b1, o1 + k * 3 + 2, none⟩ = some (.slice A3 n3 c3)) (by kernel_rfl) ?_
  have hS : (fun V : World => (V.cell? ⟨X, 0, none⟩ = some (.int .i64 (k : Int)) ∧ V.cell? ⟨X, 1, none⟩ = some (.slice (some ⟨R, 0, none⟩) n3 n3)) ∧ V.cell? ⟨b1, o1 + k * 3, none⟩ = some (.string nm) ∧ V.cell? ⟨b1, o1 + k * 3 + 1, none⟩ = some (.int .i64 q) ∧ V.cell? ⟨b1, o1 + k * 3 + 2, none⟩ = some (.slice A3 n3 c3)) V.drew := ⟨⟨TX.out.1, TX.out.2.1⟩, GF.out⟩
  dsimp only at hS
  change wpAnyH _ _ _ _ _ _ _ _ V.drew
  refine wpAnyH_take (i := 0) (v := ?_) rfl (by kernel_rfl) (by kernel_rfl) (by kernel_rfl) (fun _ _ _ h => h) (Or.inl ⟨by rfl, ?_⟩) hS ?_
  rotate_left
  · rintro W' ⟨⟨s0, s1⟩, s2, s3, s4⟩; go_simp; rfl
  simp [Act.put]
  refine wpAnyH_take (i := 1) (v := ?_) rfl (by kernel_rfl) (by kernel_rfl) (by kernel_rfl) (fun _ _ _ h => h) (Or.inl ⟨by rfl, ?_⟩) hS ?_
  rotate_left
  · rintro W' ⟨⟨s0, s1⟩, s2, s3, s4⟩; go_simp; rfl
  simp [Act.put]
  refine wpAnyH_take (i := 2) (v := ?_) rfl (by kernel_rfl) (by kernel_rfl) (by kernel_rfl) (fun _ _ _ h => h) (Or.inl ⟨by rfl, ?_⟩) hS ?_
  rotate_left
  · rintro W' ⟨⟨s0, s1⟩, s2, s3, s4⟩; go_simp; rfl
  simp [Act.put]
  refine wpAnyH_take (i := 3) (v := ?_) rfl (by kernel_rfl) (by kernel_rfl) (by kernel_rfl) (fun _ _ _ h => h) (Or.inl ⟨by rfl, ?_⟩) hS ?_
  rotate_left
  · rintro W' ⟨⟨s0, s1⟩, s2, s3, s4⟩; go_simp; rfl
  simp [Act.put]
  refine wpAnyH_take (i := 4) (v := ?_) rfl (by kernel_rfl) (by kernel_rfl) (by kernel_rfl) (fun _ _ _ h => h) (Or.inl ⟨by rfl, ?_⟩) hS ?_
  rotate_left
  · rintro W' ⟨⟨s0, s1⟩, s2, s3, s4⟩; go_simp; rfl
  simp [Act.put]
  refine wpAnyH_take (i := 5) (v := ?_) rfl (by kernel_rfl) (by kernel_rfl) (by kernel_rfl) (fun _ _ _ h => h) (Or.inl ⟨by rfl, ?_⟩) hS ?_
  rotate_left
  · rintro W' ⟨⟨s0, s1⟩, s2, s3, s4⟩; go_simp; rfl
  simp [Act.put]
  refine wpAnyH_take (i := 7) (v := ?_) rfl (by kernel_rfl) (by kernel_rfl) (by kernel_rfl) (fun _ _ _ h => h) (Or.inl ⟨by rfl, ?_⟩) hS ?_
  rotate_left
  · rintro W' ⟨⟨s0, s1⟩, s2, s3, s4⟩; go_simp; rfl
  simp [Act.put]
  refine wpAnyH_ready (rs := [6]) (by kernel_rfl) (by simp) ?_
  refine AllReadyH.cons rfl (fun K hK => ?_) AllReadyH.nil
  go_simp
  refine (HE.out _ hbV.drew).mono ?_
  rintro e W3 ⟨rfl, hb3⟩
  have hV3 : Below V.heap.size V W3 := (Below.refl _ _).drew.trans hb3
  have tx3 := TX.out.below hV3
  have gf3 := GF.out.below (hV3.mono (by omega)) hbX
  have t1 := H1.out.below hV3
  have t2 := H2.out.below hV3
  have hb3w := hbV.trans (hV3.mono hbV.size)
  have Hr3 := Lib.hid (Hrow.out.kept (grown_none hV3) (.inr (by simp [Value.ownBlock])))
  have HT1 := Lib.hid t1
  have HT2 := Lib.hid t2
  have HX3 := Lib.hid tx3
  have HG3 := Lib.hid gf3
  obtain ⟨i4, i5, i6, i7⟩ := t1
  obtain ⟨s4, s5, s6, s7⟩ := t2
  refine hK.out _ _ ⟨⟨HX3.out.1, HX3.out.2.1⟩, HG3.out⟩ (fun _ => ?_)
  clear hK K hS tx3 gf3
  try simp [Act.put]
  refine wpAnyH_ready (rs := [8]) (by kernel_rfl) (by simp) ?_
  refine AllReadyH.cons rfl (fun K hK => ?_) AllReadyH.nil
  go_simp
  have hk2 := dec_keep (x := .int .i64 (k : Int)) (y := .slice (some ⟨R, 0, none⟩) n3 n3) HX3.out HG3.out (R := w.heap.size) (by omega) (by omega)
  refine hK.out _ _ hk2 (fun _ => ?_)
  clear hK K
  try simp [Act.put]
  refine wpAnyH_ready (rs := [9]) (by kernel_rfl) (by simp) ?_
  refine AllReadyH.cons rfl (fun K hK => ?_) AllReadyH.nil
  go_simp
  refine hK.out _ _ hk2 (fun _ => ?_)
  clear hK K
  try simp [Act.put]
  refine wpAnyH_ready (rs := [10]) (by kernel_rfl) (by simp) ?_
  refine AllReadyH.cons rfl (fun K hK => ?_) AllReadyH.nil
  go_simp
  have hk4 := dec_keep4 (x := .int .i64 (k : Int)) (y := .slice (some ⟨R, 0, none⟩) n3 n3) (u := .int .i64 0) (v := .int .i64 0) HX3.out HG3.out (R := w.heap.size) (T := w.heap.size + 1) (by omega) (by omega) (by omega) (by omega)
  refine hK.out _ _ hk4 (fun _ => ?_)
  clear hK K
  refine wpAnyH_done (by kernel_rfl) ?_ _
  go_wp2
  refine bodyPost_ret (v := .tuple #[.agg #[.int .i64 (k : Int), .slice (some ⟨R, 0, none⟩) n3 n3], .int .i64 (sz : Int), faultV (0, 0)]) ?_ rfl ⟨R, by rw [Hl3.out], ?_, below_four hb3w (Nat.le_refl _) (Nat.le_succ _)⟩
  · obtain ⟨⟨e0, e1⟩, e2, e3⟩ := four_set (x := .int .i64 (k : Int)) (y := .slice (some ⟨R, 0, none⟩) n3 n3) (u := .int .i64 0) (v := .int .i64 0) (Nat.ne_of_lt (Nat.lt_succ_self w.heap.size)) HT1.out HT2.out
    simp [results, Tryz.results62, go_sem, e0, e1, e2, e3]
  · rw [Hl3.out]
    have hr5 := ownsRow_base Hr3.out (b' := w.heap.size) (by have := hbR.size; simp; omega)
    exact row_four hr5 (by omega) (by omega)
end Go.Proofs.YtcngpciblbdgbaaGreatDoor
