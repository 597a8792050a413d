/- Contract of first: the instruction of a valid table at the beginning of code. Conditions: the table reads as forms and is valid; the code reads as bytes, at least one. -/
import Derived.Deep.RegionHeld3
import Derived.Test.YtcngpciblbdgbaaGreatDoorEncI
import Derived.Test.YtcngpciblbdgbaaGreatDoorEncJ
namespace Go.Proofs.YtcngpciblbdgbaaGreatDoor
open Go Go.RowKit Go.Shelf

/-- the form's code is the first byte -/
def codeB (l : List UInt8) (f : Frm) : Bool := f.code == ((l[0]?.getD 0).toNat : Int)
set_option maxRecDepth 100000 in
set_option maxHeartbeats 400000 in
theorem firstFn_any (B b : Nat) (v : Value) (l : List UInt8) (f : Frm) (w : World) (hf : KindsAt B w f.kv f.kinds) (hl : BytesAt B w v l) (hB : B ≤ w.heap.size) (h0 : 0 < l.length) (h1 : w.cell? ⟨b, 0, none⟩ = some v) :
    Calls Tryz.prog 87 #[f.val, .pointer (some ⟨b, 0, none⟩)] w fun e w' => e = .returned (.bool (codeB l f)) ∧ Below w.heap.size w w' := by
  obtain ⟨W, hW⟩ : ∃ W, W = w.alloc (.cells #[.string f.name, .int .i64 f.code, f.kv] 39) := ⟨_, rfl⟩
  have hb : Below w.heap.size w W := by rw [hW]; exact (Below.refl _ _).alloc (Nat.le_refl _) _
  have hlt : b < w.heap.size := block_lt_of_cell h1
  obtain ⟨A, n, c, rfl, H1, ⟨hn, hc⟩, hcell⟩ := hl.opens
  rw [H1.out] at h0
  obtain ⟨b1, o1, rfl, hb1, hcc⟩ := hcell h0
  have d1 : W.cell? ⟨b1, o1, none⟩ = some (.int .u8 ((l[0]?.getD 0).toNat : Int)) := (hb.cell (p := ⟨b1, o1, none⟩) (by show b1 < _; omega)).trans (hcc 0 h0)
  have d2 : W.cell? ⟨b, 0, none⟩ = some (.slice (some ⟨b1, o1, none⟩) n c) := (hb.cell (p := ⟨b, 0, none⟩) hlt).trans h1
  have d3 : W.cell? ⟨w.heap.size, 1, none⟩ = some (.int .i64 f.code) := by rw [hW]; simp
  obtain ⟨A2, m2, c2, e2, _⟩ := hf.opens
  obtain ⟨nm, q, kv, ks⟩ := f
  dsimp only [Frm.val, codeB] at *
  subst e2
  have hbW : b < W.heap.size := Nat.lt_of_lt_of_le hlt hb.size
  have hb1W : b1 < W.heap.size := by have := hb.size; omega
  have hwW : w.heap.size < W.heap.size := by rw [hW]; simp
  have Hb := Lib.hid hb
  have h256 := u8_lt (l[0]?.getD 0)
  generalize (l[0]?.getD 0).toNat = x at *
  clear hf hl h1 hcell hcc hb
  go_enter Tryz.func87, Tryz.ntmps87
  go_wp2
  rw [← hW]
  clear hW
  go_quiet (fail)
  go_wp2
  go_ret
  exact ⟨rfl, below_drewN Hb.out _⟩

/-- first's world when it has boxed the code and laid its result -/
def firstW (w : World) (v : Value) : World := (w.alloc (.cells #[v] 23)).alloc (.cells #[.int .i64 0, .slice none 0 0] 34)
theorem firstW_below (w : World) (v : Value) : Below w.heap.size w (firstW w v) := ((Below.refl _ _).alloc (Nat.le_refl _) _).alloc (by simp) _
theorem firstW_code (w : World) (v : Value) : (firstW w v).cell? ⟨w.heap.size, 0, none⟩ = some v := cell_alloc_l _ (by simp)
theorem firstW_res (w : World) (v : Value) : Two (firstW w v) (w.heap.size + 1) (.int .i64 0) (.slice none 0 0) := by
  have := Two.new (w.alloc (.cells #[v] 23)) (.int .i64 0) (.slice none 0 0) 34
  rw [World.size_alloc] at this
  exact this
theorem first_index (B : Nat) (v cv : Value) (fs : List Frm) (l : List UInt8) (w : World) (h : FormsAt B w v fs) (hl : BytesAt B w cv l) (hB : B ≤ w.heap.size) (h0 : 0 < l.length) :
    Calls Tryz.prog 60 #[v, .func (.func 87) #[] #[.pointer (some ⟨w.heap.size, 0, none⟩)]] (firstW w cv) fun e w' => e = .returned (.int .i64 (idxOf (codeB l) fs)) ∧ Below (firstW w cv).heap.size (firstW w cv) w' := by
  have hbw := firstW_below w cv
  refine index_forms B 87 _ (codeB l) v fs _ (h.below (hbw.mono hB)) (Nat.le_trans hB hbw.size) (fun W' g hg hW' => ?_) (enters_of Tryz.func87 (by kernel_rfl) rfl)
  have hb := hbw.trans (hW'.mono hbw.size)
  exact firstFn_any B w.heap.size cv l g W' ((h.below (hb.mono hB)).kinds hg) (hl.below (hb.mono hB)) (Nat.le_trans hB hb.size) h0 ((hW'.cell (p := ⟨w.heap.size, 0, none⟩) (block_lt_of_cell (firstW_code w cv))).trans (firstW_code w cv))

set_option maxRecDepth 100000 in
set_option maxHeartbeats 800000 in
theorem first_none (B : Nat) (v cv : Value) (fs : List Frm) (l : List UInt8) (w : World) (h : FormsAt B w v fs) (hl : BytesAt B w cv l) (hB : B ≤ w.heap.size) (h0 : 0 < l.length) (hj : idxOf (codeB l) fs < 0) :
    Calls Tryz.prog 77 #[v, cv] w fun e w' => e = .returned (.tuple #[.agg #[.int .i64 0, .slice none 0 0], .bool false]) ∧ Below w.heap.size w w' := by
  have C := first_index B v cv fs l w h hl hB h0
  obtain ⟨A, n, c, rfl, _⟩ := h.opens
  obtain ⟨A2, n2, c2, rfl, _⟩ := hl.opens
  generalize idxOf (codeB l) fs = j at *
  have hd : decide (j < 0) = true := by simpa using hj
  have HC := Lib.hid C
  have T := Lib.hid (firstW_res w (.slice A2 n2 c2))
  have Hbw := Lib.hid (firstW_below w (.slice A2 n2 c2))
  clear C h hl
  go_enter Tryz.func77, Tryz.ntmps77
  go_wp2_with (go_at_call 60; refine HC.out.mono ?_; rintro e W1 ⟨rfl, hb1⟩; obtain ⟨r4, r5, r6, r7⟩ := T.out.below hb1; have hR1 := (T.out.below hb1).lt)
  go_quiet (fail)
  go_wp2
  refine bodyPost_ret (v := .tuple #[.agg #[.int .i64 0, .slice none 0 0], .bool false]) ?_ rfl ⟨rfl, ?_⟩
  · simp [results, Tryz.results77, go_sem, r4, r5]
  · have hbR := Hbw.out.trans (hb1.mono Hbw.out.size)
    exact below_drewN ((hbR.setCell (p := ⟨w.heap.size + 1, 0, none⟩) (by show w.heap.size ≤ w.heap.size + 1; omega) _).setCell (p := ⟨w.heap.size + 1, 1, none⟩) (by show w.heap.size ≤ w.heap.size + 1; omega) _) _

theorem held_forms {W W2 : World} {b o b2 : Nat} {x y z u : Value} (hb : Below W.drew.heap.size W.drew W2) (h1 : b < W.heap.size) (h2 : b2 < W.heap.size) (d1 : W.cell? ⟨b, o, none⟩ = some x) (d2 : W.cell? ⟨b, o + 1, none⟩ = some y) (d3 : W.cell? ⟨b, o + 2, none⟩ = some z) (r : W.cell? ⟨b2, 0, none⟩ = some u) :
    (W2.cell? ⟨b, o, none⟩ = some x ∧ W2.cell? ⟨b, o + 1, none⟩ = some y ∧ W2.cell? ⟨b, o + 2, none⟩ = some z) ∧ W2.cell? ⟨b2, 0, none⟩ = some u :=
  ⟨⟨(hb.cell (p := ⟨b, o, none⟩) h1).trans d1, (hb.cell (p := ⟨b, o + 1, none⟩) h1).trans d2, (hb.cell (p := ⟨b, o + 2, none⟩) h1).trans d3⟩, (hb.cell (p := ⟨b2, 0, none⟩) h2).trans r⟩

/-- the calls behind arguments -/
theorem first_calls {B : Nat} {f : Frm} {xs : List Int} {w W3 : World} {b R : Nat} (hk : KindsAt B w f.kv f.kinds) (hB : B ≤ w.heap.size) (hn : f.name.size ≤ 140737488351232) (hok : FormOk f) (hlen : xs.length = f.kinds.length) (hb : Below w.heap.size w W3)
    (hrow : W3.ownsRow b 3 1 (.slice (some ⟨R, 0, none⟩) f.kinds.length f.kinds.length) f.kinds.length (iv xs)) :
    (∀ W, Below W3.heap.size W3 W → Calls Tryz.prog 35 #[f.kv, .slice (some ⟨R, 0, none⟩) f.kinds.length f.kinds.length] W fun e w' => e = .returned (.int .i64 (outIdx f.kinds xs)) ∧ Below W.heap.size W w') ∧
    (outIdx f.kinds xs = -1 → ∀ W, Below W3.heap.size W3 W → Calls Tryz.prog 36 #[f.val, .slice (some ⟨R, 0, none⟩) f.kinds.length f.kinds.length] W fun e w' => ∃ R', e = .returned (.slice (some ⟨R', 0, none⟩) (sizeOf f.kinds) (sizeOf f.kinds)) ∧
      BytesAt w'.heap.size w' (.slice (some ⟨R', 0, none⟩) (sizeOf f.kinds) (sizeOf f.kinds)) (encL f.code (f.kinds.zip xs)) ∧ Below W.heap.size W w') := by
  have h4 := hok.short
  have h20 := sizeOf_le h4
  have hk3 : KindsAt W3.heap.size W3 f.kv f.kinds := (hk.below (hb.mono hB)).more (Nat.le_trans hB hb.size)
  have ha3 := kinds_of_row hrow (by omega)
  refine ⟨fun W hW => outside_any W3.heap.size _ _ _ _ W (hk3.below hW) (ha3.below hW) hW.size hlen h4 hok.known, fun ho W hW => ?_⟩
  refine (encoding_any W3.heap.size f _ xs W (hk3.below hW) (ha3.below hW) hW.size hn hok hlen (inside_of_idx hlen ho)).mono ?_
  rintro e w' ⟨R', rfl, hr, hb'⟩
  exact ⟨R', rfl, bytes_of_row hr (by omega) (Nat.le_refl _), hb'⟩

set_option maxRecDepth 100000 in
set_option maxHeartbeats 2000000 in
theorem first_short (B : Nat) (v cv : Value) (fs : List Frm) (l : List UInt8) (k : Nat) (f : Frm) (w : World) (h : FormsAt B w v fs) (hl : BytesAt B w cv l) (hB : B ≤ w.heap.size) (ht : tableFault fs = (0, 0)) (h0 : 0 < l.length) (hj : idxOf (codeB l) fs = (k : Int)) (hx : fs[k]? = some f) (hs : l.length < sizeOf f.kinds) :
    Calls Tryz.prog 77 #[v, cv] w fun e w' => e = .returned (.tuple #[.agg #[.int .i64 0, .slice none 0 0], .bool false]) ∧ Below w.heap.size w w' := by
  have C := first_index B v cv fs l w h hl hB h0
  rw [hj] at C
  have hfm := List.mem_of_getElem? hx
  have hkf := h.kinds hfm
  have hok := valid_form ht hfm
  have hnm : f.name.size ≤ 140737488351232 := by obtain ⟨_, _, _, _, h3, _⟩ := h; exact (h3 f hfm).2
  have D : ∀ W, Below w.heap.size w W → Calls Tryz.prog 50 #[f.val] W fun e w' => e = .returned (.int .i64 (sizeOf f.kinds : Nat)) ∧ Below W.heap.size W w' := fun W hW =>
    sizeForm_any B f W (hkf.below (hW.mono hB)) (Nat.le_trans hB hW.size) hnm hok
  generalize sizeOf f.kinds = sz at *
  obtain ⟨A, n, c, rfl, hfs, ⟨hn, _⟩, _, hc⟩ := h.opens
  have hlt : k < n := by rw [← hfs.out]; exact (List.getElem?_eq_some_iff.1 hx).1
  obtain ⟨b1, o1, rfl, hb1', g1⟩ := hc (by omega)
  have Hg := Lib.hid (g1 k f hx)
  obtain ⟨A2, n2, c2, rfl, H2, ⟨hn2, hc2⟩, _⟩ := hl.opens
  rw [H2.out] at hs
  obtain ⟨nm, q, kv, ks⟩ := f
  obtain ⟨A3, n3, c3, e3, Hl3, hn3, _⟩ := hkf.opens
  dsimp only at e3
  dsimp only [Frm.val] at D
  subst e3
  have hd : decide ((k : Int) < 0) = false := by simp
  have HC := Lib.hid C
  have HD := Lib.hid D
  have T := Lib.hid (firstW_res w (.slice A2 n2 c2))
  have T0 := Lib.hid (firstW_code w (.slice A2 n2 c2))
  have Hbw := Lib.hid (firstW_below w (.slice A2 n2 c2))
  clear C D h hl ht hx hfm hkf hok hnm hc g1 hj
  go_enter Tryz.func77, Tryz.ntmps77
  go_wp2_with (go_at_call 60; refine HC.out.mono ?_; rintro e W1 ⟨rfl, hb1⟩; obtain ⟨r4, r5, r6, r7⟩ := T.out.below hb1; have hR1 := (T.out.below hb1).lt; have r0 : W1.cell? ⟨w.heap.size, 0, none⟩ = some (.slice A2 n2 c2) := (hb1.cell (p := ⟨w.heap.size, 0, none⟩) (block_lt_of_cell T0.out)).trans T0.out)
  have hbR := Hbw.out.trans (hb1.mono Hbw.out.size)
  obtain ⟨d1, d2, d3⟩ := Hg.out.below (hbR.mono hB) hb1'
  have hbL : b1 < W1.heap.size := by have := hbR.size; omega
  have hwL : w.heap.size < W1.heap.size := block_lt_of_cell r0
  have T1 := Lib.hid (show Two W1 (w.heap.size + 1) (.int .i64 0) (.slice none 0 0) from ⟨r4, r5, r6, r7⟩)
  go_region_held3 (fun W' => (W'.cell? ⟨b1, o1 + k * 3, none⟩ = some (.string nm) ∧ W'.cell? ⟨b1, o1 + k * 3 + 1, none⟩ = some (.int .i64 q) ∧ W'.cell? ⟨b1, o1 + k * 3 + 2, none⟩ = some (.slice A3 n3 c3)) ∧ W'.cell? ⟨w.heap.size, 0, none⟩ = some (.slice A2 n2 c2)) (first | exact ⟨⟨d1, d2, d3⟩, r0⟩ | exact hS2) (first | (go_at_call 50; refine (HD.out _ hbR.drew).mono ?_; rintro e W2 ⟨rfl, hb2⟩; have hS2 := held_forms hb2 hbL hwL d1 d2 d3 r0; have e9 := hb2))
  have hb12 : Below W1.heap.size W1 W2 := (Below.refl _ _).drew.trans e9
  have hbR2 := hbR.trans (hb12.mono hbR.size)
  obtain ⟨⟨a1, a2, a3⟩, a0⟩ := held_forms e9 hbL hwL d1 d2 d3 r0
  obtain ⟨s4, s5, s6, s7⟩ := T1.out.below hb12
  have z2 : w.heap.size + 1 < W2.heap.size := (T1.out.below hb12).lt
  have T2 := Lib.hid (T1.out.below hb12)
  clear r4 r5 r6 r7 r0 d1 d2 d3 hb1 e9
  go_wp2
  refine bodyPost_ret (v := .tuple #[.agg #[.int .i64 0, .slice none 0 0], .bool false]) ?_ rfl ⟨rfl, ?_⟩
  · simp [results, Tryz.results77, go_sem, s4, s5]
  · exact (hbR2.setCell (p := ⟨w.heap.size + 1, 0, none⟩) (by show w.heap.size ≤ w.heap.size + 1; omega) _).setCell (p := ⟨w.heap.size + 1, 1, none⟩) (by show w.heap.size ≤ w.heap.size + 1; omega) _

set_option maxRecDepth 100000 in
set_option maxHeartbeats 2000000 in
theorem first_out (B : Nat) (v cv : Value) (fs : List Frm) (l : List UInt8) (k : Nat) (f : Frm) (w : World) (h : FormsAt B w v fs) (hl : BytesAt B w cv l) (hB : B ≤ w.heap.size) (ht : tableFault fs = (0, 0)) (h0 : 0 < l.length) (hj : idxOf (codeB l) fs = (k : Int)) (hx : fs[k]? = some f) (hs : sizeOf f.kinds ≤ l.length) (ho : 0 ≤ outIdx f.kinds (getL f.kinds l)) :
    Calls Tryz.prog 77 #[v, cv] w fun e w' => e = .returned (.tuple #[.agg #[.int .i64 0, .slice none 0 0], .bool false]) ∧ Below w.heap.size w w' := by
  have C := first_index B v cv fs l w h hl hB h0
  rw [hj] at C
  have hfm := List.mem_of_getElem? hx
  have hkf := h.kinds hfm
  have hok := valid_form ht hfm
  have hnm : f.name.size ≤ 140737488351232 := by obtain ⟨_, _, _, _, h3, _⟩ := h; exact (h3 f hfm).2
  have D : ∀ W, Below w.heap.size w W → Calls Tryz.prog 50 #[f.val] W fun e w' => e = .returned (.int .i64 (sizeOf f.kinds : Nat)) ∧ Below W.heap.size W w' := fun W hW =>
    sizeForm_any B f W (hkf.below (hW.mono hB)) (Nat.le_trans hB hW.size) hnm hok
  have E : ∀ W, Below w.heap.size w W → Calls Tryz.prog 88 #[f.val, cv] W fun e w' => ∃ R, e = .returned (.slice (some ⟨R, 0, none⟩) f.kinds.length f.kinds.length) ∧ w'.ownsRow W.heap.size 3 1 (.slice (some ⟨R, 0, none⟩) f.kinds.length f.kinds.length) f.kinds.length (iv (getL f.kinds l)) ∧ Below W.heap.size W w' := fun W hW =>
    arguments_any B f cv l W (hkf.below (hW.mono hB)) (hl.below (hW.mono hB)) (Nat.le_trans hB hW.size) hok.short hok.known hs
  have hgl : (getL f.kinds l).length = f.kinds.length := by simp [getL]
  have F2 := fun (W3 : World) (b R : Nat) (hb : Below w.heap.size w W3) hrow => first_calls (b := b) (R := R) (xs := getL f.kinds l) hkf hB hnm hok hgl hb hrow
  have Hl := Lib.hid hl
  obtain ⟨j, hjj⟩ := Int.eq_ofNat_of_zero_le ho
  rw [hjj] at F2
  clear hjj ho
  generalize sizeOf f.kinds = sz at *
  obtain ⟨A, n, c, rfl, hfs, ⟨hn, _⟩, _, hc⟩ := h.opens
  have hlt : k < n := by rw [← hfs.out]; exact (List.getElem?_eq_some_iff.1 hx).1
  obtain ⟨b1, o1, rfl, hb1', g1⟩ := hc (by omega)
  have Hg := Lib.hid (g1 k f hx)
  obtain ⟨A2, n2, c2, rfl, H2, ⟨hn2, hc2⟩, _⟩ := hl.opens
  rw [H2.out] at hs
  obtain ⟨nm, q, kv, ks⟩ := f
  obtain ⟨A3, n3, c3, e3, Hl3, hn3, _⟩ := hkf.opens
  dsimp only at e3
  dsimp only [Frm.val] at D
  subst e3
  have hd : decide ((k : Int) < 0) = false := by simp
  dsimp only [Frm.val] at E F2
  rw [Hl3.out] at E
  simp only [Hl3.out] at F2
  have HE := Lib.hid E
  have HF := Lib.hid F2
  have HC := Lib.hid C
  have HD := Lib.hid D
  have T := Lib.hid (firstW_res w (.slice A2 n2 c2))
  have T0 := Lib.hid (firstW_code w (.slice A2 n2 c2))
  have Hbw := Lib.hid (firstW_below w (.slice A2 n2 c2))
  clear C D h hl ht hx hfm hkf hok hnm hc g1 hj E F2 hgl
  go_enter Tryz.func77, Tryz.ntmps77
  go_wp2_with (go_at_call 60; refine HC.out.mono ?_; rintro e W1 ⟨rfl, hb1⟩; obtain ⟨r4, r5, r6, r7⟩ := T.out.below hb1; have hR1 := (T.out.below hb1).lt; have r0 : W1.cell? ⟨w.heap.size, 0, none⟩ = some (.slice A2 n2 c2) := (hb1.cell (p := ⟨w.heap.size, 0, none⟩) (block_lt_of_cell T0.out)).trans T0.out)
  have hbR := Hbw.out.trans (hb1.mono Hbw.out.size)
  obtain ⟨d1, d2, d3⟩ := Hg.out.below (hbR.mono hB) hb1'
  have hbL : b1 < W1.heap.size := by have := hbR.size; omega
  have hwL : w.heap.size < W1.heap.size := block_lt_of_cell r0
  have T1 := Lib.hid (show Two W1 (w.heap.size + 1) (.int .i64 0) (.slice none 0 0) from ⟨r4, r5, r6, r7⟩)
  go_region_held3 (fun W' => (W'.cell? ⟨b1, o1 + k * 3, none⟩ = some (.string nm) ∧ W'.cell? ⟨b1, o1 + k * 3 + 1, none⟩ = some (.int .i64 q) ∧ W'.cell? ⟨b1, o1 + k * 3 + 2, none⟩ = some (.slice A3 n3 c3)) ∧ W'.cell? ⟨w.heap.size, 0, none⟩ = some (.slice A2 n2 c2)) (first | exact ⟨⟨d1, d2, d3⟩, r0⟩ | exact hS2) (first | (go_at_call 50; refine (HD.out _ hbR.drew).mono ?_; rintro e W2 ⟨rfl, hb2⟩; have hS2 := held_forms hb2 hbL hwL d1 d2 d3 r0; have e9 := hb2))
  have hb12 : Below W1.heap.size W1 W2 := (Below.refl _ _).drew.trans e9
  have hbR2 := hbR.trans (hb12.mono hbR.size)
  obtain ⟨⟨a1, a2, a3⟩, a0⟩ := held_forms e9 hbL hwL d1 d2 d3 r0
  obtain ⟨s4, s5, s6, s7⟩ := T1.out.below hb12
  have z2 : w.heap.size + 1 < W2.heap.size := (T1.out.below hb12).lt
  have T2 := Lib.hid (T1.out.below hb12)
  clear r4 r5 r6 r7 r0 d1 d2 d3 hb1 e9
  have hb23 : ∀ W3, Below (W2.alloc (.cells #[.string nm, .int .i64 q, .slice A3 n3 c3] 39)).heap.size (W2.alloc (.cells #[.string nm, .int .i64 q, .slice A3 n3 c3] 39)) W3 → Below W2.heap.size W2 W3 := fun W3 h => ((Below.refl _ _).alloc (Nat.le_refl _) _).trans (h.mono (by simp))
  have z0 : w.heap.size < W2.heap.size := by omega
  go_wp2_with (go_at_call 88; refine (HE.out _ (hbR2.alloc (by omega) _)).mono ?_; rintro e W3 ⟨R, rfl, hrow3, hb3⟩; obtain ⟨f1, f2, f3⟩ : W3.cell? ⟨W2.heap.size, 0, none⟩ = some (.string nm) ∧ W3.cell? ⟨W2.heap.size, 1, none⟩ = some (.int .i64 q) ∧ W3.cell? ⟨W2.heap.size, 2, none⟩ = some (.slice A3 n3 c3) := ⟨(hb3.cell (p := ⟨W2.heap.size, 0, none⟩) (by simp)).trans (by simp), (hb3.cell (p := ⟨W2.heap.size, 1, none⟩) (by simp)).trans (by simp), (hb3.cell (p := ⟨W2.heap.size, 2, none⟩) (by simp)).trans (by simp)⟩)
  have h23 := hb23 W3 hb3
  have c0 : W3.cell? ⟨w.heap.size, 0, none⟩ = some (.slice A2 n2 c2) := (h23.cell (p := ⟨w.heap.size, 0, none⟩) z0).trans a0
  have hbR3 := hbR2.trans (h23.mono hbR2.size)
  have T3 := Lib.hid (T2.out.below h23)
  obtain ⟨FO, FE⟩ := HF.out W3 _ R hbR3 hrow3
  have y0 : w.heap.size < W3.heap.size := block_lt_of_cell c0
  have y2 : W2.heap.size < W3.heap.size := block_lt_of_cell f1
  clear a1 a2 a3 a0 hrow3 hb3 s4 s5 s6 s7
  have HO := Lib.hid FO
  clear FO FE
  refine wp_region_held (S := fun W' => (W'.cell? ⟨W2.heap.size, 0, none⟩ = some (.string nm) ∧ W'.cell? ⟨W2.heap.size, 1, none⟩ = some (.int .i64 q) ∧ W'.cell? ⟨W2.heap.size, 2, none⟩ = some (.slice A3 n3 c3)) ∧ W'.cell? ⟨w.heap.size, 0, none⟩ = some (.slice A2 n2 c2)) (by kernel_rfl) ?_
  have hS : (W3.drew.cell? ⟨W2.heap.size, 0, none⟩ = some (.string nm) ∧ W3.drew.cell? ⟨W2.heap.size, 1, none⟩ = some (.int .i64 q) ∧ W3.drew.cell? ⟨W2.heap.size, 2, none⟩ = some (.slice A3 n3 c3)) ∧ W3.drew.cell? ⟨w.heap.size, 0, none⟩ = some (.slice A2 n2 c2) := ⟨⟨f1, f2, f3⟩, c0⟩
  change wpAnyH _ _ _ _ _ _ _ _ W3.drew
  refine wpAnyH_take (i := 0) (v := ?_) rfl (by kernel_rfl) (by kernel_rfl) (by kernel_rfl) (fun _ _ _ h => h) (Or.inl ⟨by rfl, ?_⟩) hS ?_
  rotate_left
  · rintro W' ⟨⟨s0, s1, s2⟩, s3⟩; go_simp; rfl
  simp [Act.put]
  refine wpAnyH_take (i := 1) (v := ?_) rfl (by kernel_rfl) (by kernel_rfl) (by kernel_rfl) (fun _ _ _ h => h) (Or.inl ⟨by rfl, ?_⟩) hS ?_
  rotate_left
  · rintro W' ⟨⟨s0, s1, s2⟩, s3⟩; go_simp; rfl
  simp [Act.put]
  refine wpAnyH_take (i := 2) (v := ?_) rfl (by kernel_rfl) (by kernel_rfl) (by kernel_rfl) (fun _ _ _ h => h) (Or.inl ⟨by rfl, ?_⟩) hS ?_
  rotate_left
  · rintro W' ⟨⟨s0, s1, s2⟩, s3⟩; go_simp; rfl
  simp [Act.put]
  refine wpAnyH_ready (rs := [3]) (by kernel_rfl) (by simp) ?_
  refine AllReadyH.cons rfl (fun K hK => ?_) AllReadyH.nil
  go_simp
  refine (HO.out _ (Below.refl _ _).drew).mono ?_
  rintro e W4 ⟨rfl, hb4⟩
  have e9 := hb4
  replace hS := held_forms hb4 y2 y0 f1 f2 f3 c0
  refine hK.out _ _ hS (fun _ => ?_)
  clear hK K
  refine wpAnyH_take (i := 4) (v := ?_) rfl (by kernel_rfl) (by kernel_rfl) (by kernel_rfl) (fun _ _ _ h => h) (Or.inl ⟨by rfl, ?_⟩) hS ?_
  rotate_left
  · rintro W' ⟨⟨s0, s1, s2⟩, s3⟩; go_simp; rfl
  simp [Act.put]
  refine wpAnyH_take (i := 5) (v := ?_) rfl (by kernel_rfl) (by kernel_rfl) (by kernel_rfl) (fun _ _ _ h => h) (Or.inl ⟨by rfl, ?_⟩) hS ?_
  rotate_left
  · rintro W' ⟨⟨s0, s1, s2⟩, s3⟩; go_simp; rfl
  simp [Act.put]
  refine wpAnyH_take (i := 6) (v := undef) rfl (by kernel_rfl) (by kernel_rfl) (by kernel_rfl) (fun _ _ _ h => h) (Or.inr ⟨by rfl, rfl⟩) hS ?_
  simp [Act.put]
  refine wpAnyH_take (i := 7) (v := undef) rfl (by kernel_rfl) (by kernel_rfl) (by kernel_rfl) (fun _ _ _ h => h) (Or.inr ⟨by rfl, rfl⟩) hS ?_
  simp [Act.put]
  refine wpAnyH_take (i := 8) (v := undef) rfl (by kernel_rfl) (by kernel_rfl) (by kernel_rfl) (fun _ _ _ h => h) (Or.inr ⟨by rfl, rfl⟩) hS ?_
  simp [Act.put]
  refine wpAnyH_take (i := 9) (v := undef) rfl (by kernel_rfl) (by kernel_rfl) (by kernel_rfl) (fun _ _ _ h => h) (Or.inr ⟨by rfl, rfl⟩) hS ?_
  simp [Act.put]
  refine wpAnyH_take (i := 10) (v := undef) rfl (by kernel_rfl) (by kernel_rfl) (by kernel_rfl) (fun _ _ _ h => h) (Or.inr ⟨by rfl, rfl⟩) hS ?_
  simp [Act.put]
  refine wpAnyH_take (i := 11) (v := undef) rfl (by kernel_rfl) (by kernel_rfl) (by kernel_rfl) (fun _ _ _ h => h) (Or.inr ⟨by rfl, rfl⟩) hS ?_
  simp [Act.put]
  refine wpAnyH_take (i := 12) (v := ?_) rfl (by kernel_rfl) (by kernel_rfl) (by kernel_rfl) (fun _ _ _ h => h) (Or.inl ⟨by rfl, ?_⟩) hS ?_
  rotate_left
  · rintro W' ⟨⟨s0, s1, s2⟩, s3⟩; go_simp; rfl
  simp [Act.put]
  refine wpAnyH_done (by kernel_rfl) ?_ _
  have hb34 : Below W3.heap.size W3 W4 := (Below.refl _ _).drew.trans e9
  have hbR4 := hbR3.trans (hb34.mono hbR3.size)
  obtain ⟨s4, s5, s6, s7⟩ := T3.out.below hb34
  have z4 : w.heap.size + 1 < W4.heap.size := (T3.out.below hb34).lt
  go_wp2
  refine bodyPost_ret (v := .tuple #[.agg #[.int .i64 0, .slice none 0 0], .bool false]) ?_ rfl ⟨rfl, ?_⟩
  · simp [results, Tryz.results77, go_sem, s4, s5]
  · exact (hbR4.setCell (p := ⟨w.heap.size + 1, 0, none⟩) (by show w.heap.size ≤ w.heap.size + 1; omega) _).setCell (p := ⟨w.heap.size + 1, 1, none⟩) (by show w.heap.size ≤ w.heap.size + 1; omega) _

set_option maxRecDepth 100000 in
set_option maxHeartbeats 2000000 in
theorem first_pre (B : Nat) (v cv : Value) (fs : List Frm) (l : List UInt8) (k : Nat) (f : Frm) (w : World) (h : FormsAt B w v fs) (hl : BytesAt B w cv l) (hB : B ≤ w.heap.size) (ht : tableFault fs = (0, 0)) (h0 : 0 < l.length) (hj : idxOf (codeB l) fs = (k : Int)) (hx : fs[k]? = some f) (hs : sizeOf f.kinds ≤ l.length) (ho : outIdx f.kinds (getL f.kinds l) = -1) (hp : ¬ l.take (sizeOf f.kinds) = encL f.code (f.kinds.zip (getL f.kinds l))) :
    Calls Tryz.prog 77 #[v, cv] w fun e w' => e = .returned (.tuple #[.agg #[.int .i64 0, .slice none 0 0], .bool false]) ∧ Below w.heap.size w w' := by
  have C := first_index B v cv fs l w h hl hB h0
  rw [hj] at C
  have hfm := List.mem_of_getElem? hx
  have hkf := h.kinds hfm
  have hok := valid_form ht hfm
  have hnm : f.name.size ≤ 140737488351232 := by obtain ⟨_, _, _, _, h3, _⟩ := h; exact (h3 f hfm).2
  have D : ∀ W, Below w.heap.size w W → Calls Tryz.prog 50 #[f.val] W fun e w' => e = .returned (.int .i64 (sizeOf f.kinds : Nat)) ∧ Below W.heap.size W w' := fun W hW =>
    sizeForm_any B f W (hkf.below (hW.mono hB)) (Nat.le_trans hB hW.size) hnm hok
  have E : ∀ W, Below w.heap.size w W → Calls Tryz.prog 88 #[f.val, cv] W fun e w' => ∃ R, e = .returned (.slice (some ⟨R, 0, none⟩) f.kinds.length f.kinds.length) ∧ w'.ownsRow W.heap.size 3 1 (.slice (some ⟨R, 0, none⟩) f.kinds.length f.kinds.length) f.kinds.length (iv (getL f.kinds l)) ∧ Below W.heap.size W w' := fun W hW =>
    arguments_any B f cv l W (hkf.below (hW.mono hB)) (hl.below (hW.mono hB)) (Nat.le_trans hB hW.size) hok.short hok.known hs
  have hgl : (getL f.kinds l).length = f.kinds.length := by simp [getL]
  have F2 := fun (W3 : World) (b R : Nat) (hb : Below w.heap.size w W3) hrow => first_calls (b := b) (R := R) (xs := getL f.kinds l) hkf hB hnm hok hgl hb hrow
  have Hl := Lib.hid hl
  have hel : (encL f.code (f.kinds.zip (getL f.kinds l))).length = sizeOf f.kinds := encL_length hgl
  have hpd : decide (l.take (encL f.code (f.kinds.zip (getL f.kinds l))).length = encL f.code (f.kinds.zip (getL f.kinds l))) = false := by rw [hel]; simpa using hp
  have hP : ∀ (W : World) (vb : Value), Below w.heap.size w W → BytesAt W.heap.size W vb (encL f.code (f.kinds.zip (getL f.kinds l))) → Calls Tryz.prog 89 #[cv, vb] W fun e w' => e = .returned (.bool false) ∧ W = w' := fun W vb hb h => by
    have := hasPrefix_any W.heap.size cv vb l _ W ((hl.below (hb.mono hB)).more (Nat.le_trans hB hb.size)) h h0
    rw [hpd] at this
    exact this
  rw [ho] at F2
  clear hpd hel hp
  generalize encL f.code (f.kinds.zip (getL f.kinds l)) = bl at *
  generalize sizeOf f.kinds = sz at *
  obtain ⟨A, n, c, rfl, hfs, ⟨hn, _⟩, _, hc⟩ := h.opens
  have hlt : k < n := by rw [← hfs.out]; exact (List.getElem?_eq_some_iff.1 hx).1
  obtain ⟨b1, o1, rfl, hb1', g1⟩ := hc (by omega)
  have Hg := Lib.hid (g1 k f hx)
  obtain ⟨A2, n2, c2, rfl, H2, ⟨hn2, hc2⟩, _⟩ := hl.opens
  rw [H2.out] at hs
  obtain ⟨nm, q, kv, ks⟩ := f
  obtain ⟨A3, n3, c3, e3, Hl3, hn3, _⟩ := hkf.opens
  dsimp only at e3
  dsimp only [Frm.val] at D
  subst e3
  have hd : decide ((k : Int) < 0) = false := by simp
  dsimp only [Frm.val] at E F2
  rw [Hl3.out] at E
  simp only [Hl3.out] at F2
  have HE := Lib.hid E
  have HF := Lib.hid F2
  have HC := Lib.hid C
  have HD := Lib.hid D
  have T := Lib.hid (firstW_res w (.slice A2 n2 c2))
  have T0 := Lib.hid (firstW_code w (.slice A2 n2 c2))
  have Hbw := Lib.hid (firstW_below w (.slice A2 n2 c2))
  clear C D h hl ht hx hfm hkf hok hnm hc g1 hj E F2 hgl
  go_enter Tryz.func77, Tryz.ntmps77
  go_wp2_with (go_at_call 60; refine HC.out.mono ?_; rintro e W1 ⟨rfl, hb1⟩; obtain ⟨r4, r5, r6, r7⟩ := T.out.below hb1; have hR1 := (T.out.below hb1).lt; have r0 : W1.cell? ⟨w.heap.size, 0, none⟩ = some (.slice A2 n2 c2) := (hb1.cell (p := ⟨w.heap.size, 0, none⟩) (block_lt_of_cell T0.out)).trans T0.out)
  have hbR := Hbw.out.trans (hb1.mono Hbw.out.size)
  obtain ⟨d1, d2, d3⟩ := Hg.out.below (hbR.mono hB) hb1'
  have hbL : b1 < W1.heap.size := by have := hbR.size; omega
  have hwL : w.heap.size < W1.heap.size := block_lt_of_cell r0
  have T1 := Lib.hid (show Two W1 (w.heap.size + 1) (.int .i64 0) (.slice none 0 0) from ⟨r4, r5, r6, r7⟩)
  go_region_held3 (fun W' => (W'.cell? ⟨b1, o1 + k * 3, none⟩ = some (.string nm) ∧ W'.cell? ⟨b1, o1 + k * 3 + 1, none⟩ = some (.int .i64 q) ∧ W'.cell? ⟨b1, o1 + k * 3 + 2, none⟩ = some (.slice A3 n3 c3)) ∧ W'.cell? ⟨w.heap.size, 0, none⟩ = some (.slice A2 n2 c2)) (first | exact ⟨⟨d1, d2, d3⟩, r0⟩ | exact hS2) (first | (go_at_call 50; refine (HD.out _ hbR.drew).mono ?_; rintro e W2 ⟨rfl, hb2⟩; have hS2 := held_forms hb2 hbL hwL d1 d2 d3 r0; have e9 := hb2))
  have hb12 : Below W1.heap.size W1 W2 := (Below.refl _ _).drew.trans e9
  have hbR2 := hbR.trans (hb12.mono hbR.size)
  obtain ⟨⟨a1, a2, a3⟩, a0⟩ := held_forms e9 hbL hwL d1 d2 d3 r0
  obtain ⟨s4, s5, s6, s7⟩ := T1.out.below hb12
  have z2 : w.heap.size + 1 < W2.heap.size := (T1.out.below hb12).lt
  have T2 := Lib.hid (T1.out.below hb12)
  clear r4 r5 r6 r7 r0 d1 d2 d3 hb1 e9
  have hb23 : ∀ W3, Below (W2.alloc (.cells #[.string nm, .int .i64 q, .slice A3 n3 c3] 39)).heap.size (W2.alloc (.cells #[.string nm, .int .i64 q, .slice A3 n3 c3] 39)) W3 → Below W2.heap.size W2 W3 := fun W3 h => ((Below.refl _ _).alloc (Nat.le_refl _) _).trans (h.mono (by simp))
  have z0 : w.heap.size < W2.heap.size := by omega
  go_wp2_with (go_at_call 88; refine (HE.out _ (hbR2.alloc (by omega) _)).mono ?_; rintro e W3 ⟨R, rfl, hrow3, hb3⟩; obtain ⟨f1, f2, f3⟩ : W3.cell? ⟨W2.heap.size, 0, none⟩ = some (.string nm) ∧ W3.cell? ⟨W2.heap.size, 1, none⟩ = some (.int .i64 q) ∧ W3.cell? ⟨W2.heap.size, 2, none⟩ = some (.slice A3 n3 c3) := ⟨(hb3.cell (p := ⟨W2.heap.size, 0, none⟩) (by simp)).trans (by simp), (hb3.cell (p := ⟨W2.heap.size, 1, none⟩) (by simp)).trans (by simp), (hb3.cell (p := ⟨W2.heap.size, 2, none⟩) (by simp)).trans (by simp)⟩)
  have h23 := hb23 W3 hb3
  have c0 : W3.cell? ⟨w.heap.size, 0, none⟩ = some (.slice A2 n2 c2) := (h23.cell (p := ⟨w.heap.size, 0, none⟩) z0).trans a0
  have hbR3 := hbR2.trans (h23.mono hbR2.size)
  have T3 := Lib.hid (T2.out.below h23)
  obtain ⟨FO, FE⟩ := HF.out W3 _ R hbR3 hrow3
  have y0 : w.heap.size < W3.heap.size := block_lt_of_cell c0
  have y2 : W2.heap.size < W3.heap.size := block_lt_of_cell f1
  clear a1 a2 a3 a0 hrow3 hb3 s4 s5 s6 s7
  have hd2 : decide ((0 : Int) ≤ -1) = false := by simp
  have HO := Lib.hid FO
  have HP := Lib.hid hP
  have HE2 := Lib.hid (FE trivial)
  clear FO FE hP
  go_region_held3 (fun W' => (W'.cell? ⟨W2.heap.size, 0, none⟩ = some (.string nm) ∧ W'.cell? ⟨W2.heap.size, 1, none⟩ = some (.int .i64 q) ∧ W'.cell? ⟨W2.heap.size, 2, none⟩ = some (.slice A3 n3 c3)) ∧ W'.cell? ⟨w.heap.size, 0, none⟩ = some (.slice A2 n2 c2)) (first | exact ⟨⟨f1, f2, f3⟩, c0⟩ | exact hS4 | exact hS5) (first
    | (go_at_call 35; refine (HO.out _ (Below.refl _ _).drew).mono ?_; rintro e W4 ⟨rfl, hb4⟩; have hS4 := held_forms hb4 y2 y0 f1 f2 f3 c0; have e9 : Below W3.heap.size W3 W4 := (Below.refl _ _).drew.trans hb4)
    | (go_at_call 36; refine (HE2.out _ e9).mono ?_; rintro e W5 ⟨R5, rfl, hby5, hb5⟩; have e10 := e9.trans (hb5.mono e9.size); have hS5 := held_forms (hb4.trans (hb5.mono hb4.size)) y2 y0 f1 f2 f3 c0)
    | (go_at_call 89; refine (HP.out _ _ (hbR3.trans (e10.mono hbR3.size)) hby5).mono ?_; rintro e w' ⟨rfl, rfl⟩))
  have hbR5 := hbR3.trans (e10.mono hbR3.size)
  obtain ⟨s4, s5, s6, s7⟩ := T3.out.below e10
  have z5 : w.heap.size + 1 < W5.heap.size := (T3.out.below e10).lt
  go_wp2
  refine bodyPost_ret (v := .tuple #[.agg #[.int .i64 0, .slice none 0 0], .bool false]) ?_ rfl ⟨rfl, ?_⟩
  · simp [results, Tryz.results77, go_sem, s4, s5]
  · exact (hbR5.setCell (p := ⟨w.heap.size + 1, 0, none⟩) (by show w.heap.size ≤ w.heap.size + 1; omega) _).setCell (p := ⟨w.heap.size + 1, 1, none⟩) (by show w.heap.size ≤ w.heap.size + 1; omega) _

set_option maxRecDepth 100000 in
set_option maxHeartbeats 2000000 in
theorem first_ok (B : Nat) (v cv : Value) (fs : List Frm) (l : List UInt8) (k : Nat) (f : Frm) (w : World) (h : FormsAt B w v fs) (hl : BytesAt B w cv l) (hB : B ≤ w.heap.size) (ht : tableFault fs = (0, 0)) (h0 : 0 < l.length) (hj : idxOf (codeB l) fs = (k : Int)) (hx : fs[k]? = some f) (hs : sizeOf f.kinds ≤ l.length) (ho : outIdx f.kinds (getL f.kinds l) = -1) (hp : l.take (sizeOf f.kinds) = encL f.code (f.kinds.zip (getL f.kinds l))) :
    Calls Tryz.prog 77 #[v, cv] w fun e w' => ∃ R, e = .returned (.tuple #[.agg #[.int .i64 (k : Int), .slice (some ⟨R, 0, none⟩) f.kinds.length f.kinds.length], .bool true]) ∧ w'.ownsRow w.heap.size 3 1 (.slice (some ⟨R, 0, none⟩) f.kinds.length f.kinds.length) f.kinds.length (iv (getL f.kinds l)) ∧ Below w.heap.size w w' := by
  have C := first_index B v cv fs l w h hl hB h0
  rw [hj] at C
  have hfm := List.mem_of_getElem? hx
  have hkf := h.kinds hfm
  have hok := valid_form ht hfm
  have hnm : f.name.size ≤ 140737488351232 := by obtain ⟨_, _, _, _, h3, _⟩ := h; exact (h3 f hfm).2
  have D : ∀ W, Below w.heap.size w W → Calls Tryz.prog 50 #[f.val] W fun e w' => e = .returned (.int .i64 (sizeOf f.kinds : Nat)) ∧ Below W.heap.size W w' := fun W hW =>
    sizeForm_any B f W (hkf.below (hW.mono hB)) (Nat.le_trans hB hW.size) hnm hok
  have E : ∀ W, Below w.heap.size w W → Calls Tryz.prog 88 #[f.val, cv] W fun e w' => ∃ R, e = .returned (.slice (some ⟨R, 0, none⟩) f.kinds.length f.kinds.length) ∧ w'.ownsRow W.heap.size 3 1 (.slice (some ⟨R, 0, none⟩) f.kinds.length f.kinds.length) f.kinds.length (iv (getL f.kinds l)) ∧ Below W.heap.size W w' := fun W hW =>
    arguments_any B f cv l W (hkf.below (hW.mono hB)) (hl.below (hW.mono hB)) (Nat.le_trans hB hW.size) hok.short hok.known hs
  have hgl : (getL f.kinds l).length = f.kinds.length := by simp [getL]
  have F2 := fun (W3 : World) (b R : Nat) (hb : Below w.heap.size w W3) hrow => first_calls (b := b) (R := R) (xs := getL f.kinds l) hkf hB hnm hok hgl hb hrow
  have Hl := Lib.hid hl
  have hel : (encL f.code (f.kinds.zip (getL f.kinds l))).length = sizeOf f.kinds := encL_length hgl
  have hpd : decide (l.take (encL f.code (f.kinds.zip (getL f.kinds l))).length = encL f.code (f.kinds.zip (getL f.kinds l))) = true := by rw [hel]; simpa using hp
  have hP : ∀ (W : World) (vb : Value), Below w.heap.size w W → BytesAt W.heap.size W vb (encL f.code (f.kinds.zip (getL f.kinds l))) → Calls Tryz.prog 89 #[cv, vb] W fun e w' => e = .returned (.bool true) ∧ W = w' := fun W vb hb h => by
    have := hasPrefix_any W.heap.size cv vb l _ W ((hl.below (hb.mono hB)).more (Nat.le_trans hB hb.size)) h h0
    rw [hpd] at this
    exact this
  rw [ho] at F2
  clear hpd hel hp
  generalize encL f.code (f.kinds.zip (getL f.kinds l)) = bl at *
  generalize sizeOf f.kinds = sz at *
  obtain ⟨A, n, c, rfl, hfs, ⟨hn, _⟩, _, hc⟩ := h.opens
  have hlt : k < n := by rw [← hfs.out]; exact (List.getElem?_eq_some_iff.1 hx).1
  obtain ⟨b1, o1, rfl, hb1', g1⟩ := hc (by omega)
  have Hg := Lib.hid (g1 k f hx)
  obtain ⟨A2, n2, c2, rfl, H2, ⟨hn2, hc2⟩, _⟩ := hl.opens
  rw [H2.out] at hs
  obtain ⟨nm, q, kv, ks⟩ := f
  obtain ⟨A3, n3, c3, e3, Hl3, hn3, _⟩ := hkf.opens
  dsimp only at e3
  dsimp only [Frm.val] at D
  subst e3
  have hd : decide ((k : Int) < 0) = false := by simp
  dsimp only [Frm.val] at E F2
  rw [Hl3.out] at E
  simp only [Hl3.out] at F2
  have HE := Lib.hid E
  have HF := Lib.hid F2
  have HC := Lib.hid C
  have HD := Lib.hid D
  have T := Lib.hid (firstW_res w (.slice A2 n2 c2))
  have T0 := Lib.hid (firstW_code w (.slice A2 n2 c2))
  have Hbw := Lib.hid (firstW_below w (.slice A2 n2 c2))
  clear C D h hl ht hx hfm hkf hok hnm hc g1 hj E F2 hgl
  go_enter Tryz.func77, Tryz.ntmps77
  go_wp2_with (go_at_call 60; refine HC.out.mono ?_; rintro e W1 ⟨rfl, hb1⟩; obtain ⟨r4, r5, r6, r7⟩ := T.out.below hb1; have hR1 := (T.out.below hb1).lt; have r0 : W1.cell? ⟨w.heap.size, 0, none⟩ = some (.slice A2 n2 c2) := (hb1.cell (p := ⟨w.heap.size, 0, none⟩) (block_lt_of_cell T0.out)).trans T0.out)
  have hbR := Hbw.out.trans (hb1.mono Hbw.out.size)
  obtain ⟨d1, d2, d3⟩ := Hg.out.below (hbR.mono hB) hb1'
  have hbL : b1 < W1.heap.size := by have := hbR.size; omega
  have hwL : w.heap.size < W1.heap.size := block_lt_of_cell r0
  have T1 := Lib.hid (show Two W1 (w.heap.size + 1) (.int .i64 0) (.slice none 0 0) from ⟨r4, r5, r6, r7⟩)
  go_region_held3 (fun W' => (W'.cell? ⟨b1, o1 + k * 3, none⟩ = some (.string nm) ∧ W'.cell? ⟨b1, o1 + k * 3 + 1, none⟩ = some (.int .i64 q) ∧ W'.cell? ⟨b1, o1 + k * 3 + 2, none⟩ = some (.slice A3 n3 c3)) ∧ W'.cell? ⟨w.heap.size, 0, none⟩ = some (.slice A2 n2 c2)) (first | exact ⟨⟨d1, d2, d3⟩, r0⟩ | exact hS2) (first | (go_at_call 50; refine (HD.out _ hbR.drew).mono ?_; rintro e W2 ⟨rfl, hb2⟩; have hS2 := held_forms hb2 hbL hwL d1 d2 d3 r0; have e9 := hb2))
  have hb12 : Below W1.heap.size W1 W2 := (Below.refl _ _).drew.trans e9
  have hbR2 := hbR.trans (hb12.mono hbR.size)
  obtain ⟨⟨a1, a2, a3⟩, a0⟩ := held_forms e9 hbL hwL d1 d2 d3 r0
  obtain ⟨s4, s5, s6, s7⟩ := T1.out.below hb12
  have z2 : w.heap.size + 1 < W2.heap.size := (T1.out.below hb12).lt
  have T2 := Lib.hid (T1.out.below hb12)
  clear r4 r5 r6 r7 r0 d1 d2 d3 hb1 e9
  have hb23 : ∀ W3, Below (W2.alloc (.cells #[.string nm, .int .i64 q, .slice A3 n3 c3] 39)).heap.size (W2.alloc (.cells #[.string nm, .int .i64 q, .slice A3 n3 c3] 39)) W3 → Below W2.heap.size W2 W3 := fun W3 h => ((Below.refl _ _).alloc (Nat.le_refl _) _).trans (h.mono (by simp))
  have z0 : w.heap.size < W2.heap.size := by omega
  go_wp2_with (go_at_call 88; refine (HE.out _ (hbR2.alloc (by omega) _)).mono ?_; rintro e W3 ⟨R, rfl, hrow3, hb3⟩; obtain ⟨f1, f2, f3⟩ : W3.cell? ⟨W2.heap.size, 0, none⟩ = some (.string nm) ∧ W3.cell? ⟨W2.heap.size, 1, none⟩ = some (.int .i64 q) ∧ W3.cell? ⟨W2.heap.size, 2, none⟩ = some (.slice A3 n3 c3) := ⟨(hb3.cell (p := ⟨W2.heap.size, 0, none⟩) (by simp)).trans (by simp), (hb3.cell (p := ⟨W2.heap.size, 1, none⟩) (by simp)).trans (by simp), (hb3.cell (p := ⟨W2.heap.size, 2, none⟩) (by simp)).trans (by simp)⟩)
  have h23 := hb23 W3 hb3
  have c0 : W3.cell? ⟨w.heap.size, 0, none⟩ = some (.slice A2 n2 c2) := (h23.cell (p := ⟨w.heap.size, 0, none⟩) z0).trans a0
  have hbR3 := hbR2.trans (h23.mono hbR2.size)
  have T3 := Lib.hid (T2.out.below h23)
  obtain ⟨FO, FE⟩ := HF.out W3 _ R hbR3 hrow3
  have y0 : w.heap.size < W3.heap.size := block_lt_of_cell c0
  have y2 : W2.heap.size < W3.heap.size := block_lt_of_cell f1
  have H3 := Lib.hid hrow3
  clear a1 a2 a3 a0 hrow3 s4 s5 s6 s7
  have hd2 : decide ((0 : Int) ≤ -1) = false := by simp
  have HO := Lib.hid FO
  have HP := Lib.hid hP
  have HE2 := Lib.hid (FE trivial)
  clear FO FE hP
  go_region_held3 (fun W' => (W'.cell? ⟨W2.heap.size, 0, none⟩ = some (.string nm) ∧ W'.cell? ⟨W2.heap.size, 1, none⟩ = some (.int .i64 q) ∧ W'.cell? ⟨W2.heap.size, 2, none⟩ = some (.slice A3 n3 c3)) ∧ W'.cell? ⟨w.heap.size, 0, none⟩ = some (.slice A2 n2 c2)) (first | exact ⟨⟨f1, f2, f3⟩, c0⟩ | exact hS4 | exact hS5) (first
    | (go_at_call 35; refine (HO.out _ (Below.refl _ _).drew).mono ?_; rintro e W4 ⟨rfl, hb4⟩; have hS4 := held_forms hb4 y2 y0 f1 f2 f3 c0; have e9 : Below W3.heap.size W3 W4 := (Below.refl _ _).drew.trans hb4)
    | (go_at_call 36; refine (HE2.out _ e9).mono ?_; rintro e W5 ⟨R5, rfl, hby5, hb5⟩; have e10 := e9.trans (hb5.mono e9.size); have hS5 := held_forms (hb4.trans (hb5.mono hb4.size)) y2 y0 f1 f2 f3 c0)
    | (go_at_call 89; refine (HP.out _ _ (hbR3.trans (e10.mono hbR3.size)) hby5).mono ?_; rintro e w' ⟨rfl, rfl⟩))
  have hbR5 := hbR3.trans (e10.mono hbR3.size)
  obtain ⟨s4, s5, s6, s7⟩ := T3.out.below e10
  have z5 : w.heap.size + 1 < W5.heap.size := (T3.out.below e10).lt
  go_wp2
  have hrb := H3.out.lt R rfl
  have hRw : w.heap.size + 1 < R := by have := hrb.1; simp at this; omega
  have k1 := grown_set W5 (w.heap.size + 1) 0 (.int .i64 (k : Int))
  have k2 := grown_set (W5.setCell ⟨w.heap.size + 1, 0, none⟩ (.int .i64 (k : Int))) (w.heap.size + 1) 1 (.slice (some ⟨R, 0, none⟩) n3 n3)
  have hne : (Value.slice (some ⟨R, 0, none⟩) n3 n3).ownBlock = none ∨ (Value.slice (some ⟨R, 0, none⟩) n3 n3).ownBlock ≠ some (w.heap.size + 1) := .inr (by simp [Value.ownBlock]; omega)
  refine bodyPost_ret (v := .tuple #[.agg #[.int .i64 (k : Int), .slice (some ⟨R, 0, none⟩) n3 n3], .bool true]) ?_ rfl ⟨R, by rw [Hl3.out], ?_, ?_⟩
  · obtain ⟨e0, e1⟩ := two_set (x := .int .i64 (k : Int)) (y := .slice (some ⟨R, 0, none⟩) n3 n3) s4 s5
    simp [results, Tryz.results77, go_sem, e0, e1]
  · rw [Hl3.out]
    have hr5 := ownsRow_base (H3.out.kept (grown_none e10) (.inr (by simp [Value.ownBlock]))) (b' := w.heap.size) (by simp; omega)
    exact (hr5.kept k1 hne).kept k2 hne
  · exact (hbR5.setCell (p := ⟨w.heap.size + 1, 0, none⟩) (by show w.heap.size ≤ w.heap.size + 1; omega) _).setCell (p := ⟨w.heap.size + 1, 1, none⟩) (by show w.heap.size ≤ w.heap.size + 1; omega) _

end Go.Proofs.YtcngpciblbdgbaaGreatDoor
