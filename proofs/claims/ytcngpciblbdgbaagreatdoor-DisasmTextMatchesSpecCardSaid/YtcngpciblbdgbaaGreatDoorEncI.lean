/- Contract of Encode. Conditions: the table reads as forms; the arguments read as numbers. -/
import Derived.Test.YtcngpciblbdgbaaGreatDoorEncH
namespace Go.Proofs.YtcngpciblbdgbaaGreatDoor
open Go Go.RowKit Go.Shelf

/-- the fault of an instruction of a valid table -/
def insFault (fs : List Frm) (form : Int) (xs : List Int) : Int × Int :=
  if form < 0 ∨ (fs.length : Int) ≤ form then (3, -2) else
  match fs[form.toNat]? with
  | some f => if xs.length ≠ f.kinds.length then (9, -3) else if 0 ≤ outIdx f.kinds xs then (3, outIdx f.kinds xs) else (0, 0)
  | none => (0, 0)
def encFault (fs : List Frm) (form : Int) (xs : List Int) : Int × Int := if (tableFault fs).1 ≠ 0 then tableFault fs else insFault fs form xs
theorem valid_form {fs : List Frm} {f : Frm} (h : tableFault fs = (0, 0)) (hf : f ∈ fs) : FormOk f := ((valid_iff fs).1 (by rw [h])).2.1 f hf
theorem outIdx_cases {ks xs : List Int} : outIdx ks xs = -1 ∨ 0 ≤ outIdx ks xs := by
  unfold outIdx idxOf
  cases (ks.zip xs).findIdx? (fun p : Int × Int => outB p.1 p.2) with
  | none => left; rfl
  | some i => right; show (0 : Int) ≤ (i : Int); omega
theorem inside_of_idx {ks xs : List Int} (h : xs.length = ks.length) (ho : outIdx ks xs = -1) : insideAll ks xs := by
  intro n hn
  have hg := (idxOf_ge (fun p : Int × Int => outB p.1 p.2) (ks.zip xs))
  have hno : (ks.zip xs).any (fun p : Int × Int => outB p.1 p.2) = false := by
    cases hb : (ks.zip xs).any (fun p : Int × Int => outB p.1 p.2) with
    | false => rfl
    | true =>
      have := hg.2 hb
      have ho' : idxOf (fun p : Int × Int => outB p.1 p.2) (ks.zip xs) = -1 := ho
      omega
  have := List.any_eq_false.1 hno _ (List.mem_of_getElem? (zip_at h hn))
  simpa using this
theorem idx_of_inside {ks xs : List Int} (h : xs.length = ks.length) (hi : insideAll ks xs) : outIdx ks xs = -1 := outIdx_none h (fun i _ => hi i.val i.isLt)

/-- a box of an instruction and a result for a fault behind w -/
def encW (w : World) (form : Int) (v : Value) : World := (w.alloc (.cells #[.int .i64 form, v] 34)).alloc (.cells #[.int .i64 0, .int .i64 0] 27)
theorem encW_below (w : World) (form : Int) (v : Value) : Below w.heap.size w (encW w form v) := ((Below.refl _ _).alloc (Nat.le_refl _) _).alloc (by simp) _
theorem encW_ins (w : World) (form : Int) (v : Value) : Two (encW w form v) w.heap.size (.int .i64 form) v := (Two.new w _ _ _).below ((Below.refl _ _).alloc (Nat.le_refl _) _)
theorem encW_res (w : World) (form : Int) (v : Value) : Two (encW w form v) (w.heap.size + 1) (.int .i64 0) (.int .i64 0) := by
  have := Two.new (w.alloc (.cells #[.int .i64 form, v] 34)) (.int .i64 0) (.int .i64 0) 27
  rw [World.size_alloc] at this
  exact this
theorem encW_size (w : World) (form : Int) (v : Value) : (encW w form v).heap.size = w.heap.size + 1 + 1 := by simp [encW]

set_option maxRecDepth 100000 in
set_option maxHeartbeats 800000 in
theorem encode_table (B : Nat) (v : Value) (fs : List Frm) (form : Int) (av : Value) (xs : List Int) (w : World) (h : FormsAt B w v fs) (ha : KindsAt B w av xs) (hB : B ≤ w.heap.size) (hne : (tableFault fs).1 ≠ 0) :
    Calls Tryz.prog 19 #[v, .agg #[.int .i64 form, av]] w fun e w' => e = .returned (.tuple #[.slice none 0 0, faultV (tableFault fs)]) ∧ Below w.heap.size w w' := by
  have hbw := encW_below w form av
  have C := size_bad B v fs form (encW w form av) (h.below (hbw.mono hB)) (Nat.le_trans hB hbw.size) hne
  obtain ⟨A, n, c, rfl, _⟩ := h.opens
  obtain ⟨A2, n2, c2, rfl, _⟩ := ha.opens
  generalize tableFault fs = t at *
  obtain ⟨p, i⟩ := t
  have hp : (p == 0) = false := by simpa using hne
  have C := Lib.hid C
  have T1 := Lib.hid (encW_res w form (.slice A2 n2 c2))
  have Hbw := Lib.hid hbw
  clear h ha hne hbw
  go_enter Tryz.func19, Tryz.ntmps19
  go_wp2_with (go_at_call 34; refine C.out.mono ?_; rintro e W1 ⟨rfl, hb1⟩; obtain ⟨r4, r5, r6, r7⟩ := T1.out.below hb1; have hR1 := (T1.out.below hb1).lt)
  obtain ⟨W2, hW2⟩ : ∃ W2, W2 = W1.alloc (.cells #[.int .i64 p, .int .i64 i] 27) := ⟨_, rfl⟩
  have hb2 : Below W1.heap.size W1 W2 := by rw [hW2]; exact (Below.refl _ _).alloc (Nat.le_refl _) _
  obtain ⟨q0, q1, _, _⟩ : Two W2 W1.heap.size (.int .i64 p) (.int .i64 i) := by rw [hW2]; exact Two.new _ _ _ _
  obtain ⟨s4, s5, s6, s7⟩ := (show Two W1 _ _ _ from ⟨r4, r5, r6, r7⟩).below hb2
  rw [← hW2]
  clear hW2 r4 r5 r6 r7
  go_still_tail 2, (by kernel_rfl)
  change wpList _ _ _ _ _ W2.drew
  have hbR : Below w.heap.size w W2 := (Hbw.out.trans (hb1.mono Hbw.out.size)).trans (hb2.mono (Nat.le_trans Hbw.out.size hb1.size))
  go_wp2
  refine bodyPost_ret (v := .tuple #[.slice none 0 0, faultV (p, i)]) ?_ rfl ⟨rfl, ?_⟩
  · simp [results, Tryz.results19, go_sem, s4, s5]
  · exact ((hbR.setCell (p := ⟨w.heap.size + 1, 0, none⟩) (by show w.heap.size ≤ w.heap.size + 1; omega) _).setCell (p := ⟨w.heap.size + 1, 1, none⟩) (by show w.heap.size ≤ w.heap.size + 1; omega) _).drew
set_option maxRecDepth 100000 in
set_option maxHeartbeats 800000 in
theorem encode_range (B : Nat) (v : Value) (fs : List Frm) (form : Int) (av : Value) (xs : List Int) (w : World) (h : FormsAt B w v fs) (ha : KindsAt B w av xs) (hB : B ≤ w.heap.size) (ht : tableFault fs = (0, 0)) (hf : form < 0 ∨ (fs.length : Int) ≤ form) :
    Calls Tryz.prog 19 #[v, .agg #[.int .i64 form, av]] w fun e w' => e = .returned (.tuple #[.slice none 0 0, faultV (3, -2)]) ∧ Below w.heap.size w w' := by
  have hbw := encW_below w form av
  have C := size_range B v fs form (encW w form av) (h.below (hbw.mono hB)) (Nat.le_trans hB hbw.size) ht hf
  obtain ⟨A, n, c, rfl, _⟩ := h.opens
  obtain ⟨A2, n2, c2, rfl, _⟩ := ha.opens
  have C := Lib.hid C
  have T1 := Lib.hid (encW_res w form (.slice A2 n2 c2))
  have Hbw := Lib.hid hbw
  clear h ha ht hbw hf
  go_enter Tryz.func19, Tryz.ntmps19
  go_wp2_with (go_at_call 34; refine C.out.mono ?_; rintro e W1 ⟨rfl, hb1⟩; obtain ⟨r4, r5, r6, r7⟩ := T1.out.below hb1; have hR1 := (T1.out.below hb1).lt)
  obtain ⟨W2, hW2⟩ : ∃ W2, W2 = W1.alloc (.cells #[.int .i64 3, .int .i64 (-2)] 27) := ⟨_, rfl⟩
  have hb2 : Below W1.heap.size W1 W2 := by rw [hW2]; exact (Below.refl _ _).alloc (Nat.le_refl _) _
  obtain ⟨q0, q1, _, _⟩ : Two W2 W1.heap.size (.int .i64 3) (.int .i64 (-2)) := by rw [hW2]; exact Two.new _ _ _ _
  obtain ⟨s4, s5, s6, s7⟩ := (show Two W1 _ _ _ from ⟨r4, r5, r6, r7⟩).below hb2
  rw [← hW2]
  clear hW2 r4 r5 r6 r7
  go_still_tail 2, (by kernel_rfl)
  change wpList _ _ _ _ _ W2.drew
  have hbR : Below w.heap.size w W2 := (Hbw.out.trans (hb1.mono Hbw.out.size)).trans (hb2.mono (Nat.le_trans Hbw.out.size hb1.size))
  go_wp2
  refine bodyPost_ret (v := .tuple #[.slice none 0 0, faultV (3, -2)]) ?_ rfl ⟨rfl, ?_⟩
  · simp [results, Tryz.results19, go_sem, s4, s5]
  · exact ((hbR.setCell (p := ⟨w.heap.size + 1, 0, none⟩) (by show w.heap.size ≤ w.heap.size + 1; omega) _).setCell (p := ⟨w.heap.size + 1, 1, none⟩) (by show w.heap.size ≤ w.heap.size + 1; omega) _).drew

/-- what the walk behind isa.Size reads -/
theorem enc_next {B b1 o1 k : Nat} {w W1 : World} {form : Int} {av : Value} {f : Frm} (hB : B ≤ w.heap.size) (hb1 : Below (encW w form av).heap.size (encW w form av) W1) (hcell : FrmCells w b1 (o1 + k * 3) f) (hb : b1 < B) :
    Two W1 w.heap.size (.int .i64 form) av ∧ Two W1 (w.heap.size + 1) (.int .i64 0) (.int .i64 0) ∧ FrmCells W1 b1 (o1 + k * 3) f ∧ Below w.heap.size w W1 ∧ b1 < W1.heap.size ∧ w.heap.size + 1 < W1.heap.size ∧ w.heap.size < W1.heap.size := by
  have hbw := encW_below w form av
  have h := hbw.trans (hb1.mono hbw.size)
  exact ⟨(encW_ins w form av).below hb1, (encW_res w form av).below hb1, hcell.below (h.mono hB) hb, h, by have := h.size; omega, ((encW_res w form av).below hb1).lt, ((encW_ins w form av).below hb1).lt⟩

set_option maxRecDepth 100000 in
set_option maxHeartbeats 800000 in
theorem encode_length (B : Nat) (v : Value) (fs : List Frm) (k : Nat) (f : Frm) (av : Value) (xs : List Int) (w : World) (h : FormsAt B w v fs) (ha : KindsAt B w av xs) (hB : B ≤ w.heap.size) (ht : tableFault fs = (0, 0)) (hx : fs[k]? = some f) (hl : xs.length ≠ f.kinds.length) :
    Calls Tryz.prog 19 #[v, .agg #[.int .i64 (k : Int), av]] w fun e w' => e = .returned (.tuple #[.slice none 0 0, faultV (9, -3)]) ∧ Below w.heap.size w w' := by
  have hbw := encW_below w (k : Int) av
  have C := size_ok B v fs k f (encW w (k : Int) av) (h.below (hbw.mono hB)) (Nat.le_trans hB hbw.size) ht hx
  have hfm := List.mem_of_getElem? hx
  have hkf := h.kinds hfm
  obtain ⟨A, n, c, rfl, hfs, ⟨hn, _⟩, _, hc⟩ := h.opens
  have hlt : k < n := by rw [← hfs.out]; exact (List.getElem?_eq_some_iff.1 hx).1
  obtain ⟨b1, o1, rfl, hb1', g1⟩ := hc (by omega)
  have Hg := Lib.hid (g1 k f hx)
  obtain ⟨A2, n2, c2, rfl, Hl2, hn2, _⟩ := ha.opens
  obtain ⟨nm, q, kv, ks⟩ := f
  obtain ⟨A3, n3, c3, e3, Hl3, hn3, _⟩ := hkf.opens
  dsimp only at e3 hl
  subst e3
  have hne : ((n2 : Int) != (n3 : Int)) = true := by
    simp only [bne_iff_ne, ne_eq]
    intro e
    exact hl (by rw [Hl2.out, Hl3.out]; omega)
  have HC := Lib.hid C
  clear C h ha ht hbw hx hfm hkf hc g1 hl
  go_enter Tryz.func19, Tryz.ntmps19
  go_wp2_with (go_at_call 34; refine HC.out.mono ?_; rintro e W1 ⟨rfl, hb1⟩; obtain ⟨⟨i4, i5, _, _⟩, ⟨r4, r5, r6, r7⟩, ⟨d1, d2, d3⟩, hbR, z1, z2, z0⟩ := enc_next hB hb1 Hg.out hb1')
  refine bodyPost_ret (v := .tuple #[.slice none 0 0, faultV (9, -3)]) ?_ rfl ⟨rfl, ?_⟩
  · obtain ⟨e0, e1⟩ := two_set (x := .int .i64 9) (y := .int .i64 (-3)) r4 r5
    simp [results, Tryz.results19, go_sem, cell_alloc_l _ (cell_alloc_l _ e0), cell_alloc_l _ (cell_alloc_l _ e1)]
  · exact (((hbR.setCell (p := ⟨w.heap.size + 1, 0, none⟩) (by show w.heap.size ≤ w.heap.size + 1; omega) _).setCell (p := ⟨w.heap.size + 1, 1, none⟩) (by show w.heap.size ≤ w.heap.size + 1; omega) _).alloc (by simp; omega) _).alloc (by simp; omega) _
/-- what lies behind the call of outside: the box of the form, the instruction, the result -/
theorem enc_boxes {w W1 W2 : World} {x y u nm q kv : Value} {p i : Value} {t1 t2 : TypeId} (hbR : Below w.heap.size w W1) (T4 : Two W1 w.heap.size x y) (T5 : Two W1 (w.heap.size + 1) u u)
    (hb : Below ((W1.alloc (.cells #[p, i] t1)).alloc (.cells #[nm, q, kv] t2)).heap.size ((W1.alloc (.cells #[p, i] t1)).alloc (.cells #[nm, q, kv] t2)) W2) :
    W2.cell? ⟨W1.heap.size + 1, 0, none⟩ = some nm ∧ W2.cell? ⟨W1.heap.size + 1, 1, none⟩ = some q ∧ W2.cell? ⟨W1.heap.size + 1, 2, none⟩ = some kv ∧ W2.cell? ⟨w.heap.size, 1, none⟩ = some y ∧ Two W2 (w.heap.size + 1) u u ∧ Below w.heap.size w W2 := by
  have h1 : Below W1.heap.size W1 ((W1.alloc (.cells #[p, i] t1)).alloc (.cells #[nm, q, kv] t2)) := ((Below.refl _ _).alloc (Nat.le_refl _) _).alloc (by simp) _
  have h2 := h1.trans (hb.mono h1.size)
  have hz : W1.heap.size + 1 < ((W1.alloc (.cells #[p, i] t1)).alloc (.cells #[nm, q, kv] t2)).heap.size := by simp
  refine ⟨?_, ?_, ?_, (T4.below h2).2.1, T5.below h2, hbR.trans (h2.mono hbR.size)⟩
  · exact (hb.cell (p := ⟨W1.heap.size + 1, 0, none⟩) hz).trans (by simp)
  · exact (hb.cell (p := ⟨W1.heap.size + 1, 1, none⟩) hz).trans (by simp)
  · exact (hb.cell (p := ⟨W1.heap.size + 1, 2, none⟩) hz).trans (by simp)
theorem ownsRow_base {w : World} {b b' size n : Nat} {e : TypeId} {v : Value} {xs : List Value} (h : w.ownsRow b e size v n xs) (hb : b' ≤ b) : w.ownsRow b' e size v n xs := by
  refine ⟨h.1, ?_⟩
  rcases h.2 with h' | ⟨g, cap, cur, h1, h2, h3⟩
  · exact .inl h'
  · exact .inr ⟨g, cap, cur, h1, Nat.le_trans hb h2, h3⟩
theorem grown_set (w : World) (b j : Nat) (v : Value) : w.grownBy (w.setCell ⟨b, j, none⟩ v) (some b) := grown_set_drewN w 0 b j v
set_option maxRecDepth 100000 in
set_option maxHeartbeats 800000 in
theorem encode_out (B : Nat) (v : Value) (fs : List Frm) (k : Nat) (f : Frm) (av : Value) (xs : List Int) (w : World) (h : FormsAt B w v fs) (ha : KindsAt B w av xs) (hB : B ≤ w.heap.size) (ht : tableFault fs = (0, 0)) (hx : fs[k]? = some f) (hl : xs.length = f.kinds.length) (ho : 0 ≤ outIdx f.kinds xs) :
    Calls Tryz.prog 19 #[v, .agg #[.int .i64 (k : Int), av]] w fun e w' => e = .returned (.tuple #[.slice none 0 0, faultV (3, outIdx f.kinds xs)]) ∧ Below w.heap.size w w' := by
  have hbw := encW_below w (k : Int) av
  have C := size_ok B v fs k f (encW w (k : Int) av) (h.below (hbw.mono hB)) (Nat.le_trans hB hbw.size) ht hx
  have hfm := List.mem_of_getElem? hx
  have hkf := h.kinds hfm
  have hok := valid_form ht hfm
  have D : ∀ W, Below w.heap.size w W → Calls Tryz.prog 35 #[f.kv, av] W fun e w' => e = .returned (.int .i64 (outIdx f.kinds xs)) ∧ Below W.heap.size W w' := fun W hW =>
    outside_any B _ _ _ _ W (hkf.below (hW.mono hB)) (ha.below (hW.mono hB)) (Nat.le_trans hB hW.size) hl hok.short hok.known
  generalize outIdx f.kinds xs = j at *
  obtain ⟨A, n, c, rfl, hfs, ⟨hn, _⟩, _, hc⟩ := h.opens
  have hlt : k < n := by rw [← hfs.out]; exact (List.getElem?_eq_some_iff.1 hx).1
  obtain ⟨b1, o1, rfl, hb1', g1⟩ := hc (by omega)
  have Hg := Lib.hid (g1 k f hx)
  obtain ⟨A2, n2, c2, rfl, Hl2, hn2, _⟩ := ha.opens
  obtain ⟨nm, q, kv, ks⟩ := f
  obtain ⟨A3, n3, c3, e3, Hl3, hn3, _⟩ := hkf.opens
  dsimp only at e3 hl
  subst e3
  obtain rfl : n2 = n3 := by rw [← Hl2.out, ← Hl3.out, hl]
  have HC := Lib.hid C
  have HD := Lib.hid D
  clear C D h ha ht hbw hx hfm hkf hc g1 hl hok
  go_enter Tryz.func19, Tryz.ntmps19
  go_wp2_with (first
    | (go_at_call 34; refine HC.out.mono ?_; rintro e W1 ⟨rfl, hb1⟩; obtain ⟨⟨i4, i5, _, _⟩, ⟨r4, r5, r6, r7⟩, ⟨d1, d2, d3⟩, hbR, z1, z2, z0⟩ := enc_next hB hb1 Hg.out hb1'; have T5 := Lib.hid (show Two W1 (w.heap.size + 1) (.int .i64 0) (.int .i64 0) from ⟨r4, r5, r6, r7⟩))
    | (go_at_call 35; refine (HD.out _ ((hbR.alloc (by omega) _).alloc (by simp; omega) _)).mono ?_; rintro e W2 ⟨rfl, hb2⟩; obtain ⟨s4, s5, s6, s7⟩ := ((T5.out.below ((Below.refl _ _).alloc (Nat.le_refl _) _)).below ((Below.refl _ _).alloc (Nat.le_refl _) _)).below hb2; have y2 : w.heap.size + 1 < W2.heap.size := block_lt_of_cell s4))
  refine bodyPost_ret (v := .tuple #[.slice none 0 0, faultV (3, j)]) ?_ rfl ⟨rfl, ?_⟩
  · simp [results, Tryz.results19, go_sem, s4, s5]
  · have hb3 := (((hbR.alloc (by omega) _).alloc (by simp; omega) _).trans (hb2.mono (by simp; omega)))
    exact (hb3.setCell (p := ⟨w.heap.size + 1, 0, none⟩) (by show w.heap.size ≤ w.heap.size + 1; omega) _).setCell (p := ⟨w.heap.size + 1, 1, none⟩) (by show w.heap.size ≤ w.heap.size + 1; omega) _
set_option maxRecDepth 100000 in
set_option maxHeartbeats 800000 in
theorem encode_ok (B : Nat) (v : Value) (fs : List Frm) (k : Nat) (f : Frm) (av : Value) (xs : List Int) (w : World) (h : FormsAt B w v fs) (ha : KindsAt B w av xs) (hB : B ≤ w.heap.size) (ht : tableFault fs = (0, 0)) (hx : fs[k]? = some f) (hl : xs.length = f.kinds.length) (ho : outIdx f.kinds xs = -1) :
    Calls Tryz.prog 19 #[v, .agg #[.int .i64 (k : Int), av]] w fun e w' => ∃ R, e = .returned (.tuple #[.slice (some ⟨R, 0, none⟩) (sizeOf f.kinds) (sizeOf f.kinds), faultV (0, 0)]) ∧
      w'.ownsRow w.heap.size 5 1 (.slice (some ⟨R, 0, none⟩) (sizeOf f.kinds) (sizeOf f.kinds)) (sizeOf f.kinds) (bv (encL f.code (f.kinds.zip xs))) ∧ Below w.heap.size w w' := by
  have hbw := encW_below w (k : Int) av
  have C := size_ok B v fs k f (encW w (k : Int) av) (h.below (hbw.mono hB)) (Nat.le_trans hB hbw.size) ht hx
  have hfm := List.mem_of_getElem? hx
  have hkf := h.kinds hfm
  have hok := valid_form ht hfm
  have hnm : f.name.size ≤ 140737488351232 := by obtain ⟨_, _, _, _, h3, _⟩ := h; exact (h3 f hfm).2
  have D : ∀ W, Below w.heap.size w W → Calls Tryz.prog 35 #[f.kv, av] W fun e w' => e = .returned (.int .i64 (-1)) ∧ Below W.heap.size W w' := fun W hW => by
    have := outside_any B _ _ _ _ W (hkf.below (hW.mono hB)) (ha.below (hW.mono hB)) (Nat.le_trans hB hW.size) hl hok.short hok.known
    rw [ho] at this
    exact this
  have E : ∀ W, Below w.heap.size w W → Calls Tryz.prog 36 #[f.val, av] W fun e w' => ∃ R, e = .returned (.slice (some ⟨R, 0, none⟩) (sizeOf f.kinds) (sizeOf f.kinds)) ∧ w'.ownsRow W.heap.size 5 1 (.slice (some ⟨R, 0, none⟩) (sizeOf f.kinds) (sizeOf f.kinds)) (sizeOf f.kinds) (bv (encL f.code (f.kinds.zip xs))) ∧ Below W.heap.size W w' := fun W hW =>
    encoding_any B f av xs W (hkf.below (hW.mono hB)) (ha.below (hW.mono hB)) (Nat.le_trans hB hW.size) hnm hok hl (inside_of_idx hl ho)
  generalize sizeOf f.kinds = sz at *
  generalize encL f.code (f.kinds.zip xs) = bl at *
  obtain ⟨A, n, c, rfl, hfs, ⟨hn, _⟩, _, hc⟩ := h.opens
  have hlt : k < n := by rw [← hfs.out]; exact (List.getElem?_eq_some_iff.1 hx).1
  obtain ⟨b1, o1, rfl, hb1', g1⟩ := hc (by omega)
  have Hg := Lib.hid (g1 k f hx)
  obtain ⟨A2, n2, c2, rfl, Hl2, hn2, _⟩ := ha.opens
  obtain ⟨nm, q, kv, ks⟩ := f
  obtain ⟨A3, n3, c3, e3, Hl3, hn3, _⟩ := hkf.opens
  dsimp only at e3 hl
  dsimp only [Frm.val] at E
  subst e3
  obtain rfl : n2 = n3 := by rw [← Hl2.out, ← Hl3.out, hl]
  have HC := Lib.hid C
  have HD := Lib.hid D
  have HE := Lib.hid E
  clear C D E h ha ht hbw hx hfm hkf hc g1 hl hok hnm ho
  go_enter Tryz.func19, Tryz.ntmps19
  go_wp2_with (first
    | (go_at_call 34; refine HC.out.mono ?_; rintro e W1 ⟨rfl, hb1⟩; obtain ⟨⟨i4, i5, i6, i7⟩, ⟨r4, r5, r6, r7⟩, ⟨d1, d2, d3⟩, hbR, z1, z2, z0⟩ := enc_next hB hb1 Hg.out hb1'; have T5 := Lib.hid (show Two W1 (w.heap.size + 1) (.int .i64 0) (.int .i64 0) from ⟨r4, r5, r6, r7⟩); have T4 := Lib.hid (show Two W1 w.heap.size _ _ from ⟨i4, i5, i6, i7⟩))
    | (go_at_call 35; refine (HD.out _ ((hbR.alloc (by omega) _).alloc (by simp; omega) _)).mono ?_; rintro e W2 ⟨rfl, hb2⟩; obtain ⟨f1, f2, f3, f4, f5, hb3⟩ := enc_boxes hbR T4.out T5.out hb2; have y1 := block_lt_of_cell f1; have y4 := block_lt_of_cell f4)
    | (go_at_call 36; refine (HE.out _ hb3).mono ?_; rintro e W3 ⟨R, rfl, hrow, hb4⟩; obtain ⟨g1, g2, g3, g4⟩ := f5.below hb4; have y5 : w.heap.size + 1 < W3.heap.size := block_lt_of_cell g1))
  have hrb := hrow.lt R rfl
  have hb5 := hb3.trans (hb4.mono hb3.size)
  have k1 := grown_set W3 (w.heap.size + 1) 0 (.int .i64 0)
  have k2 := grown_set (W3.setCell ⟨w.heap.size + 1, 0, none⟩ (.int .i64 0)) (w.heap.size + 1) 1 (.int .i64 0)
  have hne : (Value.slice (some ⟨R, 0, none⟩) sz sz).ownBlock = none ∨ (Value.slice (some ⟨R, 0, none⟩) sz sz).ownBlock ≠ some (w.heap.size + 1) := .inr (by simp [Value.ownBlock]; have := f5.lt; omega)
  refine bodyPost_ret (v := .tuple #[.slice (some ⟨R, 0, none⟩) sz sz, faultV (0, 0)]) ?_ rfl ⟨R, rfl, ?_, ?_⟩
  · obtain ⟨e0, e1⟩ := two_set (x := .int .i64 0) (y := .int .i64 0) g1 g2
    simp [results, Tryz.results19, go_sem, e0, e1]
  · exact ((ownsRow_base hrow hb3.size).kept k1 hne).kept k2 hne
  · exact (hb5.setCell (p := ⟨w.heap.size + 1, 0, none⟩) (by show w.heap.size ≤ w.heap.size + 1; omega) _).setCell (p := ⟨w.heap.size + 1, 1, none⟩) (by show w.heap.size ≤ w.heap.size + 1; omega) _
end Go.Proofs.YtcngpciblbdgbaaGreatDoor
