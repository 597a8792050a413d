/- Contract of the parser's operand, case by case, out of the contracts of what it calls. Conditions: the readings. -/
import Derived.Deep.RegionHeld3
import Derived.Test.YtchpkdpefpiegaaDoorExB
namespace Go.Proofs.YtchpkdpefpiegaaDoor.Tok
open Go Go.RowKit

/-- what stays below the parser's block: its tokens, the table of kinds -/
def Inv (X : Nat) (tv : Value) (ts : List Tk) (w : World) : Prop := TksAt X w tv ts ∧ KindsAt w ∧ 0 < X
theorem Inv.pf {X : Nat} {tv : Value} {ts : List Tk} {w w' : World} (h : Inv X tv ts w) (hb : Below X w w') : Inv X tv ts w' := ⟨h.1.below hb, h.2.1.below hb h.2.2, h.2.2⟩
theorem Inv.up {X : Nat} {tv : Value} {ts : List Tk} {w w' : World} (h : Inv X tv ts w) (hb : Below w.heap.size w w') (hX : X ≤ w.heap.size) : Inv X tv ts w' := h.pf (hb.mono hX)
/-- how a method ends -/
def PPost (X : Nat) (tv : Value) (r : Int × St) (w : World) (e : Ending) (w' : World) : Prop := e = .returned (.int .i64 r.1) ∧ PSt X tv r.2 w' ∧ PF X w w'
theorem PSt.setPos {X : Nat} {tv : Value} {s : St} {w : World} (h : PSt X tv s w) (p : Nat) : PSt X tv { s with pos := p } (w.setCell ⟨X, 1, none⟩ (.int .i64 (p : Int))) := by
  obtain ⟨nv, h1, h2, h3⟩ := h
  exact ⟨nv, heap_setCell_same w X 1 _ _ _ h1, ownsRow_setCell_other h2 (fun e => h3 e) _, h3⟩
theorem PSt.setDep {X : Nat} {tv : Value} {s : St} {w : World} (h : PSt X tv s w) (d : Nat) : PSt X tv { s with dep := d } (w.setCell ⟨X, 2, none⟩ (.int .i64 (d : Int))) := by
  obtain ⟨nv, h1, h2, h3⟩ := h
  exact ⟨nv, heap_setCell_same w X 2 _ _ _ h1, ownsRow_setCell_other h2 (fun e => h3 e) _, h3⟩
theorem PF.setX {X : Nat} {a w : World} (h : PF X a w) (j : Nat) (v : Value) : PF X a (w.setCell ⟨X, j, none⟩ v) :=
  ⟨h.1.setCell (p := ⟨X, j, none⟩) (Nat.le_refl _) v, h.2.setCell ⟨X, j, none⟩ rfl v⟩
def ptrW (w : World) (X : Nat) : World := w.alloc (.cells #[.pointer (some ⟨X, 0, none⟩)] 81)
theorem ptrW_below (w : World) (X : Nat) : Below w.heap.size w (ptrW w X) := (Below.refl _ _).alloc (Nat.le_refl _) _
theorem PSt.step {X : Nat} {tv : Value} {s : St} {w : World} (h : PSt X tv s w) : PSt X tv (stepS s) (w.setCell ⟨X, 1, none⟩ (.int .i64 ((s.pos : Int) + 1))) := h.setPos (s.pos + 1)
def intW (w : World) (n : Int) : World := w.alloc (.cells #[.int .i64 n] 3)
theorem intW_below (w : World) (n : Int) : Below w.heap.size w (intW w n) := (Below.refl _ _).alloc (Nat.le_refl _) _
theorem text_le {X : Nat} {tv : Value} {ts : List Tk} {w : World} (h : TksAt X w tv ts) (i : Nat) : (nextT ts i).text.length ≤ 140737488351232 := by
  obtain ⟨A, c, -, -, h3, -⟩ := h
  rcases Nat.lt_or_ge i ts.length with h4 | h4
  · exact h3 _ (List.mem_of_getElem? (nextT_at h4))
  · rw [nextT_end h4]; exact Nat.zero_le _
theorem PSt.drew {X : Nat} {tv : Value} {s : St} {w : World} (h : PSt X tv s w) : PSt X tv s w.drew := h
theorem PF.drew {X : Nat} {a w : World} (h : PF X a w) : PF X a w.drew := ⟨h.1.drew, h.2.drew⟩
set_option maxRecDepth 100000 in
set_option maxHeartbeats 4000000 in
theorem op_num (X : Nat) (tv : Value) (ts : List Tk) (s : St) (w : World) (hI : Inv X tv ts w) (hS : PSt X tv s w) (hG : Good ts s) (hL : ts.length ≤ 9223372036854775800) (hk : (nextT ts s.pos).kind = 2) :
    Calls Tryd.prog 46 #[.pointer (some ⟨X, 0, none⟩)] w (PPost X tv (addS (stepS s) (numN (nextT ts s.pos).val)) w) := by
  have HL := Lib.hid hL
  clear hL
  have hX := hS.lt
  have hb0 := ptrW_below w X
  have C1 := Lib.hid (next_any X tv ts s (ptrW w X) (hI.up hb0 (Nat.le_of_lt hX)).1 (hS.up hb0) hG.1)
  have HBX := Lib.hid (show (ptrW w X).heap[w.heap.size]? = some (.cells #[.pointer (some ⟨X, 0, none⟩)] 81 (0, 0)) from heap_alloc_new w _)
  have HI := Lib.hid hI
  have HS := Lib.hid hS
  have HG := Lib.hid hG
  have H0 := Lib.hid hb0
  have HXw := Lib.hid hX
  generalize nextT ts s.pos = t at C1 hk ⊢
  obtain ⟨k, txt, v, p⟩ := t
  dsimp only at hk ⊢
  subst hk
  unfold ptrW at C1 HBX H0
  unfold Tk.v at C1
  dsimp only at C1
  clear hI hS hG hb0
  go_enter Tryd.func46, Tryd.ntmps46
  go_wp2_with fail
  refine C1.out.mono ?_
  rintro e W1 ⟨rfl, hb1⟩
  have hX1 := (hb1.block _ (lt_of_block HBX.out)).trans HBX.out
  have H1 := Lib.hid (H0.out.trans (hb1.mono H0.out.size))
  have C2 := Lib.hid (kindOf_any txt 1 (tokBW W1 ⟨2, txt, v, p⟩) ((HI.out.up H1.out (Nat.le_of_lt HXw.out)).2.1.up (tokBW_below W1 _)))
  have h2 := (H1.out.trans ((tokBW_below W1 ⟨2, txt, v, p⟩).mono H1.out.size))
  have hx2 := heap_allocL (.cells #[.int .i64 2, strV txt, .int .i64 v, .int .i64 p] 31) hX1
  have ht2 : (tokBW W1 ⟨2, txt, v, p⟩).heap[W1.heap.size]? = some (.cells #[.int .i64 2, strV txt, .int .i64 v, .int .i64 p] 31 (0, 0)) := heap_alloc_new W1 _
  unfold tokBW at C2 h2 ht2
  have H2 := Lib.hid h2
  have HX2 := Lib.hid hx2
  have HT2 := Lib.hid ht2
  clear hb1 C1 h2 hx2 ht2 hX1
  go_wp2_with fail
  refine C2.out.mono ?_
  rintro e W2 ⟨rfl, hb2⟩
  have hx3 := (hb2.block _ (lt_of_block HX2.out)).trans HX2.out
  have ht3 := (hb2.block _ (lt_of_block HT2.out)).trans HT2.out
  have H3 := Lib.hid (H2.out.trans (hb2.mono H2.out.size))
  have HS3 := Lib.hid (HS.out.up H3.out)
  have HI3 := Lib.hid (HI.out.up H3.out (Nat.le_of_lt HXw.out))
  obtain ⟨nv, -, c1, c2, -, f1, f2, -, hX3, -⟩ := HS3.out.opens
  have e1 := (cells_of hx3).1 0 _ rfl
  have e2 := (cells_of hx3).2.2
  have t0 := (cells_of ht3).1 0 _ rfl
  have t1 := (cells_of ht3).1 1 _ rfl
  have t2 := (cells_of ht3).1 2 _ rfl
  have t3 := (cells_of ht3).2.2
  have HX3 := Lib.hid hx3
  have HT3 := Lib.hid ht3
  have hpos := HG.out.1
  have hlim := HL.out
  clear hx3 ht3 hb2 C2
  have hb4 := intW_below (W2.setCell ⟨X, 1, none⟩ (.int .i64 ((s.pos : Int) + 1))) (kindL txt 1)
  have h4 := (((PF.of H3.out (Nat.le_of_lt HXw.out)).setX 1 (.int .i64 ((s.pos : Int) + 1))).up hb4 (by rw [World.size_setCell]; exact Nat.le_of_lt hX3))
  have C3 := Lib.hid (add_any X tv (stepS s) (numN v) _ (HS3.out.step.up hb4) HG.out.2.2)
  have H4 := Lib.hid h4
  unfold intW at C3 H4
  unfold numN Nd.v at C3
  dsimp only at C3
  clear hb4 h4
  go_wp2_with fail
  refine C3.out.mono ?_
  rintro e W3 ⟨rfl, hS3, hF3⟩
  have HR := Lib.hid (And.intro hS3 (H4.out.trans hF3))
  clear hS3 hF3 C3
  go_wp2_with fail
  go_ret
  exact ⟨rfl, HR.out.1, HR.out.2⟩
set_option maxRecDepth 100000 in
set_option maxHeartbeats 4000000 in
theorem op_name (X : Nat) (tv : Value) (ts : List Tk) (s : St) (w : World) (hI : Inv X tv ts w) (hS : PSt X tv s w) (hG : Good ts s) (hL : ts.length ≤ 9223372036854775800) (hk : (nextT ts s.pos).kind = 1) :
    Calls Tryd.prog 46 #[.pointer (some ⟨X, 0, none⟩)] w (PPost X tv (addS (stepS s) (nameN (nextT ts s.pos).text)) w) := by
  have HL := Lib.hid hL
  clear hL
  have hX := hS.lt
  have hb0 := ptrW_below w X
  have C1 := Lib.hid (next_any X tv ts s (ptrW w X) (hI.up hb0 (Nat.le_of_lt hX)).1 (hS.up hb0) hG.1)
  have HBX := Lib.hid (show (ptrW w X).heap[w.heap.size]? = some (.cells #[.pointer (some ⟨X, 0, none⟩)] 81 (0, 0)) from heap_alloc_new w _)
  have HI := Lib.hid hI
  have HS := Lib.hid hS
  have HG := Lib.hid hG
  have H0 := Lib.hid hb0
  have HXw := Lib.hid hX
  have HTL := Lib.hid (text_le hI.1 s.pos)
  generalize nextT ts s.pos = t at C1 hk HTL ⊢
  obtain ⟨k, txt, v, p⟩ := t
  dsimp only at hk HTL ⊢
  subst hk
  unfold ptrW at C1 HBX H0
  unfold Tk.v at C1
  dsimp only at C1
  clear hI hS hG hb0
  go_enter Tryd.func46, Tryd.ntmps46
  go_wp2_with fail
  refine C1.out.mono ?_
  rintro e W1 ⟨rfl, hb1⟩
  have hX1 := (hb1.block _ (lt_of_block HBX.out)).trans HBX.out
  have H1 := Lib.hid (H0.out.trans (hb1.mono H0.out.size))
  have C2 := Lib.hid (kindOf_any txt 1 (tokBW W1 ⟨1, txt, v, p⟩) ((HI.out.up H1.out (Nat.le_of_lt HXw.out)).2.1.up (tokBW_below W1 _)))
  have h2 := (H1.out.trans ((tokBW_below W1 ⟨1, txt, v, p⟩).mono H1.out.size))
  have hx2 := heap_allocL (.cells #[.int .i64 1, strV txt, .int .i64 v, .int .i64 p] 31) hX1
  have ht2 : (tokBW W1 ⟨1, txt, v, p⟩).heap[W1.heap.size]? = some (.cells #[.int .i64 1, strV txt, .int .i64 v, .int .i64 p] 31 (0, 0)) := heap_alloc_new W1 _
  unfold tokBW at C2 h2 ht2
  have H2 := Lib.hid h2
  have HX2 := Lib.hid hx2
  have HT2 := Lib.hid ht2
  clear hb1 C1 h2 hx2 ht2 hX1
  go_wp2_with fail
  refine C2.out.mono ?_
  rintro e W2 ⟨rfl, hb2⟩
  have hx3 := (hb2.block _ (lt_of_block HX2.out)).trans HX2.out
  have ht3 := (hb2.block _ (lt_of_block HT2.out)).trans HT2.out
  have H3 := Lib.hid (H2.out.trans (hb2.mono H2.out.size))
  have HS3 := Lib.hid (HS.out.up H3.out)
  have HI3 := Lib.hid (HI.out.up H3.out (Nat.le_of_lt HXw.out))
  obtain ⟨nv, -, c1, c2, -, f1, f2, -, hX3, -⟩ := HS3.out.opens
  have e1 := (cells_of hx3).1 0 _ rfl
  have e2 := (cells_of hx3).2.2
  have t0 := (cells_of ht3).1 0 _ rfl
  have t1 := (cells_of ht3).1 1 _ rfl
  have t2 := (cells_of ht3).1 2 _ rfl
  have t3 := (cells_of ht3).2.2
  have HX3 := Lib.hid hx3
  have HT3 := Lib.hid ht3
  have hpos := HG.out.1
  have hlim := HL.out
  clear hx3 ht3 hb2 C2
  have hb4 := intW_below (W2.setCell ⟨X, 1, none⟩ (.int .i64 ((s.pos : Int) + 1))) (kindL txt 1)
  have h4 := (((PF.of H3.out (Nat.le_of_lt HXw.out)).setX 1 (.int .i64 ((s.pos : Int) + 1))).up hb4 (by rw [World.size_setCell]; exact Nat.le_of_lt hX3))
  have hst := (HS3.out.step.up hb4)
  have k4 := (((PF.refl X W2).setX 1 (.int .i64 ((s.pos : Int) + 1))).up hb4 (by rw [World.size_setCell]; exact Nat.le_of_lt hX3))
  have hkx := k4.kept HX3.out (by omega) (by decide)
  have hkt := k4.kept HT3.out (by have := lt_of_block HBX.out; have := H1.out.size; omega) (by decide)
  have KS := Lib.hid (show ∀ W', PF X (intW (W2.setCell ⟨X, 1, none⟩ (.int .i64 ((s.pos : Int) + 1))) (kindL txt 1)) W' → (W'.cell? ⟨w.heap.size, 0, none⟩ = some (.pointer (some ⟨X, 0, none⟩)) ∧ W'.cell? ⟨W1.heap.size, 1, none⟩ = some (strV txt)) from fun W' hf =>
    ⟨(cells_of (hf.kept hkx (by omega) (by decide))).1 0 _ rfl, (cells_of (hf.kept hkt (by have := lt_of_block HBX.out; have := H1.out.size; omega) (by decide))).1 1 _ rfl⟩)
  have H4 := Lib.hid h4
  have HST := Lib.hid hst
  unfold intW at H4 HST KS
  clear hb4 h4 k4 hkx hkt hst
  go_wp2_with fail
  obtain ⟨V, hV⟩ : ∃ V, V = ((W2.setCell ⟨X, 1, none⟩ (.int .i64 ((s.pos : Int) + 1))).alloc (.cells #[.int .i64 (kindL txt 1 : Int)] 3)) := ⟨_, rfl⟩
  rw [← hV] at H4 HST KS ⊢
  have hVx : X ≤ V.heap.size := by rw [hV]; simp; omega
  clear hV
  have hcur : PF X V V.drew := (PF.refl X V).drew
  have hst := HST.out.drew
  have hzz : X ≤ V.drew.heap.size := hVx
  have i1 := KS.out _ (PF.refl X V)
  obtain ⟨i1, i2⟩ := i1
  have i3 := block_lt_of_cell i1
  have i4 := block_lt_of_cell i2
  go_region_held3 (fun W' => W'.cell? ⟨w.heap.size, 0, none⟩ = some (.pointer (some ⟨X, 0, none⟩)) ∧ W'.cell? ⟨W1.heap.size, 1, none⟩ = some (strV txt))
    (exact KS.out _ hcur)
    (first | (go_at_call 38; refine (clone_any txt _ (Nat.le_trans HTL.out (by decide))).mono ?_; rintro e W5 ⟨rfl, hb5⟩; have hcur := hcur.up hb5 hzz; have hst := hst.up hb5; have hzz := Nat.le_trans hzz hb5.size) | (go_at_call 50; refine (add_any X tv (stepS s) (nameN txt) _ hst HG.out.2.2).mono ?_; rintro e W6 ⟨rfl, hS6, hF6⟩; have hcur := hcur.trans hF6; have HR := Lib.hid hS6))
  go_wp2_with fail
  go_ret
  exact ⟨rfl, HR.out, H4.out.trans hcur⟩
set_option maxRecDepth 100000 in
set_option maxHeartbeats 4000000 in
theorem op_bad (X : Nat) (tv : Value) (ts : List Tk) (s : St) (w : World) (hI : Inv X tv ts w) (hS : PSt X tv s w) (hG : Good ts s) (hL : ts.length ≤ 9223372036854775800) (hk1 : (nextT ts s.pos).kind ≠ 1) (hk2 : (nextT ts s.pos).kind ≠ 2) (hn : kindL (nextT ts s.pos).text 1 = 0) (hp : (nextT ts s.pos).text ≠ [40]) :
    Calls Tryd.prog 46 #[.pointer (some ⟨X, 0, none⟩)] w (PPost X tv ((1, s)) w) := by
  have HL := Lib.hid hL
  clear hL
  have hX := hS.lt
  have hb0 := ptrW_below w X
  have C1 := Lib.hid (next_any X tv ts s (ptrW w X) (hI.up hb0 (Nat.le_of_lt hX)).1 (hS.up hb0) hG.1)
  have HBX := Lib.hid (show (ptrW w X).heap[w.heap.size]? = some (.cells #[.pointer (some ⟨X, 0, none⟩)] 81 (0, 0)) from heap_alloc_new w _)
  have HI := Lib.hid hI
  have HS := Lib.hid hS
  have HG := Lib.hid hG
  have H0 := Lib.hid hb0
  have HXw := Lib.hid hX
  generalize nextT ts s.pos = t at C1 hk1 hk2 hn hp ⊢
  obtain ⟨k, txt, v, p⟩ := t
  dsimp only at hk1 hk2 hn hp ⊢
  have hk1 : (k == 1) = false := beq_eq_false_iff_ne.2 hk1
  have hk2 : (k == 2) = false := beq_eq_false_iff_ne.2 hk2
  have hp : (txt == [40]) = false := beq_eq_false_iff_ne.2 hp
  unfold ptrW at C1 HBX H0
  unfold Tk.v at C1
  dsimp only at C1
  clear hI hS hG hb0
  go_enter Tryd.func46, Tryd.ntmps46
  go_wp2_with fail
  refine C1.out.mono ?_
  rintro e W1 ⟨rfl, hb1⟩
  have hX1 := (hb1.block _ (lt_of_block HBX.out)).trans HBX.out
  have H1 := Lib.hid (H0.out.trans (hb1.mono H0.out.size))
  have C2 := Lib.hid (kindOf_any txt 1 (tokBW W1 ⟨k, txt, v, p⟩) ((HI.out.up H1.out (Nat.le_of_lt HXw.out)).2.1.up (tokBW_below W1 _)))
  have h2 := (H1.out.trans ((tokBW_below W1 ⟨k, txt, v, p⟩).mono H1.out.size))
  have hx2 := heap_allocL (.cells #[.int .i64 k, strV txt, .int .i64 v, .int .i64 p] 31) hX1
  have ht2 : (tokBW W1 ⟨k, txt, v, p⟩).heap[W1.heap.size]? = some (.cells #[.int .i64 k, strV txt, .int .i64 v, .int .i64 p] 31 (0, 0)) := heap_alloc_new W1 _
  unfold tokBW at C2 h2 ht2
  have H2 := Lib.hid h2
  have HX2 := Lib.hid hx2
  have HT2 := Lib.hid ht2
  clear hb1 C1 h2 hx2 ht2 hX1
  go_wp2_with fail
  refine C2.out.mono ?_
  rintro e W2 ⟨rfl, hb2⟩
  have hx3 := (hb2.block _ (lt_of_block HX2.out)).trans HX2.out
  have ht3 := (hb2.block _ (lt_of_block HT2.out)).trans HT2.out
  have H3 := Lib.hid (H2.out.trans (hb2.mono H2.out.size))
  have HS3 := Lib.hid (HS.out.up H3.out)
  have HI3 := Lib.hid (HI.out.up H3.out (Nat.le_of_lt HXw.out))
  obtain ⟨nv, -, c1, c2, -, f1, f2, -, hX3, -⟩ := HS3.out.opens
  have e1 := (cells_of hx3).1 0 _ rfl
  have e2 := (cells_of hx3).2.2
  have t0 := (cells_of ht3).1 0 _ rfl
  have t1 := (cells_of ht3).1 1 _ rfl
  have t2 := (cells_of ht3).1 2 _ rfl
  have t3 := (cells_of ht3).2.2
  have HX3 := Lib.hid hx3
  have HT3 := Lib.hid ht3
  have hpos := HG.out.1
  have hlim := HL.out
  clear hx3 ht3 hb2 C2
  have hb4 := intW_below W2 (kindL txt 1)
  have h4 := (PF.of H3.out (Nat.le_of_lt HXw.out)).up hb4 (Nat.le_of_lt hX3)
  have hst := (HS3.out.up hb4)
  have H4 := Lib.hid h4
  have HST := Lib.hid hst
  unfold intW at H4 HST
  rw [hn] at H4 HST ⊢
  clear hb4 h4 hst hn
  go_wp2_with fail
  go_ret
  exact ⟨rfl, HST.out, H4.out⟩
end Go.Proofs.YtchpkdpefpiegaaDoor.Tok
