/- For every table and text the law DisasmReadsTextsOnly returns true: what disasm.Read accepts is the text of what it returns; else it returns the specified fault. Conditions: none on the input; the listed variables of the library read as their text lays them (tied to the text by the card). -/
import Derived.Deep.RegionHeld3
import Derived.Test.YtcngpciblbdgbaaGreatDoorDisVX
import Derived.Test.YtcngpciblbdgbaaGreatDoorCards
import Derived.Test.YtcngpciblbdgbaaGreatDoorTie
import Derived.SevenTiedAt
import Derived.Test.YtcngpciblbdgbaaGreatDoorDisZ
/-! The law DisasmReadsTextsOnly: what Read accepts is the text of what it returns. Conditions: the table reads as forms, the library's variables are laid. -/
namespace Go.Proofs.YtcngpciblbdgbaaGreatDoor
open Go Go.RowKit Go.Shelf
attribute [local go_sem] Oper.semAt_some
theorem faultAt_any (c i : Int) (w : World) : Calls Tryz.prog 11 #[.int .i64 c, .int .i64 i] w fun e w' => e = .returned (.agg #[.int .i64 c, .int .i64 i]) ∧ Below w.heap.size w w' := by
  go_enter Tryz.func11, Tryz.ntmps11
  go_wp2
  exact bodyPost_ret (v := .agg #[.int .i64 c, .int .i64 i]) (by simp [results, Tryz.results11, go_sem]) rfl ⟨rfl, (Below.refl _ _).alloc (Nat.le_refl _) _⟩
theorem kinds_none (B : Nat) (w : World) : KindsAt B w (.slice none 0 0) [] := ⟨none, 0, rfl, by simp, fun h => absurd h (by simp)⟩
theorem same_none (w : World) : Calls Tryz.prog 14 #[noIns, noIns] w fun e w' => e = .returned (.bool true) ∧ Below w.heap.size w w' :=
  (sameIns_any _ 0 0 _ _ [] [] w (kinds_none _ _) (kinds_none _ _) (Nat.le_refl _)).mono fun e w' h => ⟨h.1.trans (by rfl), h.2⟩
theorem two_keep {W W' : World} {b : Nat} {x y : Value} (hb : Below W.heap.size W W') (h : Two W b x y) : W'.cell? ⟨b, 0, none⟩ = some x ∧ W'.cell? ⟨b, 1, none⟩ = some y := ⟨cell_below h.1 hb, cell_below h.2.1 hb⟩
set_option maxRecDepth 100000 in
set_option maxHeartbeats 2000000 in
theorem reads_table (B : Nat) (v : Value) (fs : List Frm) (s : ByteArray) (w : World) (h : FormsAt B w v fs) (hB : B ≤ w.heap.size) (hV : VarsAt B w) (ht : (tableFault fs).1 ≠ 0) :
    Calls Tryz.prog 5 #[v, .string s] w fun e w' => e = .returned (.bool true) ∧ Below w.heap.size w w' := by
  obtain ⟨A, n, c, rfl, -, -, -⟩ := h.opens
  obtain ⟨p, i, hpi⟩ : ∃ p i, tableFault fs = (p, i) := ⟨_, _, rfl⟩
  have hp : p ≠ 0 := by rw [hpi] at ht; exact ht
  have hpz : (p == 0) = false := by simpa using hp
  have hpn : (p != 0) = true := by simpa using hp
  have HF := Lib.hid h
  have HB := Lib.hid hB
  have HT := Lib.hid hpi
  have HP := Lib.hid hp
  have C := disExample_any B w hB hV
  have HC := Lib.hid C
  clear C h hB hV ht hpi hp
  go_enter Tryz.func5, Tryz.ntmps5
  go_wp2_with fail
  refine HC.out.mono ?_
  rintro e W1 ⟨rfl, hb1⟩
  have R := read_table B _ fs s W1 (HF.out.below (hb1.mono HB.out)) (Nat.le_trans HB.out hb1.size) p i HT.out HP.out
  have HR := Lib.hid R
  have HB1 := Lib.hid hb1
  clear R hb1 HC
  go_wp2_with fail
  refine HR.out.mono ?_
  rintro e W2 ⟨rfl, hb2⟩
  have a3 := two_more W2 (.cells #[.int .i64 0, .slice none 0 0] 34) (.cells #[.int .i64 p, .int .i64 i] 27)
  have t1 := (Two.new W2 (.int .i64 0) (.slice none 0 0) 34).below (one_more _ (.cells #[.int .i64 p, .int .i64 i] 27))
  have t2 := Two.new (W2.alloc (.cells #[.int .i64 0, .slice none 0 0] 34)) (.int .i64 p) (.int .i64 i) 27
  rw [World.size_alloc] at t2
  have g3 := HB1.out.trans ((hb2.trans (a3.mono hb2.size)).mono HB1.out.size)
  have T := tableFault_any B _ fs _ (HF.out.below (g3.mono HB.out)) (Nat.le_trans HB.out g3.size)
  rw [HT.out] at T
  have HTF := Lib.hid T
  have T1 := Lib.hid t1
  have T2 := Lib.hid t2
  have G3 := Lib.hid g3
  clear T t1 t2 a3 g3 hb2 HR
  go_wp2_with fail
  refine HTF.out.mono ?_
  rintro e W4 ⟨rfl, hb4⟩
  have q1 := T1.out.below hb4
  have q2 := T2.out.below hb4
  have z1 := q1.lt
  have z2 := q2.lt
  have hfin := G3.out.trans (hb4.mono G3.out.size)
  have HFN := Lib.hid (hfin.trans ((one_more W4 (.cells #[.int .i64 p, .int .i64 i] 27)).mono hfin.size))
  obtain ⟨q10, q11, -, -⟩ := q1
  obtain ⟨q20, q21, -, -⟩ := q2
  clear hb4 hfin HTF
  go_wp2_with (go_at_call 14; refine (same_none _).mono ?_; rintro e W5 ⟨rfl, hb5⟩; have HB5 := Lib.hid hb5; clear hb5)
  refine bodyPost_ret (v := .bool true) (by simp [results, Tryz.results5, go_sem]) rfl ⟨rfl, HFN.out.trans (HB5.out.mono HFN.out.size)⟩
set_option maxRecDepth 100000 in
set_option maxHeartbeats 2000000 in
theorem reads_long (B : Nat) (v : Value) (fs : List Frm) (s : ByteArray) (w : World) (h : FormsAt B w v fs) (hB : B ≤ w.heap.size) (hV : VarsAt B w) (ht : tableFault fs = (0, 0)) (hs : 8000 < s.size) :
    Calls Tryz.prog 5 #[v, .string s] w fun e w' => e = .returned (.bool true) ∧ Below w.heap.size w w' := by
  obtain ⟨A, n, c, rfl, -, -, -⟩ := h.opens
  have hd : decide ((8000 : Int) < (s.size : Int)) = true := decide_eq_true (by omega)
  have hd2 : decide ((s.size : Int) > (8000 : Int)) = true := decide_eq_true (by omega)
  have HF := Lib.hid h
  have HB := Lib.hid hB
  have HT := Lib.hid ht
  have HSZ := Lib.hid hs
  have C := disExample_any B w hB hV
  have HC := Lib.hid C
  clear C h hB hV ht hs
  go_enter Tryz.func5, Tryz.ntmps5
  go_wp2_with fail
  refine HC.out.mono ?_
  rintro e W1 ⟨rfl, hb1⟩
  have R := read_long B _ fs s W1 (HF.out.below (hb1.mono HB.out)) (Nat.le_trans HB.out hb1.size) HT.out HSZ.out
  have HR := Lib.hid R
  have HB1 := Lib.hid hb1
  clear R hb1 HC
  go_wp2_with fail
  refine HR.out.mono ?_
  rintro e W2 ⟨rfl, hb2⟩
  have a3 := two_more W2 (.cells #[.int .i64 0, .slice none 0 0] 34) (.cells #[.int .i64 2, .int .i64 (-4)] 27)
  have t1 := (Two.new W2 (.int .i64 0) (.slice none 0 0) 34).below (one_more _ (.cells #[.int .i64 2, .int .i64 (-4)] 27))
  have t2 := Two.new (W2.alloc (.cells #[.int .i64 0, .slice none 0 0] 34)) (.int .i64 2) (.int .i64 (-4)) 27
  rw [World.size_alloc] at t2
  have g3 := HB1.out.trans ((hb2.trans (a3.mono hb2.size)).mono HB1.out.size)
  have T := tableFault_any B _ fs _ (HF.out.below (g3.mono HB.out)) (Nat.le_trans HB.out g3.size)
  rw [HT.out] at T
  have HTF := Lib.hid T
  have T1 := Lib.hid t1
  have T2 := Lib.hid t2
  have G3 := Lib.hid g3
  clear T t1 t2 a3 g3 hb2 HR
  go_wp2_with fail
  refine HTF.out.mono ?_
  rintro e W4 ⟨rfl, hb4⟩
  have a4 := one_more W4 (.cells #[.int .i64 0, .int .i64 0] 27)
  have T1b := Lib.hid ((T1.out.below hb4).below a4)
  have T2b := Lib.hid ((T2.out.below hb4).below a4)
  have U := Lib.hid (Two.new W4 (.int .i64 0) (.int .i64 0) 27)
  have g4 := G3.out.trans (hb4.mono G3.out.size)
  have G4 := Lib.hid (g4.trans (a4.mono g4.size))
  have HLT := Lib.hid (show W2.heap.size + 1 < W4.heap.size from (T2.out.below hb4).lt)
  have HWZ := Lib.hid (show w.heap.size ≤ W4.heap.size from g4.size)
  clear hb4 a4 g4 HTF
  go_wp2_with fail
  refine (faultAt_any 2 (-4) _).mono ?_
  rintro e W5 ⟨rfl, hb5⟩
  have q1 := T1b.out.below hb5
  have q2 := T2b.out.below hb5
  have q3 := U.out.below hb5
  have z1 := q1.lt
  have z2 := q2.lt
  have z3 := q3.lt
  have HFN := Lib.hid (G4.out.trans (hb5.mono G4.out.size))
  obtain ⟨q10, q11, -, -⟩ := q1
  obtain ⟨q20, q21, -, -⟩ := q2
  obtain ⟨q30, q31, q32, q33⟩ := q3
  have n1 : ¬ W4.heap.size = W2.heap.size := by have := HLT.out; omega
  have n2 : ¬ W4.heap.size = W2.heap.size + 1 := by have := HLT.out; omega
  have n3 : ¬ W2.heap.size = W4.heap.size := by have := HLT.out; omega
  have n4 : ¬ W2.heap.size + 1 = W4.heap.size := by have := HLT.out; omega
  clear hb5
  go_wp2_with (go_at_call 14; refine (same_none _).mono ?_; rintro e W6 ⟨rfl, hb6⟩; have HB6 := Lib.hid hb6; clear hb6)
  have hfin := ((HFN.out.setCell (p := ⟨W4.heap.size, 0, none⟩) HWZ.out (.int .i64 2)).setCell (p := ⟨W4.heap.size, 1, none⟩) HWZ.out (.int .i64 (-4)))
  refine bodyPost_ret (v := .bool true) (by simp [results, Tryz.results5, go_sem]) rfl ⟨rfl, hfin.trans (HB6.out.mono hfin.size)⟩
set_option maxRecDepth 100000 in
set_option maxHeartbeats 2000000 in
theorem reads_short (B : Nat) (v : Value) (fs : List Frm) (s : List UInt8) (w : World) (h : FormsAt B w v fs) (hB : B ≤ w.heap.size) (hV : VarsAt B w) (ht : tableFault fs = (0, 0)) (hs : s.length ≤ 8000) :
    Calls Tryz.prog 5 #[v, strV s] w fun e w' => e = .returned (.bool true) ∧ Below w.heap.size w w' := by
  obtain ⟨A, n, c, rfl, hfs, -, -, hop⟩ := h.opens
  obtain ⟨sb, hsb⟩ : ∃ sb : ByteArray, sb = ⟨s.toArray⟩ := ⟨_, rfl⟩
  have hz : sb.size = s.length := by rw [hsb]; rfl
  have hd : decide ((8000 : Int) < (sb.size : Int)) = false := decide_eq_false (by omega)
  have hd2 : decide ((sb.size : Int) > (8000 : Int)) = false := decide_eq_false (by omega)
  have HSB := Lib.hid (show strV s = .string sb by rw [hsb])
  have HF := Lib.hid h
  have HB := Lib.hid hB
  have HV := Lib.hid hV
  have HT := Lib.hid ht
  have HSZ := Lib.hid hs
  have HOP := Lib.hid (And.intro hfs.out hop)
  rw [HSB.out]
  have C := disExample_any B w hB hV
  have HC := Lib.hid C
  clear C h hB hV ht hs hz hsb hop hfs
  go_enter Tryz.func5, Tryz.ntmps5
  go_wp2_with fail
  refine HC.out.mono ?_
  rintro e W1 ⟨rfl, hb1⟩
  have R := read_ok B _ fs s W1 (HF.out.below (hb1.mono HB.out)) (Nat.le_trans HB.out hb1.size) (HV.out.below (hb1.mono HB.out)) HT.out HSZ.out
  rw [HSB.out] at R
  have HR := Lib.hid R
  have HB1 := Lib.hid hb1
  clear R hb1 HC
  go_wp2_with fail
  refine HR.out.mono ?_
  rintro e W2 ⟨hb2, ⟨rfl, -⟩ | ⟨ks, xs, k, f, A2, c2, h1, h2, h3, rfl, hrow⟩⟩
  · have a3 := two_more W2 (.cells #[.int .i64 0, .slice none 0 0] 34) (.cells #[.int .i64 1, .int .i64 (-5)] 27)
    have t1 := (Two.new W2 (.int .i64 0) (.slice none 0 0) 34).below (one_more _ (.cells #[.int .i64 1, .int .i64 (-5)] 27))
    have t2 := Two.new (W2.alloc (.cells #[.int .i64 0, .slice none 0 0] 34)) (.int .i64 1) (.int .i64 (-5)) 27
    rw [World.size_alloc] at t2
    have g3 := HB1.out.trans ((hb2.trans (a3.mono hb2.size)).mono HB1.out.size)
    have T := tableFault_any B _ fs _ (HF.out.below (g3.mono HB.out)) (Nat.le_trans HB.out g3.size)
    rw [HT.out] at T
    have HTF := Lib.hid T
    have T1 := Lib.hid t1
    have T2 := Lib.hid t2
    have G3 := Lib.hid g3
    clear T t1 t2 a3 g3 hb2 HR
    go_wp2_with fail
    refine HTF.out.mono ?_
    rintro e W4 ⟨rfl, hb4⟩
    have a4 := one_more W4 (.cells #[.int .i64 0, .int .i64 0] 27)
    have q1 := T1.out.below hb4
    have q2 := T2.out.below hb4
    have Q1 := Lib.hid (q1.below a4)
    have Q2 := Lib.hid (q2.below a4)
    have z1 := q1.lt
    have z2 := q2.lt
    have g4 := G3.out.trans (hb4.mono G3.out.size)
    have HFN := Lib.hid (g4.trans (a4.mono g4.size))
    obtain ⟨q10, q11, -, -⟩ := q1
    obtain ⟨q20, q21, -, -⟩ := q2
    clear hb4 a4 g4 HTF
    go_wp2_with fail
    obtain ⟨W5, hW5⟩ : ∃ W5, W5 = W4.alloc (.cells #[.int .i64 0, .int .i64 0] 27) := ⟨_, rfl⟩
    rw [← hW5] at Q1 Q2 HFN ⊢
    clear hW5 q10 q11 q20 q21 z1 z2
    have y1 := Q1.out.lt
    have y2 := Q2.out.lt
    have KS : Hid (∀ W', Below W5.heap.size W5 W' → _) := Lib.hid (fun W' hb' => And.intro (two_keep hb' Q1.out) (two_keep hb' Q2.out))
    have hcur : Below W5.heap.size W5 W5.drew := (Below.refl _ _).drew
    go_region_held3 (fun W' => (W'.cell? ⟨W2.heap.size, 0, none⟩ = some (.int .i64 0) ∧ W'.cell? ⟨W2.heap.size, 1, none⟩ = some (.slice none 0 0)) ∧ (W'.cell? ⟨W2.heap.size + 1, 0, none⟩ = some (.int .i64 1) ∧ W'.cell? ⟨W2.heap.size + 1, 1, none⟩ = some (.int .i64 (-5))))
      (exact KS.out _ hcur)
      (first
        | (go_at_call 11; refine (faultAt_any _ _ _).mono ?_; rintro e W7 ⟨rfl, hb7⟩; have hcur := hcur.trans (hb7.mono hcur.size))
        | (go_at_call 14; refine (same_none _).mono ?_; rintro e W7 ⟨rfl, hb7⟩; have hcur := hcur.trans (hb7.mono hcur.size)))
    go_wp2_with fail
    refine bodyPost_ret (v := .bool true) (by simp [results, Tryz.results5, go_sem]) rfl ⟨rfl, HFN.out.trans (hcur.mono HFN.out.size)⟩
  · have hx := h3.2.1
    have hok := valid_form h3.1 (List.mem_of_getElem? hx)
    have hl := h3.2.2.1
    have hin := inside_of_idx hl h3.2.2.2
    have hst := sound_text h1 h2 h3
    have hsh := hok.short
    obtain ⟨hfs, hop⟩ := HOP.out
    have hkn : k < n := by rw [← hfs]; exact (List.getElem?_eq_some_iff.1 hx).1
    obtain ⟨b1, p1, hA1, hbb, hg⟩ := hop (Nat.lt_of_le_of_lt (Nat.zero_le _) hkn)
    subst hA1
    have HG := Lib.hid (hg k f hx)
    have HBB := Lib.hid hbb
    have hki : (k : Int) < (n : Int) := small_int hkn
    have hk0 : (0 : Int) ≤ (k : Int) := Int.natCast_nonneg _
    have hkx := kinds_of_row' hrow (by omega)
    have a3 := two_more W2 (.cells #[.int .i64 (k : Int), .slice A2 xs.length c2] 34) (.cells #[.int .i64 0, .int .i64 0] 27)
    have t1 := (Two.new W2 (.int .i64 (k : Int)) (.slice A2 xs.length c2) 34).below (one_more _ (.cells #[.int .i64 0, .int .i64 0] 27))
    have t2 := Two.new (W2.alloc (.cells #[.int .i64 (k : Int), .slice A2 xs.length c2] 34)) (.int .i64 0) (.int .i64 0) 27
    rw [World.size_alloc] at t2
    have g3 := HB1.out.trans ((hb2.trans (a3.mono hb2.size)).mono HB1.out.size)
    have T := tableFault_any B _ fs _ (HF.out.below (g3.mono HB.out)) (Nat.le_trans HB.out g3.size)
    rw [HT.out] at T
    have HTF := Lib.hid T
    have T1 := Lib.hid t1
    have T2 := Lib.hid t2
    have G3 := Lib.hid g3
    have KX := Lib.hid ((hkx.below a3).more a3.size)
    have HX := Lib.hid hx
    have HO := Lib.hid h3
    have HOK := Lib.hid hok
    have HL := Lib.hid hl
    have HIN := Lib.hid hin
    have HST := Lib.hid hst
    clear T t1 t2 a3 g3 hb2 HR hkx hx hok hl hin hst hsh hfs hop hkn hg hbb h1 h2 h3 hrow HOP
    go_wp2_with fail
    refine HTF.out.mono ?_
    rintro e W4 ⟨rfl, hb4⟩
    have a4 := one_more W4 (.cells #[.int .i64 0, .int .i64 0] 27)
    have q1 := T1.out.below hb4
    have q2 := T2.out.below hb4
    have Q1 := Lib.hid (q1.below a4)
    have z1 := q1.lt
    have z2 := q2.lt
    have g4 := G3.out.trans (hb4.mono G3.out.size)
    have HFN := Lib.hid (g4.trans (a4.mono g4.size))
    have KX5 := Lib.hid ((((KX.out.below hb4).more hb4.size).below a4).more a4.size)
    obtain ⟨q10, q11, -, -⟩ := q1
    obtain ⟨q20, q21, -, -⟩ := q2
    clear hb4 a4 g4 HTF
    go_wp2_with fail
    obtain ⟨W5, hW5⟩ : ∃ W5, W5 = W4.alloc (.cells #[.int .i64 0, .int .i64 0] 27) := ⟨_, rfl⟩
    rw [← hW5] at Q1 HFN KX5 ⊢
    clear hW5 q10 q11 q20 q21 z1 z2
    have y1 := Q1.out.lt
    have hB5 := Nat.le_trans HB.out HFN.out.size
    have FW := (HF.out.below (HFN.out.mono HB.out)).more hB5
    have d := HG.out.below (HFN.out.mono HB.out) HBB.out
    have hkf := FW.kinds (List.mem_of_getElem? HX.out)
    have FWH := Lib.hid FW
    have e0 : insFault fs (k : Int) xs = (0, 0) := by
      have h0 := encOk_fault HO.out
      unfold encFault at h0
      rwa [if_neg (by rw [HT.out]; decide)] at h0
    have E0 := Lib.hid e0
    have CF : Hid (∀ W', Below W5.heap.size W5 W' → Calls Tryz.prog 16 #[.slice (some ⟨b1, p1, none⟩) n c, .agg #[.int .i64 (k : Int), .slice A2 xs.length c2]] W' fun e w' => e = .returned (.agg #[.int .i64 0, .int .i64 0]) ∧ Below W'.heap.size W' w') := Lib.hid (fun W' hb' => by
      have D := insFault_any W5.heap.size _ _ fs (k : Int) xs W' (FWH.out.below hb') (KX5.out.below hb') hb'.size
      rw [E0.out] at D
      exact D)
    have CT : Hid (∀ W', Below W5.heap.size W5 W' → Calls Tryz.prog 18 #[.agg #[.string f.name, .int .i64 f.code, f.kv], .slice A2 xs.length c2] W' fun e w' => e = .returned (.string sb) ∧ Below W'.heap.size W' w') := Lib.hid (fun W' hb' => by
      have D := insText_any W5.heap.size f _ xs W' (hkf.below hb') (KX5.out.below hb') hb'.size HOK.out HL.out HIN.out
      rw [← HST.out, HSB.out] at D
      exact D)
    obtain ⟨nm, q, kv, ks'⟩ := f
    obtain ⟨A3, n3, c3, e3, -, -, -⟩ := hkf.opens
    dsimp only at e3
    subst e3
    obtain ⟨d0, d1, d2⟩ := d
    dsimp only at d0 d1 d2 CT
    have hbL : b1 < W5.heap.size := Nat.lt_of_lt_of_le HBB.out hB5
    have hnn := Q1.out
    have KS : Hid (∀ W', Below W5.heap.size W5 W' → _) := Lib.hid (fun W' hb' => And.intro (And.intro (cell_below d0 hb') (And.intro (cell_below d1 hb') (cell_below d2 hb'))) (two_keep hb' Q1.out))
    have hfd : ∀ (p i : Int) (w : World), (Instr.field 27 (.agg #[.int .i64 p, .int .i64 i]) 0).run Tryz.prog w = .ok (.int .i64 p) w := fun _ _ _ => by kernel_rfl
    have hcur : Below W5.heap.size W5 W5.drew := (Below.refl _ _).drew
    clear hnn FW hkf e0 hB5 d0 d1 d2
    go_region_held3 (fun W' => (W'.cell? ⟨b1, p1 + k * 3, none⟩ = some (.string nm) ∧ W'.cell? ⟨b1, p1 + k * 3 + 1, none⟩ = some (.int .i64 q) ∧ W'.cell? ⟨b1, p1 + k * 3 + 2, none⟩ = some (.slice A3 n3 c3)) ∧ (W'.cell? ⟨W2.heap.size, 0, none⟩ = some (.int .i64 (k : Int)) ∧ W'.cell? ⟨W2.heap.size, 1, none⟩ = some (.slice A2 xs.length c2)))
      (exact KS.out _ hcur)
      (first
        | (go_at_call 16; refine (CF.out _ hcur).mono ?_; rintro e W7 ⟨rfl, hb7⟩; have hcur := hcur.trans (hb7.mono hcur.size))
        | (go_at_call 18; refine (CT.out _ hcur).mono ?_; rintro e W7 ⟨rfl, hb7⟩; have hcur := hcur.trans (hb7.mono hcur.size)))
    go_wp2_with fail
    refine bodyPost_ret (v := .bool true) (by simp [results, Tryz.results5, go_sem]) rfl ⟨rfl, HFN.out.trans (hcur.mono HFN.out.size)⟩
/-- the law, for all arguments that read -/
theorem law_reads (B : Nat) (v : Value) (fs : List Frm) (s : ByteArray) (w : World) (h : FormsAt B w v fs) (hB : B ≤ w.heap.size) (hV : VarsAt B w) :
    Calls Tryz.prog 5 #[v, .string s] w fun e w' => e = .returned (.bool true) ∧ Below w.heap.size w w' := by
  by_cases ht : (tableFault fs).1 = 0
  · have ht' := fault_pair ht
    by_cases hs : 8000 < s.size
    · exact reads_long B v fs s w h hB hV ht' hs
    · have e : Value.string s = strV s.data.toList := by simp [strV]
      rw [e]
      exact reads_short B v fs s.data.toList w h hB hV ht' (by show s.data.toList.length ≤ 8000; rw [Array.length_toList]; exact Nat.le_of_not_lt hs)
  · exact reads_table B v fs s w h hB hV ht
end Go.Proofs.YtcngpciblbdgbaaGreatDoor

/-! For every table and text the law DisasmReadsTextsOnly returns true: what disasm.Read accepts is the text of what it returns; else it returns the specified fault. Conditions: none on the input; the listed variables of the library read as their text lays them (tied to the text by the card). -/
namespace Go.Proofs.YtcngpciblbdgbaaGreatDoor
open Go.ChangeShapes Go.WideShapes Go.ChangeAt Go.RowKit

set_option maxRecDepth 100000 in
theorem reads_lifted (os : Os) (started : os.Started) (H : Type) (enc : TypeId × Value → H) :
    ReturnsInHanded {} Tryz.checked os 5 .any (fun w args => (Rows.disasmReadsTextsOnlySpec.pre enc Tryz.prog Tryz.f5 Rows.disasmReadsTextsOnlyRow.domain false w args ∧ laidMetH Tryz.prog laid7 w) ∧ sizedMet enc Tryz.prog Tryz.f5 (OpenSpec.ofChange Rows.disasmReadsTextsOnlySpec) false w args)
      (Rows.disasmReadsTextsOnlySpec.post enc Tryz.prog Tryz.f5 false true false false) := by
  refine handed_and_shaped (C := Tryz.checked) (X := fun w _ => laidMetH Tryz.prog laid7 w) (fun _ _ _ hh h => h.of_heap hh) own started (by kernel_rfl) Tryz.func5
    (ChangeSpec.witness_shaped (enc := enc) (C := Tryz.checked) (os := os) (X := fun w _ => laidMetH Tryz.prog laid7 w) false (World.laidAll Tryz.prog os laid7) #[.slice none 0 0, .string ByteArray.empty] 8 (World.laidAll_os _ _ _)
      (World.shaped_of_ZipB (by kernel_rfl) (by kernel_rfl)) (by kernel_rfl) (by kernel_rfl) (by kernel_rfl)
      (by rw [MakeChecks.laidMetH_plain _ _ _ (by kernel_rfl)]; exact laidMet_laidAll _ (by kernel_rfl) (by kernel_rfl))) ?_
  intro W base args ds gs before hval0 hW hsz hL hsh
  have hval : ∀ (j : Nat) t v, Tryz.f5.params[j]? = some t → args[j]? = some v → Value.okWide Tryz.prog W .any base t v := hval0
  have hW' := hW
  obtain ⟨p, q, hA0, hV, rfl, _, _⟩ := hW
  have hA : DataW.TrodAll enc Tryz.prog W 0 (fun _ => true) true Tryz.f5.params.toList args.toList ds p := hA0
  rw [Tryz.params5] at hA hval
  obtain ⟨v0, v1, d0, d1, p0, p1, rfl, rfl, rfl, h0, h1⟩ := trodAll_two hA
  obtain ⟨A, n, c, rfl⟩ := okWide_slice Tryz.underlying22 (hval 0 22 v0 rfl rfl)
  obtain ⟨fuel, hf⟩ := h0
  obtain ⟨fs, hfs⟩ := forms_of hf (fun n hn => by
    have := List.all_eq_true.1 hsz n (DataW.weights_mem_each (j := 0) (t := 22) (by rw [Tryz.params5]; rfl) rfl n hn)
    simpa using this)
  obtain ⟨s, rfl⟩ := okWide_string Tryz.underlying9 (hval 1 9 v1 rfl rfl)
  refine (law_reads W.heap.size _ fs s W hfs (Nat.le_refl _) (vars_of_laid hL hsh)).mono fun e W' ⟨he, hb⟩ => ?_
  subst he
  exact ⟨_, rfl, law_post rfl hW' rfl (by kernel_rfl) (by kernel_rfl) hb⟩

theorem reads_holds : Rows.DisasmReadsTextsOnlySaid :=
  OpenClaim.holds_of_wide 5 Tryz.f5 rfl rfl rfl rfl rfl rfl rfl ⟨rfl, rfl, rfl, rfl, rfl⟩ rfl rfl rfl rfl rfl (by kernel_rfl) Tryz.func5 (by kernel_rfl)
    (of_decide_eq_true (by kernel_rfl)) (by unfold Func.isWrapper; first | (rw [if_pos (by decide +kernel)]; kernel_rfl) | (rw [if_neg (by decide +kernel)]; exact ⟨rfl, rfl⟩))
    (fun os started H enc _ => reads_lifted os started H enc)
theorem reads_card : Rows.DisasmReadsTextsOnlyCardSaid :=
  Claim7.holds_tied_plain_at .later [] [.data, .data, .data, .data, .sentinel, .sentinel, .pinned] true (true, "d80c784acab456705d6b1eaa2e8505d0de0b49f5cefa445fc4be3de32e7efd9b") true reads_holds (fun _ h => by cases h) (by kernel_rfl) (fun _ h => by cases h) disasmReadsTextsOnly_row_tie rfl ⟨rfl, rfl⟩ (by kernel_rfl) rfl
    (fun f fn hf hfn => by
      obtain rfl : f = 5 := Option.some.inj ((show Tryz.prog.funcNamed "linkhouse/linkhouselaw1.DisasmReadsTextsOnly" = some 5 by kernel_rfl).symm.trans hf) |>.symm
      obtain rfl : fn = Tryz.f5 := (Option.some.inj (Tryz.func5.symm.trans hfn)).symm
      exact ⟨by kernel_rfl, fun j t ht => by
        rw [Tryz.params5] at ht
        have hm : t ∈ [22, 9] := by simpa using Array.mem_of_getElem? ht
        have hall : ([22, 9].all fun u => !Tryz.prog.wantsStandIn u) = true := by kernel_rfl
        exact (show Tryz.prog.wantsStandIn t = false by simpa using List.all_eq_true.1 hall t hm)⟩)
    (by kernel_rfl)
end Go.Proofs.YtcngpciblbdgbaaGreatDoor
