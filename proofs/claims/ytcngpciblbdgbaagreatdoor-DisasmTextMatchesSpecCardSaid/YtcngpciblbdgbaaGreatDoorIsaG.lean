/- TableFault, the reference, returns the same fault of a table as Validate. Conditions: the slice reads as forms. -/
import Derived.StillTailTactics
import Derived.Test.YtcngpciblbdgbaaGreatDoorIsaF
namespace Go.Proofs.YtcngpciblbdgbaaGreatDoor
open Go Go.RowKit Go.Shelf

theorem at_exact (c i : Int) (w : World) : Calls Tryz.prog 11 #[.int .i64 c, .int .i64 i] w fun e w' => e = .returned (.agg #[.int .i64 c, .int .i64 i]) ∧ w.alloc (.cells #[.int .i64 c, .int .i64 i] 27) = w' := by
  go_enter Tryz.func11, Tryz.ntmps11
  go_wp2
  exact bodyPost_ret (v := .agg #[.int .i64 c, .int .i64 i]) (by simp [results, Tryz.results11, go_sem]) rfl ⟨rfl, rfl⟩

theorem formFault_eq (f : Frm) (es : List Frm) : formFault f es =
    if (!nameOk f.name) = true then 12 else if (decide (f.code < 0) || decide (f.code > 255)) = true then 3 else if decide (f.kinds.length > 4) = true then 2 else
    if f.kinds.any unknownB = true then 4 else if decide ((distances f.kinds : Int) > 1) = true then 5 else if es.any (clashB f) = true then 7 else 0 := by
  unfold formFault checkList
  generalize (!nameOk f.name) = a
  generalize (decide (f.code < 0) || decide (f.code > 255)) = b
  generalize decide (f.kinds.length > 4) = c
  generalize f.kinds.any unknownB = d
  generalize decide ((distances f.kinds : Int) > 1) = e
  generalize es.any (clashB f) = g
  cases a <;> cases b <;> cases c <;> cases d <;> cases e <;> cases g <;> rfl
theorem code_in (q : Int) : (decide (q < 0) || decide (q > 255)) = !inB q 0 255 := by
  unfold inB
  by_cases h1 : q < 0 <;> by_cases h2 : q > 255 <;> simp [h1, h2] <;> omega
theorem unknown_in (k : Int) : unknownB k = !inB k 1 6 := by
  unfold inB unknownB
  by_cases h1 : k < 1 <;> by_cases h2 : k > 6 <;> simp [h1, h2] <;> omega
theorem faultAt_of {fs : List Frm} {k : Nat} {f : Frm} (hx : fs[k]? = some f) : faultAt fs k = formFault f (fs.take k) := by simp only [faultAt, hx]
theorem tableFault_of {fs : List Frm} {n k : Nat} {c : Int} (hfs : Hid (fs.length = n)) (h100 : ¬ 100 < n) (Hs : Hid (scanFault fs (n - k) k = scanFault fs n 0)) (hk : k < n) (hf : faultAt fs k = c) (hc : c ≠ 0) : tableFault fs = (c, (k : Int)) := by
  unfold tableFault
  rw [if_neg (by rw [hfs.out]; exact h100), hfs.out, ← Hs.out, scan_hit hk (by rw [hf]; exact hc), hf]
theorem nameB_comm (f g : Frm) : nameB f g = nameB g f := by
  unfold nameB
  exact Bool.eq_iff_iff.2 (by simp only [beq_iff_eq]; exact eq_comm)
theorem clash_comm (f g : Frm) : clashB f g = (g.code == f.code || sameB g f) := by
  unfold clashB sameB
  rw [nameB_comm]
  congr 1
  · exact Bool.eq_iff_iff.2 (by simp only [beq_iff_eq]; exact eq_comm)
  · congr 1; exact decide_eq_decide.2 eq_comm

theorem cell_alloc_l {W : World} {p : Addr} {v : Value} (o : Obj) (h : W.cell? p = some v) : (W.alloc o).cell? p = some v := (World.cell?_alloc_lt _ _ _ (block_lt_of_cell h)).trans h
theorem two_set {W : World} {R : Nat} {x y u v : Value} (h0 : W.cell? ⟨R, 0, none⟩ = some u) (h1 : W.cell? ⟨R, 1, none⟩ = some v) :
    ((W.setCell ⟨R, 0, none⟩ x).setCell ⟨R, 1, none⟩ y).cell? ⟨R, 0, none⟩ = some x ∧ ((W.setCell ⟨R, 0, none⟩ x).setCell ⟨R, 1, none⟩ y).cell? ⟨R, 1, none⟩ = some y :=
  ⟨(World.cell?_setCell_other _ _ _ _ (by simp)).trans (World.cell?_setCell_same' _ _ _ (by rw [h0]; rfl)), World.cell?_setCell_same' _ _ _ (by rw [World.cell?_setCell_other _ _ _ _ (by simp), h1]; rfl)⟩
/-- how a way through TableFault ends -/
theorem fault_leaf {fs : List Frm} {R : Nat} {w W : World} {tmps : Array Value} {c i : Int} (h2 : tmps[2]?.getD undef = .pointer (some ⟨R, 0, none⟩)) (ht : tableFault fs = (c, i))
    (c0 : W.cell? ⟨R, 0, none⟩ = some (.int .i64 c)) (c1 : W.cell? ⟨R, 1, none⟩ = some (.int .i64 i)) (hb : Below w.heap.size w W) :
    bodyPost Tryz.prog Tryz.f10 (fun e w' => e = .returned (faultV (tableFault fs)) ∧ Below w.heap.size w w') .ret { tmps := tmps, defers := [] } W :=
  bodyPost_ret (v := faultV (c, i)) (by simp [results, Tryz.results10, go_sem, h2, c0, c1]) rfl ⟨by rw [ht], hb⟩

set_option maxRecDepth 100000 in
set_option maxHeartbeats 4000000 in
theorem tableFault_any (B : Nat) (v : Value) (fs : List Frm) (w : World) (h : FormsAt B w v fs) (hB : B ≤ w.heap.size) :
    Calls Tryz.prog 10 #[v] w fun e w' => e = .returned (faultV (tableFault fs)) ∧ Below w.heap.size w w' := by
  obtain ⟨A, n, c, rfl, hfs, ⟨hn, hnc⟩, hk, hc⟩ := h.opens
  by_cases h100 : 100 < n
  · have ht : tableFault fs = (2, -1) := by unfold tableFault; rw [if_pos (by rw [hfs.out]; exact h100)]
    rw [ht]
    clear ht hk hc h hn
    go_enter Tryz.func10, Tryz.ntmps10
    go_wp2_with (go_at_call 11; refine (at_exact _ _ _).mono ?_; rintro e w' ⟨rfl, rfl⟩)
    refine bodyPost_ret (v := faultV (2, -1)) (by simp [results, Tryz.results10, go_sem]) rfl ⟨rfl, ?_⟩
    exact ((Below.refl _ _).alloc (Nat.le_refl _) _).alloc (by simp) _
  · go_enter Tryz.func10, Tryz.ntmps10
    go_wp2
    go_loopw [3] (fun i wr => ∃ k : Nat, k ≤ n ∧ i = .int .i64 (k : Int) ∧ Hid (scanFault fs (n - k) k = scanFault fs n 0) ∧ Below w.heap.size w wr ∧ w.heap.size < wr.heap.size ∧
        Hid (wr.cell? ⟨w.heap.size, 0, none⟩ = some (.int .i64 0) ∧ wr.cell? ⟨w.heap.size, 1, none⟩ = some (.int .i64 0) ∧ wr.frozen? ⟨w.heap.size, 0, none⟩ = false ∧ wr.frozen? ⟨w.heap.size, 1, none⟩ = false)) (fun i _ => n - (intOf i).toNat)
    case atStart => exact ⟨0, Nat.zero_le _, rfl, Lib.hid rfl, (Below.refl _ _).alloc (Nat.le_refl _) _, by simp, Lib.hid ⟨by simp, by simp, by simp, by simp⟩⟩
    case round =>
      obtain ⟨k, hkn, rfl, Hs, hbw, hRs, HR⟩ := hrel
      obtain ⟨wo, rfl⟩ : ∃ wo : World, wo = wr := ⟨_, rfl⟩
      by_cases hlt : k < n
      · obtain ⟨b1, o1, rfl, hb1, g1⟩ := hc (by omega)
        obtain ⟨f, hx, hm⟩ := getElem?_of_lt hfs hlt
        have Hx := Lib.hid hx
        have hcell := (g1 k f hx).below (hbw.mono hB) hb1
        have kf := (hk f hm).1
        have hsz := (hk f hm).2
        obtain ⟨fA, fm, fc, fkv, hkl, hfm, _⟩ := kf.opens
        have hff := faultAt_of hx
        rw [formFault_eq, code_in] at hff
        obtain ⟨nm, q, kv, ks⟩ := f
        dsimp only at fkv hff hkl
        subst fkv
        obtain ⟨d1, d2, d3⟩ := hcell
        dsimp only at d1 d2 d3 hsz
        have Kf := Lib.hid kf
        have Hg := Lib.hid g1
        have Hff := Lib.hid hff
        have Hk := Lib.hid hk
        obtain ⟨e4, e5, e6, e7⟩ := HR.out
        have hsz' : nm.size ≤ maxLen := by unfold maxLen; omega
        clear hx hm hc g1 hk kf hff
        cases hnm : nameOk nm with
        | false =>
          have Ht := Lib.hid (tableFault_of hfs h100 Hs hlt (c := 12) (by rw [Hff.out, hnm]; rfl) (by omega))
          have Hnm := Lib.hid hnm
          go_wp2_with (first | (go_at_call 25; refine (letters_any _ _ hsz').mono ?_; rintro e w' ⟨rfl, rfl⟩) | (go_at_call 11; refine (at_exact _ _ _).mono ?_; rintro e w' ⟨rfl, rfl⟩))
          refine fault_leaf (R := w.heap.size) rfl Ht.out ?_ ?_ ?_
          · exact cell_alloc_l _ (cell_alloc_l _ (two_set e4 e5).1)
          · exact cell_alloc_l _ (cell_alloc_l _ (two_set e4 e5).2)
          · exact (((hbw.setCell (p := ⟨w.heap.size, 0, none⟩) (Nat.le_refl _) _).setCell (p := ⟨w.heap.size, 1, none⟩) (Nat.le_refl _) _).alloc (by simp; omega) _).alloc (by simp; omega) _
        | true =>
          cases hin : inB q 0 255 with
          | false =>
            have Ht := Lib.hid (tableFault_of hfs h100 Hs hlt (c := 3) (by rw [Hff.out, hnm, hin]; rfl) (by omega))
            have Hnm := Lib.hid hnm
            have Hin := Lib.hid hin
            go_wp2_with (first | (go_at_call 25; refine (letters_any _ _ hsz').mono ?_; rintro e w' ⟨rfl, rfl⟩) | (go_at_call 20; refine (in_any _ _ _ _).mono ?_; rintro e w' ⟨rfl, rfl⟩) | (go_at_call 11; refine (at_exact _ _ _).mono ?_; rintro e w' ⟨rfl, rfl⟩))
            refine fault_leaf (R := w.heap.size) rfl Ht.out ?_ ?_ ?_
            · exact cell_alloc_l _ (cell_alloc_l _ (two_set e4 e5).1)
            · exact cell_alloc_l _ (cell_alloc_l _ (two_set e4 e5).2)
            · exact (((hbw.setCell (p := ⟨w.heap.size, 0, none⟩) (Nat.le_refl _) _).setCell (p := ⟨w.heap.size, 1, none⟩) (Nat.le_refl _) _).alloc (by simp; omega) _).alloc (by simp; omega) _
          | true =>
            by_cases h4 : 4 < fm
            · have Ht := Lib.hid (tableFault_of hfs h100 Hs hlt (c := 2) (by rw [Hff.out, hnm, hin, hkl.out]; simp [h4]) (by omega))
              go_wp2_with (first | (go_at_call 25; refine (letters_any _ _ hsz').mono ?_; rintro e w' ⟨rfl, rfl⟩) | (go_at_call 20; refine (in_any _ _ _ _).mono ?_; rintro e w' ⟨rfl, rfl⟩) | (go_at_call 11; refine (at_exact _ _ _).mono ?_; rintro e w' ⟨rfl, rfl⟩))
              refine fault_leaf (R := w.heap.size) rfl Ht.out ?_ ?_ ?_
              · exact cell_alloc_l _ (cell_alloc_l _ (two_set e4 e5).1)
              · exact cell_alloc_l _ (cell_alloc_l _ (two_set e4 e5).2)
              · exact (((hbw.setCell (p := ⟨w.heap.size, 0, none⟩) (Nat.le_refl _) _).setCell (p := ⟨w.heap.size, 1, none⟩) (Nat.le_refl _) _).alloc (by simp; omega) _).alloc (by simp; omega) _
            · have hff2 := Hff.out
              rw [hnm, hin, hkl.out] at hff2
              simp only [Bool.not_true, Bool.false_eq_true, if_false, decide_eq_true_eq, gt_iff_lt, h4] at hff2
              have Hff2 := Lib.hid hff2
              clear hff2 Hff
              go_wp2_with (first | (go_at_call 25; refine (letters_any _ _ hsz').mono ?_; rintro e w' ⟨rfl, rfl⟩) | (go_at_call 20; refine (in_any _ _ _ _).mono ?_; rintro e w' ⟨rfl, rfl⟩) | (go_at_call 11; refine (at_exact _ _ _).mono ?_; rintro e w' ⟨rfl, rfl⟩))
              clear d1 d2 d3
              obtain ⟨W1, hW1⟩ : ∃ W1, W1 = wo.alloc (.cells #[.string nm, .int .i64 q, .slice fA fm fc] 39) := ⟨_, rfl⟩
              have hbR : Below w.heap.size w W1 := by rw [hW1]; exact hbw.alloc (Nat.le_of_lt hRs) _
              have hb1' : Below wo.heap.size wo W1 := by rw [hW1]; exact (Below.refl _ _).alloc (Nat.le_refl _) _
              have d1 : W1.cell? ⟨wo.heap.size, 0, none⟩ = some (.string nm) := by rw [hW1]; simp
              have d2 : W1.cell? ⟨wo.heap.size, 1, none⟩ = some (.int .i64 q) := by rw [hW1]; simp
              have d3 : W1.cell? ⟨wo.heap.size, 2, none⟩ = some (.slice fA fm fc) := by rw [hW1]; simp
              have r4 : W1.cell? ⟨w.heap.size, 0, none⟩ = some (.int .i64 0) := (hb1'.cell (p := ⟨w.heap.size, 0, none⟩) hRs).trans e4
              have r5 : W1.cell? ⟨w.heap.size, 1, none⟩ = some (.int .i64 0) := (hb1'.cell (p := ⟨w.heap.size, 1, none⟩) hRs).trans e5
              have r6 : W1.frozen? ⟨w.heap.size, 0, none⟩ = false := (hb1'.frozen (p := ⟨w.heap.size, 0, none⟩) hRs).trans e6
              have r7 : W1.frozen? ⟨w.heap.size, 1, none⟩ = false := (hb1'.frozen (p := ⟨w.heap.size, 1, none⟩) hRs).trans e7
              have kf1 : KindsAt B W1 (.slice fA fm fc) ks := Kf.out.below (hbR.mono hB)
              have hz1 : wo.heap.size < W1.heap.size := by rw [hW1]; simp
              have hR1 : w.heap.size < W1.heap.size := Nat.lt_trans hRs hz1
              rw [← hW1]
              clear hW1 e4 e5 e6 e7 HR Kf
              obtain ⟨_, _, _, ev, hkl', _, hfc⟩ := kf1.opens
              injection ev with ev1 ev2 ev3
              subst ev1
              subst ev2
              subst ev3
              have Kf1 := Lib.hid kf1
              clear kf1
              go_loop [5, 6] (fun t i => ∃ j m : Nat, j ≤ fm ∧ i = .int .i64 (j : Int) ∧ t = .int .i64 (m : Int) ∧ m ≤ j ∧ Hid (m = distances (ks.take j)) ∧ Hid (noneYet unknownB ks j)) (fun _ i => fm - (intOf i).toNat)
              case atStart => exact ⟨0, 0, Nat.zero_le _, rfl, rfl, Nat.le_refl _, Lib.hid rfl, Lib.hid (noneYet_zero _ _)⟩
              case round =>
                obtain ⟨j, m, hj, rfl, rfl, hmj, Hm, Hn⟩ := hrel
                by_cases hjl : j < fm
                · obtain ⟨b2, o2, rfl, hb2, g2⟩ := hfc (by omega)
                  have d4 := g2 j hjl
                  have ht := take_at hkl hjl
                  have hxx : Hid (ks[j]? = some (ks[j]?.getD 0)) := by
                    obtain ⟨x, hx, _⟩ := getElem?_of_lt hkl hjl
                    exact Lib.hid (by rw [hx]; rfl)
                  generalize ks[j]?.getD 0 = x at d4 ht hxx
                  have hs := distances_snoc (ks.take j) x
                  rw [← ht, ← Hm.out] at hs
                  have Hds := Lib.hid hs
                  clear hs ht g2 hfc
                  have hu := unknown_in x
                  cases hin2 : inB x 1 6 with
                  | false =>
                    rw [hin2] at hu
                    have hun : ks.any unknownB = true := List.any_eq_true.2 ⟨x, List.mem_of_getElem? hxx.out, hu⟩
                    have Ht := Lib.hid (tableFault_of hfs h100 Hs hlt (c := 4) (by rw [Hff2.out, if_pos hun]) (by omega))
                    clear hu hun
                    go_wp2_with (first | (go_at_call 20; refine (in_any _ _ _ _).mono ?_; rintro e w' ⟨rfl, rfl⟩) | (go_at_call 11; refine (at_exact _ _ _).mono ?_; rintro e w' ⟨rfl, rfl⟩))
                    refine fault_leaf (R := w.heap.size) rfl Ht.out ?_ ?_ ?_
                    · exact cell_alloc_l _ (two_set r4 r5).1
                    · exact cell_alloc_l _ (two_set r4 r5).2
                    · exact ((hbR.setCell (p := ⟨w.heap.size, 0, none⟩) (Nat.le_refl _) _).setCell (p := ⟨w.heap.size, 1, none⟩) (Nat.le_refl _) _).alloc (by simp; omega) _
                  | true =>
                    rw [hin2] at hu
                    have Hu := Lib.hid hu
                    clear hu
                    have hxr : 1 ≤ x ∧ x ≤ 6 := by simpa [inB] using hin2
                    by_cases h5 : 5 ≤ x
                    · have e56 : (x == 5 || x == 6) = true := by simp; omega
                      rw [e56, if_pos rfl] at Hds
                      clear e56
                      go_wp2_with (go_at_call 20; refine (in_any _ _ _ _).mono ?_; rintro e w' ⟨rfl, rfl⟩)
                      go_round
                      case rel => exact ⟨j + 1, m + 1, by omega, by go_num, by go_num, by omega, Lib.hid Hds.out.symm, Lib.hid (noneYet_succ Hn.out hxx.out Hu.out)⟩
                      case measure => simp [intOf]; omega
                    · have e56 : (x == 5 || x == 6) = false := by simp; omega
                      rw [e56, if_neg (by simp)] at Hds
                      clear e56
                      go_wp2_with (go_at_call 20; refine (in_any _ _ _ _).mono ?_; rintro e w' ⟨rfl, rfl⟩)
                      go_round
                      case rel => exact ⟨j + 1, m, by omega, by go_num, rfl, by omega, Lib.hid Hds.out.symm, Lib.hid (noneYet_succ Hn.out hxx.out Hu.out)⟩
                      case measure => simp [intOf]; omega
                · obtain rfl : fm = j := by omega
                  have hun : ks.any unknownB = false := by
                    cases hx : ks.any unknownB with
                    | false => rfl
                    | true =>
                      obtain ⟨x, hx1, hx2⟩ := List.any_eq_true.1 hx
                      obtain ⟨i, hi, rfl⟩ := List.getElem_of_mem hx1
                      have := Hn.out i _ (by rw [← hkl.out]; exact hi) (List.getElem?_eq_getElem hi)
                      rw [hx2] at this; cases this
                  have hds : distances ks = m := by rw [Hm.out, List.take_of_length_le (by rw [hkl.out]; omega)]
                  have hff3 := Hff2.out
                  rw [hun, hds] at hff3
                  simp only [Bool.false_eq_true, if_false] at hff3
                  have Hff3 := Lib.hid hff3
                  clear hff3 Hff2 hun hds
                  by_cases hm1 : 1 < m
                  · have Ht := Lib.hid (tableFault_of hfs h100 Hs hlt (c := 5) (by rw [Hff3.out, if_pos (by omega)]) (by omega))
                    go_wp2_with (go_at_call 11; refine (at_exact _ _ _).mono ?_; rintro e w' ⟨rfl, rfl⟩)
                    refine fault_leaf (R := w.heap.size) rfl Ht.out ?_ ?_ ?_
                    · exact cell_alloc_l _ (two_set r4 r5).1
                    · exact cell_alloc_l _ (two_set r4 r5).2
                    · exact ((hbR.setCell (p := ⟨w.heap.size, 0, none⟩) (Nat.le_refl _) _).setCell (p := ⟨w.heap.size, 1, none⟩) (Nat.le_refl _) _).alloc (by simp; omega) _
                  · have Hff4 := Lib.hid (Hff3.out.trans (if_neg (by omega)))
                    clear Hff3
                    go_wp2
                    go_loopw [7] (fun i wx => ∃ j : Nat, j ≤ k ∧ i = .int .i64 (j : Int) ∧ Below w.heap.size w wx ∧ Below W1.heap.size W1 wx ∧ Hid (noneYet (clashB ⟨nm, q, .slice fA fm fc, ks⟩) (fs.take k) j)) (fun i _ => k - (intOf i).toNat)
                    case atStart => exact ⟨0, Nat.zero_le _, rfl, hbR, Below.refl _ _, Lib.hid (noneYet_zero _ _)⟩
                    case round =>
                      obtain ⟨j, hj, rfl, hbx, hbx1, Hn2⟩ := hrel
                      have hx1 : wo.heap.size < wr.heap.size := Nat.lt_of_lt_of_le hz1 hbx1.size
                      by_cases hjl : j < k
                      · obtain ⟨g, hgx, hgm⟩ := getElem?_of_lt hfs (show j < n by omega)
                        have hgt : (fs.take k)[j]? = some g := by rw [List.getElem?_take, if_pos hjl]; exact hgx
                        have hgc := (Hg.out j g hgx).below (hbx.mono hB) hb1
                        have hgk := ((Hk.out g hgm).1).below (hbx.mono hB)
                        have hfk := (Kf1.out).below (hbx1.mono (Nat.le_trans hB (Nat.le_of_lt hR1)))
                        have x1 : wr.cell? ⟨wo.heap.size, 0, none⟩ = some (.string nm) := (hbx1.cell (p := ⟨wo.heap.size, 0, none⟩) hz1).trans d1
                        have x2 : wr.cell? ⟨wo.heap.size, 1, none⟩ = some (.int .i64 q) := (hbx1.cell (p := ⟨wo.heap.size, 1, none⟩) hz1).trans d2
                        have x3 : wr.cell? ⟨wo.heap.size, 2, none⟩ = some (.slice fA fm fc) := (hbx1.cell (p := ⟨wo.heap.size, 2, none⟩) hz1).trans d3
                        have r4x : wr.cell? ⟨w.heap.size, 0, none⟩ = some (.int .i64 0) := (hbx1.cell (p := ⟨w.heap.size, 0, none⟩) hR1).trans r4
                        have r5x : wr.cell? ⟨w.heap.size, 1, none⟩ = some (.int .i64 0) := (hbx1.cell (p := ⟨w.heap.size, 1, none⟩) hR1).trans r5
                        have r6x : wr.frozen? ⟨w.heap.size, 0, none⟩ = false := (hbx1.frozen (p := ⟨w.heap.size, 0, none⟩) hR1).trans r6
                        have r7x : wr.frozen? ⟨w.heap.size, 1, none⟩ = false := (hbx1.frozen (p := ⟨w.heap.size, 1, none⟩) hR1).trans r7
                        have hRx : w.heap.size < wr.heap.size := Nat.lt_trans hRs hx1
                        have hcl := clash_comm ⟨nm, q, .slice fA fm fc, ks⟩ g
                        have HGT := Lib.hid hgt
                        obtain ⟨gA, gm, gc, gkv, _⟩ := hgk.opens
                        obtain ⟨gn, gq, gv, gks⟩ := g
                        dsimp only at gkv hcl hgk
                        subst gkv
                        obtain ⟨y1, y2, y3⟩ := hgc
                        dsimp only at y1 y2 y3
                        have Hcl := Lib.hid hcl
                        have Hgk := Lib.hid hgk
                        have Hfk := Lib.hid hfk
                        clear hgx hgm hgt hcl hgk hfk d1 d2 d3 r4 r5 r6 r7
                        cases hq : (gq == q) with
                        | true =>
                          have hcl2 := Hcl.out
                          rw [hq, Bool.true_or] at hcl2
                          have hany : (fs.take k).any (clashB ⟨nm, q, .slice fA fm fc, ks⟩) = true := List.any_eq_true.2 ⟨_, List.mem_of_getElem? HGT.out, hcl2⟩
                          have Ht := Lib.hid (tableFault_of hfs h100 Hs hlt (c := 7) (by rw [Hff4.out, if_pos hany]) (by omega))
                          clear hcl2 hany
                          go_wp2
                          go_quiet (fail)
                          go_wp2_with (go_at_call 11; refine (at_any _ _ _).mono ?_; rintro e W' ⟨rfl, hbW⟩; have q4 : W'.cell? ⟨w.heap.size, 0, none⟩ = some (.int .i64 0) := (hbW.cell (p := ⟨w.heap.size, 0, none⟩) hRx).trans r4x; have q5 : W'.cell? ⟨w.heap.size, 1, none⟩ = some (.int .i64 0) := (hbW.cell (p := ⟨w.heap.size, 1, none⟩) hRx).trans r5x; have q6 : W'.frozen? ⟨w.heap.size, 0, none⟩ = false := (hbW.frozen (p := ⟨w.heap.size, 0, none⟩) hRx).trans r6x; have q7 : W'.frozen? ⟨w.heap.size, 1, none⟩ = false := (hbW.frozen (p := ⟨w.heap.size, 1, none⟩) hRx).trans r7x)
                          refine fault_leaf (R := w.heap.size) rfl Ht.out (two_set q4 q5).1 (two_set q4 q5).2 ?_
                          exact ((((below_drewN hbx _).trans (hbW.mono (Nat.le_of_lt hRx))).setCell (p := ⟨w.heap.size, 0, none⟩) (Nat.le_refl _) _).setCell (p := ⟨w.heap.size, 1, none⟩) (Nat.le_refl _) _)
                        | false =>
                          have hcl2 := Hcl.out
                          rw [hq, Bool.false_or] at hcl2
                          have HC := Lib.hid (fun W (h1 : Below wr.heap.size wr W) => same_any B ⟨gn, gq, .slice gA gm gc, gks⟩ ⟨nm, q, .slice fA fm fc, ks⟩ W (Hgk.out.below (h1.mono (Nat.le_trans hB (Nat.le_of_lt hRx)))) (Hfk.out.below (h1.mono (Nat.le_trans hB (Nat.le_of_lt hRx)))) (Nat.le_trans hB (Nat.le_trans (Nat.le_of_lt hRx) h1.size)))
                          dsimp only [Frm.val] at HC
                          have hkn2 : j < n := by omega
                          cases hs : sameB ⟨gn, gq, .slice gA gm gc, gks⟩ ⟨nm, q, .slice fA fm fc, ks⟩ with
                          | true =>
                            rw [hs] at hcl2 HC
                            have hany : (fs.take k).any (clashB ⟨nm, q, .slice fA fm fc, ks⟩) = true := List.any_eq_true.2 ⟨_, List.mem_of_getElem? HGT.out, hcl2⟩
                            have Ht := Lib.hid (tableFault_of hfs h100 Hs hlt (c := 7) (by rw [Hff4.out, if_pos hany]) (by omega))
                            clear hcl2 hany hs
                            go_wp2
                            go_still_tail 14, (by kernel_rfl)
                            change wpList _ _ _ _ _ wr.drew
                            go_wp2_with (first | (go_at_call 26; refine (HC.out _ (Below.refl _ _).drew).mono ?_; rintro e W2 ⟨rfl, hb2⟩; have hR2 : w.heap.size < W2.heap.size := Nat.lt_of_lt_of_le hRx hb2.size; have p4 : W2.cell? ⟨w.heap.size, 0, none⟩ = some (.int .i64 0) := (hb2.cell (p := ⟨w.heap.size, 0, none⟩) hRx).trans r4x; have p5 : W2.cell? ⟨w.heap.size, 1, none⟩ = some (.int .i64 0) := (hb2.cell (p := ⟨w.heap.size, 1, none⟩) hRx).trans r5x; have p6 : W2.frozen? ⟨w.heap.size, 0, none⟩ = false := (hb2.frozen (p := ⟨w.heap.size, 0, none⟩) hRx).trans r6x; have p7 : W2.frozen? ⟨w.heap.size, 1, none⟩ = false := (hb2.frozen (p := ⟨w.heap.size, 1, none⟩) hRx).trans r7x) | (go_at_call 11; refine (at_any _ _ _).mono ?_; rintro e W' ⟨rfl, hbW⟩; have q4 : W'.cell? ⟨w.heap.size, 0, none⟩ = some (.int .i64 0) := (hbW.cell (p := ⟨w.heap.size, 0, none⟩) hR2).trans p4; have q5 : W'.cell? ⟨w.heap.size, 1, none⟩ = some (.int .i64 0) := (hbW.cell (p := ⟨w.heap.size, 1, none⟩) hR2).trans p5; have q6 : W'.frozen? ⟨w.heap.size, 0, none⟩ = false := (hbW.frozen (p := ⟨w.heap.size, 0, none⟩) hR2).trans p6; have q7 : W'.frozen? ⟨w.heap.size, 1, none⟩ = false := (hbW.frozen (p := ⟨w.heap.size, 1, none⟩) hR2).trans p7))
                            refine fault_leaf (R := w.heap.size) rfl Ht.out (two_set q4 q5).1 (two_set q4 q5).2 ?_
                            exact (((((hbx.drew).trans (hb2.mono (Nat.le_of_lt hRx))).trans (hbW.mono (Nat.le_of_lt hR2))).setCell (p := ⟨w.heap.size, 0, none⟩) (Nat.le_refl _) _).setCell (p := ⟨w.heap.size, 1, none⟩) (Nat.le_refl _) _)
                          | false =>
                            rw [hs] at hcl2 HC
                            have Hcl2 := Lib.hid hcl2
                            clear hcl2 hs
                            go_wp2
                            go_still_tail 14, (by kernel_rfl)
                            change wpList _ _ _ _ _ wr.drew
                            go_wp2_with (go_at_call 26; refine (HC.out _ (Below.refl _ _).drew).mono ?_; rintro e W2 ⟨rfl, hb2⟩; have hR2 : w.heap.size < W2.heap.size := Nat.lt_of_lt_of_le hRx hb2.size; have p4 : W2.cell? ⟨w.heap.size, 0, none⟩ = some (.int .i64 0) := (hb2.cell (p := ⟨w.heap.size, 0, none⟩) hRx).trans r4x; have p5 : W2.cell? ⟨w.heap.size, 1, none⟩ = some (.int .i64 0) := (hb2.cell (p := ⟨w.heap.size, 1, none⟩) hRx).trans r5x; have p6 : W2.frozen? ⟨w.heap.size, 0, none⟩ = false := (hb2.frozen (p := ⟨w.heap.size, 0, none⟩) hRx).trans r6x; have p7 : W2.frozen? ⟨w.heap.size, 1, none⟩ = false := (hb2.frozen (p := ⟨w.heap.size, 1, none⟩) hRx).trans r7x)
                            go_roundw
                            case rel => exact ⟨j + 1, by omega, by go_num, (hbx.drew).trans (hb2.mono (Nat.le_of_lt hRx)), (hbx1.drew).trans (hb2.mono hbx1.size), Lib.hid (noneYet_succ Hn2.out HGT.out Hcl2.out)⟩
                            case measure => simp [intOf]; omega
                      · obtain rfl : k = j := by omega
                        have hany : (fs.take k).any (clashB ⟨nm, q, .slice fA fm fc, ks⟩) = false := by
                          cases hx : (fs.take k).any (clashB ⟨nm, q, .slice fA fm fc, ks⟩) with
                          | false => rfl
                          | true =>
                            obtain ⟨x, hx1, hx2⟩ := List.any_eq_true.1 hx
                            obtain ⟨i, hi, rfl⟩ := List.getElem_of_mem hx1
                            have := Hn2.out i _ (by rw [List.length_take] at hi; omega) (List.getElem?_eq_getElem hi)
                            rw [hx2] at this; cases this
                        have hf0 : faultAt fs k = 0 := by rw [Hff4.out, if_neg (by rw [hany]; simp)]
                        have Hs2 := Lib.hid ((scan_next hlt hf0).trans Hs.out)
                        have r4x : wr.cell? ⟨w.heap.size, 0, none⟩ = some (.int .i64 0) := (hbx1.cell (p := ⟨w.heap.size, 0, none⟩) hR1).trans r4
                        have r5x : wr.cell? ⟨w.heap.size, 1, none⟩ = some (.int .i64 0) := (hbx1.cell (p := ⟨w.heap.size, 1, none⟩) hR1).trans r5
                        have r6x : wr.frozen? ⟨w.heap.size, 0, none⟩ = false := (hbx1.frozen (p := ⟨w.heap.size, 0, none⟩) hR1).trans r6
                        have r7x : wr.frozen? ⟨w.heap.size, 1, none⟩ = false := (hbx1.frozen (p := ⟨w.heap.size, 1, none⟩) hR1).trans r7
                        have HR2 := Lib.hid (And.intro r4x (And.intro r5x (And.intro r6x r7x)))
                        clear hany hf0 r4x r5x r6x r7x
                        go_wp2
                        go_roundw
                        case rel => exact ⟨k + 1, by omega, by go_num, Hs2, hbx, Nat.lt_trans hRs hx1, HR2⟩
                        case measure => simp [intOf]; omega
      · obtain rfl : k = n := by omega
        have ht : tableFault fs = (0, 0) := by
          unfold tableFault
          rw [if_neg (by rw [hfs.out]; exact h100), hfs.out, ← Hs.out, Nat.sub_self]; rfl
        have Ht := Lib.hid ht
        obtain ⟨e4, e5, e6, e7⟩ := HR.out
        clear ht hk hc h
        go_wp2
        refine fault_leaf (R := w.heap.size) rfl Ht.out ?_ ?_ ?_
        · simp [go_sem, e4]
        · simp [go_sem, e5]
        · exact (hbw.setCell (p := ⟨w.heap.size, 0, none⟩) (Nat.le_refl _) _).setCell (p := ⟨w.heap.size, 1, none⟩) (Nat.le_refl _) _
end Go.Proofs.YtcngpciblbdgbaaGreatDoor
