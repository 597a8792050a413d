/- The reference's fault of named values is validSymL. -/
import Derived.Test.YtchpkdpefpiegaaDoorExO
import Derived.Test.YtchpkdpefpiegaaDoorExZ
namespace Go.Proofs.YtchpkdpefpiegaaDoor.Tok
open Go Go.RowKit

theorem out_inB (n : Int) : isOutL n = !(inB n (-1099511627776) 1099511627776) := by
  unfold isOutL inB
  rw [Bool.eq_iff_iff]
  simp
set_option maxRecDepth 100000 in
set_option maxHeartbeats 8000000 in
theorem namedFault_any (B : Nat) (v : Value) (l : List Nm) (w : World) (h : NmsAt B w v l) (hB : B ≤ w.heap.size) :
    Calls Tryd.prog 19 #[v] w fun e w' => e = .returned (faultV (validSymL l)) ∧ Below w.heap.size w w' := by
  obtain ⟨A, n, c, rfl, Hn, ⟨hl, -⟩, HT, HC⟩ := h.opens
  have E0 := Lib.hid (show validSymL l = if 8000 < l.length then (2, -2) else if (scanL chkS 0 l).1 = 0 then (0, 0) else ((scanL chkS 0 l).1, -10 - ((scanL chkS 0 l).2 : Int)) from rfl)
  rw [Hn.out] at E0
  have HF0 := Lib.hid (fltW_below w)
  have HFB := Lib.hid (fun W (hb : Below (fltW w).heap.size (fltW w) W) => fault_cells (w := w) (W := W) hb)
  clear h
  by_cases h8 : 8000 < n
  · have E := Lib.hid (E0.out.trans (if_pos h8))
    go_enter Tryd.func19, Tryd.ntmps19
    go_wp2_with fail
    refine (at_any 2 (-2) _).mono ?_
    rintro e W ⟨rfl, hb⟩
    have HB2 := Lib.hid hb
    obtain ⟨c0, c1, f0, f1, hsz⟩ := HFB.out W (show Below (fltW w).heap.size (fltW w) W from hb)
    clear hb
    go_wp2_with fail
    refine bodyPost_ret (v := faultV (2, -2)) (by unfold faultV; simp [results, Tryd.results19, go_sem, c0, c1]) rfl ⟨by rw [E.out], flt_sets HB2.out _ _⟩
  · have E1 := Lib.hid (E0.out.trans (if_neg h8))
    have h8' : n ≤ 8000 := by omega
    clear h8 E0
    go_enter Tryd.func19, Tryd.ntmps19
    go_wp2_with fail
    have HBS := Lib.hid (show Below (fltW w).heap.size (fltW w) (fltW w) from Below.refl _ _)
    unfold fltW at HBS
    go_loopw [3] (fun i wr => ∃ k : Nat, k ≤ n ∧ i = .int .i64 k ∧ Hid (fineYet chkS l k) ∧ Hid (Below (fltW w).heap.size (fltW w) wr)) (fun i _ => n - (intOf i).toNat)
    case atStart => exact ⟨0, Nat.zero_le _, rfl, Lib.hid (fineYet_zero _ _), HBS⟩
    case round =>
      obtain ⟨k, hk, rfl, HN, HB⟩ := hrel
      have hbw := HF0.out.trans (HB.out.mono HF0.out.size)
      by_cases hlt : k < n
      · obtain ⟨b1, o1, rfl, hb1, g1⟩ := HC.out (by omega)
        obtain ⟨x, hx⟩ := getElem?_of_lt Hn.out hlt
        have HX := Lib.hid hx
        obtain ⟨p0, p1, p2, p3⟩ := (g1 k x hx).below (hbw.mono hB) hb1
        have hb2 : Below wr.heap.size wr (wr.alloc (.cells #[strV x.lin.sym, strV x.lin.minus, .int .i64 x.lin.num] 40)) := (Below.refl _ _).alloc (Nat.le_refl _) _
        have HB1 := Lib.hid (HB.out.trans (hb2.mono HB.out.size))
        obtain ⟨hs1, hs2, hs3⟩ := HT.out x (List.mem_of_getElem? hx)
        have HCH := Lib.hid (show chkS x k = if (!isName x.name || wrongB x.lin.sym || wrongB x.lin.minus) = true then 12 else if (isOutL x.lin.num || (x.lin.sym == x.lin.minus && !x.lin.sym.isEmpty)) = true then 3 else 0 from rfl)
        unfold wrongB at HCH
        rw [out_inB] at HCH
        clear HC g1 hx hbw hb2 HT
        obtain ⟨xn, ⟨xs, xm, xu⟩⟩ := x
        have hbl := block_lt_of_cell p0
        dsimp only at p0 p1 p2 p3 HB1 hs1 hs2 hs3 HCH
        cases hn : isName xn with
        | false =>
          have I1 := Lib.hid (name_is hs1 hn)
          have hc := HCH.out.trans (show _ = (12 : Int) by simp [hn])
          clear hs1 hs2 hs3 hn
          have hm := scan_hit HN.out HX.out (by rw [hc]; decide)
          rw [hc] at hm
          have HM := Lib.hid hm
          have E2 := Lib.hid (E1.out.trans (if_neg (by rw [HM.out]; show ¬ (12 : Int) = 0; decide)))
          clear hc hm HCH
          go_wp2_with fail
          refine (I1.out _).mono ?_
          rintro e W ⟨rfl, rfl⟩
          go_wp2_with fail
          refine (at_any 12 _ _).mono ?_
          rintro e W ⟨rfl, hb⟩
          have HB2 := Lib.hid (HB1.out.trans (hb.mono HB1.out.size))
          obtain ⟨c0, c1, f0, f1, hsz⟩ := HFB.out W HB2.out
          clear hb
          go_wp2_with fail
          refine bodyPost_ret (v := faultV (12, -10 - (k : Int))) (by unfold faultV; simp [results, Tryd.results19, go_sem, c0, c1]) rfl ⟨by rw [E2.out, HM.out], flt_sets HB2.out _ _⟩
        | true =>
          have I1 := Lib.hid (name_is hs1 hn)
          cases hse : xs.isEmpty with
          | false =>
            cases hsn : isName xs with
            | false =>
              have I3 := Lib.hid (name_is hs2 hsn)
              have hc := HCH.out.trans (show _ = (12 : Int) by simp [hn, hse, hsn])
              clear hs1 hs2 hs3 hsn
              have hm := scan_hit HN.out HX.out (by rw [hc]; decide)
              rw [hc] at hm
              have HM := Lib.hid hm
              have E2 := Lib.hid (E1.out.trans (if_neg (by rw [HM.out]; show ¬ (12 : Int) = 0; decide)))
              clear hc hm HCH
              go_wp2_with fail
              refine (I1.out _).mono ?_
              rintro e W ⟨rfl, rfl⟩
              go_wp2_with fail
              refine (I3.out _).mono ?_
              rintro e W ⟨rfl, rfl⟩
              go_wp2_with fail
              refine (at_any 12 _ _).mono ?_
              rintro e W ⟨rfl, hb⟩
              have HB2 := Lib.hid (HB1.out.trans (hb.mono HB1.out.size))
              obtain ⟨c0, c1, f0, f1, hsz⟩ := HFB.out W HB2.out
              clear hb
              go_wp2_with fail
              refine bodyPost_ret (v := faultV (12, -10 - (k : Int))) (by unfold faultV; simp [results, Tryd.results19, go_sem, c0, c1]) rfl ⟨by rw [E2.out, HM.out], flt_sets HB2.out _ _⟩
            | true =>
              have I3 := Lib.hid (name_is hs2 hsn)
              cases hme : xm.isEmpty with
              | false =>
                cases hmn : isName xm with
                | false =>
                  have I4 := Lib.hid (name_is hs3 hmn)
                  have hc := HCH.out.trans (show _ = (12 : Int) by simp [hn, hse, hsn, hme, hmn])
                  clear hs1 hs2 hs3 hmn
                  have hm := scan_hit HN.out HX.out (by rw [hc]; decide)
                  rw [hc] at hm
                  have HM := Lib.hid hm
                  have E2 := Lib.hid (E1.out.trans (if_neg (by rw [HM.out]; show ¬ (12 : Int) = 0; decide)))
                  clear hc hm HCH
                  go_wp2_with fail
                  refine (I1.out _).mono ?_
                  rintro e W ⟨rfl, rfl⟩
                  go_wp2_with fail
                  refine (I3.out _).mono ?_
                  rintro e W ⟨rfl, rfl⟩
                  go_wp2_with fail
                  refine (I4.out _).mono ?_
                  rintro e W ⟨rfl, rfl⟩
                  go_wp2_with fail
                  refine (at_any 12 _ _).mono ?_
                  rintro e W ⟨rfl, hb⟩
                  have HB2 := Lib.hid (HB1.out.trans (hb.mono HB1.out.size))
                  obtain ⟨c0, c1, f0, f1, hsz⟩ := HFB.out W HB2.out
                  clear hb
                  go_wp2_with fail
                  refine bodyPost_ret (v := faultV (12, -10 - (k : Int))) (by unfold faultV; simp [results, Tryd.results19, go_sem, c0, c1]) rfl ⟨by rw [E2.out, HM.out], flt_sets HB2.out _ _⟩
                | true =>
                  have I4 := Lib.hid (name_is hs3 hmn)
                  cases hu : inB xu (-1099511627776) 1099511627776 with
                  | false =>
                    have I9 := Lib.hid (in_is hu)
                    have hc := HCH.out.trans (show _ = (3 : Int) by simp [hn, hse, hsn, hme, hmn, hu])
                    clear hu hs1 hs2 hs3
                    have hm := scan_hit HN.out HX.out (by rw [hc]; decide)
                    rw [hc] at hm
                    have HM := Lib.hid hm
                    have E2 := Lib.hid (E1.out.trans (if_neg (by rw [HM.out]; show ¬ (3 : Int) = 0; decide)))
                    clear hc hm HCH
                    go_wp2_with fail
                    refine (I1.out _).mono ?_
                    rintro e W ⟨rfl, rfl⟩
                    go_wp2_with fail
                    refine (I3.out _).mono ?_
                    rintro e W ⟨rfl, rfl⟩
                    go_wp2_with fail
                    refine (I4.out _).mono ?_
                    rintro e W ⟨rfl, rfl⟩
                    go_wp2_with fail
                    refine (I9.out _).mono ?_
                    rintro e W ⟨rfl, rfl⟩
                    go_wp2_with fail
                    refine (at_any 3 _ _).mono ?_
                    rintro e W ⟨rfl, hb⟩
                    have HB2 := Lib.hid (HB1.out.trans (hb.mono HB1.out.size))
                    obtain ⟨c0, c1, f0, f1, hsz⟩ := HFB.out W HB2.out
                    clear hb
                    go_wp2_with fail
                    refine bodyPost_ret (v := faultV (3, -10 - (k : Int))) (by unfold faultV; simp [results, Tryd.results19, go_sem, c0, c1]) rfl ⟨by rw [E2.out, HM.out], flt_sets HB2.out _ _⟩
                  | true =>
                    have I9 := Lib.hid (in_is hu)
                    cases hq : xs == xm with
                    | false =>
                      have hc := HCH.out.trans (show _ = (0 : Int) by simp [hn, hse, hsn, hme, hmn, hu, hq])
                      clear hu hs1 hs2 hs3
                      have HM := Lib.hid (fineYet_succ HN.out HX.out hc)
                      clear hc HCH
                      go_wp2_with fail
                      refine (I1.out _).mono ?_
                      rintro e W ⟨rfl, rfl⟩
                      go_wp2_with fail
                      refine (I3.out _).mono ?_
                      rintro e W ⟨rfl, rfl⟩
                      go_wp2_with fail
                      refine (I4.out _).mono ?_
                      rintro e W ⟨rfl, rfl⟩
                      go_wp2_with fail
                      refine (I9.out _).mono ?_
                      rintro e W ⟨rfl, rfl⟩
                      go_wp2_with fail
                      go_roundw
                      case rel => exact ⟨k + 1, by omega, by go_num, HM, HB1⟩
                      case measure => simp [intOf]; omega
                    | true =>
                      have hc := HCH.out.trans (show _ = (3 : Int) by simp [hn, hse, hsn, hme, hmn, hu, hq])
                      clear hu hs1 hs2 hs3
                      have hm := scan_hit HN.out HX.out (by rw [hc]; decide)
                      rw [hc] at hm
                      have HM := Lib.hid hm
                      have E2 := Lib.hid (E1.out.trans (if_neg (by rw [HM.out]; show ¬ (3 : Int) = 0; decide)))
                      clear hc hm HCH
                      go_wp2_with fail
                      refine (I1.out _).mono ?_
                      rintro e W ⟨rfl, rfl⟩
                      go_wp2_with fail
                      refine (I3.out _).mono ?_
                      rintro e W ⟨rfl, rfl⟩
                      go_wp2_with fail
                      refine (I4.out _).mono ?_
                      rintro e W ⟨rfl, rfl⟩
                      go_wp2_with fail
                      refine (I9.out _).mono ?_
                      rintro e W ⟨rfl, rfl⟩
                      go_wp2_with fail
                      refine (at_any 3 _ _).mono ?_
                      rintro e W ⟨rfl, hb⟩
                      have HB2 := Lib.hid (HB1.out.trans (hb.mono HB1.out.size))
                      obtain ⟨c0, c1, f0, f1, hsz⟩ := HFB.out W HB2.out
                      clear hb
                      go_wp2_with fail
                      refine bodyPost_ret (v := faultV (3, -10 - (k : Int))) (by unfold faultV; simp [results, Tryd.results19, go_sem, c0, c1]) rfl ⟨by rw [E2.out, HM.out], flt_sets HB2.out _ _⟩
              | true =>
                have hq : (xs == xm) = false := beq_eq_false_iff_ne.2 (fun e => by rw [e, hme] at hse; cases hse)
                cases hu : inB xu (-1099511627776) 1099511627776 with
                | false =>
                  have I9 := Lib.hid (in_is hu)
                  have hc := HCH.out.trans (show _ = (3 : Int) by simp [hn, hse, hsn, hme, hu])
                  clear hu hs1 hs2 hs3
                  have hm := scan_hit HN.out HX.out (by rw [hc]; decide)
                  rw [hc] at hm
                  have HM := Lib.hid hm
                  have E2 := Lib.hid (E1.out.trans (if_neg (by rw [HM.out]; show ¬ (3 : Int) = 0; decide)))
                  clear hc hm HCH
                  go_wp2_with fail
                  refine (I1.out _).mono ?_
                  rintro e W ⟨rfl, rfl⟩
                  go_wp2_with fail
                  refine (I3.out _).mono ?_
                  rintro e W ⟨rfl, rfl⟩
                  go_wp2_with fail
                  refine (I9.out _).mono ?_
                  rintro e W ⟨rfl, rfl⟩
                  go_wp2_with fail
                  refine (at_any 3 _ _).mono ?_
                  rintro e W ⟨rfl, hb⟩
                  have HB2 := Lib.hid (HB1.out.trans (hb.mono HB1.out.size))
                  obtain ⟨c0, c1, f0, f1, hsz⟩ := HFB.out W HB2.out
                  clear hb
                  go_wp2_with fail
                  refine bodyPost_ret (v := faultV (3, -10 - (k : Int))) (by unfold faultV; simp [results, Tryd.results19, go_sem, c0, c1]) rfl ⟨by rw [E2.out, HM.out], flt_sets HB2.out _ _⟩
                | true =>
                  have I9 := Lib.hid (in_is hu)
                  have hc := HCH.out.trans (show _ = (0 : Int) by simp [hn, hse, hsn, hme, hu, hq])
                  clear hu hs1 hs2 hs3
                  have HM := Lib.hid (fineYet_succ HN.out HX.out hc)
                  clear hc HCH
                  go_wp2_with fail
                  refine (I1.out _).mono ?_
                  rintro e W ⟨rfl, rfl⟩
                  go_wp2_with fail
                  refine (I3.out _).mono ?_
                  rintro e W ⟨rfl, rfl⟩
                  go_wp2_with fail
                  refine (I9.out _).mono ?_
                  rintro e W ⟨rfl, rfl⟩
                  go_wp2_with fail
                  go_roundw
                  case rel => exact ⟨k + 1, by omega, by go_num, HM, HB1⟩
                  case measure => simp [intOf]; omega
          | true =>
            cases hme : xm.isEmpty with
            | false =>
              cases hmn : isName xm with
              | false =>
                have I4 := Lib.hid (name_is hs3 hmn)
                have hc := HCH.out.trans (show _ = (12 : Int) by simp [hn, hse, hme, hmn])
                clear hs1 hs2 hs3 hmn
                have hm := scan_hit HN.out HX.out (by rw [hc]; decide)
                rw [hc] at hm
                have HM := Lib.hid hm
                have E2 := Lib.hid (E1.out.trans (if_neg (by rw [HM.out]; show ¬ (12 : Int) = 0; decide)))
                clear hc hm HCH
                go_wp2_with fail
                refine (I1.out _).mono ?_
                rintro e W ⟨rfl, rfl⟩
                go_wp2_with fail
                refine (I4.out _).mono ?_
                rintro e W ⟨rfl, rfl⟩
                go_wp2_with fail
                refine (at_any 12 _ _).mono ?_
                rintro e W ⟨rfl, hb⟩
                have HB2 := Lib.hid (HB1.out.trans (hb.mono HB1.out.size))
                obtain ⟨c0, c1, f0, f1, hsz⟩ := HFB.out W HB2.out
                clear hb
                go_wp2_with fail
                refine bodyPost_ret (v := faultV (12, -10 - (k : Int))) (by unfold faultV; simp [results, Tryd.results19, go_sem, c0, c1]) rfl ⟨by rw [E2.out, HM.out], flt_sets HB2.out _ _⟩
              | true =>
                have I4 := Lib.hid (name_is hs3 hmn)
                cases hu : inB xu (-1099511627776) 1099511627776 with
                | false =>
                  have I9 := Lib.hid (in_is hu)
                  have hc := HCH.out.trans (show _ = (3 : Int) by simp [hn, hse, hme, hmn, hu])
                  clear hu hs1 hs2 hs3
                  have hm := scan_hit HN.out HX.out (by rw [hc]; decide)
                  rw [hc] at hm
                  have HM := Lib.hid hm
                  have E2 := Lib.hid (E1.out.trans (if_neg (by rw [HM.out]; show ¬ (3 : Int) = 0; decide)))
                  clear hc hm HCH
                  go_wp2_with fail
                  refine (I1.out _).mono ?_
                  rintro e W ⟨rfl, rfl⟩
                  go_wp2_with fail
                  refine (I4.out _).mono ?_
                  rintro e W ⟨rfl, rfl⟩
                  go_wp2_with fail
                  refine (I9.out _).mono ?_
                  rintro e W ⟨rfl, rfl⟩
                  go_wp2_with fail
                  refine (at_any 3 _ _).mono ?_
                  rintro e W ⟨rfl, hb⟩
                  have HB2 := Lib.hid (HB1.out.trans (hb.mono HB1.out.size))
                  obtain ⟨c0, c1, f0, f1, hsz⟩ := HFB.out W HB2.out
                  clear hb
                  go_wp2_with fail
                  refine bodyPost_ret (v := faultV (3, -10 - (k : Int))) (by unfold faultV; simp [results, Tryd.results19, go_sem, c0, c1]) rfl ⟨by rw [E2.out, HM.out], flt_sets HB2.out _ _⟩
                | true =>
                  have I9 := Lib.hid (in_is hu)
                  have hc := HCH.out.trans (show _ = (0 : Int) by simp [hn, hse, hme, hmn, hu])
                  clear hu hs1 hs2 hs3
                  have HM := Lib.hid (fineYet_succ HN.out HX.out hc)
                  clear hc HCH
                  go_wp2_with fail
                  refine (I1.out _).mono ?_
                  rintro e W ⟨rfl, rfl⟩
                  go_wp2_with fail
                  refine (I4.out _).mono ?_
                  rintro e W ⟨rfl, rfl⟩
                  go_wp2_with fail
                  refine (I9.out _).mono ?_
                  rintro e W ⟨rfl, rfl⟩
                  go_wp2_with fail
                  go_roundw
                  case rel => exact ⟨k + 1, by omega, by go_num, HM, HB1⟩
                  case measure => simp [intOf]; omega
            | true =>
              cases hu : inB xu (-1099511627776) 1099511627776 with
              | false =>
                have I9 := Lib.hid (in_is hu)
                have hc := HCH.out.trans (show _ = (3 : Int) by simp [hn, hse, hme, hu])
                clear hu hs1 hs2 hs3
                have hm := scan_hit HN.out HX.out (by rw [hc]; decide)
                rw [hc] at hm
                have HM := Lib.hid hm
                have E2 := Lib.hid (E1.out.trans (if_neg (by rw [HM.out]; show ¬ (3 : Int) = 0; decide)))
                clear hc hm HCH
                go_wp2_with fail
                refine (I1.out _).mono ?_
                rintro e W ⟨rfl, rfl⟩
                go_wp2_with fail
                refine (I9.out _).mono ?_
                rintro e W ⟨rfl, rfl⟩
                go_wp2_with fail
                refine (at_any 3 _ _).mono ?_
                rintro e W ⟨rfl, hb⟩
                have HB2 := Lib.hid (HB1.out.trans (hb.mono HB1.out.size))
                obtain ⟨c0, c1, f0, f1, hsz⟩ := HFB.out W HB2.out
                clear hb
                go_wp2_with fail
                refine bodyPost_ret (v := faultV (3, -10 - (k : Int))) (by unfold faultV; simp [results, Tryd.results19, go_sem, c0, c1]) rfl ⟨by rw [E2.out, HM.out], flt_sets HB2.out _ _⟩
              | true =>
                have I9 := Lib.hid (in_is hu)
                have hc := HCH.out.trans (show _ = (0 : Int) by simp [hn, hse, hme, hu])
                clear hu hs1 hs2 hs3
                have HM := Lib.hid (fineYet_succ HN.out HX.out hc)
                clear hc HCH
                go_wp2_with fail
                refine (I1.out _).mono ?_
                rintro e W ⟨rfl, rfl⟩
                go_wp2_with fail
                refine (I9.out _).mono ?_
                rintro e W ⟨rfl, rfl⟩
                go_wp2_with fail
                go_roundw
                case rel => exact ⟨k + 1, by omega, by go_num, HM, HB1⟩
                case measure => simp [intOf]; omega
      · obtain rfl : k = n := by omega
        obtain ⟨c0, c1, f0, f1, hsz⟩ := HFB.out wr HB.out
        have HM := Lib.hid (scan_none (by rw [Hn.out]; exact Nat.le_refl _) HN.out)
        have E2 := Lib.hid (E1.out.trans (if_pos (by rw [HM.out])))
        clear hbw
        go_wp2_with fail
        refine bodyPost_ret (v := faultV (0, 0)) (by unfold faultV; simp [results, Tryd.results19, go_sem, c0, c1]) rfl ⟨by rw [E2.out], flt_sets HB.out _ _⟩
end Go.Proofs.YtchpkdpefpiegaaDoor.Tok
