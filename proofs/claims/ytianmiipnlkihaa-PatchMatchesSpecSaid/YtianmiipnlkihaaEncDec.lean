/- The reference's Decoded finds the instruction with which bytes begin, as GoodAt says. Conditions: the table reads as forms and is valid; the bytes are not none. -/
import Derived.Test.YtianmiipnlkihaaEncLem
namespace Go.Proofs.Ytianmiipnlkihaa
open Go Go.RowKit Go.Shelf
set_option maxRecDepth 100000 in
set_option maxHeartbeats 40000000 in
theorem decoded_any (B : Nat) (v cv : Value) (fs : List Frm) (l : List UInt8) (w : World) (h : FormsAt B w v fs) (hl : BytesAt B w cv l) (hB : B ≤ w.heap.size) (ht : tableFault fs = (0, 0)) (h0 : 0 < l.length) :
    Calls Try.prog 15 #[v, cv] w fun e w' => ((∃ k f xs av, GoodAt fs l k f xs ∧ e = .returned (.tuple #[.agg #[.int .i64 (k : Int), av], .bool true]) ∧ w'.ownsRow w.heap.size 3 1 av xs.length (iv xs)) ∨
      (¬ ∃ k f xs, GoodAt fs l k f xs) ∧ e = .returned (.tuple #[noIns, .bool false])) ∧ Below w.heap.size w w' := by
  obtain ⟨A, n, c, rfl, hfs, ⟨hn, hnc⟩, hkk, hc⟩ := h.opens
  obtain ⟨A2, n2, c2, rfl, hl2, ⟨hm2, hc2⟩, hop⟩ := hl.opens
  have HF := Lib.hid h
  have HL := Lib.hid hl
  have HT := Lib.hid ht
  obtain ⟨i0, hi0, hz0, hz1, hz2'⟩ := info_parts infoInt
  clear h hl ht hkk
  go_enter Try.func15, Try.ntmps15
  go_wp2_with fail
  obtain ⟨V, hV⟩ : ∃ V, V = boxI w := ⟨_, rfl⟩
  have hVb : Below w.heap.size w V := by rw [hV]; exact one_more _ _
  have hVs : V.heap.size = w.heap.size + 1 := by rw [hV]; simp [boxI]
  have hbox : Two V w.heap.size (.int .i64 0) (.slice none 0 0) := by rw [hV]; exact Two.new _ _ _ _
  have HBX := Lib.hid hbox
  have HVB := Lib.hid hVb
  have HVS := Lib.hid hVs
  have HL2 := Lib.hid hl2.out
  have HFS := Lib.hid hfs.out
  have HN48 := Lib.hid hn
  have HM2 := Lib.hid hm2
  go_loopw [6] (fun i wr => ∃ k : Nat, k ≤ n ∧ i = .int .i64 (k : Int) ∧ Hid (∀ j f xs, j < k → ¬ GoodAt fs l j f xs) ∧ Hid (Below V.heap.size V wr)) (fun i _ => n - (intOf i).toNat)
  case atStart =>
    refine ⟨0, Nat.zero_le _, rfl, Lib.hid (fun j f xs h => absurd h (Nat.not_lt_zero j)), Lib.hid ?_⟩
    rw [hV]
    exact Below.refl _ _
  case round =>
    obtain ⟨k, hk, rfl, HNO, HBW⟩ := hrel
    obtain ⟨wo, rfl⟩ : ∃ wo, wo = wr := ⟨_, rfl⟩
    by_cases hlt : k < n
    · obtain ⟨f, hx⟩ : ∃ f, fs[k]? = some f := ⟨_, List.getElem?_eq_getElem (by rw [hfs.out]; exact hlt)⟩
      have hfm := List.mem_of_getElem? hx
      have hok := valid_form HT.out hfm
      have bw := HVB.out.trans (HBW.out.mono HVB.out.size)
      have hkf := (HF.out.below (bw.mono hB)).kinds hfm
      obtain ⟨b1, o1, hA1, hb1, g1⟩ := hc (Nat.lt_of_le_of_lt (Nat.zero_le _) hlt)
      subst hA1
      have hg := (g1 k f hx).below (bw.mono hB) hb1
      have HX := Lib.hid hx
      have HOK := Lib.hid hok
      have HBW2 := Lib.hid bw
      have HKF := Lib.hid hkf
      have hbL : b1 < wo.heap.size := Nat.lt_of_lt_of_le hb1 (Nat.le_trans hB bw.size)
      obtain ⟨b2, o2, hA2, hb2, g2⟩ := hop (by rw [← hl2.out]; exact h0)
      subst hA2
      have h2L : b2 < wo.heap.size := Nat.lt_of_lt_of_le hb2 (Nat.le_trans hB bw.size)
      have c0 : wo.cell? ⟨b2, o2, none⟩ = some (.int .u8 ((l[0]?.getD 0).toNat : Int)) := (bw.mono hB |>.cell (p := ⟨b2, o2, none⟩) hb2).trans (g2 0 (by rw [← hl2.out]; exact h0))
      obtain ⟨nm, q, kv, ks⟩ := f
      obtain ⟨A3, n3, c3, e3, hl3, hn3, _⟩ := hkf.opens
      dsimp only at e3
      subst e3
      obtain ⟨d1, d2, d3⟩ := hg
      dsimp only at d1 d2 d3
      obtain ⟨b0, hb0⟩ : ∃ b0 : Nat, b0 = (l[0]?.getD 0).toNat := ⟨_, rfl⟩
      rw [← hb0] at c0
      have hn2 : 0 < n2 := by rw [← hl2.out]; exact h0
      clear g1 g2 bw hx hok hkf hVb hVs hbox hV hb1 hb2 hc hop hfm
      go_wp2_with fail
      have hV1 := one_more wo (.cells #[.string nm, .int .i64 q, .slice A3 n3 c3] 37)
      have r0 := box3_0 wo (.string nm) (.int .i64 q) (.slice A3 n3 c3) 37
      have c1 := cell_below c0 hV1
      have hwV := HBW2.out.trans (hV1.mono HBW2.out.size)
      have hRL : wo.heap.size < (wo.alloc (.cells #[.string nm, .int .i64 q, .slice A3 n3 c3] 37)).heap.size := by simp
      have HB1 : B ≤ (wo.alloc (.cells #[.string nm, .int .i64 q, .slice A3 n3 c3] 37)).heap.size := Nat.le_trans hB hwV.size
      have KF1 := Lib.hid (HKF.out.below (hV1.mono (Nat.le_trans hB HBW2.out.size)))
      have HWV := Lib.hid hwV
      have HV1 := Lib.hid hV1
      obtain ⟨V1, hV1e⟩ : ∃ V1, V1 = wo.alloc (.cells #[.string nm, .int .i64 q, .slice A3 n3 c3] 37) := ⟨_, rfl⟩
      rw [← hV1e] at r0 c1 HWV hRL HB1 KF1 HV1 ⊢
      have R0 := Lib.hid r0
      have C1 := Lib.hid c1
      have h2V : b2 < V1.heap.size := block_lt_of_cell c1
      clear hV1 hwV hV1e d1 d2 d3 c0
      have hnz : ((n2 : Int) == 0) = false := by simp; omega
      obtain ⟨sz, hsz⟩ : ∃ sz, sz = sizeOf ks := ⟨_, rfl⟩
      obtain ⟨p0, p1, p2⟩ := r0
      have HB0 := Lib.hid hb0
      have hb8 : b0 < 256 := by rw [hb0]; exact u8_lt _
      have hw0 : IntKind.i64.wrap (b0 : Int) = (b0 : Int) := IntWalk.i64_in _ (by omega)
      have HB8 := Lib.hid hb8
      clear hb0 hb8
      by_cases hq : q = (b0 : Int)
      · subst hq
        have hqn : ((b0 : Int) != (b0 : Int)) = false := by simp
        have HSZ := Lib.hid hsz
        clear hsz
        have SW := Lib.hid (fun (h : n2 < sz) => (show ((n2 : Int) < (sz : Int)) by omega))
        go_region_held3 (fun W' => (W'.cell? ⟨wo.heap.size, 0, none⟩ = some (.string nm) ∧ W'.cell? ⟨wo.heap.size, 1, none⟩ = some (.int .i64 (b0 : Int)) ∧ W'.cell? ⟨wo.heap.size, 2, none⟩ = some (.slice A3 n3 c3)) ∧ W'.cell? ⟨b2, o2, none⟩ = some (.int .u8 (b0 : Int))) (first | exact ⟨⟨p0, p1, p2⟩, c1⟩ | exact hS2) (first | (go_at_call 17; rw [show wo.heap.size = wo.heap.size from rfl]; refine (formSize_any B nm (b0 : Int) (.slice A3 n3 c3) ks _ (KF1.out.below (Below.refl _ _).drew) HB1).mono ?_; rintro e W2 ⟨rfl, hb2⟩; have e9 := (Below.refl V1.heap.size V1).drew.trans hb2; have hS2 := held_form1 e9 hRL h2V p0 p1 p2 c1; clear hb2))
        clear SW
        obtain ⟨⟨p0, p1, p2⟩, c1⟩ := hS2
        have hW2 := HV1.out.trans (e9.mono HV1.out.size)
        have hb2W := HBW.out.trans (hW2.mono HBW.out.size)
        by_cases hs : n2 < sizeOf ks
        · go_wp2_with fail
          have hno2 : ∀ j f xs, j < k + 1 → ¬ GoodAt fs l j f xs := fun j f xs hj hg => by
            rcases Nat.lt_succ_iff_lt_or_eq.1 hj with h1 | rfl
            · exact HNO.out j f xs h1 hg
            · obtain ⟨_, g2, g3, _⟩ := hg
              rw [HX.out] at g2
              injection g2 with g2
              subst g2
              rw [HL2.out] at g3
              exact absurd g3 (Nat.not_le.2 hs)
          have HR := Lib.hid (dec_round hlt (by have := HN48.out; omega))
          first | rw [HR.out.1] | rw [show (k : Int) + 1 = ((k + 1 : Nat) : Int) from rfl]
          exact ⟨⟨k + 1, hlt, rfl, Lib.hid hno2, Lib.hid hb2W⟩, HR.out.2⟩
        · have hV2b := one_more W2 (.cells #[.int .i64 (k : Int), .slice none 0 0] 25)
          have tx : Two (W2.alloc (.cells #[.int .i64 (k : Int), .slice none 0 0] 25)) W2.heap.size (.int .i64 (k : Int)) (.slice none 0 0) := Two.new _ _ _ _
          have HBW2' := HBW2.out.trans (hW2.mono HBW2.out.size)
          have hBW2s : B ≤ W2.heap.size := Nat.le_trans hB HBW2'.size
          have KF2 := Lib.hid ((KF1.out.below (e9.mono HB1)).below (hV2b.mono hBW2s))
          have x2 := cell_below p2 hV2b
          have x1 := cell_below p1 hV2b
          have x0 := cell_below p0 hV2b
          have xc := cell_below c1 hV2b
          have HLV := Lib.hid (HL.out.below ((HBW2'.trans (hV2b.mono HBW2'.size)).mono hB))
          have HFV := Lib.hid (HF.out.below ((HBW2'.trans (hV2b.mono HBW2'.size)).mono hB))
          have HP0 := Lib.hid p0
          have HP1 := Lib.hid p1
          have HP2 := Lib.hid p2
          have HC1 := Lib.hid c1
          have KFW := Lib.hid (KF1.out.below (e9.mono HB1))
          have HLW := Lib.hid (HL.out.below (HBW2'.mono hB))
          have HFW := Lib.hid (HF.out.below (HBW2'.mono hB))
          have HX0 := Lib.hid x0
          have HX1 := Lib.hid x1
          have HX2 := Lib.hid x2
          have HXC := Lib.hid xc
          have HTX := Lib.hid tx
          have HW2B := Lib.hid hb2W
          have HWW := Lib.hid HBW2'
          have HBS := Lib.hid hBW2s
          have HNS := Lib.hid (show sizeOf ks ≤ n2 from Nat.not_lt.1 hs)
          have HV2 := Lib.hid hV2b
          obtain ⟨V2, hV2e⟩ : ∃ V2, V2 = W2.alloc (.cells #[.int .i64 (k : Int), .slice none 0 0] 25) := ⟨_, rfl⟩
          clear hW2 hb2W hV2b tx HBW2' hBW2s x1 x0 xc p0 p1 p2 c1 e9
          go_wp2_with fail
          rw [← hV2e] at HX0 HX1 HX2 HXC HTX HV2 x2 KF2 HLV HFV ⊢
          have hz7 := block_lt_of_cell x2
          clear hV2e hs
          have h4 : ks.length ≤ 4 := HOK.out.short
          have hkn : Known ks := HOK.out.known
          have H4 := Lib.hid h4
          have HKN := Lib.hid hkn
          have HL3 : Hid (ks.length = n3) := Lib.hid hl3.out
          have hn34 : n3 ≤ 4 := by rw [← HL3.out]; exact h4
          have HN34 := Lib.hid hn34
          clear h4 hkn hl3 hn3 hn34
          go_loopw [9, 10] (fun hv i w9 => ∃ j r : Nat, j ≤ n3 ∧ i = .int .i64 (j : Int) ∧ hv = .int .i64 (r : Int) ∧ Hid (r = regs (ks.take j)) ∧ V2 = w9) (fun _ i _ => n3 - (intOf i).toNat)
          case atStart => exact ⟨0, 0, Nat.zero_le _, rfl, rfl, Lib.hid rfl, rfl⟩
          case round =>
            obtain ⟨j, r, hj, rfl, rfl, HR, rfl⟩ := hrel
            by_cases hlt2 : j < n3
            · obtain ⟨b3, o3, hA3, hb3, g3⟩ := kinds_at_cell KF2.out hlt2
              subst hA3
              have hz3 := block_lt_of_cell g3
              obtain ⟨kj, hkj⟩ : ∃ kj, kj = ks[j]?.getD 0 := ⟨_, rfl⟩
              rw [← hkj] at g3
              have hjk : j < ks.length := by rw [HL3.out]; exact hlt2
              have hrs := regs_succ hjk
              rw [← hkj] at hrs
              have hkk := known_at HKN.out hjk
              rw [← hkj] at hkk
              have HRR := Lib.hid (dec_round hlt2 (by have := HN34.out; omega))
              by_cases h2 : kj ≤ 2
              · have hr1 : regsOf kj = 1 := regsOf_reg (by unfold isReg; rcases (show kj = 1 ∨ kj = 2 by omega) with rfl | rfl <;> rfl)
                have hr4 : r ≤ 4 := by rw [HR.out]; exact Nat.le_trans (regs_take_le _ _) (Nat.le_trans (regs_le ks) H4.out)
                have HWR := Lib.hid (int_succ (r := r) (by omega))
                have HR1 := Lib.hid (show r + 1 = regs (ks.take (j + 1)) by rw [hrs, hr1, HR.out])
                clear hrs hr1 hkj hkk hjk hj hb3 hr4
                go_wp2_with fail
                first | rw [HRR.out.1] | rw [show (j : Int) + 1 = ((j + 1 : Nat) : Int) from rfl]
                exact ⟨⟨j + 1, r + 1, hlt2, rfl, HWR.out, HR1, trivial⟩, HRR.out.2⟩
              · have hr1 : regsOf kj = 0 := regsOf_num (by unfold isReg; rcases (show kj = 3 ∨ kj = 4 ∨ kj = 5 ∨ kj = 6 by omega) with rfl | rfl | rfl | rfl <;> rfl)
                have HR1 := Lib.hid (show r = regs (ks.take (j + 1)) by rw [hrs, hr1, HR.out]; rfl)
                clear hrs hr1 hkj hkk hjk hj hb3
                go_wp2_with fail
                first | rw [HRR.out.1] | rw [show (j : Int) + 1 = ((j + 1 : Nat) : Int) from rfl]
                exact ⟨⟨j + 1, r, hlt2, rfl, rfl, HR1, trivial⟩, HRR.out.2⟩
            · have hj3 : n3 = j := Nat.le_antisymm (Nat.not_lt.1 hlt2) hj
              subst hj3
              have hr4 : r ≤ 4 := by rw [HR.out]; exact Nat.le_trans (regs_take_le _ _) (Nat.le_trans (regs_le ks) H4.out)
              have HRK := Lib.hid (show r = regs ks by rw [HR.out, List.take_of_length_le (by rw [HL3.out]; exact Nat.le_refl _)])
              go_wp2_with fail
              have HQ0 := Lib.hid (show Value.int .i64 (1 + (r : Int) / 2 + (r : Int) % 2) = Value.int .i64 ((numAt ks 0 : Nat) : Int) by congr 1; unfold numAt; rw [← HRK.out]; simp [widths]; omega)
              clear hr4 hlt2 hj x2 hz7
              have HV2S := Lib.hid (show W2.heap.size < V2.heap.size from HTX.out.lt)
              go_loopw [11, 12, 13] (fun pv qv i w3 => ∃ j p q : Nat, ∃ av, j ≤ n3 ∧ i = .int .i64 (j : Int) ∧ pv = .int .i64 (p : Int) ∧ qv = .int .i64 (q : Int) ∧ Hid (p = regAt ks j ∧ q = numAt ks j) ∧ Hid (w3.ownsRow V2.heap.size 3 1 av j (iv ((getL ks l).take j))) ∧ Hid (Two w3 W2.heap.size (.int .i64 (k : Int)) av) ∧ Hid (Below W2.heap.size W2 w3) ∧ Hid (V2.heap.size ≤ w3.heap.size)) (fun _ _ i _ => n3 - (intOf i).toNat)
              case atStart =>
                refine ⟨0, 0, numAt ks 0, .slice none 0 0, Nat.zero_le _, rfl, rfl, HQ0.out, Lib.hid ⟨by unfold regAt; rfl, rfl⟩, Lib.hid ?_, HTX, HV2, Lib.hid (Nat.le_refl _)⟩
                rw [List.take_zero]
                exact ⟨rfl, .inl ⟨rfl, rfl⟩⟩
              case round =>
                obtain ⟨j, p, q, av, hj, rfl, rfl, rfl, HPQ, HROW, HTW, HBW3, HSZ3⟩ := hrel
                have yf2 := cell_below HP2.out HBW3.out
                have hz7 := block_lt_of_cell yf2
                obtain ⟨t0, t1, t2, t3⟩ := HTW.out
                have hzx := block_lt_of_cell t0
                by_cases hlt2 : j < n3
                · obtain ⟨b3, o3, hA3, hb3, g3⟩ := kinds_at_cell (KFW.out.below (HBW3.out.mono HBS.out)) hlt2
                  subst hA3
                  have hz3 := block_lt_of_cell g3
                  have hjk : j < ks.length := by rw [HL3.out]; exact hlt2
                  have hkk := known_at HKN.out hjk
                  have HGN := Lib.hid (getL_next (l := l) hjk)
                  obtain ⟨kj, hkj⟩ : ∃ kj, kj = ks[j]?.getD 0 := ⟨_, rfl⟩
                  rw [← hkj] at g3 hkk
                  have HLR := Lib.hid (HLW.out.below (HBW3.out.mono HBS.out))
                  have HRR := Lib.hid (dec_round hlt2 (Nat.le_trans HN34.out (by decide)))
                  have HBD := Lib.hid (row_room hlt2 HN34.out)
                  have HKJ := Lib.hid hkj
                  clear hkj hb3
                  have hk6 := known_cases hkk
                  clear hkk
                  rcases hk6 with rfl | rfl | rfl | rfl | rfl | rfl
                  · have hrf := reg_facts hjk (by rfl) HKJ.out HPQ.out.1 HNS.out
                    rcases reg_small HPQ.out.1 hlt2 HN34.out with rfl | rfl | rfl | rfl
                    · have gb := bytes_cell_at (P := 1) HLR.out hrf
                      obtain ⟨y, hy⟩ : ∃ y, y = (l[1]?.getD 0).toNat := ⟨_, rfl⟩
                      rw [← hy] at gb
                      have hw0 := (byte_facts hy).1
                      have hPi : (1 : Int) < (n2 : Int) := small_int hrf
                      have HY := Lib.hid hy
                      clear hy hrf
                      go_wp2_with (at_builtin; refine wpList_append_own_at _ rfl (.tmp 162) (.tmp 164) 23 rfl V2.heap.size 3 i0 _ 1 8 Try.underlying23 hi0 hz0 hz1 hz2' (by rfl) (by decide) av j _ rfl (HROW.out.alloc _) ⟨wr.heap.size, 0, none⟩ 1 1 _ rfl rfl (lit_cell _ _ _) (by simp [Value.oneCell']) HBD.out.1 HBD.out.2 (Nat.le_trans HSZ3.out (by simp)) ?_; intro v' w4 hrow hg hnil hat; obtain ⟨A8, c8, rfl⟩ := row_is hrow; have tw := two_row HTW.out hg (fun r h => Nat.ne_of_lt (Nat.lt_of_lt_of_le HV2S.out (HROW.out.lt r h).1)); obtain ⟨s0, s1, s2, s3⟩ := tw; have hzx2 := block_lt_of_cell s0)
                      have hX := x_even (by rfl) HKJ.out HPQ.out.1 (by decide) HY.out
                      rw [hX, HGN.out] at hrow
                      obtain ⟨e1, e2, e3, e4⟩ := dec_store HROW.out hrow hg ⟨s0, s1, s2, s3⟩ HV2S.out HBW3.out HBW3.out.size HSZ3.out
                      first | rw [HRR.out.1] | rw [show (j : Int) + 1 = ((j + 1 : Nat) : Int) from rfl]
                      exact ⟨⟨j + 1, 1, q, _, hlt2, rfl, rfl, rfl, Lib.hid (step_regs hjk (by rfl) HKJ.out HPQ.out), Lib.hid e1, Lib.hid e2, Lib.hid e3, Lib.hid e4⟩, HRR.out.2⟩
                    · have gb := bytes_cell_at (P := 1) HLR.out hrf
                      obtain ⟨y, hy⟩ : ∃ y, y = (l[1]?.getD 0).toNat := ⟨_, rfl⟩
                      rw [← hy] at gb
                      have hw0 := (byte_facts hy).1
                      have hPi : (1 : Int) < (n2 : Int) := small_int hrf
                      have HY := Lib.hid hy
                      clear hy hrf
                      go_wp2_with (at_builtin; refine wpList_append_own_at _ rfl (.tmp 162) (.tmp 164) 23 rfl V2.heap.size 3 i0 _ 1 8 Try.underlying23 hi0 hz0 hz1 hz2' (by rfl) (by decide) av j _ rfl (HROW.out.alloc _) ⟨wr.heap.size, 0, none⟩ 1 1 _ rfl rfl (lit_cell _ _ _) (by simp [Value.oneCell']) HBD.out.1 HBD.out.2 (Nat.le_trans HSZ3.out (by simp)) ?_; intro v' w4 hrow hg hnil hat; obtain ⟨A8, c8, rfl⟩ := row_is hrow; have tw := two_row HTW.out hg (fun r h => Nat.ne_of_lt (Nat.lt_of_lt_of_le HV2S.out (HROW.out.lt r h).1)); obtain ⟨s0, s1, s2, s3⟩ := tw; have hzx2 := block_lt_of_cell s0)
                      have hX := x_odd (by rfl) HKJ.out HPQ.out.1 (by decide) HY.out
                      rw [hX, HGN.out] at hrow
                      obtain ⟨e1, e2, e3, e4⟩ := dec_store HROW.out hrow hg ⟨s0, s1, s2, s3⟩ HV2S.out HBW3.out HBW3.out.size HSZ3.out
                      first | rw [HRR.out.1] | rw [show (j : Int) + 1 = ((j + 1 : Nat) : Int) from rfl]
                      exact ⟨⟨j + 1, 2, q, _, hlt2, rfl, rfl, rfl, Lib.hid (step_regs hjk (by rfl) HKJ.out HPQ.out), Lib.hid e1, Lib.hid e2, Lib.hid e3, Lib.hid e4⟩, HRR.out.2⟩
                    · have gb := bytes_cell_at (P := 2) HLR.out hrf
                      obtain ⟨y, hy⟩ : ∃ y, y = (l[2]?.getD 0).toNat := ⟨_, rfl⟩
                      rw [← hy] at gb
                      have hw0 := (byte_facts hy).1
                      have hPi : (2 : Int) < (n2 : Int) := small_int hrf
                      have HY := Lib.hid hy
                      clear hy hrf
                      go_wp2_with (at_builtin; refine wpList_append_own_at _ rfl (.tmp 162) (.tmp 164) 23 rfl V2.heap.size 3 i0 _ 1 8 Try.underlying23 hi0 hz0 hz1 hz2' (by rfl) (by decide) av j _ rfl (HROW.out.alloc _) ⟨wr.heap.size, 0, none⟩ 1 1 _ rfl rfl (lit_cell _ _ _) (by simp [Value.oneCell']) HBD.out.1 HBD.out.2 (Nat.le_trans HSZ3.out (by simp)) ?_; intro v' w4 hrow hg hnil hat; obtain ⟨A8, c8, rfl⟩ := row_is hrow; have tw := two_row HTW.out hg (fun r h => Nat.ne_of_lt (Nat.lt_of_lt_of_le HV2S.out (HROW.out.lt r h).1)); obtain ⟨s0, s1, s2, s3⟩ := tw; have hzx2 := block_lt_of_cell s0)
                      have hX := x_even (by rfl) HKJ.out HPQ.out.1 (by decide) HY.out
                      rw [hX, HGN.out] at hrow
                      obtain ⟨e1, e2, e3, e4⟩ := dec_store HROW.out hrow hg ⟨s0, s1, s2, s3⟩ HV2S.out HBW3.out HBW3.out.size HSZ3.out
                      first | rw [HRR.out.1] | rw [show (j : Int) + 1 = ((j + 1 : Nat) : Int) from rfl]
                      exact ⟨⟨j + 1, 3, q, _, hlt2, rfl, rfl, rfl, Lib.hid (step_regs hjk (by rfl) HKJ.out HPQ.out), Lib.hid e1, Lib.hid e2, Lib.hid e3, Lib.hid e4⟩, HRR.out.2⟩
                    · have gb := bytes_cell_at (P := 2) HLR.out hrf
                      obtain ⟨y, hy⟩ : ∃ y, y = (l[2]?.getD 0).toNat := ⟨_, rfl⟩
                      rw [← hy] at gb
                      have hw0 := (byte_facts hy).1
                      have hPi : (2 : Int) < (n2 : Int) := small_int hrf
                      have HY := Lib.hid hy
                      clear hy hrf
                      go_wp2_with (at_builtin; refine wpList_append_own_at _ rfl (.tmp 162) (.tmp 164) 23 rfl V2.heap.size 3 i0 _ 1 8 Try.underlying23 hi0 hz0 hz1 hz2' (by rfl) (by decide) av j _ rfl (HROW.out.alloc _) ⟨wr.heap.size, 0, none⟩ 1 1 _ rfl rfl (lit_cell _ _ _) (by simp [Value.oneCell']) HBD.out.1 HBD.out.2 (Nat.le_trans HSZ3.out (by simp)) ?_; intro v' w4 hrow hg hnil hat; obtain ⟨A8, c8, rfl⟩ := row_is hrow; have tw := two_row HTW.out hg (fun r h => Nat.ne_of_lt (Nat.lt_of_lt_of_le HV2S.out (HROW.out.lt r h).1)); obtain ⟨s0, s1, s2, s3⟩ := tw; have hzx2 := block_lt_of_cell s0)
                      have hX := x_odd (by rfl) HKJ.out HPQ.out.1 (by decide) HY.out
                      rw [hX, HGN.out] at hrow
                      obtain ⟨e1, e2, e3, e4⟩ := dec_store HROW.out hrow hg ⟨s0, s1, s2, s3⟩ HV2S.out HBW3.out HBW3.out.size HSZ3.out
                      first | rw [HRR.out.1] | rw [show (j : Int) + 1 = ((j + 1 : Nat) : Int) from rfl]
                      exact ⟨⟨j + 1, 4, q, _, hlt2, rfl, rfl, rfl, Lib.hid (step_regs hjk (by rfl) HKJ.out HPQ.out), Lib.hid e1, Lib.hid e2, Lib.hid e3, Lib.hid e4⟩, HRR.out.2⟩
                  · have hrf := reg_facts hjk (by rfl) HKJ.out HPQ.out.1 HNS.out
                    rcases reg_small HPQ.out.1 hlt2 HN34.out with rfl | rfl | rfl | rfl
                    · have gb := bytes_cell_at (P := 1) HLR.out hrf
                      obtain ⟨y, hy⟩ : ∃ y, y = (l[1]?.getD 0).toNat := ⟨_, rfl⟩
                      rw [← hy] at gb
                      have hw0 := (byte_facts hy).1
                      have hPi : (1 : Int) < (n2 : Int) := small_int hrf
                      have HY := Lib.hid hy
                      clear hy hrf
                      go_wp2_with (at_builtin; refine wpList_append_own_at _ rfl (.tmp 162) (.tmp 164) 23 rfl V2.heap.size 3 i0 _ 1 8 Try.underlying23 hi0 hz0 hz1 hz2' (by rfl) (by decide) av j _ rfl (HROW.out.alloc _) ⟨wr.heap.size, 0, none⟩ 1 1 _ rfl rfl (lit_cell _ _ _) (by simp [Value.oneCell']) HBD.out.1 HBD.out.2 (Nat.le_trans HSZ3.out (by simp)) ?_; intro v' w4 hrow hg hnil hat; obtain ⟨A8, c8, rfl⟩ := row_is hrow; have tw := two_row HTW.out hg (fun r h => Nat.ne_of_lt (Nat.lt_of_lt_of_le HV2S.out (HROW.out.lt r h).1)); obtain ⟨s0, s1, s2, s3⟩ := tw; have hzx2 := block_lt_of_cell s0)
                      have hX := x_even (by rfl) HKJ.out HPQ.out.1 (by decide) HY.out
                      rw [hX, HGN.out] at hrow
                      obtain ⟨e1, e2, e3, e4⟩ := dec_store HROW.out hrow hg ⟨s0, s1, s2, s3⟩ HV2S.out HBW3.out HBW3.out.size HSZ3.out
                      first | rw [HRR.out.1] | rw [show (j : Int) + 1 = ((j + 1 : Nat) : Int) from rfl]
                      exact ⟨⟨j + 1, 1, q, _, hlt2, rfl, rfl, rfl, Lib.hid (step_regs hjk (by rfl) HKJ.out HPQ.out), Lib.hid e1, Lib.hid e2, Lib.hid e3, Lib.hid e4⟩, HRR.out.2⟩
                    · have gb := bytes_cell_at (P := 1) HLR.out hrf
                      obtain ⟨y, hy⟩ : ∃ y, y = (l[1]?.getD 0).toNat := ⟨_, rfl⟩
                      rw [← hy] at gb
                      have hw0 := (byte_facts hy).1
                      have hPi : (1 : Int) < (n2 : Int) := small_int hrf
                      have HY := Lib.hid hy
                      clear hy hrf
                      go_wp2_with (at_builtin; refine wpList_append_own_at _ rfl (.tmp 162) (.tmp 164) 23 rfl V2.heap.size 3 i0 _ 1 8 Try.underlying23 hi0 hz0 hz1 hz2' (by rfl) (by decide) av j _ rfl (HROW.out.alloc _) ⟨wr.heap.size, 0, none⟩ 1 1 _ rfl rfl (lit_cell _ _ _) (by simp [Value.oneCell']) HBD.out.1 HBD.out.2 (Nat.le_trans HSZ3.out (by simp)) ?_; intro v' w4 hrow hg hnil hat; obtain ⟨A8, c8, rfl⟩ := row_is hrow; have tw := two_row HTW.out hg (fun r h => Nat.ne_of_lt (Nat.lt_of_lt_of_le HV2S.out (HROW.out.lt r h).1)); obtain ⟨s0, s1, s2, s3⟩ := tw; have hzx2 := block_lt_of_cell s0)
                      have hX := x_odd (by rfl) HKJ.out HPQ.out.1 (by decide) HY.out
                      rw [hX, HGN.out] at hrow
                      obtain ⟨e1, e2, e3, e4⟩ := dec_store HROW.out hrow hg ⟨s0, s1, s2, s3⟩ HV2S.out HBW3.out HBW3.out.size HSZ3.out
                      first | rw [HRR.out.1] | rw [show (j : Int) + 1 = ((j + 1 : Nat) : Int) from rfl]
                      exact ⟨⟨j + 1, 2, q, _, hlt2, rfl, rfl, rfl, Lib.hid (step_regs hjk (by rfl) HKJ.out HPQ.out), Lib.hid e1, Lib.hid e2, Lib.hid e3, Lib.hid e4⟩, HRR.out.2⟩
                    · have gb := bytes_cell_at (P := 2) HLR.out hrf
                      obtain ⟨y, hy⟩ : ∃ y, y = (l[2]?.getD 0).toNat := ⟨_, rfl⟩
                      rw [← hy] at gb
                      have hw0 := (byte_facts hy).1
                      have hPi : (2 : Int) < (n2 : Int) := small_int hrf
                      have HY := Lib.hid hy
                      clear hy hrf
                      go_wp2_with (at_builtin; refine wpList_append_own_at _ rfl (.tmp 162) (.tmp 164) 23 rfl V2.heap.size 3 i0 _ 1 8 Try.underlying23 hi0 hz0 hz1 hz2' (by rfl) (by decide) av j _ rfl (HROW.out.alloc _) ⟨wr.heap.size, 0, none⟩ 1 1 _ rfl rfl (lit_cell _ _ _) (by simp [Value.oneCell']) HBD.out.1 HBD.out.2 (Nat.le_trans HSZ3.out (by simp)) ?_; intro v' w4 hrow hg hnil hat; obtain ⟨A8, c8, rfl⟩ := row_is hrow; have tw := two_row HTW.out hg (fun r h => Nat.ne_of_lt (Nat.lt_of_lt_of_le HV2S.out (HROW.out.lt r h).1)); obtain ⟨s0, s1, s2, s3⟩ := tw; have hzx2 := block_lt_of_cell s0)
                      have hX := x_even (by rfl) HKJ.out HPQ.out.1 (by decide) HY.out
                      rw [hX, HGN.out] at hrow
                      obtain ⟨e1, e2, e3, e4⟩ := dec_store HROW.out hrow hg ⟨s0, s1, s2, s3⟩ HV2S.out HBW3.out HBW3.out.size HSZ3.out
                      first | rw [HRR.out.1] | rw [show (j : Int) + 1 = ((j + 1 : Nat) : Int) from rfl]
                      exact ⟨⟨j + 1, 3, q, _, hlt2, rfl, rfl, rfl, Lib.hid (step_regs hjk (by rfl) HKJ.out HPQ.out), Lib.hid e1, Lib.hid e2, Lib.hid e3, Lib.hid e4⟩, HRR.out.2⟩
                    · have gb := bytes_cell_at (P := 2) HLR.out hrf
                      obtain ⟨y, hy⟩ : ∃ y, y = (l[2]?.getD 0).toNat := ⟨_, rfl⟩
                      rw [← hy] at gb
                      have hw0 := (byte_facts hy).1
                      have hPi : (2 : Int) < (n2 : Int) := small_int hrf
                      have HY := Lib.hid hy
                      clear hy hrf
                      go_wp2_with (at_builtin; refine wpList_append_own_at _ rfl (.tmp 162) (.tmp 164) 23 rfl V2.heap.size 3 i0 _ 1 8 Try.underlying23 hi0 hz0 hz1 hz2' (by rfl) (by decide) av j _ rfl (HROW.out.alloc _) ⟨wr.heap.size, 0, none⟩ 1 1 _ rfl rfl (lit_cell _ _ _) (by simp [Value.oneCell']) HBD.out.1 HBD.out.2 (Nat.le_trans HSZ3.out (by simp)) ?_; intro v' w4 hrow hg hnil hat; obtain ⟨A8, c8, rfl⟩ := row_is hrow; have tw := two_row HTW.out hg (fun r h => Nat.ne_of_lt (Nat.lt_of_lt_of_le HV2S.out (HROW.out.lt r h).1)); obtain ⟨s0, s1, s2, s3⟩ := tw; have hzx2 := block_lt_of_cell s0)
                      have hX := x_odd (by rfl) HKJ.out HPQ.out.1 (by decide) HY.out
                      rw [hX, HGN.out] at hrow
                      obtain ⟨e1, e2, e3, e4⟩ := dec_store HROW.out hrow hg ⟨s0, s1, s2, s3⟩ HV2S.out HBW3.out HBW3.out.size HSZ3.out
                      first | rw [HRR.out.1] | rw [show (j : Int) + 1 = ((j + 1 : Nat) : Int) from rfl]
                      exact ⟨⟨j + 1, 4, q, _, hlt2, rfl, rfl, rfl, Lib.hid (step_regs hjk (by rfl) HKJ.out HPQ.out), Lib.hid e1, Lib.hid e2, Lib.hid e3, Lib.hid e4⟩, HRR.out.2⟩
                  · obtain ⟨hqW, hq20⟩ := num_facts hjk H4.out (by rfl) (by rfl : widthOf _ = 1) HKJ.out HPQ.out.2 HNS.out
                    have hv0 := (at_lt hqW (by decide)).2
                    have gb0 := bytes_cell_at (P := q) HLR.out (lt_le (t := 0) hqW (by decide))
                    obtain ⟨y0, hy0⟩ : ∃ y, y = (l[q]?.getD 0).toNat := ⟨_, rfl⟩
                    rw [← hy0] at gb0
                    have HY0 := Lib.hid hy0
                    have HQW := Lib.hid (int_plus (q := q) (w := 1) (Nat.le_trans (Nat.add_le_add_right hq20 _) (by decide)))
                    clear hqW hq20 hy0
                    go_wp2_with (at_builtin; refine wpList_append_own_at _ rfl (.tmp 162) (.tmp 164) 23 rfl V2.heap.size 3 i0 _ 1 8 Try.underlying23 hi0 hz0 hz1 hz2' (by rfl) (by decide) av j _ rfl (HROW.out.alloc _) ⟨wr.heap.size, 0, none⟩ 1 1 _ rfl rfl (lit_cell _ _ _) (by simp [Value.oneCell']) HBD.out.1 HBD.out.2 (Nat.le_trans HSZ3.out (by simp)) ?_; intro v' w4 hrow hg hnil hat; obtain ⟨A8, c8, rfl⟩ := row_is hrow; have tw := two_row HTW.out hg (fun r h => Nat.ne_of_lt (Nat.lt_of_lt_of_le HV2S.out (HROW.out.lt r h).1)); obtain ⟨s0, s1, s2, s3⟩ := tw; have hzx2 := block_lt_of_cell s0)
                    have hX := x_byte (by decide) HKJ.out HPQ.out.2 HY0.out
                    rw [hX, HGN.out] at hrow
                    obtain ⟨e1, e2, e3, e4⟩ := dec_store HROW.out hrow hg ⟨s0, s1, s2, s3⟩ HV2S.out HBW3.out HBW3.out.size HSZ3.out
                    first | rw [HRR.out.1] | rw [show (j : Int) + 1 = ((j + 1 : Nat) : Int) from rfl]
                    exact ⟨⟨j + 1, p, q + 1, _, hlt2, rfl, rfl, (by first | rfl | exact HQW.out), Lib.hid (step_nums hjk (by rfl) (by rfl) HKJ.out HPQ.out), Lib.hid e1, Lib.hid e2, Lib.hid e3, Lib.hid e4⟩, HRR.out.2⟩
                  · obtain ⟨hqW, hq20⟩ := num_facts hjk H4.out (by rfl) (by rfl : widthOf _ = 4) HKJ.out HPQ.out.2 HNS.out
                    have hv0 := (at_lt hqW (by decide)).2
                    have gb0 := bytes_cell_at (P := q) HLR.out (lt_le (t := 0) hqW (by decide))
                    obtain ⟨y0, hy0⟩ : ∃ y, y = (l[q]?.getD 0).toNat := ⟨_, rfl⟩
                    rw [← hy0] at gb0
                    have HY0 := Lib.hid hy0
                    have gb1 := bytes_cell_at (P := (q + 1)) HLR.out (lt_le (t := 1) hqW (by decide))
                    obtain ⟨y1, hy1⟩ : ∃ y, y = (l[(q + 1)]?.getD 0).toNat := ⟨_, rfl⟩
                    rw [← hy1] at gb1
                    have HY1 := Lib.hid hy1
                    obtain ⟨hs1, ht1, hu1, hv1⟩ := at_one (lt_le (t := 1) hqW (by decide)) hq20
                    have gb2 := bytes_cell_at (P := (q + 2)) HLR.out (lt_le (t := 2) hqW (by decide))
                    obtain ⟨y2, hy2⟩ : ∃ y, y = (l[(q + 2)]?.getD 0).toNat := ⟨_, rfl⟩
                    rw [← hy2] at gb2
                    have HY2 := Lib.hid hy2
                    obtain ⟨hs2, ht2, hu2, hv2⟩ := at_two (lt_le (t := 2) hqW (by decide)) hq20
                    have gb3 := bytes_cell_at (P := (q + 3)) HLR.out (lt_le (t := 3) hqW (by decide))
                    obtain ⟨y3, hy3⟩ : ∃ y, y = (l[(q + 3)]?.getD 0).toNat := ⟨_, rfl⟩
                    rw [← hy3] at gb3
                    have HY3 := Lib.hid hy3
                    obtain ⟨hs3, ht3, hu3, hv3⟩ := at_three (lt_le (t := 3) hqW (by decide)) hq20
                    have HQW := Lib.hid (int_plus (q := q) (w := 4) (Nat.le_trans (Nat.add_le_add_right hq20 _) (by decide)))
                    clear hqW hq20 hy0 hy1 hy2 hy3
                    go_wp2_with fail
                    go_quiet (fail)
                    obtain ⟨wd, hwd⟩ : ∃ wd, wd = wr.drewN nq := ⟨_, rfl⟩
                    have HROWd : Hid (wd.ownsRow V2.heap.size 3 1 av j (iv ((getL ks l).take j))) := by rw [hwd]; exact Lib.hid HROW.out
                    have HTWd : Hid (Two wd W2.heap.size (.int .i64 (k : Int)) av) := by rw [hwd]; exact HTW
                    have HBW3d : Hid (Below W2.heap.size W2 wd) := by rw [hwd]; exact Lib.hid (below_drewN HBW3.out nq)
                    have HSZ3d : Hid (V2.heap.size ≤ wd.heap.size) := by rw [hwd]; exact HSZ3
                    obtain ⟨t0', t1', t2', t3'⟩ := HTWd.out
                    have y2d := cell_drew yf2 hwd
                    have gd0 := cell_drew gb0 hwd
                    have gd1 := cell_drew gb1 hwd
                    have gd2 := cell_drew gb2 hwd
                    have gd3 := cell_drew gb3 hwd
                    have hzxd : W2.heap.size < wd.heap.size := by rw [hwd]; exact hzx
                    rw [← hwd]
                    clear t0 t1 t2 t3 yf2 gb0 gb1 gb2 gb3 hwd
                    go_wp2_with (at_builtin; refine wpList_append_own_at _ rfl (.tmp 162) (.tmp 164) 23 rfl V2.heap.size 3 i0 _ 1 8 Try.underlying23 hi0 hz0 hz1 hz2' (by rfl) (by decide) av j _ rfl (HROWd.out.alloc _) ⟨wd.heap.size, 0, none⟩ 1 1 _ rfl rfl (lit_cell _ _ _) (by simp [Value.oneCell']) HBD.out.1 HBD.out.2 (Nat.le_trans HSZ3d.out (by simp)) ?_; intro v' w4 hrow hg hnil hat; obtain ⟨A8, c8, rfl⟩ := row_is hrow; have tw := two_row HTWd.out hg (fun r h => Nat.ne_of_lt (Nat.lt_of_lt_of_le HV2S.out (HROWd.out.lt r h).1)); obtain ⟨s0, s1, s2, s3⟩ := tw; have hzx2 := block_lt_of_cell s0)
                    have hX := x_word HKJ.out HPQ.out.2 HY0.out HY1.out HY2.out HY3.out
                    rw [hX, HGN.out] at hrow
                    obtain ⟨e1, e2, e3, e4⟩ := dec_store HROWd.out hrow hg ⟨s0, s1, s2, s3⟩ HV2S.out HBW3d.out HBW3d.out.size HSZ3d.out
                    first | rw [HRR.out.1] | rw [show (j : Int) + 1 = ((j + 1 : Nat) : Int) from rfl]
                    exact ⟨⟨j + 1, p, q + 4, _, hlt2, rfl, rfl, (by first | rfl | exact HQW.out), Lib.hid (step_nums hjk (by rfl) (by rfl) HKJ.out HPQ.out), Lib.hid e1, Lib.hid e2, Lib.hid e3, Lib.hid e4⟩, HRR.out.2⟩
                  · obtain ⟨hqW, hq20⟩ := num_facts hjk H4.out (by rfl) (by rfl : widthOf _ = 1) HKJ.out HPQ.out.2 HNS.out
                    have hv0 := (at_lt hqW (by decide)).2
                    have gb0 := bytes_cell_at (P := q) HLR.out (lt_le (t := 0) hqW (by decide))
                    obtain ⟨y0, hy0⟩ : ∃ y, y = (l[q]?.getD 0).toNat := ⟨_, rfl⟩
                    rw [← hy0] at gb0
                    have HY0 := Lib.hid hy0
                    have HQW := Lib.hid (int_plus (q := q) (w := 1) (Nat.le_trans (Nat.add_le_add_right hq20 _) (by decide)))
                    clear hqW hq20 hy0
                    go_wp2_with (at_builtin; refine wpList_append_own_at _ rfl (.tmp 162) (.tmp 164) 23 rfl V2.heap.size 3 i0 _ 1 8 Try.underlying23 hi0 hz0 hz1 hz2' (by rfl) (by decide) av j _ rfl (HROW.out.alloc _) ⟨wr.heap.size, 0, none⟩ 1 1 _ rfl rfl (lit_cell _ _ _) (by simp [Value.oneCell']) HBD.out.1 HBD.out.2 (Nat.le_trans HSZ3.out (by simp)) ?_; intro v' w4 hrow hg hnil hat; obtain ⟨A8, c8, rfl⟩ := row_is hrow; have tw := two_row HTW.out hg (fun r h => Nat.ne_of_lt (Nat.lt_of_lt_of_le HV2S.out (HROW.out.lt r h).1)); obtain ⟨s0, s1, s2, s3⟩ := tw; have hzx2 := block_lt_of_cell s0)
                    have hX := x_byte (by decide) HKJ.out HPQ.out.2 HY0.out
                    rw [hX, HGN.out] at hrow
                    obtain ⟨e1, e2, e3, e4⟩ := dec_store HROW.out hrow hg ⟨s0, s1, s2, s3⟩ HV2S.out HBW3.out HBW3.out.size HSZ3.out
                    first | rw [HRR.out.1] | rw [show (j : Int) + 1 = ((j + 1 : Nat) : Int) from rfl]
                    exact ⟨⟨j + 1, p, q + 1, _, hlt2, rfl, rfl, (by first | rfl | exact HQW.out), Lib.hid (step_nums hjk (by rfl) (by rfl) HKJ.out HPQ.out), Lib.hid e1, Lib.hid e2, Lib.hid e3, Lib.hid e4⟩, HRR.out.2⟩
                  · obtain ⟨hqW, hq20⟩ := num_facts hjk H4.out (by rfl) (by rfl : widthOf _ = 2) HKJ.out HPQ.out.2 HNS.out
                    have hv0 := (at_lt hqW (by decide)).2
                    have gb0 := bytes_cell_at (P := q) HLR.out (lt_le (t := 0) hqW (by decide))
                    obtain ⟨y0, hy0⟩ : ∃ y, y = (l[q]?.getD 0).toNat := ⟨_, rfl⟩
                    rw [← hy0] at gb0
                    have HY0 := Lib.hid hy0
                    have gb1 := bytes_cell_at (P := (q + 1)) HLR.out (lt_le (t := 1) hqW (by decide))
                    obtain ⟨y1, hy1⟩ : ∃ y, y = (l[(q + 1)]?.getD 0).toNat := ⟨_, rfl⟩
                    rw [← hy1] at gb1
                    have HY1 := Lib.hid hy1
                    obtain ⟨hs1, ht1, hu1, hv1⟩ := at_one (lt_le (t := 1) hqW (by decide)) hq20
                    have HQW := Lib.hid (int_plus (q := q) (w := 2) (Nat.le_trans (Nat.add_le_add_right hq20 _) (by decide)))
                    clear hqW hq20 hy0 hy1
                    go_wp2_with fail
                    go_quiet (fail)
                    obtain ⟨wd, hwd⟩ : ∃ wd, wd = wr.drewN nq := ⟨_, rfl⟩
                    have HROWd : Hid (wd.ownsRow V2.heap.size 3 1 av j (iv ((getL ks l).take j))) := by rw [hwd]; exact Lib.hid HROW.out
                    have HTWd : Hid (Two wd W2.heap.size (.int .i64 (k : Int)) av) := by rw [hwd]; exact HTW
                    have HBW3d : Hid (Below W2.heap.size W2 wd) := by rw [hwd]; exact Lib.hid (below_drewN HBW3.out nq)
                    have HSZ3d : Hid (V2.heap.size ≤ wd.heap.size) := by rw [hwd]; exact HSZ3
                    obtain ⟨t0', t1', t2', t3'⟩ := HTWd.out
                    have y2d := cell_drew yf2 hwd
                    have gd0 := cell_drew gb0 hwd
                    have gd1 := cell_drew gb1 hwd
                    have hzxd : W2.heap.size < wd.heap.size := by rw [hwd]; exact hzx
                    rw [← hwd]
                    clear t0 t1 t2 t3 yf2 gb0 gb1 hwd
                    go_wp2_with (at_builtin; refine wpList_append_own_at _ rfl (.tmp 162) (.tmp 164) 23 rfl V2.heap.size 3 i0 _ 1 8 Try.underlying23 hi0 hz0 hz1 hz2' (by rfl) (by decide) av j _ rfl (HROWd.out.alloc _) ⟨wd.heap.size, 0, none⟩ 1 1 _ rfl rfl (lit_cell _ _ _) (by simp [Value.oneCell']) HBD.out.1 HBD.out.2 (Nat.le_trans HSZ3d.out (by simp)) ?_; intro v' w4 hrow hg hnil hat; obtain ⟨A8, c8, rfl⟩ := row_is hrow; have tw := two_row HTWd.out hg (fun r h => Nat.ne_of_lt (Nat.lt_of_lt_of_le HV2S.out (HROWd.out.lt r h).1)); obtain ⟨s0, s1, s2, s3⟩ := tw; have hzx2 := block_lt_of_cell s0)
                    have hX := x_near HKJ.out HPQ.out.2 HY0.out HY1.out
                    rw [hX, HGN.out] at hrow
                    obtain ⟨e1, e2, e3, e4⟩ := dec_store HROWd.out hrow hg ⟨s0, s1, s2, s3⟩ HV2S.out HBW3d.out HBW3d.out.size HSZ3d.out
                    first | rw [HRR.out.1] | rw [show (j : Int) + 1 = ((j + 1 : Nat) : Int) from rfl]
                    exact ⟨⟨j + 1, p, q + 2, _, hlt2, rfl, rfl, (by first | rfl | exact HQW.out), Lib.hid (step_nums hjk (by rfl) (by rfl) HKJ.out HPQ.out), Lib.hid e1, Lib.hid e2, Lib.hid e3, Lib.hid e4⟩, HRR.out.2⟩
                · have hj3' : n3 = j := Nat.le_antisymm (Nat.not_lt.1 hlt2) hj
                  subst hj3'
                  have hgl : (getL ks l).length = n3 := by rw [← HL3.out]; simp [getL]
                  have hrow := HROW.out
                  rw [List.take_of_length_le (by rw [hgl]; exact Nat.le_refl _)] at hrow
                  obtain ⟨A5, c5, rfl⟩ := row_is hrow
                  have hkav := kinds_of_row' hrow (Nat.le_trans HN34.out (by decide))
                  obtain ⟨xs, hxs⟩ : ∃ xs, xs = getL ks l := ⟨_, rfl⟩
                  rw [← hxs] at hrow hkav hgl
                  have hxl : xs.length = ks.length := by rw [hgl, HL3.out]
                  have hBr : B ≤ wr.heap.size := Nat.le_trans HBS.out HBW3.out.size
                  have FW := (HFW.out.below (HBW3.out.mono HBS.out)).more hBr
                  have KW := (KFW.out.below (HBW3.out.mono HBS.out)).more hBr
                  have LW := (HLW.out.below (HBW3.out.mono HBS.out)).more hBr
                  have y0 := cell_below HP0.out HBW3.out
                  have y1 := cell_below HP1.out HBW3.out
                  have KS : Hid (∀ W', Below wr.heap.size wr W' → _) := Lib.hid (fun W' hb' => decd_keep hb' y0 y1 yf2 t0 t1)
                  have IC : Hid (∀ W', Below wr.heap.size wr W' → _) := Lib.hid (fun W' hb' => insFault_any wr.heap.size _ _ fs (k : Int) xs W' (FW.below hb') (hkav.below hb') hb'.size)
                  have LC : Hid (∀ W', Below wr.heap.size wr W' → _) := Lib.hid (fun W' hb' => ((LW.below hb').take HNS.out).more hb'.size)
                  have FC : Hid (∀ W', Below wr.heap.size wr W' → _) := Lib.hid (fun W' hb' => formSize_any wr.heap.size nm (b0 : Int) _ ks W' (KW.below hb') hb'.size)
                  have e1 : insFault fs (k : Int) xs = if 0 ≤ outIdx ks xs then (3, outIdx ks xs) else (0, 0) := by
                    unfold insFault
                    rw [if_neg (by rw [HFS.out]; exact small_not hlt)]
                    simp only [Int.toNat_natCast, HX.out]
                    rw [if_neg (by simpa using hxl)]
                  have hxe := Lib.hid hxs
                  have HXL := Lib.hid hxl
                  have HROW2 := Lib.hid hrow
                  have HRR := Lib.hid (dec_round3 hlt HN48.out)
                  have hcur : Below wr.heap.size wr wr.drew := (Below.refl _ _).drew
                  have KW2 := Lib.hid KW
                  have KAV := Lib.hid hkav
                  have hfd : ∀ (p i : Int) (w : World), (Instr.field 29 (.agg #[.int .i64 p, .int .i64 i]) 0).run Try.prog w = .ok (.int .i64 p) w := fun _ _ _ => by kernel_rfl
                  clear hkav hxs hxl hrow FW KW LW hgl hj hlt2
                  rcases outIdx_cases (ks := ks) (xs := xs) with ho | ho
                  · rw [if_neg (by rw [ho]; decide)] at e1
                    rw [e1] at IC
                    dsimp only [faultV] at IC
                    have CC : Hid (∀ W', Below wr.heap.size wr W' → _) := Lib.hid (fun W' hb' => code_any wr.heap.size nm (b0 : Int) _ _ ks xs W' (KW2.out.below hb') (KAV.out.below hb') hb'.size HXL.out H4.out HKN.out (inside_of_idx HXL.out ho))
                    have HHO := Lib.hid ho
                    have hsz : sizeOf ks = sz := HSZ.out.symm
                    rw [hsz] at FC LC CC
                    have HS20 := Lib.hid (show sz ≤ 140737488351232 from Nat.le_trans (by rw [HSZ.out]; exact sizeOf_le H4.out) (by decide))
                    have HNZ := Lib.hid (dec_slice (sz := sz) (n2 := n2) (c2 := c2) (by rw [HSZ.out]; exact HNS.out) hc2)
                    obtain ⟨bb, hbb⟩ : ∃ bb : Bool, bb = decide (encL (b0 : Int) (ks.zip xs) = l.take sz) := ⟨_, rfl⟩
                    have HBB := Lib.hid hbb
                    obtain ⟨hq1, hq2, hq3⟩ := HNZ.out
                    clear hsz hbb hc2 ho e1 y0 y1
                    go_wp2_with fail
                    go_region_held3 (fun W' => (W'.cell? ⟨wo.heap.size, 0, none⟩ = some (.string nm) ∧ W'.cell? ⟨wo.heap.size, 1, none⟩ = some (.int .i64 (b0 : Int)) ∧ W'.cell? ⟨wo.heap.size, 2, none⟩ = some (.slice A3 n3 c3)) ∧ W'.cell? ⟨W2.heap.size, 0, none⟩ = some (.int .i64 (k : Int)) ∧ W'.cell? ⟨W2.heap.size, 1, none⟩ = some (.slice A5 n3 c5))
                      (first | exact KS.out _ hcur)
                      (first
                        | (go_at_call 9; refine (IC.out _ hcur).mono ?_; rintro e W7 ⟨rfl, hb7⟩; have hcur := hcur.trans (hb7.mono hcur.size))
                        | (go_at_call 11; refine (CC.out _ hcur).mono ?_; rintro e W7 ⟨v7, rfl, hr7, hb7⟩; obtain ⟨A7, c7, rfl⟩ := row_is hr7; have HCD := Lib.hid (code_keep hr7); have hlast := Below.refl W7.heap.size W7; have hcur := hcur.trans (hb7.mono hcur.size))
                        | (go_at_call 17; refine (FC.out _ hcur).mono ?_; rintro e W7 ⟨rfl, hb7⟩; have hlast := hb7; have hcur := hcur.trans (hb7.mono hcur.size))
                        | (go_at_call 10; refine (bytes_any _ _ _ _ _ _ (HCD.out _ hlast HS20.out) (LC.out _ hcur)).mono ?_; rintro e W7 ⟨rfl, rfl⟩; rw [← HBB.out]))
                    all_goals
                      have hfin := HW2B.out.trans ((HBW3.out.trans (hcur.mono HBW3.out.size)).mono HW2B.out.size)
                      cases bb with
                      | true =>
                        have t9 := HBX.out.below hfin
                        have hz9 := t9.lt
                        have hgd : GoodAt fs l k ⟨nm, (b0 : Int), .slice A3 n3 c3, ks⟩ xs := dec_good (f := ⟨nm, (b0 : Int), .slice A3 n3 c3, ks⟩) HT.out HX.out HB0.out (by rw [HL2.out]; exact HNS.out) hxe.out HHO.out (by have h5 := HBB.out; rw [HSZ.out] at h5; exact (of_decide_eq_true h5.symm).symm)
                        have HGD := Lib.hid hgd
                        have HRW := Lib.hid (row_below HROW2.out hcur)
                        have HFN := Lib.hid (HVB.out.trans (hfin.mono HVB.out.size))
                        have HWS := Lib.hid (show w.heap.size < V2.heap.size from Nat.lt_trans (Nat.lt_of_lt_of_le (by rw [HVS.out]; exact Nat.lt_succ_self _) HW2B.out.size) HV2S.out)
                        obtain ⟨x0, x1⟩ := (KS.out _ hcur).2
                        obtain ⟨q0, q1, q2, q3⟩ := t9
                        clear hgd hfin hcur
                        go_wp2_with fail
                        refine bodyPost_ret (v := .tuple #[.agg #[.int .i64 (k : Int), .slice A5 n3 c5], .bool true]) ?_ rfl ⟨.inl ⟨k, _, xs, _, HGD.out, rfl, ?_⟩, (HFN.out.setCell (p := ⟨w.heap.size, 0, none⟩) (Nat.le_refl _) _).setCell (p := ⟨w.heap.size, 1, none⟩) (Nat.le_refl _) _⟩
                        · simp [results, Try.results15, go_sem, q0, q1]
                        · rw [HXL.out, HL3.out]
                          exact dec_rowend HRW.out HWS.out
                      | false =>
                        have hno2 : ∀ j f ys, j < k + 1 → ¬ GoodAt fs l j f ys := dec_no HNO.out HX.out (fun ys hy hi he => by
                          have h5 := HBB.out
                          rw [hy, ← hxe.out] at he
                          rw [HSZ.out] at h5
                          exact absurd he.symm (of_decide_eq_false h5.symm))
                        have HNN2 := Lib.hid hno2
                        have HFN := Lib.hid hfin
                        clear hno2 hfin hcur
                        go_wp2_with fail
                        first | rw [HRR.out.1] | rw [show (k : Int) + 1 = ((k + 1 : Nat) : Int) from rfl]
                        exact ⟨⟨k + 1, hlt, rfl, HNN2, HFN⟩, HRR.out.2⟩
                  · rw [if_pos ho] at e1
                    rw [e1] at IC
                    dsimp only [faultV] at IC
                    have HHO := Lib.hid ho
                    clear ho e1 y0 y1
                    go_wp2_with fail
                    refine wp_region_held (S := (fun W' => (W'.cell? ⟨wo.heap.size, 0, none⟩ = some (.string nm) ∧ W'.cell? ⟨wo.heap.size, 1, none⟩ = some (.int .i64 (b0 : Int)) ∧ W'.cell? ⟨wo.heap.size, 2, none⟩ = some (.slice A3 n3 c3)) ∧ W'.cell? ⟨W2.heap.size, 0, none⟩ = some (.int .i64 (k : Int)) ∧ W'.cell? ⟨W2.heap.size, 1, none⟩ = some (.slice A5 n3 c5))) (by kernel_rfl) ?_
                    have hS := KS.out _ hcur
                    change wpAnyH _ _ _ _ _ _ _ _ wr.drew
                    refine wpAnyH_take (i := 0) (v := ?_) rfl (by kernel_rfl) (by kernel_rfl) (by kernel_rfl) (fun _ _ _ h => h) (Or.inl ⟨by rfl, ?_⟩) hS ?_
                    rotate_left
                    · rintro W' ⟨⟨s0, s1, s2⟩, s3, s4⟩; go_simp; rfl
                    simp [Act.put]
                    refine wpAnyH_take (i := 1) (v := ?_) rfl (by kernel_rfl) (by kernel_rfl) (by kernel_rfl) (fun _ _ _ h => h) (Or.inl ⟨by rfl, ?_⟩) hS ?_
                    rotate_left
                    · rintro W' ⟨⟨s0, s1, s2⟩, s3, s4⟩; go_simp; rfl
                    simp [Act.put]
                    refine wpAnyH_ready (rs := [2]) (by kernel_rfl) (by simp) ?_
                    refine AllReadyH.cons rfl (fun K hK => ?_) AllReadyH.nil
                    go_simp
                    refine (IC.out _ hcur).mono ?_
                    rintro e W7 ⟨rfl, hb7⟩
                    replace hcur := hcur.trans (hb7.mono hcur.size)
                    replace hS := KS.out _ hcur
                    refine hK.out _ _ hS (fun _ => ?_)
                    clear hK K
                    refine wpAnyH_take (i := 3) (v := ?_) rfl (by kernel_rfl) (by kernel_rfl) (by kernel_rfl) (fun _ _ _ h => h) (Or.inl ⟨by rfl, ?_⟩) hS ?_
                    rotate_left
                    · rintro W' ⟨⟨s0, s1, s2⟩, s3, s4⟩; go_simp; rfl
                    simp [Act.put]
                    refine wpAnyH_take (i := 4) (v := ?_) rfl (by kernel_rfl) (by kernel_rfl) (by kernel_rfl) (fun _ _ _ h => h) (Or.inl ⟨by rfl, ?_⟩) hS ?_
                    rotate_left
                    · rintro W' ⟨⟨s0, s1, s2⟩, s3, s4⟩; go_simp; rfl
                    simp [Act.put]
                    refine wpAnyH_take (i := 5) (v := ?_) rfl (by kernel_rfl) (by kernel_rfl) (by kernel_rfl) (fun _ _ _ h => h) (Or.inl ⟨by rfl, ?_⟩) hS ?_
                    rotate_left
                    · rintro W' ⟨⟨s0, s1, s2⟩, s3, s4⟩; go_simp; rfl
                    simp [Act.put]
                    refine wpAnyH_take (i := 6) (v := undef) rfl (by kernel_rfl) (by kernel_rfl) (by kernel_rfl) (fun _ _ _ h => h) (Or.inr ⟨by rfl, rfl⟩) hS ?_
                    simp [Act.put]
                    refine wpAnyH_take (i := 7) (v := undef) rfl (by kernel_rfl) (by kernel_rfl) (by kernel_rfl) (fun _ _ _ h => h) (Or.inr ⟨by rfl, rfl⟩) hS ?_
                    simp [Act.put]
                    refine wpAnyH_take (i := 8) (v := undef) rfl (by kernel_rfl) (by kernel_rfl) (by kernel_rfl) (fun _ _ _ h => h) (Or.inr ⟨by rfl, rfl⟩) hS ?_
                    simp [Act.put]
                    refine wpAnyH_take (i := 9) (v := undef) rfl (by kernel_rfl) (by kernel_rfl) (by kernel_rfl) (fun _ _ _ h => h) (Or.inr ⟨by rfl, rfl⟩) hS ?_
                    simp [Act.put]
                    refine wpAnyH_take (i := 10) (v := undef) rfl (by kernel_rfl) (by kernel_rfl) (by kernel_rfl) (fun _ _ _ h => h) (Or.inr ⟨by rfl, rfl⟩) hS ?_
                    simp [Act.put]
                    refine wpAnyH_take (i := 11) (v := undef) rfl (by kernel_rfl) (by kernel_rfl) (by kernel_rfl) (fun _ _ _ h => h) (Or.inr ⟨by rfl, rfl⟩) hS ?_
                    simp [Act.put]
                    refine wpAnyH_take (i := 12) (v := undef) rfl (by kernel_rfl) (by kernel_rfl) (by kernel_rfl) (fun _ _ _ h => h) (Or.inr ⟨by rfl, rfl⟩) hS ?_
                    simp [Act.put]
                    refine wpAnyH_take (i := 13) (v := undef) rfl (by kernel_rfl) (by kernel_rfl) (by kernel_rfl) (fun _ _ _ h => h) (Or.inr ⟨by rfl, rfl⟩) hS ?_
                    simp [Act.put]
                    refine wpAnyH_take (i := 14) (v := undef) rfl (by kernel_rfl) (by kernel_rfl) (by kernel_rfl) (fun _ _ _ h => h) (Or.inr ⟨by rfl, rfl⟩) hS ?_
                    simp [Act.put]
                    refine wpAnyH_take (i := 15) (v := ?_) rfl (by kernel_rfl) (by kernel_rfl) (by kernel_rfl) (fun _ _ _ h => h) (Or.inl ⟨by rfl, ?_⟩) hS ?_
                    rotate_left
                    · rintro W' ⟨⟨s0, s1, s2⟩, s3, s4⟩; go_simp; rfl
                    simp [Act.put]
                    refine wpAnyH_done (by kernel_rfl) ?_ _
                    have hno2 : ∀ j f ys, j < k + 1 → ¬ GoodAt fs l j f ys := dec_no HNO.out HX.out (fun ys hy hi he => by
                      rw [hy, ← hxe.out] at hi
                      rw [hi] at HHO
                      exact absurd HHO.out (by decide))
                    have HNN2 := Lib.hid hno2
                    have HFN := Lib.hid (HW2B.out.trans ((HBW3.out.trans (hcur.mono HBW3.out.size)).mono HW2B.out.size))
                    clear hno2 hS hcur
                    go_wp2_with fail
                    first | rw [HRR.out.1] | rw [show (k : Int) + 1 = ((k + 1 : Nat) : Int) from rfl]
                    exact ⟨⟨k + 1, hlt, rfl, HNN2, HFN⟩, HRR.out.2⟩

      · have hqn : (q != (b0 : Int)) = true := by simpa using hq
        go_quiet (fail)
        go_wp2_with fail
        have hno2 : ∀ j f xs, j < k + 1 → ¬ GoodAt fs l j f xs := fun j f xs hj hg => by
          rcases Nat.lt_succ_iff_lt_or_eq.1 hj with h1 | rfl
          · exact HNO.out j f xs h1 hg
          · obtain ⟨g1, g2, _⟩ := hg
            obtain ⟨k', f', e1, e2, e3⟩ := idx_some (p := codeB l) (fs := fs) (by rw [g1]; omega)
            rw [g1] at e1
            obtain rfl : k' = j := by omega
            rw [HX.out] at e2
            injection e2 with e2
            subst e2
            exact hq (by rw [HB0.out]; simpa [codeB] using e3)
        have HR := Lib.hid (dec_round hlt (by have := HN48.out; omega))
        first | rw [HR.out.1] | rw [show (k : Int) + 1 = ((k + 1 : Nat) : Int) from rfl]
        exact ⟨⟨k + 1, hlt, rfl, Lib.hid hno2, Lib.hid (below_drewN (HBW.out.trans (HV1.out.mono HBW.out.size)) nq)⟩, HR.out.2⟩
    · obtain rfl : k = n := Nat.le_antisymm hk (Nat.not_lt.1 hlt)
      have hnone : ¬ ∃ k f xs, GoodAt fs l k f xs := fun ⟨j, f, xs, hg⟩ => HNO.out j f xs (by rw [← HFS.out]; exact (List.getElem?_eq_some_iff.1 hg.2.1).1) hg
      have HNN := Lib.hid hnone
      have t1 := HBX.out.below HBW.out
      have hz := t1.lt
      obtain ⟨q0, q1, q2, q3⟩ := t1
      have hbw := HVB.out.trans (HBW.out.mono HVB.out.size)
      have HBb := Lib.hid hbw
      clear hop hc hVb hVs hbox hV hbw hnone
      go_wp2_with fail
      refine bodyPost_ret (v := .tuple #[noIns, .bool false]) ?_ rfl ⟨.inr ⟨HNN.out, rfl⟩, (HBb.out.setCell (p := ⟨w.heap.size, 0, none⟩) (Nat.le_refl _) _).setCell (p := ⟨w.heap.size, 1, none⟩) (Nat.le_refl _) _⟩
      simp [results, Try.results15, go_sem, q0, q1]
end Go.Proofs.Ytianmiipnlkihaa
