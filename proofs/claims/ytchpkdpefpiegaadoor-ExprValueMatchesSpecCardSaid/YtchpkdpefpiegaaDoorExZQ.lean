/- The reference's NodeValue for every kind, and its ExprValue: valueL. -/
import Derived.Test.YtchpkdpefpiegaaDoorExZO
import Derived.Test.YtchpkdpefpiegaaDoorExZP
namespace Go.Proofs.YtchpkdpefpiegaaDoor.Tok
open Go Go.RowKit

theorem nodeValue_any (B : Nat) (v u vv : Value) (ns : List Nd) (l : List Nm) (vs : List Ln) (i : Nat) (x : Nd) (w : World) (h : NdsAt B w v ns) (hu : NmsAt B w u l) (hv : LnsAt B w vv vs) (hB : B ≤ w.heap.size) (hx : ns[i]? = some x)
    (hc : chkL x i = 0) (hlen : vs.length = i) (hok : AllOk vs) (hwf : AllWf vs) (hl : ∀ m ∈ l, chkS m 0 = 0) : Calls Tryd.prog 41 #[v, .int .i64 i, vv, u] w (NvPost x (opA vs x) (opB vs x) l w) := by
  obtain ⟨k1, k14⟩ := chk_known hc
  by_cases h1 : x.kind = 1
  · exact nv_1 B v u vv ns l vs i x w h hu hv hB hx h1 (chk_num hc h1)
  by_cases h2 : x.kind = 2
  · exact nv_2 B v u vv ns l vs i x w h hu hv hB hx h2 hl
  have kids := chk_kids hc
  by_cases h5 : 5 ≤ x.kind
  · have hch := chN_five h5 k14
    obtain ⟨a1, a2⟩ := kids x.left (by rw [hch]; exact List.mem_cons_self ..)
    obtain ⟨b1, b2⟩ := kids x.right (by rw [hch]; exact List.mem_cons_of_mem _ (List.mem_cons_self ..))
    obtain ⟨j, hj⟩ : ∃ j : Nat, x.left = j := ⟨x.left.toNat, by omega⟩
    obtain ⟨j2, hj2⟩ : ∃ j2 : Nat, x.right = j2 := ⟨x.right.toNat, by omega⟩
    obtain ⟨a, ha⟩ : ∃ a, vs[j]? = some a := ⟨_, List.getElem?_eq_getElem (by omega)⟩
    obtain ⟨b, hb⟩ : ∃ b, vs[j2]? = some b := ⟨_, List.getElem?_eq_getElem (by omega)⟩
    have oa := hok a (List.mem_of_getElem? ha)
    have ob := hok b (List.mem_of_getElem? hb)
    have wa := hwf a (List.mem_of_getElem? ha)
    have wb := hwf b (List.mem_of_getElem? hb)
    by_cases e5 : x.kind = 5
    · rcases sumL_code a b with h0 | h0
      · exact nv_5_ok B v u vv ns l vs i x w h hu hv hB hx e5 j j2 hj hj2 a b ha hb oa.1 ob.1 wa wb h0
      · exact nv_5_no B v u vv ns l vs i x w h hu hv hB hx e5 j j2 hj hj2 a b ha hb oa.1 ob.1 wa wb h0
    by_cases e6 : x.kind = 6
    · rcases sumL_code a (negL b) with h0 | h0
      · exact nv_6_ok B v u vv ns l vs i x w h hu hv hB hx e6 j j2 hj hj2 a b ha hb oa.1 ob.1 wa wb h0
      · exact nv_6_no B v u vv ns l vs i x w h hu hv hB hx e6 j j2 hj hj2 a b ha hb oa.1 ob.1 wa wb h0
    exact nv_op B v u vv ns l vs i x w h hu hv hB hx (by omega) k14 j j2 hj hj2 a b ha hb oa.1 ob.1
  · have hch := chN_three (x := x) (by omega) h5
    obtain ⟨a1, a2⟩ := kids x.left (by rw [hch]; exact List.mem_cons_self ..)
    obtain ⟨j, hj⟩ : ∃ j : Nat, x.left = j := ⟨x.left.toNat, by omega⟩
    obtain ⟨a, ha⟩ : ∃ a, vs[j]? = some a := ⟨_, List.getElem?_eq_getElem (by omega)⟩
    have oa := hok a (List.mem_of_getElem? ha)
    have wa := hwf a (List.mem_of_getElem? ha)
    by_cases e3 : x.kind = 3
    · exact nv_3 B v u vv ns l vs i x w h hu hv hB hx e3 j hj a ha oa.1 wa
    · exact nv_4 B v u vv ns l vs i x w h hu hv hB hx (by omega) j hj a ha oa.1
theorem infoLn : (Tryd.prog.info? 40).map (fun i => (i.zero, i.size, i.bytes)) = some (some (.agg #[strV [], strV [], .int .i64 0]), 3, 40) := by kernel_rfl
theorem ln_news2 (W : World) (o : Obj) (x y z : Value) (t : TypeId) : ∀ j u, [x, y, z][j]? = some u → ((W.alloc o).alloc (.cells #[x, y, z] t)).cell? ((⟨W.heap.size + 1, 0, none⟩ : Addr).add j) = some u := by
  have h := World.news_of_block (cs := #[x, y, z]) (t := t) (fr := (0, 0)) (heap_alloc_new (W.alloc o) (.cells #[x, y, z] t))
  rw [World.size_alloc] at h
  exact h
theorem VB.far {w0 w U : World} {row : Option Nat} (h : VB w0 w) (hg : w.grownBy U row) (hr : ∀ r, row = some r → w0.heap.size + 2 ≤ r) : VB w0 U :=
  ⟨(hg.block _ (lt_of_block h.1) (fun e => by have := hr _ e.symm; omega)).trans h.1, (hg.block _ (lt_of_block h.2) (fun e => by have := hr _ e.symm; omega)).trans h.2⟩
set_option maxRecDepth 100000 in
set_option maxHeartbeats 4000000 in
theorem refValue_any (B : Nat) (v u : Value) (ns : List Nd) (l : List Nm) (w : World) (h : NdsAt B w v ns) (hu : NmsAt B w u l) (hB : B ≤ w.heap.size) (hv : validL ns = (0, 0)) (hf : validSymL l = (0, 0)) :
    Calls Tryd.prog 20 #[v, u] w fun e w' => e = .returned (.tuple #[(valueL ns l).1.v, faultV (valueL ns l).2]) ∧ Below w.heap.size w w' := by
  obtain ⟨i0, hi0, hz0, hz1, hz2⟩ := info_parts infoLn
  have HVW := Lib.hid (And.intro (valW_vb w) (valW_below w))
  have H := Lib.hid h
  have HU := Lib.hid hu
  have HVA := Lib.hid (validL_all hv)
  have HSA := Lib.hid (validSymL_all hf)
  obtain ⟨A, n, c, rfl, Hn, -, HT, -⟩ := h.opens
  obtain ⟨A2, n2, c2, rfl, -, -, HT2, -⟩ := hu.opens
  have hn1 : 1 ≤ n := by rw [← Hn.out]; exact HVA.out.1.1
  have hn60 : n ≤ 60 := by rw [← Hn.out]; exact HVA.out.1.2
  have EV := Lib.hid (show valueL ns l = if (runL l [] ns).2 ≠ 0 then (zeroL, ((runL l [] ns).2, ((runL l [] ns).1.length : Int))) else (lastL (runL l [] ns).1, (0, 0)) by
    unfold valueL
    rw [hv, hf, if_neg (by simp), if_neg (by simp)])
  have HB0 := Lib.hid hB
  unfold valW at HVW
  clear h hu hf hv hB
  go_enter Tryd.func20, Tryd.ntmps20
  go_wp2_with fail
  go_loopw [6, 7] (fun u6 u7 wr => ∃ (k : Nat) (vs : List Ln), k ≤ n ∧ u7 = .int .i64 k ∧ Hid (vs.length = k ∧ AllOk vs ∧ AllWf vs ∧ runL l [] ns = runL l vs (ns.drop k)) ∧ Hid (wr.ownsRow (w.heap.size + 2) 40 3 u6 k (lnv vs)) ∧ Hid (VB w wr) ∧ Hid (Below w.heap.size w wr)) (fun _ i _ => n - (intOf i).toNat)
  case atStart => exact ⟨0, [], Nat.zero_le _, rfl, Lib.hid ⟨rfl, fun _ h => absurd h (by simp), fun _ h => absurd h (by simp), rfl⟩, Lib.hid (World.ownsRow_nil _ _ _ _), Lib.hid HVW.out.1, Lib.hid HVW.out.2⟩
  case round =>
    obtain ⟨k, vs, hk, rfl, HR, HO, HV, HB⟩ := hrel
    by_cases hlt : k < n
    · obtain ⟨x, hx⟩ := getElem?_of_lt Hn.out hlt
      have hbw := HB.out
      have hBr : B ≤ wr.heap.size := Nat.le_trans HB0.out hbw.size
      have C := Lib.hid (nodeValue_any wr.heap.size _ _ _ ns l vs k x wr ((H.out.below (hbw.mono HB0.out)).more hBr) ((HU.out.below (hbw.mono HB0.out)).more hBr) (lns_of_row HO.out) (Nat.le_refl _) hx (HVA.out.2 k x hx) HR.out.1 HR.out.2.1 HR.out.2.2.1 HSA.out.2)
      have HOKE := Lib.hid (evalL_ok (a := opA vs x) (b := opB vs x) (HVA.out.2 k x hx) (HT.out x (List.mem_of_getElem? hx)) (valAt_ok HR.out.2.1 _) (valAt_ok HR.out.2.1 _) HT2.out HSA.out.2)
      have HWFE := Lib.hid (evalS_wf (x := x) (a := opA vs x) (b := opB vs x) (l := l) (fun m hm => sym_wf (HSA.out.2 m hm)) (valAt_wf HR.out.2.2.1 _) (valAt_wf HR.out.2.2.1 _))
      have HRN := Lib.hid (show (evalL x (opA vs x) (opB vs x) l).2 = 0 → runL l [] ns = runL l (vs ++ [(evalL x (opA vs x) (opB vs x) l).1]) (ns.drop (k + 1)) from fun h0 => by
        obtain ⟨hk1, hk2⟩ := List.getElem?_eq_some_iff.1 hx
        rw [HR.out.2.2.2, List.drop_eq_getElem_cons hk1, hk2, runL_next h0])
      have HRX := Lib.hid (show (evalL x (opA vs x) (opB vs x) l).2 ≠ 0 → runL l [] ns = (vs, (evalL x (opA vs x) (opB vs x) l).2) from fun h0 => by
        obtain ⟨hk1, hk2⟩ := List.getElem?_eq_some_iff.1 hx
        rw [HR.out.2.2.2, List.drop_eq_getElem_cons hk1, hk2, runL_hit h0])
      obtain ⟨A6, c6, rfl⟩ := row_is HO.out
      clear hbw hx hBr
      unfold NvPost NodeOk at C
      generalize evalL x (opA vs x) (opB vs x) l = ev at C HOKE HWFE HRN HRX
      obtain ⟨y, ec⟩ := ev
      dsimp only at C HOKE HWFE HRN HRX
      go_wp2_with fail
      refine C.out.mono ?_
      rintro e W1 ⟨⟨r, cd, rfl, hcd, hr⟩, hb1⟩
      subst hcd
      unfold Ln.v
      by_cases h0 : cd = 0
      · subst h0
        obtain rfl : r = y := hr rfl
        have HOK := Lib.hid (HOKE.out rfl)
        have HWF := Lib.hid (HWFE.out rfl)
        have HNX := Lib.hid (HRN.out rfl)
        have hlit : Below wr.heap.size wr ((W1.alloc (.cells #[strV r.sym, strV r.minus, .int .i64 r.num] 40)).alloc (.cells #[strV r.sym, strV r.minus, .int .i64 r.num] 40)) := (hb1.alloc hb1.size _).alloc (by have := hb1.size; simp; omega) _
        have HLIT := Lib.hid hlit
        have HO2 := Lib.hid (ownsRow_below HO.out hlit)
        have HV2 := Lib.hid (HV.out.up hlit HV.out.opens.2.2.2.2)
        have HB2 := Lib.hid (HB.out.trans (hlit.mono HB.out.size))
        have hsz2 : w.heap.size + 2 ≤ W1.heap.size + 1 + 1 := by have := HV2.out.opens.2.2.2.2; simp at this; omega
        clear C hr hb1 hlit HOKE HWFE HRN HRX
        go_wp2_with (at_builtin; refine wpList_append_lies _ rfl (.tmp 30) (.tmp 32) 77 rfl (w.heap.size + 2) 40 i0 _ 3 40 Tryd.underlying77 hi0 hz0 hz1 hz2 (by rfl) (by decide) _ k _ rfl HO2.out ⟨W1.heap.size + 1, 0, none⟩ 1 1 [strV r.sym, strV r.minus, .int .i64 r.num] rfl rfl (ln_news2 W1 _ _ _ _ _) (by simp [Value.oneCell', strV]) (by decide) (by unfold maxLen; omega) (by omega) (by simp; omega) (W1.heap.size + 1 + 1) (by simp) ?_; intro gb cap2 W2 hown2 hg2 hat2 hlt2; have HV3 := Lib.hid (HV2.out.far hg2 (fun r e => (HO2.out.lt r e).1)); have HB3 := Lib.hid (HB2.out.grown hg2 HB2.out.size (fun r e => by have := (HO2.out.lt r e).1; omega)); have HO3 := Lib.hid hown2; clear hown2 hg2 hat2 hlt2)
        go_roundw
        case rel => exact ⟨k + 1, vs ++ [r], by omega, by go_num, Lib.hid ⟨by rw [List.length_append, HR.out.1]; rfl, HR.out.2.1.snoc HOK.out, HR.out.2.2.1.snoc HWF.out, HNX.out⟩, Lib.hid (by rw [lnv_snoc]; exact HO3.out), HV3, HB3⟩
        case measure => simp [intOf]; omega
      · have E := Lib.hid (HRX.out h0)
        have EV2 := Lib.hid (EV.out.trans (if_pos (by rw [E.out]; exact h0)))
        have h01 : (cd == 0) = false := beq_eq_false_iff_ne.2 h0
        have h02 : (cd != 0) = true := by simp [bne, h01]
        have hlit : Below wr.heap.size wr (W1.alloc (.cells #[strV r.sym, strV r.minus, .int .i64 r.num] 40)) := hb1.alloc hb1.size _
        have HV2 := Lib.hid (HV.out.up hlit HV.out.opens.2.2.2.2)
        have HB2 := Lib.hid (HB.out.trans (hlit.mono HB.out.size))
        clear C hr hb1 hlit HOKE HWFE HRN HRX h0
        go_wp2_with fail
        refine (at_any cd k _).mono ?_
        rintro e W3 ⟨rfl, hb3⟩
        have HV3 := Lib.hid (HV2.out.up hb3 HV2.out.opens.2.2.2.2)
        have HB3 := Lib.hid (HB2.out.trans (hb3.mono HB2.out.size))
        obtain ⟨⟨z0, z1, z2⟩, ⟨k0, k1, k2⟩, ⟨y0, y1⟩, ⟨j0, j1⟩, hlt8⟩ := HV3.out.opens
        have hlt80 : w.heap.size < W3.heap.size := by omega
        clear hb3
        go_wp2_with fail
        obtain ⟨m0, m1, m2, m3, m4⟩ := vset_cells (A := w.heap.size) (B := w.heap.size + 1) (x := strV []) (y := strV []) (z := .int .i64 0) (p := .int .i64 cd) (q := .int .i64 (k : Int)) (by omega) z0 z1 z2 y0 y1
        refine bodyPost_ret (v := .tuple #[zeroL.v, .agg #[.int .i64 cd, .int .i64 (k : Int)]]) (by unfold Ln.v zeroL; simp [results, Tryd.results20, go_sem, m0, m1, m2, m3, m4]) rfl ⟨?_, ?_⟩
        · rw [EV2.out, E.out, HR.out.1]; rfl
        · exact vset_below HB3.out _ _ _ _ _
    · obtain rfl : k = n := by omega
      have E := Lib.hid (show runL l [] ns = (vs, 0) by
        rw [HR.out.2.2.2, List.drop_eq_nil_of_le (by rw [Hn.out]; exact Nat.le_refl _)]
        rfl)
      have EV2 := Lib.hid (EV.out.trans (if_neg (by rw [E.out]; simp)))
      obtain ⟨m, rfl⟩ : ∃ m, k = m + 1 := ⟨k - 1, by omega⟩
      obtain ⟨y, hy⟩ : ∃ y, vs[m]? = some y := ⟨_, List.getElem?_eq_getElem (by rw [HR.out.1]; omega)⟩
      have HLY := Lib.hid (show lastL vs = y by
        unfold lastL
        rw [List.getLast?_eq_getElem?, HR.out.1, Nat.add_sub_cancel, hy]
        rfl)
      obtain ⟨A6, n6, c6, rfl, H6, hc6, HC6⟩ := (lns_of_row HO.out).opens
      have hn6 : n6 = m + 1 := by rw [← H6.out, HR.out.1]
      subst hn6
      obtain ⟨b6, o6, rfl, hb6, g6⟩ := HC6.out (by omega)
      obtain ⟨q0, q1, q2⟩ := g6 m y hy
      obtain ⟨⟨z0, z1, z2⟩, ⟨k0, k1, k2⟩, ⟨y0, y1⟩, ⟨j0, j1⟩, hlt8⟩ := HV.out.opens
      have hlt80 : w.heap.size < wr.heap.size := by omega
      clear hy g6 HC6
      go_wp2_with fail
      obtain ⟨m0, m1, m2, m3, m4⟩ := vset_cells (A := w.heap.size) (B := w.heap.size + 1) (x := strV y.sym) (y := strV y.minus) (z := .int .i64 y.num) (p := .int .i64 0) (q := .int .i64 0) (by omega) z0 z1 z2 y0 y1
      refine bodyPost_ret (v := .tuple #[y.v, .agg #[.int .i64 0, .int .i64 0]]) (by unfold Ln.v; simp [results, Tryd.results20, go_sem, m0, m1, m2, m3, m4]) rfl ⟨?_, ?_⟩
      · rw [EV2.out, E.out, HLY.out]; rfl
      · exact vset_below HB.out _ _ _ _ _
end Go.Proofs.YtchpkdpefpiegaaDoor.Tok
