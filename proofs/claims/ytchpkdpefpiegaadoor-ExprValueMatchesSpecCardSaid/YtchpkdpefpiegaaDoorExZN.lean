/- The reference's NodeValue: numbers, names, negations. -/
import Derived.Deep.RegionHeld3
import Derived.Test.YtchpkdpefpiegaaDoorExZM
import Derived.Test.YtchpkdpefpiegaaDoorExZ
import Derived.Test.YtchpkdpefpiegaaDoorExQ
namespace Go.Proofs.YtchpkdpefpiegaaDoor.Tok
open Go Go.RowKit

/-- what NodeValue answers -/
def NvPost (x : Nd) (a b : Ln) (l : List Nm) (w : World) (e : Ending) (W : World) : Prop := (∃ r c, e = .returned (.tuple #[Ln.v r, .int .i64 c]) ∧ NodeOk (evalL x a b l) r c) ∧ Below w.heap.size w W
set_option maxRecDepth 100000 in
set_option maxHeartbeats 4000000 in
theorem nv_1 (B : Nat) (v u vv : Value) (ns : List Nd) (l : List Nm) (vs : List Ln) (i : Nat) (x : Nd) (w : World) (h : NdsAt B w v ns) (hu : NmsAt B w u l) (hv : LnsAt B w vv vs) (hB : B ≤ w.heap.size) (hx : ns[i]? = some x) (hk : x.kind = 1) (hr : InR x.val) : Calls Tryd.prog 41 #[v, .int .i64 i, vv, u] w (NvPost x (opA vs x) (opB vs x) l w) := by
  have HNM := Lib.hid hu
  obtain ⟨A, n, c, rfl, Hn, ⟨hl48, hlc⟩, -, HC⟩ := h.opens
  have hin : i < n := by rw [← Hn.out]; exact (List.getElem?_eq_some_iff.1 hx).1
  obtain ⟨b1, o1, rfl, hb1, g1⟩ := HC.out (by omega)
  obtain ⟨p0, p1, p2, p3, p4⟩ := g1 i x hx
  have hb1w : b1 < w.heap.size := Nat.lt_of_lt_of_le hb1 hB
  obtain ⟨A2, n2, c2, rfl, Hn2, ⟨hl56, hlc2⟩, -, HC2⟩ := hu.opens
  obtain ⟨A3, n3, c3, rfl, Hn3, hlc3, HC3⟩ := hv.opens
  clear h hu hv HC g1 hx hb1
  have HE := Lib.hid (eval_one (a := opA vs x) (b := opB vs x) (l := l) hk)
  have ho := in_out hr
  generalize opA vs x = oa at HE ⊢
  generalize opB vs x = ob at HE ⊢
  obtain ⟨k, vl, nm, le, ri⟩ := x
  dsimp only at hk hr ho p0 p1 p2 p3 p4 HE
  subst hk
  have HB := Lib.hid (nvW_box w ⟨1, vl, nm, le, ri⟩ ⟨[], [], vl⟩)
  clear hr
  go_enter Tryd.func41, Tryd.ntmps41
  go_wp2_with fail
  obtain ⟨⟨⟨z0, z1, z2⟩, z3, z4, z5⟩, ⟨y0, y1, y2, y3, y4⟩, ⟨⟨s0, s1, s2⟩, s3, s4, s5⟩, hlt⟩ := HB.out.opens
  have hlt0 : w.heap.size < (nvW w ⟨1, vl, nm, le, ri⟩ ⟨[], [], vl⟩).heap.size := by omega
  have hlt1 : w.heap.size + 1 < (nvW w ⟨1, vl, nm, le, ri⟩ ⟨[], [], vl⟩).heap.size := by omega
  have CI := Lib.hid (in_is (r := true) (not_out.trans (by rw [ho]; rfl)) (nvW w ⟨1, vl, nm, le, ri⟩ ⟨[], [], vl⟩))
  clear ho
  refine CI.out.mono ?_
  rintro e w' ⟨rfl, rfl⟩
  go_wp2_with fail
  refine bodyPost_ret (v := .tuple #[.agg #[strV (Ln.mk [] [] vl).sym, strV (Ln.mk [] [] vl).minus, .int .i64 (Ln.mk [] [] vl).num], .int .i64 0]) (by simp [results, Tryd.results41, go_sem, z0, z1, z2]) rfl ?_
  exact ⟨⟨(Ln.mk [] [] vl), 0, rfl, by rw [HE.out]; exact ⟨rfl, fun _ => rfl⟩⟩, three_set (HB.out).low (Nat.le_refl _) _ _ _⟩
set_option maxRecDepth 100000 in
set_option maxHeartbeats 4000000 in
theorem nv_2 (B : Nat) (v u vv : Value) (ns : List Nd) (l : List Nm) (vs : List Ln) (i : Nat) (x : Nd) (w : World) (h : NdsAt B w v ns) (hu : NmsAt B w u l) (hv : LnsAt B w vv vs) (hB : B ≤ w.heap.size) (hx : ns[i]? = some x) (hk : x.kind = 2) (hl : ∀ m ∈ l, chkS m 0 = 0) : Calls Tryd.prog 41 #[v, .int .i64 i, vv, u] w (NvPost x (opA vs x) (opB vs x) l w) := by
  have HNM := Lib.hid hu
  obtain ⟨A, n, c, rfl, Hn, ⟨hl48, hlc⟩, -, HC⟩ := h.opens
  have hin : i < n := by rw [← Hn.out]; exact (List.getElem?_eq_some_iff.1 hx).1
  obtain ⟨b1, o1, rfl, hb1, g1⟩ := HC.out (by omega)
  obtain ⟨p0, p1, p2, p3, p4⟩ := g1 i x hx
  have hb1w : b1 < w.heap.size := Nat.lt_of_lt_of_le hb1 hB
  obtain ⟨A2, n2, c2, rfl, Hn2, ⟨hl56, hlc2⟩, -, HC2⟩ := hu.opens
  obtain ⟨A3, n3, c3, rfl, Hn3, hlc3, HC3⟩ := hv.opens
  clear h hu hv HC g1 hx hb1
  have HE := Lib.hid (eval_two (a := opA vs x) (b := opB vs x) (l := l) hk)
  have ho := in_out (look_in hl x.name)
  generalize opA vs x = oa at HE ⊢
  generalize opB vs x = ob at HE ⊢
  obtain ⟨k, vl, nm, le, ri⟩ := x
  dsimp only at hk ho p0 p1 p2 p3 p4 HE
  subst hk
  have HB := Lib.hid (nvW_box w ⟨2, vl, nm, le, ri⟩ ⟨nm, [], 0⟩)
  have HBW := Lib.hid hB
  have HO := Lib.hid ho
  unfold nvW at HB
  clear hl HC3 hlc3 ho hB
  go_enter Tryd.func41, Tryd.ntmps41
  go_wp2_with fail
  go_loopw [14] (fun u14 wr => ∃ (j : Nat) (t : Int), j ≤ n2 ∧ t = (j : Int) - 1 ∧ u14 = .int .i64 t ∧ Hid (NvB w ⟨2, vl, nm, le, ri⟩ (lookL nm (l.drop j)) wr)) (fun u _ => (intOf u + 1).toNat)
  case atStart => exact ⟨n2, _, Nat.le_refl _, rfl, rfl, Lib.hid (by rw [List.drop_eq_nil_of_le (by rw [Hn2.out]; exact Nat.le_refl _)]; exact HB.out)⟩
  case round =>
    obtain ⟨j, t, hj, ht, rfl, HX⟩ := hrel
    obtain ⟨⟨⟨z0, z1, z2⟩, z3, z4, z5⟩, ⟨y0, y1, y2, y3, y4⟩, ⟨⟨s0, s1, s2⟩, s3, s4, s5⟩, hlt⟩ := HX.out.opens
    have hlt0 : w.heap.size < wr.heap.size := by omega
    have hlt1 : w.heap.size + 1 < wr.heap.size := by omega
    by_cases h0 : 0 < j
    · obtain ⟨k, rfl⟩ : ∃ k, j = k + 1 := ⟨j - 1, by omega⟩
      obtain rfl : t = (k : Int) := by omega
      obtain ⟨b2, o2, rfl, hb2, g2⟩ := HC2.out (by omega)
      obtain ⟨m, hm⟩ : ∃ m, l[k]? = some m := ⟨_, List.getElem?_eq_getElem (by rw [Hn2.out]; omega)⟩
      obtain ⟨r0, r1, r2, r3⟩ := (g2 k m hm).below (HX.out.low.mono HBW.out) hb2
      have hb2r := block_lt_of_cell r0
      have hkn : k < n2 := by omega
      have HD := Lib.hid (show lookL nm (l.drop k) = if m.name = nm then m.lin else lookL nm (l.drop (k + 1)) by
        obtain ⟨hk1, hk2⟩ := List.getElem?_eq_some_iff.1 hm
        rw [List.drop_eq_getElem_cons hk1, hk2, look_cons])
      clear g2 hm HC2 ht h0
      cases hs : (m.name == nm) with
      | true =>
        have HD2 := Lib.hid (HD.out.trans (if_pos (beq_iff_eq.1 hs)))
        go_wp2_with fail
        go_quiet (fail)
        go_wp2_with fail
        go_roundw
        case rel => exact ⟨k, _, by omega, rfl, rfl, Lib.hid (by rw [HD2.out]; exact (HX.out.up (below_drewN (Below.refl _ _) _)).set m.lin)⟩
        case measure => simp [intOf]
      | false =>
        have HD2 := Lib.hid (HD.out.trans (if_neg (ne_of_beq hs)))
        go_wp2_with fail
        go_quiet (fail)
        go_wp2_with fail
        go_roundw
        case rel => exact ⟨k, _, by omega, rfl, rfl, Lib.hid (by rw [HD2.out]; exact HX.out.up (below_drewN (Below.refl _ _) _))⟩
        case measure => simp [intOf]
    · obtain rfl : j = 0 := by omega
      have hng : t < 0 := by omega
      have hng2 : ¬ 0 ≤ t := by omega
      rw [List.drop_zero] at HX s0 s1 s2
      have ho := HO.out
      generalize lookL nm l = r at HX HE ho s0 s1 s2
      clear HO h0
      go_wp2_with fail
      have CI := Lib.hid (in_is (r := true) (not_out.trans (by rw [ho]; rfl)) (wr))
      clear ho
      refine CI.out.mono ?_
      rintro e w' ⟨rfl, rfl⟩
      go_wp2_with fail
      refine bodyPost_ret (v := .tuple #[.agg #[strV r.sym, strV r.minus, .int .i64 r.num], .int .i64 0]) (by simp [results, Tryd.results41, go_sem, z0, z1, z2]) rfl ?_
      exact ⟨⟨r, 0, rfl, by rw [HE.out]; exact ⟨rfl, fun _ => rfl⟩⟩, three_set (HX.out).low (Nat.le_refl _) _ _ _⟩
set_option maxRecDepth 100000 in
set_option maxHeartbeats 4000000 in
theorem nv_3 (B : Nat) (v u vv : Value) (ns : List Nd) (l : List Nm) (vs : List Ln) (i : Nat) (x : Nd) (w : World) (h : NdsAt B w v ns) (hu : NmsAt B w u l) (hv : LnsAt B w vv vs) (hB : B ≤ w.heap.size) (hx : ns[i]? = some x) (hk : x.kind = 3) (j : Nat) (hj : x.left = (j : Int)) (a : Ln) (ha : vs[j]? = some a) (hr : InR a.num) (hw : Wf a) : Calls Tryd.prog 41 #[v, .int .i64 i, vv, u] w (NvPost x (opA vs x) (opB vs x) l w) := by
  have HNM := Lib.hid hu
  obtain ⟨A, n, c, rfl, Hn, ⟨hl48, hlc⟩, -, HC⟩ := h.opens
  have hin : i < n := by rw [← Hn.out]; exact (List.getElem?_eq_some_iff.1 hx).1
  obtain ⟨b1, o1, rfl, hb1, g1⟩ := HC.out (by omega)
  obtain ⟨p0, p1, p2, p3, p4⟩ := g1 i x hx
  have hb1w : b1 < w.heap.size := Nat.lt_of_lt_of_le hb1 hB
  obtain ⟨A2, n2, c2, rfl, Hn2, ⟨hl56, hlc2⟩, -, HC2⟩ := hu.opens
  obtain ⟨A3, n3, c3, rfl, Hn3, hlc3, HC3⟩ := hv.opens
  clear h hu hv HC g1 hx hb1
  have hj3 : j < n3 := by rw [← Hn3.out]; exact (List.getElem?_eq_some_iff.1 ha).1
  obtain ⟨b3, o3, rfl, hb3, g3⟩ := HC3.out (by omega)
  obtain ⟨q0, q1, q2⟩ := g3 j a ha
  have hb3w : b3 < w.heap.size := Nat.lt_of_lt_of_le hb3 hB
  have hb3w1 : b3 < w.heap.size + 1 := by omega
  have hb3w2 : b3 < w.heap.size + 1 + 1 := by omega
  have hb3w3 : b3 < w.heap.size + 2 := by omega
  have HE := Lib.hid (show ∀ r, operL x.kind (opA vs x) (opB vs x) = (r, 0) → NodeOk (evalL x (opA vs x) (opB vs x) l) r (if isOutL r.num = true then 10 else 0) from fun r h => node_some (by omega) h)
  have HO := Lib.hid (show operL x.kind (opA vs x) (opB vs x) = (negL a, 0) by rw [show opA vs x = a from opA_of (i := j) (by unfold chN; rw [hk, hj]; rfl) ha]; unfold operL; rw [hk, if_pos rfl])
  have hrn : InR (negL a).num := by obtain ⟨h1, h2⟩ := hr; exact ⟨show (-1099511627776 : Int) ≤ -a.num by omega, show -a.num ≤ 1099511627776 by omega⟩
  have ho := in_out hrn
  have C0 := plus_any zeroL a (-1)
  rw [plusL_neg hw, show (some (negL a)).getD zeroL = negL a from rfl, show (some (negL a)).isSome = true from rfl] at C0
  have HN := Lib.hid (HE.out _ HO.out)
  rw [ho] at HN
  clear HE HO
  generalize opA vs x = oa at HN ⊢
  generalize opB vs x = ob at HN ⊢
  obtain ⟨k, vl, nm, le, ri⟩ := x
  dsimp only at hk hj p0 p1 p2 p3 p4
  subst hk hj
  have C := Lib.hid (C0 (nvW w ⟨3, vl, nm, (j : Int), ri⟩ zeroL) ⟨by decide, by decide⟩ hr (.inr rfl))
  have HB := Lib.hid (nvW_box w ⟨3, vl, nm, (j : Int), ri⟩ zeroL)
  generalize negL a = r at C HN ho
  unfold Ln.v at C
  clear C0 hr hw ha g3 HC3 hb3 hrn
  go_enter Tryd.func41, Tryd.ntmps41
  go_wp2_with fail
  refine C.out.mono ?_
  rintro e W1 ⟨rfl, hb⟩
  have HB1 := Lib.hid (HB.out.up hb)
  have HB2 := Lib.hid (HB1.out.set r)
  clear hb
  obtain ⟨⟨⟨z0, z1, z2⟩, z3, z4, z5⟩, ⟨y0, y1, y2, y3, y4⟩, ⟨⟨s0, s1, s2⟩, s3, s4, s5⟩, hlt⟩ := HB1.out.opens
  have hlt0 : w.heap.size < W1.heap.size := by omega
  have hlt1 : w.heap.size + 1 < W1.heap.size := by omega
  go_wp2_with fail
  have CI := Lib.hid (in_is (r := true) (not_out.trans (by rw [ho]; rfl)) ((((W1.setCell ⟨w.heap.size + 2, 0, none⟩ (strV r.sym)).setCell ⟨w.heap.size + 2, 1, none⟩ (strV r.minus)).setCell ⟨w.heap.size + 2, 2, none⟩ (.int .i64 r.num))))
  clear ho
  refine CI.out.mono ?_
  rintro e w' ⟨rfl, rfl⟩
  go_wp2_with fail
  refine bodyPost_ret (v := .tuple #[.agg #[strV r.sym, strV r.minus, .int .i64 r.num], .int .i64 0]) (by simp [results, Tryd.results41, go_sem, z0, z1, z2]) rfl ?_
  exact ⟨⟨r, 0, rfl, HN.out⟩, three_set (HB2.out).low (Nat.le_refl _) _ _ _⟩
end Go.Proofs.YtchpkdpefpiegaaDoor.Tok
