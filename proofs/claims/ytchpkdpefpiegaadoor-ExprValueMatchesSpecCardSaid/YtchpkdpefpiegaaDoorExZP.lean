/- The reference's NodeValue: inversions and the operations on numbers. -/
import Derived.Test.YtchpkdpefpiegaaDoorExZN
namespace Go.Proofs.YtchpkdpefpiegaaDoor.Tok
open Go Go.RowKit

theorem invert_math {a : Int} (h : InR a) : bits .xor .i64 (-1) a = -a - 1 := by
  obtain ⟨h1, h2⟩ := h
  show IntKind.i64.wrap ((BitVec.ofInt 64 (-1) ^^^ BitVec.ofInt 64 a).toNat : Int) = _
  rw [show BitVec.ofInt 64 (-1) = BitVec.allOnes 64 from by decide, BitVec.allOnes_xor, BitVec.toNat_not, ofInt_u64, IntWalk.i64_left]
  unfold u64 wrap64
  omega
theorem oper_no {k : Int} {a b : Ln} (h3 : k ≠ 3) (h5 : k ≠ 5) (h6 : k ≠ 6) (h : (isNumL a && isNumL b) = false) : operL k a b = (zeroL, 8) := by
  unfold operL
  rw [if_neg h3, if_neg h5, if_neg h6, if_neg (by rw [h]; decide)]
theorem oper_num {k : Int} {a b : Ln} (h3 : k ≠ 3) (h5 : k ≠ 5) (h6 : k ≠ 6) (h : (isNumL a && isNumL b) = true) : operL k a b = (⟨[], [], (calcL k a.num b.num).1⟩, (calcL k a.num b.num).2) := by
  unfold operL
  rw [if_neg h3, if_neg h5, if_neg h6, if_pos h]
/-- the world with both operands' boxes -/
def nvX (w : World) (x : Nd) (o a b : Ln) : World := ((nvW w x o).alloc (.cells #[strV a.sym, strV a.minus, .int .i64 a.num] 40)).alloc (.cells #[strV b.sym, strV b.minus, .int .i64 b.num] 40)
theorem nvX_box (w : World) (x : Nd) (o a b : Ln) : NvB w x o (nvX w x o a b) := (nvW_box w x o).up (((Below.refl _ _).alloc (Nat.le_refl _) _).alloc (by simp) _)
set_option maxRecDepth 100000 in
set_option maxHeartbeats 4000000 in
theorem nv_4 (B : Nat) (v u vv : Value) (ns : List Nd) (l : List Nm) (vs : List Ln) (i : Nat) (x : Nd) (w : World) (h : NdsAt B w v ns) (hu : NmsAt B w u l) (hv : LnsAt B w vv vs) (hB : B ≤ w.heap.size) (hx : ns[i]? = some x) (hk : x.kind = 4) (j : Nat) (hj : x.left = (j : Int)) (a : Ln) (ha : vs[j]? = some a) (hr : InR a.num) : Calls Tryd.prog 41 #[v, .int .i64 i, vv, u] w (NvPost x (opA vs x) (opB vs x) l w) := by
  have HNM := Lib.hid hu
  obtain ⟨A, n, c, rfl, Hn, ⟨hl48, hlc⟩, -, HC⟩ := h.opens
  have hin : i < n := by rw [← Hn.out]; exact (List.getElem?_eq_some_iff.1 hx).1
  obtain ⟨b1, o1, rfl, hb1, g1⟩ := HC.out (by omega)
  obtain ⟨p0, p1, p2, p3, p4⟩ := g1 i x hx
  have hb1w : b1 < w.heap.size := Nat.lt_of_lt_of_le hb1 hB
  obtain ⟨A2, n2, c2, rfl, Hn2, ⟨hl56, hlc2⟩, -, HC2⟩ := hu.opens
  obtain ⟨A3, n3, c3, rfl, Hn3, hlc3, HC3⟩ := hv.opens
  clear h hu hv HC g1 hx hb1
  have hj3 : j < n3 := by rw [← Hn3.out]; exact (List.getElem?_eq_some_iff.1 ha).1
  obtain ⟨b3, o3, rfl, hb3, g3⟩ := HC3.out (by omega)
  have hb3w : b3 < w.heap.size := Nat.lt_of_lt_of_le hb3 hB
  have hb3w1 : b3 < w.heap.size + 1 := by omega
  have hb3w2 : b3 < w.heap.size + 1 + 1 := by omega
  have hb3w3 : b3 < w.heap.size + 2 := by omega
  have hb3w4 : b3 < w.heap.size + 1 + 1 + 1 := by omega
  have hb3w5 : b3 < w.heap.size + 3 := by omega
  obtain ⟨q0, q1, q2⟩ := g3 j a ha
  have hA : opA vs x = a := opA_of (i := j) (by unfold chN; rw [hk, hj]; rfl) ha
  have hBz : opB vs x = zeroL := opB_none (by unfold chN; rw [hk]; exact Nat.le_refl 1)
  have hNz : isNumL zeroL = true := rfl
  rw [hA, hBz]
  have hK : 3 ≤ x.kind := by omega
  have HNO := Lib.hid (fun (hh : isNumL a = false) u => node_bad (l := l) (x := x) (a := a) (b := zeroL) (c := 8) hK (by rw [oper_no (by omega) (by omega) (by omega) (by rw [hh]; rfl)]) (by decide) u)
  have HYES := Lib.hid (fun (hh : isNumL a = true) => node_some (l := l) (x := x) (a := a) (b := zeroL) (r := ⟨[], [], -a.num - 1⟩) hK (by rw [oper_num (by omega) (by omega) (by omega) (by rw [hh]; rfl), hk, show calcL 4 a.num zeroL.num = (bits .xor .i64 (-1) a.num, 0) from rfl, invert_math hr]))
  have HIS := Lib.hid (show isNumL a = (a.sym.isEmpty && a.minus.isEmpty) from rfl)
  obtain ⟨r1, r2⟩ := hr
  clear hA hBz hNz ha g3 HC3 hb3 hK
  obtain ⟨k, vl, nm, le, ri⟩ := x
  dsimp only at hk hj p0 p1 p2 p3 p4 HNO HYES
  subst hk hj
  cases hs : a.sym.isEmpty with
  | false =>
    have HN := Lib.hid (fun u => HNO.out (by rw [HIS.out, hs]; rfl) u)
    clear HNO HYES HIS
    go_enter Tryd.func41, Tryd.ntmps41
    go_wp2_with fail
    have hbl := (nvX_box w ⟨4, vl, nm, (j : Int), ri⟩ zeroL a zeroL).low
    refine bodyPost_ret (v := .tuple #[zeroL.v, .int .i64 8]) (by unfold Ln.v zeroL; simp [results, Tryd.results41, go_sem]) rfl ?_
    exact ⟨⟨zeroL, 8, rfl, HN.out _⟩, hbl⟩
  | true =>
    cases hm : a.minus.isEmpty with
    | false =>
      have HN := Lib.hid (fun u => HNO.out (by rw [HIS.out, hs, hm]; rfl) u)
      clear HNO HYES HIS
      go_enter Tryd.func41, Tryd.ntmps41
      go_wp2_with fail
      have hbl := (nvX_box w ⟨4, vl, nm, (j : Int), ri⟩ zeroL a zeroL).low
      refine bodyPost_ret (v := .tuple #[zeroL.v, .int .i64 8]) (by unfold Ln.v zeroL; simp [results, Tryd.results41, go_sem]) rfl ?_
      exact ⟨⟨zeroL, 8, rfl, HN.out _⟩, hbl⟩
    | true =>
      have HN := Lib.hid (HYES.out (by rw [HIS.out, hs, hm]; rfl))
      have HB := Lib.hid (nvX_box w ⟨4, vl, nm, (j : Int), ri⟩ ⟨[], [], -a.num - 1⟩ a zeroL)
      clear HNO HYES HIS
      go_enter Tryd.func41, Tryd.ntmps41
      go_wp2_with fail
      obtain ⟨⟨⟨z0, z1, z2⟩, z3, z4, z5⟩, ⟨y0, y1, y2, y3, y4⟩, ⟨⟨s0, s1, s2⟩, s3, s4, s5⟩, hlt⟩ := HB.out.opens
      have hlt0 : w.heap.size < (nvX w ⟨4, vl, nm, (j : Int), ri⟩ ⟨[], [], -a.num - 1⟩ a zeroL).heap.size := by omega
      have hlt1 : w.heap.size + 1 < (nvX w ⟨4, vl, nm, (j : Int), ri⟩ ⟨[], [], -a.num - 1⟩ a zeroL).heap.size := by omega
      cases ho : isOutL (-a.num - 1) with
      | true =>
        have CI := Lib.hid (in_is (r := false) (not_out.trans (by rw [ho]; rfl)) (nvX w ⟨4, vl, nm, (j : Int), ri⟩ ⟨[], [], -a.num - 1⟩ a zeroL))
        have ho2 := Lib.hid ho
        clear ho
        refine CI.out.mono ?_
        rintro e w' ⟨rfl, rfl⟩
        go_wp2_with fail
        refine bodyPost_ret (v := .tuple #[.agg #[strV (Ln.mk [] [] (-a.num - 1)).sym, strV (Ln.mk [] [] (-a.num - 1)).minus, .int .i64 (Ln.mk [] [] (-a.num - 1)).num], .int .i64 10]) (by simp [results, Tryd.results41, go_sem, z0, z1, z2]) rfl ?_
        exact ⟨⟨(Ln.mk [] [] (-a.num - 1)), 10, rfl, by have h := HN.out; rw [ho2.out] at h; exact h⟩, three_set (HB.out).low (Nat.le_refl _) _ _ _⟩
      | false =>
        have CI := Lib.hid (in_is (r := true) (not_out.trans (by rw [ho]; rfl)) (nvX w ⟨4, vl, nm, (j : Int), ri⟩ ⟨[], [], -a.num - 1⟩ a zeroL))
        have ho2 := Lib.hid ho
        clear ho
        refine CI.out.mono ?_
        rintro e w' ⟨rfl, rfl⟩
        go_wp2_with fail
        refine bodyPost_ret (v := .tuple #[.agg #[strV (Ln.mk [] [] (-a.num - 1)).sym, strV (Ln.mk [] [] (-a.num - 1)).minus, .int .i64 (Ln.mk [] [] (-a.num - 1)).num], .int .i64 0]) (by simp [results, Tryd.results41, go_sem, z0, z1, z2]) rfl ?_
        exact ⟨⟨(Ln.mk [] [] (-a.num - 1)), 0, rfl, by have h := HN.out; rw [ho2.out] at h; exact h⟩, three_set (HB.out).low (Nat.le_refl _) _ _ _⟩
set_option maxRecDepth 100000 in
set_option maxHeartbeats 4000000 in
theorem nv_op (B : Nat) (v u vv : Value) (ns : List Nd) (l : List Nm) (vs : List Ln) (i : Nat) (x : Nd) (w : World) (h : NdsAt B w v ns) (hu : NmsAt B w u l) (hv : LnsAt B w vv vs) (hB : B ≤ w.heap.size) (hx : ns[i]? = some x) (hk7 : 7 ≤ x.kind) (hk14 : x.kind ≤ 14) (j j2 : Nat) (hj : x.left = (j : Int)) (hj2 : x.right = (j2 : Int)) (a b : Ln) (ha : vs[j]? = some a) (hb : vs[j2]? = some b) (hra : InR a.num) (hrb : InR b.num) : Calls Tryd.prog 41 #[v, .int .i64 i, vv, u] w (NvPost x (opA vs x) (opB vs x) l w) := by
  have HNM := Lib.hid hu
  obtain ⟨A, n, c, rfl, Hn, ⟨hl48, hlc⟩, -, HC⟩ := h.opens
  have hin : i < n := by rw [← Hn.out]; exact (List.getElem?_eq_some_iff.1 hx).1
  obtain ⟨b1, o1, rfl, hb1, g1⟩ := HC.out (by omega)
  obtain ⟨p0, p1, p2, p3, p4⟩ := g1 i x hx
  have hb1w : b1 < w.heap.size := Nat.lt_of_lt_of_le hb1 hB
  obtain ⟨A2, n2, c2, rfl, Hn2, ⟨hl56, hlc2⟩, -, HC2⟩ := hu.opens
  obtain ⟨A3, n3, c3, rfl, Hn3, hlc3, HC3⟩ := hv.opens
  clear h hu hv HC g1 hx hb1
  have hj3 : j < n3 := by rw [← Hn3.out]; exact (List.getElem?_eq_some_iff.1 ha).1
  have hj4 : j2 < n3 := by rw [← Hn3.out]; exact (List.getElem?_eq_some_iff.1 hb).1
  obtain ⟨b3, o3, rfl, hb3, g3⟩ := HC3.out (by omega)
  have hb3w : b3 < w.heap.size := Nat.lt_of_lt_of_le hb3 hB
  have hb3w1 : b3 < w.heap.size + 1 := by omega
  have hb3w2 : b3 < w.heap.size + 1 + 1 := by omega
  have hb3w3 : b3 < w.heap.size + 2 := by omega
  have hb3w4 : b3 < w.heap.size + 1 + 1 + 1 := by omega
  have hb3w5 : b3 < w.heap.size + 3 := by omega
  obtain ⟨q0, q1, q2⟩ := g3 j a ha
  obtain ⟨u0, u1, u2⟩ := g3 j2 b hb
  have hch := chN_five (x := x) (by omega) hk14
  have hA : opA vs x = a := opA_of (i := j) (by rw [hch, hj]; rfl) ha
  have hBz : opB vs x = b := opB_of (i := j2) (by rw [hch, hj2]; rfl) hb
  rw [hA, hBz]
  have hK : 3 ≤ x.kind := by omega
  have HNO := Lib.hid (fun (hh : (isNumL a && isNumL b) = false) u => node_bad (l := l) (x := x) (a := a) (b := b) (c := 8) hK (by rw [oper_no (by omega) (by omega) (by omega) hh]) (by decide) u)
  have HYES := Lib.hid (fun (hh : (isNumL a && isNumL b) = true) => oper_num (k := x.kind) (a := a) (b := b) (by omega) (by omega) (by omega) hh)
  have HIA := Lib.hid (show isNumL a = (a.sym.isEmpty && a.minus.isEmpty) from rfl)
  have HIB := Lib.hid (show isNumL b = (b.sym.isEmpty && b.minus.isEmpty) from rfl)
  have CO := Lib.hid (fun W => roperate_any x.kind a.num b.num W hk7 hk14 hra hrb)
  have HK3 := Lib.hid hK
  have n1 : (x.kind == 1) = false := beq_eq_false_iff_ne.2 (by omega)
  have n2' : (x.kind == 2) = false := beq_eq_false_iff_ne.2 (by omega)
  have n3' : (x.kind == 3) = false := beq_eq_false_iff_ne.2 (by omega)
  have n4 : (x.kind == 4) = false := beq_eq_false_iff_ne.2 (by omega)
  have n4b : (x.kind != 4) = true := by unfold bne; rw [n4]; rfl
  have n5 : (x.kind == 5) = false := beq_eq_false_iff_ne.2 (by omega)
  have n6 : (x.kind == 6) = false := beq_eq_false_iff_ne.2 (by omega)
  clear hA hBz ha hb g3 HC3 hb3 hK hch hk7 hk14
  obtain ⟨k, vl, nm, le, ri⟩ := x
  dsimp only at hj hj2 p0 p1 p2 p3 p4 HNO HYES CO HK3 n1 n2' n3' n4 n4b n5 n6
  subst hj hj2
  cases hs : a.sym.isEmpty with
  | false =>
    have HN := Lib.hid (fun u => HNO.out (by rw [HIA.out, HIB.out, hs]; rfl) u)
    clear HNO HYES HIA HIB CO
    go_enter Tryd.func41, Tryd.ntmps41
    go_wp2_with fail
    have hbl := (nvX_box w ⟨k, vl, nm, (j : Int), (j2 : Int)⟩ zeroL a b).low
    refine bodyPost_ret (v := .tuple #[zeroL.v, .int .i64 8]) (by unfold Ln.v zeroL; simp [results, Tryd.results41, go_sem]) rfl ?_
    exact ⟨⟨zeroL, 8, rfl, HN.out _⟩, hbl⟩
  | true =>
    cases hm : a.minus.isEmpty with
    | false =>
      have HN := Lib.hid (fun u => HNO.out (by rw [HIA.out, HIB.out, hs, hm]; rfl) u)
      clear HNO HYES HIA HIB CO
      go_enter Tryd.func41, Tryd.ntmps41
      go_wp2_with fail
      have hbl := (nvX_box w ⟨k, vl, nm, (j : Int), (j2 : Int)⟩ zeroL a b).low
      refine bodyPost_ret (v := .tuple #[zeroL.v, .int .i64 8]) (by unfold Ln.v zeroL; simp [results, Tryd.results41, go_sem]) rfl ?_
      exact ⟨⟨zeroL, 8, rfl, HN.out _⟩, hbl⟩
    | true =>
      cases hs2 : b.sym.isEmpty with
      | false =>
        have HN := Lib.hid (fun u => HNO.out (by rw [HIA.out, HIB.out, hs, hm, hs2]; simp) u)
        clear HNO HYES HIA HIB CO
        go_enter Tryd.func41, Tryd.ntmps41
        go_wp2_with fail
        have hbl := (nvX_box w ⟨k, vl, nm, (j : Int), (j2 : Int)⟩ zeroL a b).low
        refine bodyPost_ret (v := .tuple #[zeroL.v, .int .i64 8]) (by unfold Ln.v zeroL; simp [results, Tryd.results41, go_sem]) rfl ?_
        exact ⟨⟨zeroL, 8, rfl, HN.out _⟩, hbl⟩
      | true =>
        cases hm2 : b.minus.isEmpty with
        | false =>
          have HN := Lib.hid (fun u => HNO.out (by rw [HIA.out, HIB.out, hs, hm, hs2, hm2]; simp) u)
          clear HNO HYES HIA HIB CO
          go_enter Tryd.func41, Tryd.ntmps41
          go_wp2_with fail
          have hbl := (nvX_box w ⟨k, vl, nm, (j : Int), (j2 : Int)⟩ zeroL a b).low
          refine bodyPost_ret (v := .tuple #[zeroL.v, .int .i64 8]) (by unfold Ln.v zeroL; simp [results, Tryd.results41, go_sem]) rfl ?_
          exact ⟨⟨zeroL, 8, rfl, HN.out _⟩, hbl⟩
        | true =>
          have HY := Lib.hid (HYES.out (by rw [HIA.out, HIB.out, hs, hm, hs2, hm2]; rfl))
          have HB := Lib.hid (nvX_box w ⟨k, vl, nm, (j : Int), (j2 : Int)⟩ zeroL a b)
          have C := Lib.hid (CO.out (nvX w ⟨k, vl, nm, (j : Int), (j2 : Int)⟩ zeroL a b))
          clear HNO HYES HIA HIB CO
          generalize calcL k a.num b.num = rc at C HY
          obtain ⟨r, cd⟩ := rc
          dsimp only at C HY
          have HB2 := Lib.hid (HB.out.num r)
          go_enter Tryd.func41, Tryd.ntmps41
          go_wp2_with fail
          refine C.out.mono ?_
          rintro e w' ⟨rfl, rfl⟩
          by_cases hc : cd = 0
          · subst hc
            have HN := Lib.hid (node_some (l := l) (x := ⟨k, vl, nm, (j : Int), (j2 : Int)⟩) (a := a) (b := b) (r := ⟨[], [], r⟩) HK3.out HY.out)
            obtain ⟨⟨⟨z0, z1, z2⟩, z3, z4, z5⟩, ⟨y0, y1, y2, y3, y4⟩, ⟨⟨s0, s1, s2⟩, s3, s4, s5⟩, hlt⟩ := HB.out.opens
            have hlt0 : w.heap.size < (nvX w ⟨k, vl, nm, (j : Int), (j2 : Int)⟩ zeroL a b).heap.size := by omega
            have hlt1 : w.heap.size + 1 < (nvX w ⟨k, vl, nm, (j : Int), (j2 : Int)⟩ zeroL a b).heap.size := by omega
            replace s0 : (nvX w ⟨k, vl, nm, (j : Int), (j2 : Int)⟩ zeroL a b).cell? ⟨w.heap.size + 2, 0, none⟩ = some (strV []) := s0
            replace s1 : (nvX w ⟨k, vl, nm, (j : Int), (j2 : Int)⟩ zeroL a b).cell? ⟨w.heap.size + 2, 1, none⟩ = some (strV []) := s1
            go_wp2_with fail
            cases ho : isOutL r with
            | true =>
              have CI := Lib.hid (in_is (r := false) (not_out.trans (by rw [ho]; rfl)) (((nvX w ⟨k, vl, nm, (j : Int), (j2 : Int)⟩ zeroL a b).setCell ⟨w.heap.size + 2, 2, none⟩ (.int .i64 r))))
              have ho2 := Lib.hid ho
              clear ho
              refine CI.out.mono ?_
              rintro e w' ⟨rfl, rfl⟩
              go_wp2_with fail
              refine bodyPost_ret (v := .tuple #[.agg #[strV (Ln.mk [] [] r).sym, strV (Ln.mk [] [] r).minus, .int .i64 (Ln.mk [] [] r).num], .int .i64 10]) (by simp [results, Tryd.results41, go_sem, z0, z1, z2]) rfl ?_
              exact ⟨⟨(Ln.mk [] [] r), 10, rfl, by have h := HN.out; rw [ho2.out] at h; exact h⟩, three_set (HB2.out).low (Nat.le_refl _) _ _ _⟩
            | false =>
              have CI := Lib.hid (in_is (r := true) (not_out.trans (by rw [ho]; rfl)) (((nvX w ⟨k, vl, nm, (j : Int), (j2 : Int)⟩ zeroL a b).setCell ⟨w.heap.size + 2, 2, none⟩ (.int .i64 r))))
              have ho2 := Lib.hid ho
              clear ho
              refine CI.out.mono ?_
              rintro e w' ⟨rfl, rfl⟩
              go_wp2_with fail
              refine bodyPost_ret (v := .tuple #[.agg #[strV (Ln.mk [] [] r).sym, strV (Ln.mk [] [] r).minus, .int .i64 (Ln.mk [] [] r).num], .int .i64 0]) (by simp [results, Tryd.results41, go_sem, z0, z1, z2]) rfl ?_
              exact ⟨⟨(Ln.mk [] [] r), 0, rfl, by have h := HN.out; rw [ho2.out] at h; exact h⟩, three_set (HB2.out).low (Nat.le_refl _) _ _ _⟩
          · have HN := Lib.hid (node_bad (l := l) (x := ⟨k, vl, nm, (j : Int), (j2 : Int)⟩) (a := a) (b := b) (c := cd) HK3.out (by rw [HY.out]) hc)
            have hc1 : (cd == 0) = false := beq_eq_false_iff_ne.2 hc
            clear hc
            obtain ⟨⟨⟨z0, z1, z2⟩, z3, z4, z5⟩, ⟨y0, y1, y2, y3, y4⟩, ⟨⟨s0, s1, s2⟩, s3, s4, s5⟩, hlt⟩ := HB.out.opens
            have hlt0 : w.heap.size < (nvX w ⟨k, vl, nm, (j : Int), (j2 : Int)⟩ zeroL a b).heap.size := by omega
            have hlt1 : w.heap.size + 1 < (nvX w ⟨k, vl, nm, (j : Int), (j2 : Int)⟩ zeroL a b).heap.size := by omega
            replace s0 : (nvX w ⟨k, vl, nm, (j : Int), (j2 : Int)⟩ zeroL a b).cell? ⟨w.heap.size + 2, 0, none⟩ = some (strV []) := s0
            replace s1 : (nvX w ⟨k, vl, nm, (j : Int), (j2 : Int)⟩ zeroL a b).cell? ⟨w.heap.size + 2, 1, none⟩ = some (strV []) := s1
            go_wp2_with fail
            refine bodyPost_ret (v := .tuple #[.agg #[strV [], strV [], .int .i64 r], .int .i64 cd]) (by simp [results, Tryd.results41, go_sem, z0, z1, z2]) rfl ?_
            exact ⟨⟨⟨[], [], r⟩, cd, rfl, HN.out _⟩, three_set HB2.out.low (Nat.le_refl _) _ _ _⟩
end Go.Proofs.YtchpkdpefpiegaaDoor.Tok
