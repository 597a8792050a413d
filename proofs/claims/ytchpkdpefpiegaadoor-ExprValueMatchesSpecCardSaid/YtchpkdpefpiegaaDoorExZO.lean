/- The reference's NodeValue: sums and differences. -/
import Derived.Test.YtchpkdpefpiegaaDoorExZN
namespace Go.Proofs.YtchpkdpefpiegaaDoor.Tok
open Go Go.RowKit

set_option maxRecDepth 100000 in
set_option maxHeartbeats 4000000 in
theorem nv_5_ok (B : Nat) (v u vv : Value) (ns : List Nd) (l : List Nm) (vs : List Ln) (i : Nat) (x : Nd) (w : World) (h : NdsAt B w v ns) (hu : NmsAt B w u l) (hv : LnsAt B w vv vs) (hB : B ≤ w.heap.size) (hx : ns[i]? = some x) (hk : x.kind = 5) (j j2 : Nat) (hj : x.left = (j : Int)) (hj2 : x.right = (j2 : Int)) (a b : Ln) (ha : vs[j]? = some a) (hb : vs[j2]? = some b) (hra : InR a.num) (hrb : InR b.num) (hwa : Wf a) (hwb : Wf b) (h0 : (sumL a b).2 = 0) : Calls Tryd.prog 41 #[v, .int .i64 i, vv, u] w (NvPost x (opA vs x) (opB vs x) l w) := by
  have HNM := Lib.hid hu
  obtain ⟨A, n, c, rfl, Hn, ⟨hl48, hlc⟩, -, HC⟩ := h.opens
  have hin : i < n := by rw [← Hn.out]; exact (List.getElem?_eq_some_iff.1 hx).1
  obtain ⟨b1, o1, rfl, hb1, g1⟩ := HC.out (by omega)
  obtain ⟨p0, p1, p2, p3, p4⟩ := g1 i x hx
  have hb1w : b1 < w.heap.size := Nat.lt_of_lt_of_le hb1 hB
  obtain ⟨A2, n2, c2, rfl, Hn2, ⟨hl56, hlc2⟩, -, HC2⟩ := hu.opens
  obtain ⟨A3, n3, c3, rfl, Hn3, hlc3, HC3⟩ := hv.opens
  clear h hu hv HC g1 hx hb1
  have hj3 : j < n3 := by rw [← Hn3.out]; exact (List.getElem?_eq_some_iff.1 ha).1
  have hj4 : j2 < n3 := by rw [← Hn3.out]; exact (List.getElem?_eq_some_iff.1 hb).1
  obtain ⟨b3, o3, rfl, hb3, g3⟩ := HC3.out (by omega)
  have Q1 := Lib.hid (g3 j a ha)
  have Q2 := Lib.hid (g3 j2 b hb)
  have hb3w : b3 < w.heap.size := Nat.lt_of_lt_of_le hb3 hB
  have HO : operL x.kind (opA vs x) (opB vs x) = sumL a b := by
    rw [show opA vs x = a from opA_of (i := j) (by unfold chN; rw [hk, hj]; rfl) ha, show opB vs x = b from opB_of (i := j2) (by unfold chN; rw [hk, hj2]; rfl) hb]
    unfold operL
    rw [hk, if_neg (by omega), if_pos rfl]
  have HN0 : NodeOk (evalL x (opA vs x) (opB vs x) l) (sumL a b).1 (if isOutL (sumL a b).1.num = true then 10 else 0) := node_some (l := l) (show 3 ≤ x.kind by omega) (HO.trans (Prod.ext rfl h0))
  have hpl : plusL a b 1 = some (sumL a b).1 := by rw [plusL_sum hwa hwb]; unfold ansL; rw [if_pos h0]
  generalize opA vs x = oa at HN0 ⊢
  generalize opB vs x = ob at HN0 ⊢
  obtain ⟨k, vl, nm, le, ri⟩ := x
  dsimp only at hk hj hj2 p0 p1 p2 p3 p4
  subst hk hj hj2
  have C0 := fun W => plus_any a b 1 W hra hrb (.inl rfl)
  rw [hpl] at C0
  rw [show (some (sumL a b).1).getD zeroL = (sumL a b).1 from rfl, show (some (sumL a b).1).isSome = true from rfl] at C0
  have C := Lib.hid C0
  have HN := Lib.hid HN0
  generalize (sumL a b).1 = r at C HN
  obtain ⟨V, hV⟩ : ∃ V, V = nvW w ⟨5, vl, nm, (j : Int), (j2 : Int)⟩ zeroL := ⟨_, rfl⟩
  have HBX := Lib.hid (show NvB w ⟨5, vl, nm, (j : Int), (j2 : Int)⟩ zeroL V by rw [hV]; exact nvW_box w _ _)
  unfold nvW at hV
  have KS := Lib.hid (show ∀ W', Below V.heap.size V W' → ((W'.cell? ⟨w.heap.size + 1, 3, none⟩ = some (.int .i64 (j : Int)) ∧ W'.cell? ⟨w.heap.size + 1, 4, none⟩ = some (.int .i64 (j2 : Int))) ∧ (W'.cell? ⟨b3, o3 + j * 3, none⟩ = some (strV a.sym) ∧ W'.cell? ⟨b3, o3 + j * 3 + 1, none⟩ = some (strV a.minus) ∧ W'.cell? ⟨b3, o3 + j * 3 + 2, none⟩ = some (.int .i64 a.num)) ∧ (W'.cell? ⟨b3, o3 + j2 * 3, none⟩ = some (strV b.sym) ∧ W'.cell? ⟨b3, o3 + j2 * 3 + 1, none⟩ = some (strV b.minus) ∧ W'.cell? ⟨b3, o3 + j2 * 3 + 2, none⟩ = some (.int .i64 b.num))) from fun W' hb => by
    have h1 := HBX.out.up hb
    obtain ⟨-, ⟨-, -, -, y3, y4⟩, -⟩ := h1.opens
    exact ⟨⟨y3, y4⟩, Q1.out.below h1.low hb3w, Q2.out.below h1.low hb3w⟩)
  have KT := Lib.hid (show ∀ (W' : World) (x y z : Value), Below V.heap.size V W' → (((((W'.setCell ⟨w.heap.size + 1 + 1, 0, none⟩ x).setCell ⟨w.heap.size + 1 + 1, 1, none⟩ y).setCell ⟨w.heap.size + 1 + 1, 2, none⟩ z).cell? ⟨w.heap.size + 1, 3, none⟩ = some (.int .i64 (j : Int)) ∧ (((W'.setCell ⟨w.heap.size + 1 + 1, 0, none⟩ x).setCell ⟨w.heap.size + 1 + 1, 1, none⟩ y).setCell ⟨w.heap.size + 1 + 1, 2, none⟩ z).cell? ⟨w.heap.size + 1, 4, none⟩ = some (.int .i64 (j2 : Int))) ∧ ((((W'.setCell ⟨w.heap.size + 1 + 1, 0, none⟩ x).setCell ⟨w.heap.size + 1 + 1, 1, none⟩ y).setCell ⟨w.heap.size + 1 + 1, 2, none⟩ z).cell? ⟨b3, o3 + j * 3, none⟩ = some (strV a.sym) ∧ (((W'.setCell ⟨w.heap.size + 1 + 1, 0, none⟩ x).setCell ⟨w.heap.size + 1 + 1, 1, none⟩ y).setCell ⟨w.heap.size + 1 + 1, 2, none⟩ z).cell? ⟨b3, o3 + j * 3 + 1, none⟩ = some (strV a.minus) ∧ (((W'.setCell ⟨w.heap.size + 1 + 1, 0, none⟩ x).setCell ⟨w.heap.size + 1 + 1, 1, none⟩ y).setCell ⟨w.heap.size + 1 + 1, 2, none⟩ z).cell? ⟨b3, o3 + j * 3 + 2, none⟩ = some (.int .i64 a.num)) ∧ ((((W'.setCell ⟨w.heap.size + 1 + 1, 0, none⟩ x).setCell ⟨w.heap.size + 1 + 1, 1, none⟩ y).setCell ⟨w.heap.size + 1 + 1, 2, none⟩ z).cell? ⟨b3, o3 + j2 * 3, none⟩ = some (strV b.sym) ∧ (((W'.setCell ⟨w.heap.size + 1 + 1, 0, none⟩ x).setCell ⟨w.heap.size + 1 + 1, 1, none⟩ y).setCell ⟨w.heap.size + 1 + 1, 2, none⟩ z).cell? ⟨b3, o3 + j2 * 3 + 1, none⟩ = some (strV b.minus) ∧ (((W'.setCell ⟨w.heap.size + 1 + 1, 0, none⟩ x).setCell ⟨w.heap.size + 1 + 1, 1, none⟩ y).setCell ⟨w.heap.size + 1 + 1, 2, none⟩ z).cell? ⟨b3, o3 + j2 * 3 + 2, none⟩ = some (.int .i64 b.num))) from fun W' x y z hb => by
    obtain ⟨⟨i1, i2⟩, ⟨i3, i4, i5⟩, i6, i7, i8⟩ := KS.out W' hb
    have e1 : ∀ (o : Nat) (u : Value), W'.cell? ⟨w.heap.size + 1, o, none⟩ = some u → (((W'.setCell ⟨w.heap.size + 1 + 1, 0, none⟩ x).setCell ⟨w.heap.size + 1 + 1, 1, none⟩ y).setCell ⟨w.heap.size + 1 + 1, 2, none⟩ z).cell? ⟨w.heap.size + 1, o, none⟩ = some u := fun o u hu => by
      rw [World.cell?_setCell_other _ _ _ _ (by simp), World.cell?_setCell_other _ _ _ _ (by simp), World.cell?_setCell_other _ _ _ _ (by simp)]; exact hu
    have e2 : ∀ (o : Nat) (u : Value), W'.cell? ⟨b3, o, none⟩ = some u → (((W'.setCell ⟨w.heap.size + 1 + 1, 0, none⟩ x).setCell ⟨w.heap.size + 1 + 1, 1, none⟩ y).setCell ⟨w.heap.size + 1 + 1, 2, none⟩ z).cell? ⟨b3, o, none⟩ = some u := fun o u hu => by
      have hne : ∀ i, (⟨b3, o, none⟩ : Addr) ≠ ⟨w.heap.size + 1 + 1, i, none⟩ := fun i e => by injection e with e; omega
      rw [World.cell?_setCell_other _ _ _ _ (by first | exact hne _ | exact (hne _).symm), World.cell?_setCell_other _ _ _ _ (by first | exact hne _ | exact (hne _).symm), World.cell?_setCell_other _ _ _ _ (by first | exact hne _ | exact (hne _).symm)]; exact hu
    exact ⟨⟨e1 _ _ i1, e1 _ _ i2⟩, ⟨e2 _ _ i3, e2 _ _ i4, e2 _ _ i5⟩, e2 _ _ i6, e2 _ _ i7, e2 _ _ i8⟩)
  have KO := Lib.hid (show ∀ W', Below V.heap.size V W' → ((W'.cell? ⟨w.heap.size + 2, 0, none⟩ = some (strV []) ∧ W'.cell? ⟨w.heap.size + 2, 1, none⟩ = some (strV []) ∧ W'.cell? ⟨w.heap.size + 2, 2, none⟩ = some (.int .i64 0)) ∧ (W'.frozen? ⟨w.heap.size + 2, 0, none⟩ = false ∧ W'.frozen? ⟨w.heap.size + 2, 1, none⟩ = false ∧ W'.frozen? ⟨w.heap.size + 2, 2, none⟩ = false) ∧ w.heap.size + 2 < W'.heap.size) from fun W' hb => by
    obtain ⟨-, -, ⟨i1, i2⟩, i3⟩ := (HBX.out.up hb).opens
    exact ⟨i1, i2, i3⟩)
  unfold Ln.v at C
  clear C0 HN0 hpl HO hra hrb hwa hwb ha hb g3 HC3 hb3 h0
  go_enter Tryd.func41, Tryd.ntmps41
  go_wp2_with fail
  rw [show (((w.alloc (.cells #[.string { data := #[] }, .string { data := #[] }, .int .i64 0] 40)).alloc (.cells #[.int .i64 5, .int .i64 vl, .string { data := nm.toArray }, .int .i64 (j : Int), .int .i64 (j2 : Int)] 59)).alloc (.cells #[.string { data := #[] }, .string { data := #[] }, .int .i64 0] 40)) = V from hV.symm]
  have hcur : Below V.heap.size V V.drew := (Below.refl _ _).drew
  clear hV p0 p1 p2 p3 p4
  go_region_held3 (fun W' => (W'.cell? ⟨w.heap.size + 1, 3, none⟩ = some (.int .i64 (j : Int)) ∧ W'.cell? ⟨w.heap.size + 1, 4, none⟩ = some (.int .i64 (j2 : Int))) ∧ (W'.cell? ⟨b3, o3 + j * 3, none⟩ = some (strV a.sym) ∧ W'.cell? ⟨b3, o3 + j * 3 + 1, none⟩ = some (strV a.minus) ∧ W'.cell? ⟨b3, o3 + j * 3 + 2, none⟩ = some (.int .i64 a.num)) ∧ (W'.cell? ⟨b3, o3 + j2 * 3, none⟩ = some (strV b.sym) ∧ W'.cell? ⟨b3, o3 + j2 * 3 + 1, none⟩ = some (strV b.minus) ∧ W'.cell? ⟨b3, o3 + j2 * 3 + 2, none⟩ = some (.int .i64 b.num)))
    (first | (with_reducible exact KS.out _ hcur) | (with_reducible exact hk3))
    ((go_at_call 63; refine (C.out _).mono ?_; rintro e W1 ⟨rfl, hb1⟩; have hcur := hcur.trans (hb1.mono hcur.size); obtain ⟨⟨s0, s1, s2⟩, ⟨s3, s4, s5⟩, s6⟩ := KO.out _ hcur; have HCU := Lib.hid hcur; have hk3 := KT.out _ (strV r.sym) (strV r.minus) (.int .i64 r.num) hcur))
  clear hk3
  have HB1 := Lib.hid (HBX.out.up HCU.out)
  have HB2 := Lib.hid (HB1.out.set r)
  clear s0 s1 s2 s3 s4 s5 s6
  obtain ⟨⟨⟨z0, z1, z2⟩, z3, z4, z5⟩, ⟨y0, y1, y2, y3, y4⟩, ⟨⟨s0, s1, s2⟩, s3, s4, s5⟩, hlt⟩ := HB1.out.opens
  have hlt0 : w.heap.size < W1.heap.size := by omega
  have hlt1 : w.heap.size + 1 < W1.heap.size := by omega
  go_wp2_with fail
  cases ho : isOutL r.num with
  | true =>
    have CI := Lib.hid (in_is (r := false) (not_out.trans (by rw [ho]; rfl)) ((((W1.setCell ⟨w.heap.size + 2, 0, none⟩ (strV r.sym)).setCell ⟨w.heap.size + 2, 1, none⟩ (strV r.minus)).setCell ⟨w.heap.size + 2, 2, none⟩ (.int .i64 r.num))))
    have ho2 := Lib.hid ho
    clear ho
    refine CI.out.mono ?_
    rintro e w' ⟨rfl, rfl⟩
    go_wp2_with fail
    refine bodyPost_ret (v := .tuple #[.agg #[strV r.sym, strV r.minus, .int .i64 r.num], .int .i64 10]) (by simp [results, Tryd.results41, go_sem, z0, z1, z2]) rfl ?_
    exact ⟨⟨r, 10, rfl, by have h := HN.out; rw [ho2.out] at h; exact h⟩, three_set (HB2.out).low (Nat.le_refl _) _ _ _⟩
  | false =>
    have CI := Lib.hid (in_is (r := true) (not_out.trans (by rw [ho]; rfl)) ((((W1.setCell ⟨w.heap.size + 2, 0, none⟩ (strV r.sym)).setCell ⟨w.heap.size + 2, 1, none⟩ (strV r.minus)).setCell ⟨w.heap.size + 2, 2, none⟩ (.int .i64 r.num))))
    have ho2 := Lib.hid ho
    clear ho
    refine CI.out.mono ?_
    rintro e w' ⟨rfl, rfl⟩
    go_wp2_with fail
    refine bodyPost_ret (v := .tuple #[.agg #[strV r.sym, strV r.minus, .int .i64 r.num], .int .i64 0]) (by simp [results, Tryd.results41, go_sem, z0, z1, z2]) rfl ?_
    exact ⟨⟨r, 0, rfl, by have h := HN.out; rw [ho2.out] at h; exact h⟩, three_set (HB2.out).low (Nat.le_refl _) _ _ _⟩
set_option maxRecDepth 100000 in
set_option maxHeartbeats 4000000 in
theorem nv_5_no (B : Nat) (v u vv : Value) (ns : List Nd) (l : List Nm) (vs : List Ln) (i : Nat) (x : Nd) (w : World) (h : NdsAt B w v ns) (hu : NmsAt B w u l) (hv : LnsAt B w vv vs) (hB : B ≤ w.heap.size) (hx : ns[i]? = some x) (hk : x.kind = 5) (j j2 : Nat) (hj : x.left = (j : Int)) (hj2 : x.right = (j2 : Int)) (a b : Ln) (ha : vs[j]? = some a) (hb : vs[j2]? = some b) (hra : InR a.num) (hrb : InR b.num) (hwa : Wf a) (hwb : Wf b) (h0 : sumL a b = (zeroL, 8)) : Calls Tryd.prog 41 #[v, .int .i64 i, vv, u] w (NvPost x (opA vs x) (opB vs x) l w) := by
  have HNM := Lib.hid hu
  obtain ⟨A, n, c, rfl, Hn, ⟨hl48, hlc⟩, -, HC⟩ := h.opens
  have hin : i < n := by rw [← Hn.out]; exact (List.getElem?_eq_some_iff.1 hx).1
  obtain ⟨b1, o1, rfl, hb1, g1⟩ := HC.out (by omega)
  obtain ⟨p0, p1, p2, p3, p4⟩ := g1 i x hx
  have hb1w : b1 < w.heap.size := Nat.lt_of_lt_of_le hb1 hB
  obtain ⟨A2, n2, c2, rfl, Hn2, ⟨hl56, hlc2⟩, -, HC2⟩ := hu.opens
  obtain ⟨A3, n3, c3, rfl, Hn3, hlc3, HC3⟩ := hv.opens
  clear h hu hv HC g1 hx hb1
  have hj3 : j < n3 := by rw [← Hn3.out]; exact (List.getElem?_eq_some_iff.1 ha).1
  have hj4 : j2 < n3 := by rw [← Hn3.out]; exact (List.getElem?_eq_some_iff.1 hb).1
  obtain ⟨b3, o3, rfl, hb3, g3⟩ := HC3.out (by omega)
  have Q1 := Lib.hid (g3 j a ha)
  have Q2 := Lib.hid (g3 j2 b hb)
  have hb3w : b3 < w.heap.size := Nat.lt_of_lt_of_le hb3 hB
  have HO : operL x.kind (opA vs x) (opB vs x) = sumL a b := by
    rw [show opA vs x = a from opA_of (i := j) (by unfold chN; rw [hk, hj]; rfl) ha, show opB vs x = b from opB_of (i := j2) (by unfold chN; rw [hk, hj2]; rfl) hb]
    unfold operL
    rw [hk, if_neg (by omega), if_pos rfl]
  have HN0 : ∀ u, NodeOk (evalL x (opA vs x) (opB vs x) l) u 8 := node_bad (l := l) (show 3 ≤ x.kind by omega) (by rw [HO, h0]) (by decide)
  have hpl : plusL a b 1 = none := by rw [plusL_sum hwa hwb]; unfold ansL; rw [h0]; rfl
  generalize opA vs x = oa at HN0 ⊢
  generalize opB vs x = ob at HN0 ⊢
  obtain ⟨k, vl, nm, le, ri⟩ := x
  dsimp only at hk hj hj2 p0 p1 p2 p3 p4
  subst hk hj hj2
  have C0 := fun W => plus_any a b 1 W hra hrb (.inl rfl)
  rw [hpl] at C0
  rw [show (none : Option Ln).getD zeroL = zeroL from rfl, show (none : Option Ln).isSome = false from rfl] at C0
  have C := Lib.hid C0
  have HN := Lib.hid HN0
  obtain ⟨r, hr⟩ : ∃ r, r = zeroL := ⟨_, rfl⟩
  rw [← hr] at C
  clear hr
  obtain ⟨V, hV⟩ : ∃ V, V = nvW w ⟨5, vl, nm, (j : Int), (j2 : Int)⟩ zeroL := ⟨_, rfl⟩
  have HBX := Lib.hid (show NvB w ⟨5, vl, nm, (j : Int), (j2 : Int)⟩ zeroL V by rw [hV]; exact nvW_box w _ _)
  unfold nvW at hV
  have KS := Lib.hid (show ∀ W', Below V.heap.size V W' → ((W'.cell? ⟨w.heap.size + 1, 3, none⟩ = some (.int .i64 (j : Int)) ∧ W'.cell? ⟨w.heap.size + 1, 4, none⟩ = some (.int .i64 (j2 : Int))) ∧ (W'.cell? ⟨b3, o3 + j * 3, none⟩ = some (strV a.sym) ∧ W'.cell? ⟨b3, o3 + j * 3 + 1, none⟩ = some (strV a.minus) ∧ W'.cell? ⟨b3, o3 + j * 3 + 2, none⟩ = some (.int .i64 a.num)) ∧ (W'.cell? ⟨b3, o3 + j2 * 3, none⟩ = some (strV b.sym) ∧ W'.cell? ⟨b3, o3 + j2 * 3 + 1, none⟩ = some (strV b.minus) ∧ W'.cell? ⟨b3, o3 + j2 * 3 + 2, none⟩ = some (.int .i64 b.num))) from fun W' hb => by
    have h1 := HBX.out.up hb
    obtain ⟨-, ⟨-, -, -, y3, y4⟩, -⟩ := h1.opens
    exact ⟨⟨y3, y4⟩, Q1.out.below h1.low hb3w, Q2.out.below h1.low hb3w⟩)
  have KT := Lib.hid (show ∀ (W' : World) (x y z : Value), Below V.heap.size V W' → (((((W'.setCell ⟨w.heap.size + 1 + 1, 0, none⟩ x).setCell ⟨w.heap.size + 1 + 1, 1, none⟩ y).setCell ⟨w.heap.size + 1 + 1, 2, none⟩ z).cell? ⟨w.heap.size + 1, 3, none⟩ = some (.int .i64 (j : Int)) ∧ (((W'.setCell ⟨w.heap.size + 1 + 1, 0, none⟩ x).setCell ⟨w.heap.size + 1 + 1, 1, none⟩ y).setCell ⟨w.heap.size + 1 + 1, 2, none⟩ z).cell? ⟨w.heap.size + 1, 4, none⟩ = some (.int .i64 (j2 : Int))) ∧ ((((W'.setCell ⟨w.heap.size + 1 + 1, 0, none⟩ x).setCell ⟨w.heap.size + 1 + 1, 1, none⟩ y).setCell ⟨w.heap.size + 1 + 1, 2, none⟩ z).cell? ⟨b3, o3 + j * 3, none⟩ = some (strV a.sym) ∧ (((W'.setCell ⟨w.heap.size + 1 + 1, 0, none⟩ x).setCell ⟨w.heap.size + 1 + 1, 1, none⟩ y).setCell ⟨w.heap.size + 1 + 1, 2, none⟩ z).cell? ⟨b3, o3 + j * 3 + 1, none⟩ = some (strV a.minus) ∧ (((W'.setCell ⟨w.heap.size + 1 + 1, 0, none⟩ x).setCell ⟨w.heap.size + 1 + 1, 1, none⟩ y).setCell ⟨w.heap.size + 1 + 1, 2, none⟩ z).cell? ⟨b3, o3 + j * 3 + 2, none⟩ = some (.int .i64 a.num)) ∧ ((((W'.setCell ⟨w.heap.size + 1 + 1, 0, none⟩ x).setCell ⟨w.heap.size + 1 + 1, 1, none⟩ y).setCell ⟨w.heap.size + 1 + 1, 2, none⟩ z).cell? ⟨b3, o3 + j2 * 3, none⟩ = some (strV b.sym) ∧ (((W'.setCell ⟨w.heap.size + 1 + 1, 0, none⟩ x).setCell ⟨w.heap.size + 1 + 1, 1, none⟩ y).setCell ⟨w.heap.size + 1 + 1, 2, none⟩ z).cell? ⟨b3, o3 + j2 * 3 + 1, none⟩ = some (strV b.minus) ∧ (((W'.setCell ⟨w.heap.size + 1 + 1, 0, none⟩ x).setCell ⟨w.heap.size + 1 + 1, 1, none⟩ y).setCell ⟨w.heap.size + 1 + 1, 2, none⟩ z).cell? ⟨b3, o3 + j2 * 3 + 2, none⟩ = some (.int .i64 b.num))) from fun W' x y z hb => by
    obtain ⟨⟨i1, i2⟩, ⟨i3, i4, i5⟩, i6, i7, i8⟩ := KS.out W' hb
    have e1 : ∀ (o : Nat) (u : Value), W'.cell? ⟨w.heap.size + 1, o, none⟩ = some u → (((W'.setCell ⟨w.heap.size + 1 + 1, 0, none⟩ x).setCell ⟨w.heap.size + 1 + 1, 1, none⟩ y).setCell ⟨w.heap.size + 1 + 1, 2, none⟩ z).cell? ⟨w.heap.size + 1, o, none⟩ = some u := fun o u hu => by
      rw [World.cell?_setCell_other _ _ _ _ (by simp), World.cell?_setCell_other _ _ _ _ (by simp), World.cell?_setCell_other _ _ _ _ (by simp)]; exact hu
    have e2 : ∀ (o : Nat) (u : Value), W'.cell? ⟨b3, o, none⟩ = some u → (((W'.setCell ⟨w.heap.size + 1 + 1, 0, none⟩ x).setCell ⟨w.heap.size + 1 + 1, 1, none⟩ y).setCell ⟨w.heap.size + 1 + 1, 2, none⟩ z).cell? ⟨b3, o, none⟩ = some u := fun o u hu => by
      have hne : ∀ i, (⟨b3, o, none⟩ : Addr) ≠ ⟨w.heap.size + 1 + 1, i, none⟩ := fun i e => by injection e with e; omega
      rw [World.cell?_setCell_other _ _ _ _ (by first | exact hne _ | exact (hne _).symm), World.cell?_setCell_other _ _ _ _ (by first | exact hne _ | exact (hne _).symm), World.cell?_setCell_other _ _ _ _ (by first | exact hne _ | exact (hne _).symm)]; exact hu
    exact ⟨⟨e1 _ _ i1, e1 _ _ i2⟩, ⟨e2 _ _ i3, e2 _ _ i4, e2 _ _ i5⟩, e2 _ _ i6, e2 _ _ i7, e2 _ _ i8⟩)
  have KO := Lib.hid (show ∀ W', Below V.heap.size V W' → ((W'.cell? ⟨w.heap.size + 2, 0, none⟩ = some (strV []) ∧ W'.cell? ⟨w.heap.size + 2, 1, none⟩ = some (strV []) ∧ W'.cell? ⟨w.heap.size + 2, 2, none⟩ = some (.int .i64 0)) ∧ (W'.frozen? ⟨w.heap.size + 2, 0, none⟩ = false ∧ W'.frozen? ⟨w.heap.size + 2, 1, none⟩ = false ∧ W'.frozen? ⟨w.heap.size + 2, 2, none⟩ = false) ∧ w.heap.size + 2 < W'.heap.size) from fun W' hb => by
    obtain ⟨-, -, ⟨i1, i2⟩, i3⟩ := (HBX.out.up hb).opens
    exact ⟨i1, i2, i3⟩)
  unfold Ln.v at C
  clear C0 HN0 hpl HO hra hrb hwa hwb ha hb g3 HC3 hb3 h0
  go_enter Tryd.func41, Tryd.ntmps41
  go_wp2_with fail
  rw [show (((w.alloc (.cells #[.string { data := #[] }, .string { data := #[] }, .int .i64 0] 40)).alloc (.cells #[.int .i64 5, .int .i64 vl, .string { data := nm.toArray }, .int .i64 (j : Int), .int .i64 (j2 : Int)] 59)).alloc (.cells #[.string { data := #[] }, .string { data := #[] }, .int .i64 0] 40)) = V from hV.symm]
  have hcur : Below V.heap.size V V.drew := (Below.refl _ _).drew
  clear hV p0 p1 p2 p3 p4
  go_region_held3 (fun W' => (W'.cell? ⟨w.heap.size + 1, 3, none⟩ = some (.int .i64 (j : Int)) ∧ W'.cell? ⟨w.heap.size + 1, 4, none⟩ = some (.int .i64 (j2 : Int))) ∧ (W'.cell? ⟨b3, o3 + j * 3, none⟩ = some (strV a.sym) ∧ W'.cell? ⟨b3, o3 + j * 3 + 1, none⟩ = some (strV a.minus) ∧ W'.cell? ⟨b3, o3 + j * 3 + 2, none⟩ = some (.int .i64 a.num)) ∧ (W'.cell? ⟨b3, o3 + j2 * 3, none⟩ = some (strV b.sym) ∧ W'.cell? ⟨b3, o3 + j2 * 3 + 1, none⟩ = some (strV b.minus) ∧ W'.cell? ⟨b3, o3 + j2 * 3 + 2, none⟩ = some (.int .i64 b.num)))
    (first | (with_reducible exact KS.out _ hcur) | (with_reducible exact hk3))
    ((go_at_call 63; refine (C.out _).mono ?_; rintro e W1 ⟨rfl, hb1⟩; have hcur := hcur.trans (hb1.mono hcur.size); obtain ⟨⟨s0, s1, s2⟩, ⟨s3, s4, s5⟩, s6⟩ := KO.out _ hcur; have HCU := Lib.hid hcur; have hk3 := KT.out _ (strV r.sym) (strV r.minus) (.int .i64 r.num) hcur))
  clear hk3
  have HB1 := Lib.hid (HBX.out.up HCU.out)
  have HB2 := Lib.hid (HB1.out.set r)
  clear s0 s1 s2 s3 s4 s5 s6
  obtain ⟨⟨⟨z0, z1, z2⟩, z3, z4, z5⟩, ⟨y0, y1, y2, y3, y4⟩, ⟨⟨s0, s1, s2⟩, s3, s4, s5⟩, hlt⟩ := HB1.out.opens
  have hlt0 : w.heap.size < W1.heap.size := by omega
  have hlt1 : w.heap.size + 1 < W1.heap.size := by omega
  go_wp2_with fail
  refine bodyPost_ret (v := .tuple #[zeroL.v, .int .i64 8]) (by unfold Ln.v zeroL; simp [results, Tryd.results41, go_sem, z0, z1, z2]) rfl ?_
  exact ⟨⟨zeroL, 8, rfl, HN.out _⟩, three_set HB2.out.low (Nat.le_refl _) _ _ _⟩
set_option maxRecDepth 100000 in
set_option maxHeartbeats 4000000 in
theorem nv_6_ok (B : Nat) (v u vv : Value) (ns : List Nd) (l : List Nm) (vs : List Ln) (i : Nat) (x : Nd) (w : World) (h : NdsAt B w v ns) (hu : NmsAt B w u l) (hv : LnsAt B w vv vs) (hB : B ≤ w.heap.size) (hx : ns[i]? = some x) (hk : x.kind = 6) (j j2 : Nat) (hj : x.left = (j : Int)) (hj2 : x.right = (j2 : Int)) (a b : Ln) (ha : vs[j]? = some a) (hb : vs[j2]? = some b) (hra : InR a.num) (hrb : InR b.num) (hwa : Wf a) (hwb : Wf b) (h0 : (sumL a (negL b)).2 = 0) : Calls Tryd.prog 41 #[v, .int .i64 i, vv, u] w (NvPost x (opA vs x) (opB vs x) l w) := by
  have HNM := Lib.hid hu
  obtain ⟨A, n, c, rfl, Hn, ⟨hl48, hlc⟩, -, HC⟩ := h.opens
  have hin : i < n := by rw [← Hn.out]; exact (List.getElem?_eq_some_iff.1 hx).1
  obtain ⟨b1, o1, rfl, hb1, g1⟩ := HC.out (by omega)
  obtain ⟨p0, p1, p2, p3, p4⟩ := g1 i x hx
  have hb1w : b1 < w.heap.size := Nat.lt_of_lt_of_le hb1 hB
  obtain ⟨A2, n2, c2, rfl, Hn2, ⟨hl56, hlc2⟩, -, HC2⟩ := hu.opens
  obtain ⟨A3, n3, c3, rfl, Hn3, hlc3, HC3⟩ := hv.opens
  clear h hu hv HC g1 hx hb1
  have hj3 : j < n3 := by rw [← Hn3.out]; exact (List.getElem?_eq_some_iff.1 ha).1
  have hj4 : j2 < n3 := by rw [← Hn3.out]; exact (List.getElem?_eq_some_iff.1 hb).1
  obtain ⟨b3, o3, rfl, hb3, g3⟩ := HC3.out (by omega)
  have Q1 := Lib.hid (g3 j a ha)
  have Q2 := Lib.hid (g3 j2 b hb)
  have hb3w : b3 < w.heap.size := Nat.lt_of_lt_of_le hb3 hB
  have HO : operL x.kind (opA vs x) (opB vs x) = sumL a (negL b) := by
    rw [show opA vs x = a from opA_of (i := j) (by unfold chN; rw [hk, hj]; rfl) ha, show opB vs x = b from opB_of (i := j2) (by unfold chN; rw [hk, hj2]; rfl) hb]
    unfold operL
    rw [hk, if_neg (by omega), if_neg (by omega), if_pos rfl]
  have HN0 : NodeOk (evalL x (opA vs x) (opB vs x) l) (sumL a (negL b)).1 (if isOutL (sumL a (negL b)).1.num = true then 10 else 0) := node_some (l := l) (show 3 ≤ x.kind by omega) (HO.trans (Prod.ext rfl h0))
  have hpl : plusL a b (-1) = some (sumL a (negL b)).1 := by rw [plusL_diff hwa hwb]; unfold ansL; rw [if_pos h0]
  generalize opA vs x = oa at HN0 ⊢
  generalize opB vs x = ob at HN0 ⊢
  obtain ⟨k, vl, nm, le, ri⟩ := x
  dsimp only at hk hj hj2 p0 p1 p2 p3 p4
  subst hk hj hj2
  have C0 := fun W => plus_any a b (-1) W hra hrb (.inr rfl)
  rw [hpl] at C0
  rw [show (some (sumL a (negL b)).1).getD zeroL = (sumL a (negL b)).1 from rfl, show (some (sumL a (negL b)).1).isSome = true from rfl] at C0
  have C := Lib.hid C0
  have HN := Lib.hid HN0
  generalize (sumL a (negL b)).1 = r at C HN
  obtain ⟨V, hV⟩ : ∃ V, V = nvW w ⟨6, vl, nm, (j : Int), (j2 : Int)⟩ zeroL := ⟨_, rfl⟩
  have HBX := Lib.hid (show NvB w ⟨6, vl, nm, (j : Int), (j2 : Int)⟩ zeroL V by rw [hV]; exact nvW_box w _ _)
  unfold nvW at hV
  have KS := Lib.hid (show ∀ W', Below V.heap.size V W' → ((W'.cell? ⟨w.heap.size + 1, 3, none⟩ = some (.int .i64 (j : Int)) ∧ W'.cell? ⟨w.heap.size + 1, 4, none⟩ = some (.int .i64 (j2 : Int))) ∧ (W'.cell? ⟨b3, o3 + j * 3, none⟩ = some (strV a.sym) ∧ W'.cell? ⟨b3, o3 + j * 3 + 1, none⟩ = some (strV a.minus) ∧ W'.cell? ⟨b3, o3 + j * 3 + 2, none⟩ = some (.int .i64 a.num)) ∧ (W'.cell? ⟨b3, o3 + j2 * 3, none⟩ = some (strV b.sym) ∧ W'.cell? ⟨b3, o3 + j2 * 3 + 1, none⟩ = some (strV b.minus) ∧ W'.cell? ⟨b3, o3 + j2 * 3 + 2, none⟩ = some (.int .i64 b.num))) from fun W' hb => by
    have h1 := HBX.out.up hb
    obtain ⟨-, ⟨-, -, -, y3, y4⟩, -⟩ := h1.opens
    exact ⟨⟨y3, y4⟩, Q1.out.below h1.low hb3w, Q2.out.below h1.low hb3w⟩)
  have KT := Lib.hid (show ∀ (W' : World) (x y z : Value), Below V.heap.size V W' → (((((W'.setCell ⟨w.heap.size + 1 + 1, 0, none⟩ x).setCell ⟨w.heap.size + 1 + 1, 1, none⟩ y).setCell ⟨w.heap.size + 1 + 1, 2, none⟩ z).cell? ⟨w.heap.size + 1, 3, none⟩ = some (.int .i64 (j : Int)) ∧ (((W'.setCell ⟨w.heap.size + 1 + 1, 0, none⟩ x).setCell ⟨w.heap.size + 1 + 1, 1, none⟩ y).setCell ⟨w.heap.size + 1 + 1, 2, none⟩ z).cell? ⟨w.heap.size + 1, 4, none⟩ = some (.int .i64 (j2 : Int))) ∧ ((((W'.setCell ⟨w.heap.size + 1 + 1, 0, none⟩ x).setCell ⟨w.heap.size + 1 + 1, 1, none⟩ y).setCell ⟨w.heap.size + 1 + 1, 2, none⟩ z).cell? ⟨b3, o3 + j * 3, none⟩ = some (strV a.sym) ∧ (((W'.setCell ⟨w.heap.size + 1 + 1, 0, none⟩ x).setCell ⟨w.heap.size + 1 + 1, 1, none⟩ y).setCell ⟨w.heap.size + 1 + 1, 2, none⟩ z).cell? ⟨b3, o3 + j * 3 + 1, none⟩ = some (strV a.minus) ∧ (((W'.setCell ⟨w.heap.size + 1 + 1, 0, none⟩ x).setCell ⟨w.heap.size + 1 + 1, 1, none⟩ y).setCell ⟨w.heap.size + 1 + 1, 2, none⟩ z).cell? ⟨b3, o3 + j * 3 + 2, none⟩ = some (.int .i64 a.num)) ∧ ((((W'.setCell ⟨w.heap.size + 1 + 1, 0, none⟩ x).setCell ⟨w.heap.size + 1 + 1, 1, none⟩ y).setCell ⟨w.heap.size + 1 + 1, 2, none⟩ z).cell? ⟨b3, o3 + j2 * 3, none⟩ = some (strV b.sym) ∧ (((W'.setCell ⟨w.heap.size + 1 + 1, 0, none⟩ x).setCell ⟨w.heap.size + 1 + 1, 1, none⟩ y).setCell ⟨w.heap.size + 1 + 1, 2, none⟩ z).cell? ⟨b3, o3 + j2 * 3 + 1, none⟩ = some (strV b.minus) ∧ (((W'.setCell ⟨w.heap.size + 1 + 1, 0, none⟩ x).setCell ⟨w.heap.size + 1 + 1, 1, none⟩ y).setCell ⟨w.heap.size + 1 + 1, 2, none⟩ z).cell? ⟨b3, o3 + j2 * 3 + 2, none⟩ = some (.int .i64 b.num))) from fun W' x y z hb => by
    obtain ⟨⟨i1, i2⟩, ⟨i3, i4, i5⟩, i6, i7, i8⟩ := KS.out W' hb
    have e1 : ∀ (o : Nat) (u : Value), W'.cell? ⟨w.heap.size + 1, o, none⟩ = some u → (((W'.setCell ⟨w.heap.size + 1 + 1, 0, none⟩ x).setCell ⟨w.heap.size + 1 + 1, 1, none⟩ y).setCell ⟨w.heap.size + 1 + 1, 2, none⟩ z).cell? ⟨w.heap.size + 1, o, none⟩ = some u := fun o u hu => by
      rw [World.cell?_setCell_other _ _ _ _ (by simp), World.cell?_setCell_other _ _ _ _ (by simp), World.cell?_setCell_other _ _ _ _ (by simp)]; exact hu
    have e2 : ∀ (o : Nat) (u : Value), W'.cell? ⟨b3, o, none⟩ = some u → (((W'.setCell ⟨w.heap.size + 1 + 1, 0, none⟩ x).setCell ⟨w.heap.size + 1 + 1, 1, none⟩ y).setCell ⟨w.heap.size + 1 + 1, 2, none⟩ z).cell? ⟨b3, o, none⟩ = some u := fun o u hu => by
      have hne : ∀ i, (⟨b3, o, none⟩ : Addr) ≠ ⟨w.heap.size + 1 + 1, i, none⟩ := fun i e => by injection e with e; omega
      rw [World.cell?_setCell_other _ _ _ _ (by first | exact hne _ | exact (hne _).symm), World.cell?_setCell_other _ _ _ _ (by first | exact hne _ | exact (hne _).symm), World.cell?_setCell_other _ _ _ _ (by first | exact hne _ | exact (hne _).symm)]; exact hu
    exact ⟨⟨e1 _ _ i1, e1 _ _ i2⟩, ⟨e2 _ _ i3, e2 _ _ i4, e2 _ _ i5⟩, e2 _ _ i6, e2 _ _ i7, e2 _ _ i8⟩)
  have KO := Lib.hid (show ∀ W', Below V.heap.size V W' → ((W'.cell? ⟨w.heap.size + 2, 0, none⟩ = some (strV []) ∧ W'.cell? ⟨w.heap.size + 2, 1, none⟩ = some (strV []) ∧ W'.cell? ⟨w.heap.size + 2, 2, none⟩ = some (.int .i64 0)) ∧ (W'.frozen? ⟨w.heap.size + 2, 0, none⟩ = false ∧ W'.frozen? ⟨w.heap.size + 2, 1, none⟩ = false ∧ W'.frozen? ⟨w.heap.size + 2, 2, none⟩ = false) ∧ w.heap.size + 2 < W'.heap.size) from fun W' hb => by
    obtain ⟨-, -, ⟨i1, i2⟩, i3⟩ := (HBX.out.up hb).opens
    exact ⟨i1, i2, i3⟩)
  unfold Ln.v at C
  clear C0 HN0 hpl HO hra hrb hwa hwb ha hb g3 HC3 hb3 h0
  go_enter Tryd.func41, Tryd.ntmps41
  go_wp2_with fail
  rw [show (((w.alloc (.cells #[.string { data := #[] }, .string { data := #[] }, .int .i64 0] 40)).alloc (.cells #[.int .i64 6, .int .i64 vl, .string { data := nm.toArray }, .int .i64 (j : Int), .int .i64 (j2 : Int)] 59)).alloc (.cells #[.string { data := #[] }, .string { data := #[] }, .int .i64 0] 40)) = V from hV.symm]
  have hcur : Below V.heap.size V V.drew := (Below.refl _ _).drew
  clear hV p0 p1 p2 p3 p4
  go_region_held3 (fun W' => (W'.cell? ⟨w.heap.size + 1, 3, none⟩ = some (.int .i64 (j : Int)) ∧ W'.cell? ⟨w.heap.size + 1, 4, none⟩ = some (.int .i64 (j2 : Int))) ∧ (W'.cell? ⟨b3, o3 + j * 3, none⟩ = some (strV a.sym) ∧ W'.cell? ⟨b3, o3 + j * 3 + 1, none⟩ = some (strV a.minus) ∧ W'.cell? ⟨b3, o3 + j * 3 + 2, none⟩ = some (.int .i64 a.num)) ∧ (W'.cell? ⟨b3, o3 + j2 * 3, none⟩ = some (strV b.sym) ∧ W'.cell? ⟨b3, o3 + j2 * 3 + 1, none⟩ = some (strV b.minus) ∧ W'.cell? ⟨b3, o3 + j2 * 3 + 2, none⟩ = some (.int .i64 b.num)))
    (first | (with_reducible exact KS.out _ hcur) | (with_reducible exact hk3))
    ((go_at_call 63; refine (C.out _).mono ?_; rintro e W1 ⟨rfl, hb1⟩; have hcur := hcur.trans (hb1.mono hcur.size); obtain ⟨⟨s0, s1, s2⟩, ⟨s3, s4, s5⟩, s6⟩ := KO.out _ hcur; have HCU := Lib.hid hcur; have hk3 := KT.out _ (strV r.sym) (strV r.minus) (.int .i64 r.num) hcur))
  clear hk3
  have HB1 := Lib.hid (HBX.out.up HCU.out)
  have HB2 := Lib.hid (HB1.out.set r)
  clear s0 s1 s2 s3 s4 s5 s6
  obtain ⟨⟨⟨z0, z1, z2⟩, z3, z4, z5⟩, ⟨y0, y1, y2, y3, y4⟩, ⟨⟨s0, s1, s2⟩, s3, s4, s5⟩, hlt⟩ := HB1.out.opens
  have hlt0 : w.heap.size < W1.heap.size := by omega
  have hlt1 : w.heap.size + 1 < W1.heap.size := by omega
  go_wp2_with fail
  cases ho : isOutL r.num with
  | true =>
    have CI := Lib.hid (in_is (r := false) (not_out.trans (by rw [ho]; rfl)) ((((W1.setCell ⟨w.heap.size + 2, 0, none⟩ (strV r.sym)).setCell ⟨w.heap.size + 2, 1, none⟩ (strV r.minus)).setCell ⟨w.heap.size + 2, 2, none⟩ (.int .i64 r.num))))
    have ho2 := Lib.hid ho
    clear ho
    refine CI.out.mono ?_
    rintro e w' ⟨rfl, rfl⟩
    go_wp2_with fail
    refine bodyPost_ret (v := .tuple #[.agg #[strV r.sym, strV r.minus, .int .i64 r.num], .int .i64 10]) (by simp [results, Tryd.results41, go_sem, z0, z1, z2]) rfl ?_
    exact ⟨⟨r, 10, rfl, by have h := HN.out; rw [ho2.out] at h; exact h⟩, three_set (HB2.out).low (Nat.le_refl _) _ _ _⟩
  | false =>
    have CI := Lib.hid (in_is (r := true) (not_out.trans (by rw [ho]; rfl)) ((((W1.setCell ⟨w.heap.size + 2, 0, none⟩ (strV r.sym)).setCell ⟨w.heap.size + 2, 1, none⟩ (strV r.minus)).setCell ⟨w.heap.size + 2, 2, none⟩ (.int .i64 r.num))))
    have ho2 := Lib.hid ho
    clear ho
    refine CI.out.mono ?_
    rintro e w' ⟨rfl, rfl⟩
    go_wp2_with fail
    refine bodyPost_ret (v := .tuple #[.agg #[strV r.sym, strV r.minus, .int .i64 r.num], .int .i64 0]) (by simp [results, Tryd.results41, go_sem, z0, z1, z2]) rfl ?_
    exact ⟨⟨r, 0, rfl, by have h := HN.out; rw [ho2.out] at h; exact h⟩, three_set (HB2.out).low (Nat.le_refl _) _ _ _⟩
set_option maxRecDepth 100000 in
set_option maxHeartbeats 4000000 in
theorem nv_6_no (B : Nat) (v u vv : Value) (ns : List Nd) (l : List Nm) (vs : List Ln) (i : Nat) (x : Nd) (w : World) (h : NdsAt B w v ns) (hu : NmsAt B w u l) (hv : LnsAt B w vv vs) (hB : B ≤ w.heap.size) (hx : ns[i]? = some x) (hk : x.kind = 6) (j j2 : Nat) (hj : x.left = (j : Int)) (hj2 : x.right = (j2 : Int)) (a b : Ln) (ha : vs[j]? = some a) (hb : vs[j2]? = some b) (hra : InR a.num) (hrb : InR b.num) (hwa : Wf a) (hwb : Wf b) (h0 : sumL a (negL b) = (zeroL, 8)) : Calls Tryd.prog 41 #[v, .int .i64 i, vv, u] w (NvPost x (opA vs x) (opB vs x) l w) := by
  have HNM := Lib.hid hu
  obtain ⟨A, n, c, rfl, Hn, ⟨hl48, hlc⟩, -, HC⟩ := h.opens
  have hin : i < n := by rw [← Hn.out]; exact (List.getElem?_eq_some_iff.1 hx).1
  obtain ⟨b1, o1, rfl, hb1, g1⟩ := HC.out (by omega)
  obtain ⟨p0, p1, p2, p3, p4⟩ := g1 i x hx
  have hb1w : b1 < w.heap.size := Nat.lt_of_lt_of_le hb1 hB
  obtain ⟨A2, n2, c2, rfl, Hn2, ⟨hl56, hlc2⟩, -, HC2⟩ := hu.opens
  obtain ⟨A3, n3, c3, rfl, Hn3, hlc3, HC3⟩ := hv.opens
  clear h hu hv HC g1 hx hb1
  have hj3 : j < n3 := by rw [← Hn3.out]; exact (List.getElem?_eq_some_iff.1 ha).1
  have hj4 : j2 < n3 := by rw [← Hn3.out]; exact (List.getElem?_eq_some_iff.1 hb).1
  obtain ⟨b3, o3, rfl, hb3, g3⟩ := HC3.out (by omega)
  have Q1 := Lib.hid (g3 j a ha)
  have Q2 := Lib.hid (g3 j2 b hb)
  have hb3w : b3 < w.heap.size := Nat.lt_of_lt_of_le hb3 hB
  have HO : operL x.kind (opA vs x) (opB vs x) = sumL a (negL b) := by
    rw [show opA vs x = a from opA_of (i := j) (by unfold chN; rw [hk, hj]; rfl) ha, show opB vs x = b from opB_of (i := j2) (by unfold chN; rw [hk, hj2]; rfl) hb]
    unfold operL
    rw [hk, if_neg (by omega), if_neg (by omega), if_pos rfl]
  have HN0 : ∀ u, NodeOk (evalL x (opA vs x) (opB vs x) l) u 8 := node_bad (l := l) (show 3 ≤ x.kind by omega) (by rw [HO, h0]) (by decide)
  have hpl : plusL a b (-1) = none := by rw [plusL_diff hwa hwb]; unfold ansL; rw [h0]; rfl
  generalize opA vs x = oa at HN0 ⊢
  generalize opB vs x = ob at HN0 ⊢
  obtain ⟨k, vl, nm, le, ri⟩ := x
  dsimp only at hk hj hj2 p0 p1 p2 p3 p4
  subst hk hj hj2
  have C0 := fun W => plus_any a b (-1) W hra hrb (.inr rfl)
  rw [hpl] at C0
  rw [show (none : Option Ln).getD zeroL = zeroL from rfl, show (none : Option Ln).isSome = false from rfl] at C0
  have C := Lib.hid C0
  have HN := Lib.hid HN0
  obtain ⟨r, hr⟩ : ∃ r, r = zeroL := ⟨_, rfl⟩
  rw [← hr] at C
  clear hr
  obtain ⟨V, hV⟩ : ∃ V, V = nvW w ⟨6, vl, nm, (j : Int), (j2 : Int)⟩ zeroL := ⟨_, rfl⟩
  have HBX := Lib.hid (show NvB w ⟨6, vl, nm, (j : Int), (j2 : Int)⟩ zeroL V by rw [hV]; exact nvW_box w _ _)
  unfold nvW at hV
  have KS := Lib.hid (show ∀ W', Below V.heap.size V W' → ((W'.cell? ⟨w.heap.size + 1, 3, none⟩ = some (.int .i64 (j : Int)) ∧ W'.cell? ⟨w.heap.size + 1, 4, none⟩ = some (.int .i64 (j2 : Int))) ∧ (W'.cell? ⟨b3, o3 + j * 3, none⟩ = some (strV a.sym) ∧ W'.cell? ⟨b3, o3 + j * 3 + 1, none⟩ = some (strV a.minus) ∧ W'.cell? ⟨b3, o3 + j * 3 + 2, none⟩ = some (.int .i64 a.num)) ∧ (W'.cell? ⟨b3, o3 + j2 * 3, none⟩ = some (strV b.sym) ∧ W'.cell? ⟨b3, o3 + j2 * 3 + 1, none⟩ = some (strV b.minus) ∧ W'.cell? ⟨b3, o3 + j2 * 3 + 2, none⟩ = some (.int .i64 b.num))) from fun W' hb => by
    have h1 := HBX.out.up hb
    obtain ⟨-, ⟨-, -, -, y3, y4⟩, -⟩ := h1.opens
    exact ⟨⟨y3, y4⟩, Q1.out.below h1.low hb3w, Q2.out.below h1.low hb3w⟩)
  have KT := Lib.hid (show ∀ (W' : World) (x y z : Value), Below V.heap.size V W' → (((((W'.setCell ⟨w.heap.size + 1 + 1, 0, none⟩ x).setCell ⟨w.heap.size + 1 + 1, 1, none⟩ y).setCell ⟨w.heap.size + 1 + 1, 2, none⟩ z).cell? ⟨w.heap.size + 1, 3, none⟩ = some (.int .i64 (j : Int)) ∧ (((W'.setCell ⟨w.heap.size + 1 + 1, 0, none⟩ x).setCell ⟨w.heap.size + 1 + 1, 1, none⟩ y).setCell ⟨w.heap.size + 1 + 1, 2, none⟩ z).cell? ⟨w.heap.size + 1, 4, none⟩ = some (.int .i64 (j2 : Int))) ∧ ((((W'.setCell ⟨w.heap.size + 1 + 1, 0, none⟩ x).setCell ⟨w.heap.size + 1 + 1, 1, none⟩ y).setCell ⟨w.heap.size + 1 + 1, 2, none⟩ z).cell? ⟨b3, o3 + j * 3, none⟩ = some (strV a.sym) ∧ (((W'.setCell ⟨w.heap.size + 1 + 1, 0, none⟩ x).setCell ⟨w.heap.size + 1 + 1, 1, none⟩ y).setCell ⟨w.heap.size + 1 + 1, 2, none⟩ z).cell? ⟨b3, o3 + j * 3 + 1, none⟩ = some (strV a.minus) ∧ (((W'.setCell ⟨w.heap.size + 1 + 1, 0, none⟩ x).setCell ⟨w.heap.size + 1 + 1, 1, none⟩ y).setCell ⟨w.heap.size + 1 + 1, 2, none⟩ z).cell? ⟨b3, o3 + j * 3 + 2, none⟩ = some (.int .i64 a.num)) ∧ ((((W'.setCell ⟨w.heap.size + 1 + 1, 0, none⟩ x).setCell ⟨w.heap.size + 1 + 1, 1, none⟩ y).setCell ⟨w.heap.size + 1 + 1, 2, none⟩ z).cell? ⟨b3, o3 + j2 * 3, none⟩ = some (strV b.sym) ∧ (((W'.setCell ⟨w.heap.size + 1 + 1, 0, none⟩ x).setCell ⟨w.heap.size + 1 + 1, 1, none⟩ y).setCell ⟨w.heap.size + 1 + 1, 2, none⟩ z).cell? ⟨b3, o3 + j2 * 3 + 1, none⟩ = some (strV b.minus) ∧ (((W'.setCell ⟨w.heap.size + 1 + 1, 0, none⟩ x).setCell ⟨w.heap.size + 1 + 1, 1, none⟩ y).setCell ⟨w.heap.size + 1 + 1, 2, none⟩ z).cell? ⟨b3, o3 + j2 * 3 + 2, none⟩ = some (.int .i64 b.num))) from fun W' x y z hb => by
    obtain ⟨⟨i1, i2⟩, ⟨i3, i4, i5⟩, i6, i7, i8⟩ := KS.out W' hb
    have e1 : ∀ (o : Nat) (u : Value), W'.cell? ⟨w.heap.size + 1, o, none⟩ = some u → (((W'.setCell ⟨w.heap.size + 1 + 1, 0, none⟩ x).setCell ⟨w.heap.size + 1 + 1, 1, none⟩ y).setCell ⟨w.heap.size + 1 + 1, 2, none⟩ z).cell? ⟨w.heap.size + 1, o, none⟩ = some u := fun o u hu => by
      rw [World.cell?_setCell_other _ _ _ _ (by simp), World.cell?_setCell_other _ _ _ _ (by simp), World.cell?_setCell_other _ _ _ _ (by simp)]; exact hu
    have e2 : ∀ (o : Nat) (u : Value), W'.cell? ⟨b3, o, none⟩ = some u → (((W'.setCell ⟨w.heap.size + 1 + 1, 0, none⟩ x).setCell ⟨w.heap.size + 1 + 1, 1, none⟩ y).setCell ⟨w.heap.size + 1 + 1, 2, none⟩ z).cell? ⟨b3, o, none⟩ = some u := fun o u hu => by
      have hne : ∀ i, (⟨b3, o, none⟩ : Addr) ≠ ⟨w.heap.size + 1 + 1, i, none⟩ := fun i e => by injection e with e; omega
      rw [World.cell?_setCell_other _ _ _ _ (by first | exact hne _ | exact (hne _).symm), World.cell?_setCell_other _ _ _ _ (by first | exact hne _ | exact (hne _).symm), World.cell?_setCell_other _ _ _ _ (by first | exact hne _ | exact (hne _).symm)]; exact hu
    exact ⟨⟨e1 _ _ i1, e1 _ _ i2⟩, ⟨e2 _ _ i3, e2 _ _ i4, e2 _ _ i5⟩, e2 _ _ i6, e2 _ _ i7, e2 _ _ i8⟩)
  have KO := Lib.hid (show ∀ W', Below V.heap.size V W' → ((W'.cell? ⟨w.heap.size + 2, 0, none⟩ = some (strV []) ∧ W'.cell? ⟨w.heap.size + 2, 1, none⟩ = some (strV []) ∧ W'.cell? ⟨w.heap.size + 2, 2, none⟩ = some (.int .i64 0)) ∧ (W'.frozen? ⟨w.heap.size + 2, 0, none⟩ = false ∧ W'.frozen? ⟨w.heap.size + 2, 1, none⟩ = false ∧ W'.frozen? ⟨w.heap.size + 2, 2, none⟩ = false) ∧ w.heap.size + 2 < W'.heap.size) from fun W' hb => by
    obtain ⟨-, -, ⟨i1, i2⟩, i3⟩ := (HBX.out.up hb).opens
    exact ⟨i1, i2, i3⟩)
  unfold Ln.v at C
  clear C0 HN0 hpl HO hra hrb hwa hwb ha hb g3 HC3 hb3 h0
  go_enter Tryd.func41, Tryd.ntmps41
  go_wp2_with fail
  rw [show (((w.alloc (.cells #[.string { data := #[] }, .string { data := #[] }, .int .i64 0] 40)).alloc (.cells #[.int .i64 6, .int .i64 vl, .string { data := nm.toArray }, .int .i64 (j : Int), .int .i64 (j2 : Int)] 59)).alloc (.cells #[.string { data := #[] }, .string { data := #[] }, .int .i64 0] 40)) = V from hV.symm]
  have hcur : Below V.heap.size V V.drew := (Below.refl _ _).drew
  clear hV p0 p1 p2 p3 p4
  go_region_held3 (fun W' => (W'.cell? ⟨w.heap.size + 1, 3, none⟩ = some (.int .i64 (j : Int)) ∧ W'.cell? ⟨w.heap.size + 1, 4, none⟩ = some (.int .i64 (j2 : Int))) ∧ (W'.cell? ⟨b3, o3 + j * 3, none⟩ = some (strV a.sym) ∧ W'.cell? ⟨b3, o3 + j * 3 + 1, none⟩ = some (strV a.minus) ∧ W'.cell? ⟨b3, o3 + j * 3 + 2, none⟩ = some (.int .i64 a.num)) ∧ (W'.cell? ⟨b3, o3 + j2 * 3, none⟩ = some (strV b.sym) ∧ W'.cell? ⟨b3, o3 + j2 * 3 + 1, none⟩ = some (strV b.minus) ∧ W'.cell? ⟨b3, o3 + j2 * 3 + 2, none⟩ = some (.int .i64 b.num)))
    (first | (with_reducible exact KS.out _ hcur) | (with_reducible exact hk3))
    ((go_at_call 63; refine (C.out _).mono ?_; rintro e W1 ⟨rfl, hb1⟩; have hcur := hcur.trans (hb1.mono hcur.size); obtain ⟨⟨s0, s1, s2⟩, ⟨s3, s4, s5⟩, s6⟩ := KO.out _ hcur; have HCU := Lib.hid hcur; have hk3 := KT.out _ (strV r.sym) (strV r.minus) (.int .i64 r.num) hcur))
  clear hk3
  have HB1 := Lib.hid (HBX.out.up HCU.out)
  have HB2 := Lib.hid (HB1.out.set r)
  clear s0 s1 s2 s3 s4 s5 s6
  obtain ⟨⟨⟨z0, z1, z2⟩, z3, z4, z5⟩, ⟨y0, y1, y2, y3, y4⟩, ⟨⟨s0, s1, s2⟩, s3, s4, s5⟩, hlt⟩ := HB1.out.opens
  have hlt0 : w.heap.size < W1.heap.size := by omega
  have hlt1 : w.heap.size + 1 < W1.heap.size := by omega
  go_wp2_with fail
  refine bodyPost_ret (v := .tuple #[zeroL.v, .int .i64 8]) (by unfold Ln.v zeroL; simp [results, Tryd.results41, go_sem, z0, z1, z2]) rfl ?_
  exact ⟨⟨zeroL, 8, rfl, HN.out _⟩, three_set HB2.out.low (Nat.le_refl _) _ _ _⟩
end Go.Proofs.YtchpkdpefpiegaaDoor.Tok
