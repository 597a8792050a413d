/- Contract of put: unary and binary nodes, all nodes. -/
import Derived.Test.YtchpkdpefpiegaaDoorExUC
namespace Go.Proofs.YtchpkdpefpiegaaDoor.Tok
open Go Go.RowKit

theorem nds_at {K n c j : Nat} {A : Option Addr} {w : World} {ns : List Nd} {y : Nd} (h : NdsAt K w (.slice A n c) ns) (hy : ns[j]? = some y) : ns.length = n ∧ ∃ b o, A = some ⟨b, o, none⟩ ∧ b < K ∧ NdCells w b (o + j * 5) y := by
  obtain ⟨A', n', c', e, Hn, -, -, HC⟩ := h.opens
  injection e with e1 e2 e3
  subst e1 e2 e3
  have hj := (List.getElem?_eq_some_iff.1 hy).1
  rw [Hn.out] at hj
  obtain ⟨b, o, e, hb, g⟩ := HC.out (by omega)
  exact ⟨Hn.out, b, o, e, hb, g j y hy⟩
/-- what put is to answer for the nodes before i -/
def PutIH (K : Nat) (ve : Value) (ns : List Nd) (i : Nat) : Prop := ∀ (j : Nat) (y : Nd), j < i → ns[j]? = some y → ∀ (ts : List Tk) (v : Value) (w : World), PutS K ve ns w ts v → ts.length + cntL ns j ≤ 100000 →
  Calls Tryd.prog 67 #[y.v, .pointer (some ⟨K + 1, 0, none⟩), .pointer (some ⟨K + 2, 0, none⟩), .pointer (some ⟨K + 3, 0, none⟩), .pointer (some ⟨K, 0, none⟩)] w (PutPost K ve ns w ts v (toksL ns j))
set_option maxRecDepth 100000 in
set_option maxHeartbeats 4000000 in
theorem put_unary (K : Nat) (ve : Value) (ns : List Nd) (hG : 0 < K) (i : Nat) (IH : PutIH K ve ns i) (x : Nd) (hk1 : 3 ≤ x.kind) (hk2 : x.kind < 5) (j : Nat) (hj : x.left = (j : Int)) (hji : j < i) (y : Nd) (hy : ns[j]? = some y) (ts : List Tk) (v : Value) (w : World) (h : PutS K ve ns w ts v) (hl : ts.length + 1 + cntL ns j ≤ 100000) :
    Calls Tryd.prog 67 #[x.v, .pointer (some ⟨K + 1, 0, none⟩), .pointer (some ⟨K + 2, 0, none⟩), .pointer (some ⟨K + 3, 0, none⟩), .pointer (some ⟨K, 0, none⟩)] w (PutPost K ve ns w ts v (sgS (signL x.kind.toNat) :: toksL ns j)) := by
  obtain ⟨k, vl, nm, le, ri⟩ := x
  dsimp only at hk1 hk2 hj
  obtain ⟨k, rfl⟩ : ∃ n : Nat, k = n := ⟨k.toNat, by omega⟩
  subst hj
  have hk15 : k < 15 := by omega
  obtain ⟨A, n, c, rfl, -⟩ := h.nds.opens
  obtain ⟨hn, b1, o1, rfl, hb1, -⟩ := nds_at h.nds hy
  have hjn : j < n := by rw [← hn]; exact (List.getElem?_eq_some_iff.1 hy).1
  have hb : Below w.heap.size w (w.alloc (.cells #[.int .i64 (k : Int), .int .i64 vl, strV nm, .int .i64 (j : Int), .int .i64 ri] 59)) := (Below.refl _ _).alloc (Nat.le_refl _) _
  have hn1 : (w.alloc (.cells #[.int .i64 (k : Int), .int .i64 vl, strV nm, .int .i64 (j : Int), .int .i64 ri] 59)).heap[w.heap.size]? = some (.cells #[.int .i64 (k : Int), .int .i64 vl, strV nm, .int .i64 (j : Int), .int .i64 ri] 59 (0, 0)) := heap_alloc_new _ _
  have kc := kinds_child h.kinds hk15
  have ks := kinds_sign h.kinds hk15
  rw [show childL k = 1 from by have := child_kind (k := (k : Int)) (by omega) (by omega); exact this.2.1 (by omega) (by omega)] at kc
  have hglt := h.kinds.lt
  have HS0 := Lib.hid (h.up hb)
  have HN0 := Lib.hid (show (w.alloc (.cells #[.int .i64 (k : Int), .int .i64 vl, strV nm, .int .i64 (j : Int), .int .i64 ri] 59)).heap[w.heap.size]? = some (.cells #[.int .i64 (k : Int), .int .i64 vl, strV nm, .int .i64 (j : Int), .int .i64 ri] 59 (0, 0)) ∧ v.ownBlock ≠ some w.heap.size from ⟨hn1, fun e => by have := (h.l.row.lt _ e).2; omega⟩)
  have HF0 := Lib.hid (PutF.of (bl := K + 1) v hb)
  have hk0 : K + 3 < w.heap.size := h.opens.2.2.2
  have hk0a : K + 2 < w.heap.size := by omega
  have hk0b : K < w.heap.size := by omega
  obtain ⟨⟨x0, x1, x2⟩, x3, x4, x5⟩ := h.opens
  unfold signF at x1
  have hne : w.heap.size ≠ K + 1 := by omega
  have HI := Lib.hid IH
  have HLN := Lib.hid hl
  unfold Nd.v
  clear h hb hn1 IH hl
  go_enter Tryd.func67, Tryd.ntmps67
  go_wp2_with fail
  refine (putSign_any (K + 1) (K + 4) _ _ (signL k) _ HS0.out.l (by have := HLN.out; omega)).mono ?_
  rintro e W1 ⟨rfl, v1, hls, hfs⟩
  have HS1 := Lib.hid (HS0.out.step hG hls hfs)
  have HN1 := Lib.hid (node_kept hfs HN0.out.1 hne HN0.out.2)
  have HF1 := Lib.hid (HF0.out.trans hfs)
  clear hls hfs
  clear x0 x1 x2 x3 x4 x5 kc ks hglt
  obtain ⟨⟨x0, x1, x2⟩, x3, x4, x5⟩ := HS1.out.opens
  unfold signF at x1
  unfold putF at x2
  obtain ⟨⟨n0, n1, n2⟩, ⟨n3, n4⟩, n5⟩ := nd_cells (x := ⟨(k : Int), vl, nm, (j : Int), ri⟩) HN1.out.1
  go_wp2_with fail
  clear x0 x1 x2 x3 x4 x5 n0 n1 n2 n3 n4 n5
  have KS := Lib.hid (show ∀ (W' : World) tt vv, PutS K (.slice (some ⟨b1, o1, none⟩) n c) ns W' tt vv → W'.heap[w.heap.size]? = W1.heap[w.heap.size]? → ((W'.cell? ⟨K, 0, none⟩ = some (.slice (some ⟨b1, o1, none⟩) n c) ∧ W'.cell? ⟨K + 3, 0, none⟩ = some (.func (.func 67) #[] #[.pointer (some ⟨K + 1, 0, none⟩), .pointer (some ⟨K + 2, 0, none⟩), .pointer (some ⟨K + 3, 0, none⟩), .pointer (some ⟨K, 0, none⟩)]) ∧ W'.cell? ⟨w.heap.size, 3, none⟩ = some (.int .i64 (j : Int))) ∧ (W'.cell? ⟨b1, o1 + j * 5, none⟩ = some (.int .i64 y.kind) ∧ W'.cell? ⟨b1, o1 + j * 5 + 1, none⟩ = some (.int .i64 y.val) ∧ W'.cell? ⟨b1, o1 + j * 5 + 2, none⟩ = some (strV y.name) ∧ W'.cell? ⟨b1, o1 + j * 5 + 3, none⟩ = some (.int .i64 y.left) ∧ W'.cell? ⟨b1, o1 + j * 5 + 4, none⟩ = some (.int .i64 y.right))) from fun W' tt vv hs hnd => by
    obtain ⟨⟨h1, -, h2⟩, -⟩ := hs.opens
    obtain ⟨-, b, o, e, -, h3⟩ := nds_at hs.nds hy
    injection e with e
    injection e with e1 e2 _
    subst e1 e2
    obtain ⟨-, h5, -⟩ := nd_cells (x := ⟨(k : Int), vl, nm, (j : Int), ri⟩) (hnd.trans HN1.out.1)
    exact ⟨⟨h1, h2, h5.1⟩, h3⟩)
  have hcur : Below W1.heap.size W1 W1.drew := (Below.refl _ _).drew
  have hk3 := KS.out _ _ _ (HS1.out.up hcur) (hcur.block _ (lt_of_block HN1.out.1))
  go_region_held3 (fun W' => (W'.cell? ⟨K, 0, none⟩ = some (.slice (some ⟨b1, o1, none⟩) n c) ∧ W'.cell? ⟨K + 3, 0, none⟩ = some (.func (.func 67) #[] #[.pointer (some ⟨K + 1, 0, none⟩), .pointer (some ⟨K + 2, 0, none⟩), .pointer (some ⟨K + 3, 0, none⟩), .pointer (some ⟨K, 0, none⟩)]) ∧ W'.cell? ⟨w.heap.size, 3, none⟩ = some (.int .i64 (j : Int))) ∧ (W'.cell? ⟨b1, o1 + j * 5, none⟩ = some (.int .i64 y.kind) ∧ W'.cell? ⟨b1, o1 + j * 5 + 1, none⟩ = some (.int .i64 y.val) ∧ W'.cell? ⟨b1, o1 + j * 5 + 2, none⟩ = some (strV y.name) ∧ W'.cell? ⟨b1, o1 + j * 5 + 3, none⟩ = some (.int .i64 y.left) ∧ W'.cell? ⟨b1, o1 + j * 5 + 4, none⟩ = some (.int .i64 y.right)))
    (first | (with_reducible exact hk3) | exact hk3)
    ((go_at_call 67; refine (HI.out j y hji hy _ _ _ (HS1.out.up hcur) (by have := HLN.out; rw [List.length_append]; show _ + 1 + _ ≤ _; omega)).mono ?_; rintro e W2 ⟨rfl, v2, hsn, hfn⟩; have hfn := (PutF.of (bl := K + 1) v1 hcur).trans hfn; have HS2 := Lib.hid hsn; have HN2 := Lib.hid (node_kept hfn HN1.out.1 hne HN1.out.2); have HF2 := Lib.hid (HF1.out.trans hfn); have hk3 := KS.out _ _ _ hsn (HN2.out.1.trans HN1.out.1.symm)))
  clear hk3 hcur KS
  go_wp2_with fail
  go_end0
  refine ⟨rfl, v2, ?_, HF2.out⟩
  have h3 := HS2.out
  rw [List.append_assoc] at h3
  exact h3
set_option maxRecDepth 100000 in
set_option maxHeartbeats 8000000 in
theorem put_binary (K : Nat) (ve : Value) (ns : List Nd) (hG : 0 < K) (i : Nat) (IH : PutIH K ve ns i) (x : Nd) (hk1 : 5 ≤ x.kind) (hk2 : x.kind ≤ 14) (j j2 : Nat) (hj : x.left = (j : Int)) (hj2 : x.right = (j2 : Int)) (hji : j < i) (hji2 : j2 < i) (y y2 : Nd) (hy : ns[j]? = some y) (hy2 : ns[j2]? = some y2) (ts : List Tk) (v : Value) (w : World) (h : PutS K ve ns w ts v) (hl : ts.length + 3 + cntL ns j + cntL ns j2 ≤ 100000) :
    Calls Tryd.prog 67 #[x.v, .pointer (some ⟨K + 1, 0, none⟩), .pointer (some ⟨K + 2, 0, none⟩), .pointer (some ⟨K + 3, 0, none⟩), .pointer (some ⟨K, 0, none⟩)] w (PutPost K ve ns w ts v (sgS [40] :: (toksL ns j ++ sgS (signL x.kind.toNat) :: (toksL ns j2 ++ [sgS [41]])))) := by
  obtain ⟨k, vl, nm, le, ri⟩ := x
  dsimp only at hk1 hk2 hj hj2
  obtain ⟨k, rfl⟩ : ∃ n : Nat, k = n := ⟨k.toNat, by omega⟩
  subst hj hj2
  have hk15 : k < 15 := by omega
  obtain ⟨A, n, c, rfl, -⟩ := h.nds.opens
  obtain ⟨hn, b1, o1, rfl, hb1, -⟩ := nds_at h.nds hy
  have hjn : j < n := by rw [← hn]; exact (List.getElem?_eq_some_iff.1 hy).1
  have hjn2 : j2 < n := by rw [← hn]; exact (List.getElem?_eq_some_iff.1 hy2).1
  have hb : Below w.heap.size w (w.alloc (.cells #[.int .i64 (k : Int), .int .i64 vl, strV nm, .int .i64 (j : Int), .int .i64 (j2 : Int)] 59)) := (Below.refl _ _).alloc (Nat.le_refl _) _
  have hn1 : (w.alloc (.cells #[.int .i64 (k : Int), .int .i64 vl, strV nm, .int .i64 (j : Int), .int .i64 (j2 : Int)] 59)).heap[w.heap.size]? = some (.cells #[.int .i64 (k : Int), .int .i64 vl, strV nm, .int .i64 (j : Int), .int .i64 (j2 : Int)] 59 (0, 0)) := heap_alloc_new _ _
  have kc := kinds_child h.kinds hk15
  have ks := kinds_sign h.kinds hk15
  rw [show childL k = 2 from by have := child_kind (k := (k : Int)) (by omega) (by omega); exact this.2.2 (by omega)] at kc
  have hglt := h.kinds.lt
  have HS0 := Lib.hid (h.up hb)
  have HN0 := Lib.hid (show (w.alloc (.cells #[.int .i64 (k : Int), .int .i64 vl, strV nm, .int .i64 (j : Int), .int .i64 (j2 : Int)] 59)).heap[w.heap.size]? = some (.cells #[.int .i64 (k : Int), .int .i64 vl, strV nm, .int .i64 (j : Int), .int .i64 (j2 : Int)] 59 (0, 0)) ∧ v.ownBlock ≠ some w.heap.size from ⟨hn1, fun e => by have := (h.l.row.lt _ e).2; omega⟩)
  have HF0 := Lib.hid (PutF.of (bl := K + 1) v hb)
  have hk0 : K + 3 < w.heap.size := h.opens.2.2.2
  have hk0a : K + 2 < w.heap.size := by omega
  have hk0b : K < w.heap.size := by omega
  obtain ⟨⟨x0, x1, x2⟩, x3, x4, x5⟩ := h.opens
  unfold signF at x1
  have hne : w.heap.size ≠ K + 1 := by omega
  have HI := Lib.hid IH
  have HLN := Lib.hid hl
  unfold Nd.v
  clear h hb hn1 IH hl
  go_enter Tryd.func67, Tryd.ntmps67
  go_wp2_with fail
  refine (putSign_any (K + 1) (K + 4) _ _ ([40]) _ HS0.out.l (by have := HLN.out; omega)).mono ?_
  rintro e W1 ⟨rfl, v1, hls, hfs⟩
  have HS1 := Lib.hid (HS0.out.step hG hls hfs)
  have HN1 := Lib.hid (node_kept hfs HN0.out.1 hne HN0.out.2)
  have HF1 := Lib.hid (HF0.out.trans hfs)
  clear hls hfs
  clear x0 x1 x2 x3 x4 x5 kc ks hglt
  obtain ⟨⟨x0, x1, x2⟩, x3, x4, x5⟩ := HS1.out.opens
  unfold signF at x1
  unfold putF at x2
  obtain ⟨⟨n0, n1, n2⟩, ⟨n3, n4⟩, n5⟩ := nd_cells (x := ⟨(k : Int), vl, nm, (j : Int), (j2 : Int)⟩) HN1.out.1
  go_wp2_with fail
  clear x0 x1 x2 x3 x4 x5 n0 n1 n2 n3 n4 n5
  have KS := Lib.hid (show ∀ (W' : World) tt vv, PutS K (.slice (some ⟨b1, o1, none⟩) n c) ns W' tt vv → W'.heap[w.heap.size]? = W1.heap[w.heap.size]? → ((W'.cell? ⟨K, 0, none⟩ = some (.slice (some ⟨b1, o1, none⟩) n c) ∧ W'.cell? ⟨K + 3, 0, none⟩ = some (.func (.func 67) #[] #[.pointer (some ⟨K + 1, 0, none⟩), .pointer (some ⟨K + 2, 0, none⟩), .pointer (some ⟨K + 3, 0, none⟩), .pointer (some ⟨K, 0, none⟩)]) ∧ W'.cell? ⟨w.heap.size, 3, none⟩ = some (.int .i64 (j : Int))) ∧ (W'.cell? ⟨b1, o1 + j * 5, none⟩ = some (.int .i64 y.kind) ∧ W'.cell? ⟨b1, o1 + j * 5 + 1, none⟩ = some (.int .i64 y.val) ∧ W'.cell? ⟨b1, o1 + j * 5 + 2, none⟩ = some (strV y.name) ∧ W'.cell? ⟨b1, o1 + j * 5 + 3, none⟩ = some (.int .i64 y.left) ∧ W'.cell? ⟨b1, o1 + j * 5 + 4, none⟩ = some (.int .i64 y.right))) from fun W' tt vv hs hnd => by
    obtain ⟨⟨h1, -, h2⟩, -⟩ := hs.opens
    obtain ⟨-, b, o, e, -, h3⟩ := nds_at hs.nds hy
    injection e with e
    injection e with e1 e2 _
    subst e1 e2
    obtain ⟨-, h5, -⟩ := nd_cells (x := ⟨(k : Int), vl, nm, (j : Int), (j2 : Int)⟩) (hnd.trans HN1.out.1)
    exact ⟨⟨h1, h2, h5.1⟩, h3⟩)
  have hcur : Below W1.heap.size W1 W1.drew := (Below.refl _ _).drew
  have hk3 := KS.out _ _ _ (HS1.out.up hcur) (hcur.block _ (lt_of_block HN1.out.1))
  go_region_held3 (fun W' => (W'.cell? ⟨K, 0, none⟩ = some (.slice (some ⟨b1, o1, none⟩) n c) ∧ W'.cell? ⟨K + 3, 0, none⟩ = some (.func (.func 67) #[] #[.pointer (some ⟨K + 1, 0, none⟩), .pointer (some ⟨K + 2, 0, none⟩), .pointer (some ⟨K + 3, 0, none⟩), .pointer (some ⟨K, 0, none⟩)]) ∧ W'.cell? ⟨w.heap.size, 3, none⟩ = some (.int .i64 (j : Int))) ∧ (W'.cell? ⟨b1, o1 + j * 5, none⟩ = some (.int .i64 y.kind) ∧ W'.cell? ⟨b1, o1 + j * 5 + 1, none⟩ = some (.int .i64 y.val) ∧ W'.cell? ⟨b1, o1 + j * 5 + 2, none⟩ = some (strV y.name) ∧ W'.cell? ⟨b1, o1 + j * 5 + 3, none⟩ = some (.int .i64 y.left) ∧ W'.cell? ⟨b1, o1 + j * 5 + 4, none⟩ = some (.int .i64 y.right)))
    (first | (with_reducible exact hk3) | exact hk3)
    ((go_at_call 67; refine (HI.out j y hji hy _ _ _ (HS1.out.up hcur) (by have := HLN.out; rw [List.length_append]; show _ + 1 + _ ≤ _; omega)).mono ?_; rintro e W2 ⟨rfl, v2, hsn, hfn⟩; have hfn := (PutF.of (bl := K + 1) v1 hcur).trans hfn; have HS2 := Lib.hid hsn; have HN2 := Lib.hid (node_kept hfn HN1.out.1 hne HN1.out.2); have HF2 := Lib.hid (HF1.out.trans hfn); have hk3 := KS.out _ _ _ hsn (HN2.out.1.trans HN1.out.1.symm)))
  clear hk3 hcur KS
  obtain ⟨⟨x0, x1, x2⟩, x3, x4, x5⟩ := HS2.out.opens
  unfold signF at x1
  unfold putF at x2
  obtain ⟨⟨n0, n1, n2⟩, ⟨n3, n4⟩, n5⟩ := nd_cells (x := ⟨(k : Int), vl, nm, (j : Int), (j2 : Int)⟩) HN2.out.1
  go_wp2_with fail
  refine (putSign_any (K + 1) (K + 4) _ _ (signL k) _ HS2.out.l (by have := HLN.out; have hc1 : (toksL ns j).length = cntL ns j := rfl; rw [List.length_append, List.length_append, hc1]; show _ + 1 + _ ≤ _; omega)).mono ?_
  rintro e W3 ⟨rfl, v3, hls, hfs⟩
  have HS3 := Lib.hid (HS2.out.step hG hls hfs)
  have HN3 := Lib.hid (node_kept hfs HN2.out.1 hne HN2.out.2)
  have HF3 := Lib.hid (HF2.out.trans hfs)
  clear hls hfs
  clear x0 x1 x2 x3 x4 x5 n0 n1 n2 n3 n4 n5
  obtain ⟨⟨x0, x1, x2⟩, x3, x4, x5⟩ := HS3.out.opens
  unfold signF at x1
  unfold putF at x2
  obtain ⟨⟨n0, n1, n2⟩, ⟨n3, n4⟩, n5⟩ := nd_cells (x := ⟨(k : Int), vl, nm, (j : Int), (j2 : Int)⟩) HN3.out.1
  go_wp2_with fail
  clear x0 x1 x2 x3 x4 x5 n0 n1 n2 n3 n4 n5
  have KS := Lib.hid (show ∀ (W' : World) tt vv, PutS K (.slice (some ⟨b1, o1, none⟩) n c) ns W' tt vv → W'.heap[w.heap.size]? = W3.heap[w.heap.size]? → ((W'.cell? ⟨K, 0, none⟩ = some (.slice (some ⟨b1, o1, none⟩) n c) ∧ W'.cell? ⟨K + 3, 0, none⟩ = some (.func (.func 67) #[] #[.pointer (some ⟨K + 1, 0, none⟩), .pointer (some ⟨K + 2, 0, none⟩), .pointer (some ⟨K + 3, 0, none⟩), .pointer (some ⟨K, 0, none⟩)]) ∧ W'.cell? ⟨w.heap.size, 4, none⟩ = some (.int .i64 (j2 : Int))) ∧ (W'.cell? ⟨b1, o1 + j2 * 5, none⟩ = some (.int .i64 y2.kind) ∧ W'.cell? ⟨b1, o1 + j2 * 5 + 1, none⟩ = some (.int .i64 y2.val) ∧ W'.cell? ⟨b1, o1 + j2 * 5 + 2, none⟩ = some (strV y2.name) ∧ W'.cell? ⟨b1, o1 + j2 * 5 + 3, none⟩ = some (.int .i64 y2.left) ∧ W'.cell? ⟨b1, o1 + j2 * 5 + 4, none⟩ = some (.int .i64 y2.right))) from fun W' tt vv hs hnd => by
    obtain ⟨⟨h1, -, h2⟩, -⟩ := hs.opens
    obtain ⟨-, b, o, e, -, h3⟩ := nds_at hs.nds hy2
    injection e with e
    injection e with e1 e2 _
    subst e1 e2
    obtain ⟨-, h5, -⟩ := nd_cells (x := ⟨(k : Int), vl, nm, (j : Int), (j2 : Int)⟩) (hnd.trans HN3.out.1)
    exact ⟨⟨h1, h2, h5.2⟩, h3⟩)
  have hcur : Below W3.heap.size W3 W3.drew := (Below.refl _ _).drew
  have hk3 := KS.out _ _ _ (HS3.out.up hcur) (hcur.block _ (lt_of_block HN3.out.1))
  go_region_held3 (fun W' => (W'.cell? ⟨K, 0, none⟩ = some (.slice (some ⟨b1, o1, none⟩) n c) ∧ W'.cell? ⟨K + 3, 0, none⟩ = some (.func (.func 67) #[] #[.pointer (some ⟨K + 1, 0, none⟩), .pointer (some ⟨K + 2, 0, none⟩), .pointer (some ⟨K + 3, 0, none⟩), .pointer (some ⟨K, 0, none⟩)]) ∧ W'.cell? ⟨w.heap.size, 4, none⟩ = some (.int .i64 (j2 : Int))) ∧ (W'.cell? ⟨b1, o1 + j2 * 5, none⟩ = some (.int .i64 y2.kind) ∧ W'.cell? ⟨b1, o1 + j2 * 5 + 1, none⟩ = some (.int .i64 y2.val) ∧ W'.cell? ⟨b1, o1 + j2 * 5 + 2, none⟩ = some (strV y2.name) ∧ W'.cell? ⟨b1, o1 + j2 * 5 + 3, none⟩ = some (.int .i64 y2.left) ∧ W'.cell? ⟨b1, o1 + j2 * 5 + 4, none⟩ = some (.int .i64 y2.right)))
    (first | (with_reducible exact hk3) | exact hk3)
    ((go_at_call 67; refine (HI.out j2 y2 hji2 hy2 _ _ _ (HS3.out.up hcur) (by have := HLN.out; have hc1 : (toksL ns j).length = cntL ns j := rfl; rw [List.length_append, List.length_append, List.length_append, hc1]; show _ + 1 + _ + 1 + _ ≤ _; omega)).mono ?_; rintro e W4 ⟨rfl, v4, hsn, hfn⟩; have hfn := (PutF.of (bl := K + 1) v3 hcur).trans hfn; have HS4 := Lib.hid hsn; have HN4 := Lib.hid (node_kept hfn HN3.out.1 hne HN3.out.2); have HF4 := Lib.hid (HF3.out.trans hfn); have hk3 := KS.out _ _ _ hsn (HN4.out.1.trans HN3.out.1.symm)))
  clear hk3 hcur KS
  obtain ⟨⟨x0, x1, x2⟩, x3, x4, x5⟩ := HS4.out.opens
  unfold signF at x1
  unfold putF at x2
  obtain ⟨⟨n0, n1, n2⟩, ⟨n3, n4⟩, n5⟩ := nd_cells (x := ⟨(k : Int), vl, nm, (j : Int), (j2 : Int)⟩) HN4.out.1
  go_wp2_with fail
  refine (putSign_any (K + 1) (K + 4) _ _ ([41]) _ HS4.out.l (by have := HLN.out; have hc1 : (toksL ns j).length = cntL ns j := rfl; have hc2 : (toksL ns j2).length = cntL ns j2 := rfl; rw [List.length_append, List.length_append, List.length_append, List.length_append, hc1, hc2]; show _ + 1 + _ + 1 + _ ≤ _; omega)).mono ?_
  rintro e W5 ⟨rfl, v5, hls, hfs⟩
  have HS5 := Lib.hid (HS4.out.step hG hls hfs)
  have HN5 := Lib.hid (node_kept hfs HN4.out.1 hne HN4.out.2)
  have HF5 := Lib.hid (HF4.out.trans hfs)
  clear hls hfs
  go_wp2_with fail
  go_end0
  refine ⟨rfl, v5, ?_, HF5.out⟩
  have h3 := HS5.out
  simp only [List.append_assoc, List.cons_append, List.nil_append] at h3
  exact h3
/-- put: the tokens of a node behind the tokens -/
theorem put_any (K : Nat) (ve : Value) (ns : List Nd) (hG : 0 < K) (hF : Fine ns) (hS : ∀ x ∈ ns, x.name.length ≤ 140737488351232) : ∀ i, PutIH K ve ns i := by
  intro i
  induction i with
  | zero => intro j y hj; omega
  | succ i ih =>
    intro j y hj hy ts v w h hl
    by_cases hji : j < i
    · exact ih j y hji hy ts v w h hl
    · obtain rfl : j = i := by omega
      obtain ⟨⟨k1, k14⟩, hlf, hrt⟩ := hF j y hy
      by_cases k3 : y.kind < 3
      · rw [toks_leaf hF hy k3]
        rw [cnt_leaf hF hy k3] at hl
        exact put_leaf K ve ns hG y k1 k3 (hS y (List.mem_of_getElem? hy)) ts v w h hl
      · obtain ⟨l1, l2⟩ := hlf (by omega)
        obtain ⟨a, ha⟩ : ∃ a : Nat, y.left = a := ⟨y.left.toNat, by omega⟩
        have hat : y.left.toNat = a := by omega
        have hjl := (List.getElem?_eq_some_iff.1 hy).1
        obtain ⟨ya, hya⟩ : ∃ ya, ns[a]? = some ya := ⟨_, List.getElem?_eq_getElem (by omega)⟩
        by_cases k5 : y.kind < 5
        · rw [toks_unary hF hy (by omega) k5, hat]
          rw [cnt_unary hF hy (by omega) k5, hat] at hl
          exact put_unary K ve ns hG j ih y (by omega) k5 a ha (by omega) ya hya ts v w h (by omega)
        · obtain ⟨r1, r2⟩ := hrt (by omega)
          obtain ⟨b, hb⟩ : ∃ b : Nat, y.right = b := ⟨y.right.toNat, by omega⟩
          have hbt : y.right.toNat = b := by omega
          obtain ⟨yb, hyb⟩ : ∃ yb, ns[b]? = some yb := ⟨_, List.getElem?_eq_getElem (by omega)⟩
          rw [toks_binary hF hy (by omega), hat, hbt]
          rw [cnt_binary hF hy (by omega), hat, hbt] at hl
          exact put_binary K ve ns hG j ih y (by omega) k14 a b ha hb (by omega) (by omega) ya yb hya hyb ts v w h (by omega)
end Go.Proofs.YtchpkdpefpiegaaDoor.Tok
