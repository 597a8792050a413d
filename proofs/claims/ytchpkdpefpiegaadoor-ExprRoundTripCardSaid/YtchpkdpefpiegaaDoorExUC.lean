/- Contract of put: the tokens of a node behind the tokens. By induction on the node's number. -/
import Derived.Test.YtchpkdpefpiegaaDoorExUB
namespace Go.Proofs.YtchpkdpefpiegaaDoor.Tok
open Go Go.RowKit

def signF (K : Nat) : Value := .func (.func 66) #[] #[.pointer (some ⟨K + 1, 0, none⟩)]
def putF (K : Nat) : Value := .func (.func 67) #[] #[.pointer (some ⟨K + 1, 0, none⟩), .pointer (some ⟨K + 2, 0, none⟩), .pointer (some ⟨K + 3, 0, none⟩), .pointer (some ⟨K, 0, none⟩)]
/-- the boxes of written, and what it reads -/
structure PutS (K : Nat) (ve : Value) (ns : List Nd) (w : World) (ts : List Tk) (v : Value) : Prop where
  l : LBox (K + 1) (K + 4) w ts v
  e : w.heap[K]? = some (.cells #[ve] 24 (0, 0))
  p : w.heap[K + 2]? = some (.cells #[signF K] 103 (0, 0))
  q : w.heap[K + 3]? = some (.cells #[putF K] 104 (0, 0))
  nds : NdsAt K w ve ns
  kinds : KindsAt w
theorem PutF.below {bl B : Nat} {w W : World} {v v' : Value} (h : PutF bl w W v v') (hB : B ≤ bl) (hw : B ≤ w.heap.size) (hv : ∀ r, v.ownBlock = some r → B ≤ r) : Below B w W :=
  ⟨h.os, h.tape, h.output, h.size, fun j hj => h.keep j (by omega) (by omega) (fun e => by have := hv j e; omega)⟩
section
variable {K : Nat} {ve : Value} {ns : List Nd} {w W : World} {ts ts' : List Tk} {v v' : Value}
theorem PutS.up (h : PutS K ve ns w ts v) (hb : Below w.heap.size w W) : PutS K ve ns W ts v :=
  ⟨h.l.up hb, (hb.block _ (lt_of_block h.e)).trans h.e, (hb.block _ (lt_of_block h.p)).trans h.p, (hb.block _ (lt_of_block h.q)).trans h.q, h.nds.below (hb.mono (by have := h.l.top; omega)), h.kinds.up hb⟩
theorem PutS.step (h : PutS K ve ns w ts v) (hG : 0 < K) (hl : LBox (K + 1) (K + 4) W ts' v') (hf : PutF (K + 1) w W v v') : PutS K ve ns W ts' v' := by
  have hr : ∀ j, j < K + 4 → v.ownBlock ≠ some j := fun j hj => h.l.far hj
  have hb := hf.below (B := K) (by omega) (by have := h.l.top; omega) (fun r e => by have := (h.l.row.lt r e).1; omega)
  exact ⟨hl, (hf.keep _ (lt_of_block h.e) (by omega) (hr _ (by omega))).trans h.e, (hf.keep _ (lt_of_block h.p) (by omega) (hr _ (by omega))).trans h.p, (hf.keep _ (lt_of_block h.q) (by omega) (hr _ (by omega))).trans h.q, h.nds.below hb, h.kinds.below hb hG⟩
theorem node_kept {bl nb : Nat} {o : Obj} (h : PutF bl w W v v') (hn : w.heap[nb]? = some o) (hne : nb ≠ bl) (hv : v.ownBlock ≠ some nb) : W.heap[nb]? = some o ∧ v'.ownBlock ≠ some nb := by
  have hlt := lt_of_block hn
  refine ⟨(h.keep nb hlt hne hv).trans hn, ?_⟩
  rcases h.new with e | ⟨r, e, hr⟩
  · rw [e]; exact hv
  · rw [e]; intro e2; injection e2 with e2; omega
theorem PutS.opens (h : PutS K ve ns w ts v) : (w.cell? ⟨K, 0, none⟩ = some ve ∧ w.cell? ⟨K + 2, 0, none⟩ = some (signF K) ∧ w.cell? ⟨K + 3, 0, none⟩ = some (putF K)) ∧ w.cell? ⟨K + 1, 0, none⟩ = some v ∧ w.frozen? ⟨K + 1, 0, none⟩ = false ∧ K + 3 < w.heap.size := by
  obtain ⟨r1, -, -⟩ := cells_of h.e
  obtain ⟨q1, -, -⟩ := cells_of h.p
  obtain ⟨p1, -, p3⟩ := cells_of h.q
  obtain ⟨l1, l2, l3⟩ := h.l.opens
  exact ⟨⟨r1 0 _ rfl, q1 0 _ rfl, p1 0 _ rfl⟩, l1, l2, p3⟩
end
/-- what put answers -/
def PutPost (K : Nat) (ve : Value) (ns : List Nd) (w : World) (ts : List Tk) (v : Value) (more : List Tk) (e : Ending) (W : World) : Prop :=
  e = .returned (.tuple #[]) ∧ ∃ v', PutS K ve ns W (ts ++ more) v' ∧ PutF (K + 1) w W v v'
theorem nd_cells {w : World} {nb : Nat} {x : Nd} (h : w.heap[nb]? = some (.cells #[.int .i64 x.kind, .int .i64 x.val, strV x.name, .int .i64 x.left, .int .i64 x.right] 59 (0, 0))) :
    (w.cell? ⟨nb, 0, none⟩ = some (.int .i64 x.kind) ∧ w.cell? ⟨nb, 1, none⟩ = some (.int .i64 x.val) ∧ w.cell? ⟨nb, 2, none⟩ = some (strV x.name)) ∧ (w.cell? ⟨nb, 3, none⟩ = some (.int .i64 x.left) ∧ w.cell? ⟨nb, 4, none⟩ = some (.int .i64 x.right)) ∧ nb < w.heap.size := by
  obtain ⟨r1, -, r3⟩ := cells_of h
  exact ⟨⟨r1 0 _ rfl, r1 1 _ rfl, r1 2 _ rfl⟩, ⟨r1 3 _ rfl, r1 4 _ rfl⟩, r3⟩
set_option maxRecDepth 100000 in
set_option maxHeartbeats 4000000 in
theorem put_leaf (K : Nat) (ve : Value) (ns : List Nd) (hG : 0 < K) (x : Nd) (hx1 : 1 ≤ x.kind) (hx3 : x.kind < 3) (hsh : x.name.length ≤ 140737488351232) (ts : List Tk) (v : Value) (w : World) (h : PutS K ve ns w ts v) (hl : ts.length + 1 ≤ 100000) :
    Calls Tryd.prog 67 #[x.v, .pointer (some ⟨K + 1, 0, none⟩), .pointer (some ⟨K + 2, 0, none⟩), .pointer (some ⟨K + 3, 0, none⟩), .pointer (some ⟨K, 0, none⟩)] w (PutPost K ve ns w ts v [leafT x]) := by
  obtain ⟨i0, hi, hz0, hz1, hz2⟩ := info_parts infoTok
  obtain ⟨k, vl, nm, le, ri⟩ := x
  dsimp only at hx1 hx3 hsh
  have C := Lib.hid (fun W => leaf_any ⟨k, vl, nm, le, ri⟩ W hsh ⟨hx1, hx3⟩)
  obtain ⟨k, rfl⟩ : ∃ n : Nat, k = n := ⟨k.toNat, by omega⟩
  have hk15 : k < 15 := by omega
  have hb : Below w.heap.size w (w.alloc (.cells #[.int .i64 (k : Int), .int .i64 vl, strV nm, .int .i64 le, .int .i64 ri] 59)) := (Below.refl _ _).alloc (Nat.le_refl _) _
  have hS1 := h.up hb
  have hn1 : (w.alloc (.cells #[.int .i64 (k : Int), .int .i64 vl, strV nm, .int .i64 le, .int .i64 ri] 59)).heap[w.heap.size]? = some (.cells #[.int .i64 (k : Int), .int .i64 vl, strV nm, .int .i64 le, .int .i64 ri] 59 (0, 0)) := heap_alloc_new _ _
  have kc := kinds_child h.kinds hk15
  have ks := kinds_sign h.kinds hk15
  rw [show childL k = 0 from by have : k = 1 ∨ k = 2 := by omega
                                rcases this with rfl | rfl <;> rfl] at kc
  have hglt := h.kinds.lt
  have H := Lib.hid h
  have HS1 := Lib.hid hS1
  have HN1 := Lib.hid hn1
  have HB := Lib.hid hb
  have hk0 : K + 3 < w.heap.size := h.opens.2.2.2
  generalize leafT ⟨(k : Int), vl, nm, le, ri⟩ = t at C ⊢
  unfold Nd.v Tk.v at C
  unfold Nd.v
  clear h hS1 hn1 hb hsh hx1 hx3
  go_enter Tryd.func67, Tryd.ntmps67
  go_wp2_with fail
  obtain ⟨V, hV⟩ : ∃ V, V = (w.alloc (.cells #[.int .i64 (k : Int), .int .i64 vl, strV nm, .int .i64 le, .int .i64 ri] 59)) := ⟨_, rfl⟩
  rw [← hV] at HS1 HN1 HB ⊢
  have HVZ := Lib.hid (show V.heap.size = w.heap.size + 1 by rw [hV]; simp)
  clear hV
  have hc0 := HS1.out.l.opens.1
  obtain ⟨⟨n0, n1, n2⟩, ⟨n3, n4⟩, n5⟩ := nd_cells (x := ⟨(k : Int), vl, nm, le, ri⟩) HN1.out
  have hS0 : (V.drew.cell? ⟨K + 1, 0, none⟩ = some v) ∧ (V.drew.cell? ⟨w.heap.size, 0, none⟩ = some (.int .i64 (k : Int)) ∧ V.drew.cell? ⟨w.heap.size, 1, none⟩ = some (.int .i64 vl) ∧ V.drew.cell? ⟨w.heap.size, 2, none⟩ = some (strV nm) ∧ V.drew.cell? ⟨w.heap.size, 3, none⟩ = some (.int .i64 le) ∧ V.drew.cell? ⟨w.heap.size, 4, none⟩ = some (.int .i64 ri)) := ⟨hc0, n0, n1, n2, n3, n4⟩
  clear hc0 n0 n1 n2 n3 n4 n5
  refine region_till 5 (fun W' => (W'.cell? ⟨K + 1, 0, none⟩ = some v) ∧ (W'.cell? ⟨w.heap.size, 0, none⟩ = some (.int .i64 (k : Int)) ∧ W'.cell? ⟨w.heap.size, 1, none⟩ = some (.int .i64 vl) ∧ W'.cell? ⟨w.heap.size, 2, none⟩ = some (strV nm) ∧ W'.cell? ⟨w.heap.size, 3, none⟩ = some (.int .i64 le) ∧ W'.cell? ⟨w.heap.size, 4, none⟩ = some (.int .i64 ri))) (by kernel_rfl) ?_
  refine till_take (i := 0) [5] (v := ?_) rfl (by kernel_rfl) (by kernel_rfl) (by kernel_rfl) (by kernel_rfl) (fun _ _ _ h => h) (Or.inl ⟨by rfl, ?_⟩) hS0 ?_
  rotate_left
  · rintro W' ⟨h1, h2, h3, h4, h5, h6⟩; go_simp; rfl
  simp [Act.put]
  refine till_take (i := 1) [5] (v := ?_) rfl (by kernel_rfl) (by kernel_rfl) (by kernel_rfl) (by kernel_rfl) (fun _ _ _ h => h) (Or.inl ⟨by rfl, ?_⟩) hS0 ?_
  rotate_left
  · rintro W' ⟨h1, h2, h3, h4, h5, h6⟩; go_simp; rfl
  simp [Act.put]
  refine till_one (i := 2) (by kernel_rfl) rfl (by rfl) (fun K' hK => ?_)
  go_simp
  refine (C.out _).mono ?_
  rintro e W1 ⟨rfl, hb1⟩
  have hbV : Below V.heap.size V W1 := ((Below.refl V.heap.size V).drew).trans hb1
  have hlit : Below V.heap.size V (W1.alloc (.cells #[.int .i64 t.kind, strV t.text, .int .i64 t.val, .int .i64 t.pos] 31)) := hbV.alloc hbV.size _
  have HL := Lib.hid hlit
  have HP1 := Lib.hid (HS1.out.up hlit)
  have HSS := Lib.hid (show ∀ W', Below V.heap.size V W' → (W'.cell? ⟨K + 1, 0, none⟩ = some v) ∧ (W'.cell? ⟨w.heap.size, 0, none⟩ = some (.int .i64 (k : Int)) ∧ W'.cell? ⟨w.heap.size, 1, none⟩ = some (.int .i64 vl) ∧ W'.cell? ⟨w.heap.size, 2, none⟩ = some (strV nm) ∧ W'.cell? ⟨w.heap.size, 3, none⟩ = some (.int .i64 le) ∧ W'.cell? ⟨w.heap.size, 4, none⟩ = some (.int .i64 ri)) from fun W' hb => by
    obtain ⟨⟨n0, n1, n2⟩, ⟨n3, n4⟩, n5⟩ := nd_cells (x := ⟨(k : Int), vl, nm, le, ri⟩) ((hb.block _ (lt_of_block HN1.out)).trans HN1.out)
    exact ⟨(HS1.out.up hb).l.opens.1, n0, n1, n2, n3, n4⟩)
  have hszw : V.heap.size ≤ W1.heap.size := hbV.size
  refine hK _ _ (fun _ => HSS.out _ hbV) ?_
  clear hK K' hb1 hbV hS0
  refine till_one (i := 3) (by kernel_rfl) rfl (by rfl) (fun K' hK => ?_)
  go_simp
  refine hK _ _ (fun _ => HSS.out _ HL.out) ?_
  clear hK K'
  try simp [Act.put]
  refine till_one (i := 4) (by kernel_rfl) rfl (by rfl) (fun K' hK => ?_)
  refine wp_append_lies _ (.tmp 40) (.tmp 43) 22 rfl (K + 4) 31 i0 _ 4 40 Tryd.underlying22 hi hz0 hz1 hz2 (by rfl) (by decide) v ts.length _ rfl HP1.out.l.row ⟨W1.heap.size, 0, none⟩ 1 1 (tkC t) rfl rfl (tok_news W1 _ _ _ _ _) (tkC_one _) (by decide) (by unfold maxLen; omega) (by omega) (by have := HVZ.out; simp; omega) (W1.heap.size + 1) (by simp) ?_
  intro gb cap2 W2 hown2 hg2 hat2 hlt2
  have hst := put_step HS1.out.l HL.out hown2 hg2 (hat_name (by rw [World.size_alloc]; exact hat2))
  have hmid := (HP1.out.l.mid hg2).2
  have hnode : W2.heap[w.heap.size]? = some (.cells #[.int .i64 (k : Int), .int .i64 vl, strV nm, .int .i64 le, .int .i64 ri] 59 (0, 0)) := by
    have h1 : (W1.alloc (.cells #[.int .i64 t.kind, strV t.text, .int .i64 t.val, .int .i64 t.pos] 31)).heap[w.heap.size]? = _ := (HL.out.block _ (lt_of_block HN1.out)).trans HN1.out
    refine (hg2.block _ (lt_of_block h1) (fun e => ?_)).trans h1
    have := (H.out.l.row.lt w.heap.size e.symm).2
    omega
  obtain ⟨⟨n0, n1, n2⟩, ⟨n3, n4⟩, n5⟩ := nd_cells (x := ⟨(k : Int), vl, nm, le, ri⟩) hnode
  have HST := Lib.hid hst
  refine hK _ _ (fun _ => ⟨hmid.1, n0, n1, n2, n3, n4⟩) ?_
  clear hK K' hnode n0 n1 n2 n3 n4 n5 hst hown2 hg2 hat2 hlt2
  try simp [Act.put]
  obtain ⟨m0, m1, m2⟩ := hmid
  refine till_one (i := 5) (by kernel_rfl) rfl (by rfl) (fun K' hK => ?_)
  go_simp
  refine hK _ _ (fun h => absurd h (by decide)) ?_
  clear hK K'
  refine till_done (by kernel_rfl) ?_ _
  go_wp2_with fail
  go_end0
  have hpf := HST.out.2
  refine ⟨rfl, _, H.out.step hG HST.out.1 ?_, ?_⟩
  · exact (PutF.of v HB.out).trans hpf
  · exact (PutF.of v HB.out).trans hpf
end Go.Proofs.YtchpkdpefpiegaaDoor.Tok
