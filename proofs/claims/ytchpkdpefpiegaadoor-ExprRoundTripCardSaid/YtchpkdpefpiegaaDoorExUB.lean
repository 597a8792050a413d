/- Contracts of ownTokens, leaf and putSign; the boxes of written. -/
import Derived.Deep.AppendLies
import Derived.Test.YtchpkdpefpiegaaDoorExUA
import Derived.Test.YtchpkdpefpiegaaDoorExTill
import Derived.Test.YtchpkdpefpiegaaDoorExC
import Derived.Test.YtchpkdpefpiegaaDoorExX
import Derived.Test.YtchpkdpefpiegaaDoorExZJ
namespace Go.Proofs.YtchpkdpefpiegaaDoor.Tok
open Go Go.RowKit

set_option maxHeartbeats 2000000 in
theorem ownTokens_any (k : Int) (w : World) (hk : 0 < k ∧ k < 15) (hK : KindsAt w) : Calls Tryd.prog 65 #[.int .i64 k] w fun e w' => e = .returned (.int .i64 (ownC k : Nat)) ∧ w = w' := by
  obtain ⟨K, rfl⟩ : ∃ K : Nat, k = K := ⟨k.toNat, by omega⟩
  have hK15 : K < 15 := by omega
  have E0 := Lib.hid (show ownC (K : Int) = if childL K = 2 then 3 else 1 from rfl)
  have c0 := kinds_child hK hK15
  have hlt := hK.lt
  clear hK hk
  by_cases h2 : childL K = 2
  · have E := Lib.hid (E0.out.trans (if_pos h2))
    rw [h2] at c0
    clear E0 h2
    go_enter Tryd.func65, Tryd.ntmps65
    go_wp2_with fail
    go_ret
    exact ⟨by rw [E.out]; rfl, rfl⟩
  · have E := Lib.hid (E0.out.trans (if_neg h2))
    have n2 : (((childL K : Nat) : Int) == 2) = false := beq_eq_false_iff_ne.2 (by omega)
    clear E0 h2
    go_enter Tryd.func65, Tryd.ntmps65
    go_wp2_with fail
    go_ret
    exact ⟨by rw [E.out]; rfl, rfl⟩
set_option maxRecDepth 100000 in
set_option maxHeartbeats 2000000 in
theorem leaf_any (x : Nd) (w : World) (hs : x.name.length ≤ 140737488351232) (h3 : 1 ≤ x.kind ∧ x.kind < 3) : Calls Tryd.prog 68 #[x.v] w fun e w' => e = .returned (leafT x).v ∧ Below w.heap.size w w' := by
  obtain ⟨k, vl, nm, le, ri⟩ := x
  dsimp only at hs h3
  unfold Nd.v
  have hk : k = 1 ∨ k = 2 := by omega
  rcases hk with rfl | rfl
  · have E := Lib.hid (show leafT ⟨1, vl, nm, le, ri⟩ = ⟨2, [], vl, 0⟩ from rfl)
    clear h3
    go_enter Tryd.func68, Tryd.ntmps68
    go_wp2_with fail
    have hq := heap_newM w (.cells #[.int .i64 1, .int .i64 vl, strV nm, .int .i64 le, .int .i64 ri] 59) (.cells #[.int .i64 2, strV [], .int .i64 vl, .int .i64 0] 31)
    obtain ⟨r1, -, -⟩ := cells_of hq
    have y0 := r1 0 _ rfl
    have y1 := r1 1 _ rfl
    have y2 := r1 2 _ rfl
    have y3 := r1 3 _ rfl
    refine bodyPost_ret (v := .agg #[.int .i64 2, strV [], .int .i64 vl, .int .i64 0]) (by simp [results, Tryd.results68, go_sem, y0, y1, y2, y3]) rfl ?_
    exact ⟨by rw [E.out]; rfl, ((Below.refl _ _).alloc (Nat.le_refl _) _).alloc (by simp) _⟩
  · have E := Lib.hid (show leafT ⟨2, vl, nm, le, ri⟩ = ⟨1, nm, 0, 0⟩ from rfl)
    have C := Lib.hid (fun W => clone_any nm W (Nat.le_trans hs (by decide)))
    have hb0 : Below w.heap.size w ((w.alloc (.cells #[.int .i64 2, .int .i64 vl, strV nm, .int .i64 le, .int .i64 ri] 59)).alloc (.cells #[.int .i64 0, strV [], .int .i64 0, .int .i64 0] 31)) := ((Below.refl _ _).alloc (Nat.le_refl _) _).alloc (by simp) _
    have hq := heap_newM w (.cells #[.int .i64 2, .int .i64 vl, strV nm, .int .i64 le, .int .i64 ri] 59) (.cells #[.int .i64 0, strV [], .int .i64 0, .int .i64 0] 31)
    have HB := Lib.hid hb0
    have HQ := Lib.hid hq
    clear h3 hb0 hq hs
    go_enter Tryd.func68, Tryd.ntmps68
    go_wp2_with fail
    refine (C.out _).mono ?_
    rintro e W1 ⟨rfl, hb⟩
    have hz := (hb.block _ (lt_of_block HQ.out)).trans HQ.out
    obtain ⟨r1, r2, r3⟩ := cells_of hz
    have y0 : W1.cell? ⟨w.heap.size + 1, 0, none⟩ = some (.int .i64 0) := r1 0 _ rfl
    have y1 : W1.cell? ⟨w.heap.size + 1, 1, none⟩ = some (strV []) := r1 1 _ rfl
    have y2 : W1.cell? ⟨w.heap.size + 1, 2, none⟩ = some (.int .i64 0) := r1 2 _ rfl
    have y3 : W1.cell? ⟨w.heap.size + 1, 3, none⟩ = some (.int .i64 0) := r1 3 _ rfl
    have f0 := r2 0
    have f1 := r2 1
    have f2 := r2 2
    have f3 := r2 3
    have HB1 := Lib.hid (HB.out.trans (hb.mono HB.out.size))
    clear hb hz r1 r2
    go_wp2_with fail
    refine bodyPost_ret (v := .agg #[.int .i64 1, strV nm, .int .i64 0, .int .i64 0]) (by simp [results, Tryd.results68, go_sem, y0, y1, y2, y3]) rfl ?_
    exact ⟨by rw [E.out]; rfl, (three_set HB1.out (R := w.heap.size + 1) (by omega) _ _ _).setCell (p := ⟨w.heap.size + 1, 3, none⟩) (by show w.heap.size ≤ w.heap.size + 1; omega) _⟩
/-- the box of the tokens that have been put -/
structure LBox (bl base : Nat) (w : World) (ts : List Tk) (v : Value) : Prop where
  box : w.heap[bl]? = some (.cells #[v] 22 (0, 0))
  row : w.ownsRow base 31 4 v ts.length (tkv ts)
  low : bl < base
  top : base ≤ w.heap.size
/-- what putting keeps: all but that box and the row -/
structure PutF (bl : Nat) (w W : World) (v v' : Value) : Prop where
  os : W.os = w.os
  tape : W.tape = w.tape
  output : W.output = w.output
  size : w.heap.size ≤ W.heap.size
  keep : ∀ j, j < w.heap.size → j ≠ bl → v.ownBlock ≠ some j → W.heap[j]? = w.heap[j]?
  new : v'.ownBlock = v.ownBlock ∨ ∃ r, v'.ownBlock = some r ∧ w.heap.size ≤ r
theorem PutF.trans {bl : Nat} {w W U : World} {v v' v2 : Value} (h : PutF bl w W v v') (k : PutF bl W U v' v2) : PutF bl w U v v2 := by
  refine ⟨k.os.trans h.os, k.tape.trans h.tape, k.output.trans h.output, Nat.le_trans h.size k.size, fun j hj h1 h2 => ?_, ?_⟩
  · refine (k.keep j (Nat.lt_of_lt_of_le hj h.size) h1 (fun e => ?_)).trans (h.keep j hj h1 h2)
    rcases h.new with hn | ⟨r, hn, hr⟩
    · exact h2 (hn.symm.trans e)
    · rw [hn] at e; injection e with e; omega
  · rcases k.new with hn | ⟨r, hn, hr⟩
    · rcases h.new with hn2 | ⟨r, hn2, hr⟩
      · exact .inl (hn.trans hn2)
      · exact .inr ⟨r, hn.trans hn2, hr⟩
    · exact .inr ⟨r, hn, Nat.le_trans h.size hr⟩
theorem PutF.of {bl : Nat} {w W : World} (v : Value) (hb : Below w.heap.size w W) : PutF bl w W v v := ⟨hb.os, hb.tape, hb.output, hb.size, fun j hj _ _ => hb.block j hj, .inl rfl⟩
theorem LBox.up {bl base : Nat} {w W : World} {ts : List Tk} {v : Value} (h : LBox bl base w ts v) (hb : Below w.heap.size w W) : LBox bl base W ts v :=
  ⟨(hb.block _ (lt_of_block h.box)).trans h.box, ownsRow_below h.row hb, h.low, Nat.le_trans h.top hb.size⟩
theorem LBox.opens {bl base : Nat} {w : World} {ts : List Tk} {v : Value} (h : LBox bl base w ts v) : w.cell? ⟨bl, 0, none⟩ = some v ∧ w.frozen? ⟨bl, 0, none⟩ = false ∧ bl < w.heap.size := by
  obtain ⟨r1, r2, r3⟩ := cells_of h.box
  exact ⟨r1 0 _ rfl, r2 0, r3⟩
theorem LBox.far {bl base : Nat} {w : World} {ts : List Tk} {v : Value} (h : LBox bl base w ts v) {j : Nat} (hj : j < base) : v.ownBlock ≠ some j := fun e => by have := (h.row.lt j e).1; omega
theorem LBox.mid {bl base : Nat} {w U : World} {ts : List Tk} {v : Value} (h : LBox bl base w ts v) (hg : w.grownBy U v.ownBlock) : U.heap[bl]? = some (.cells #[v] 22 (0, 0)) ∧ (U.cell? ⟨bl, 0, none⟩ = some v ∧ U.frozen? ⟨bl, 0, none⟩ = false ∧ bl < U.heap.size) := by
  have hb := (hg.block bl (lt_of_block h.box) (fun e => h.far h.low e.symm)).trans h.box
  obtain ⟨r1, r2, r3⟩ := cells_of hb
  exact ⟨hb, r1 0 _ rfl, r2 0, r3⟩
/-- a token behind the tokens -/
theorem put_step {bl base : Nat} {w V U : World} {ts : List Tk} {v v' : Value} {t : Tk} (h : LBox bl base w ts v) (hb : Below w.heap.size w V) (hrow : U.ownsRow base 31 4 v' (ts.length + 1) (tkv ts ++ tkC t)) (hg : V.grownBy U v.ownBlock) (hat : v'.ownBlock = v.ownBlock ∨ v'.ownBlock = some V.heap.size) :
    LBox bl base (U.setCell ⟨bl, 0, none⟩ v') (ts ++ [t]) v' ∧ PutF bl w (U.setCell ⟨bl, 0, none⟩ v') v v' := by
  have hV := h.up hb
  have hm := (hV.mid hg).1
  have hne : v'.ownBlock ≠ some bl := fun e => by have := (hrow.lt bl e).1; have := h.low; omega
  refine ⟨⟨heap_setCell_same U bl 0 _ _ v' hm, ?_, h.low, ?_⟩, ⟨?_, ?_, ?_, ?_, ?_, ?_⟩⟩
  · rw [tkv_snoc, List.length_append]
    exact ownsRow_setCell_other hrow hne _
  · rw [World.size_setCell]; exact Nat.le_trans hV.top hg.size
  · exact hg.os.trans hb.os
  · exact hg.tape.trans hb.tape
  · exact hg.output.trans hb.output
  · rw [World.size_setCell]; exact Nat.le_trans hb.size hg.size
  · intro j hj h1 h2
    rw [heap_setCell_other _ _ _ _ h1]
    exact (hg.block j (Nat.lt_of_lt_of_le hj hb.size) (fun e => h2 e.symm)).trans (hb.block j hj)
  · rcases hat with e | e
    · exact .inl e
    · exact .inr ⟨_, e, hb.size⟩
set_option maxRecDepth 100000 in
set_option maxHeartbeats 2000000 in
theorem putSign_any (bl base : Nat) (ts : List Tk) (v : Value) (s : List UInt8) (w : World) (h : LBox bl base w ts v) (hl : ts.length ≤ 100000) :
    Calls Tryd.prog 66 #[strV s, .pointer (some ⟨bl, 0, none⟩)] w fun e W => e = .returned (.tuple #[]) ∧ ∃ v', LBox bl base W (ts ++ [sgS s]) v' ∧ PutF bl w W v v' := by
  obtain ⟨i0, hi, hz0, hz1, hz2⟩ := info_parts infoTok
  have hb : Below w.heap.size w (w.alloc (.cells #[.int .i64 3, strV s, .int .i64 0, .int .i64 0] 31)) := (Below.refl _ _).alloc (Nat.le_refl _) _
  have H := Lib.hid h
  have HB := Lib.hid hb
  have HO := Lib.hid (h.up hb).row
  have HM := Lib.hid (h.up hb)
  obtain ⟨c0, c1, c2⟩ := h.opens
  have htop : base ≤ w.heap.size + 1 := Nat.le_succ_of_le h.top
  clear h hb
  go_enter Tryd.func66, Tryd.ntmps66
  go_wp2_with (at_builtin; refine wpList_append_lies _ rfl (.tmp 3) (.tmp 6) 22 rfl base 31 i0 _ 4 40 Tryd.underlying22 hi hz0 hz1 hz2 (by rfl) (by decide) v ts.length _ rfl HO.out ⟨w.heap.size, 0, none⟩ 1 1 (tkC (sgS s)) rfl rfl (tok_news w _ _ _ _ _) (tkC_one _) (by decide) (by unfold maxLen; omega) (by omega) (by simp; omega) (w.heap.size + 1) (by simp) ?_; intro gb cap2 W2 hown2 hg2 hat2 hlt2; obtain ⟨-, k0, k1, k2⟩ := HM.out.mid hg2; have HS := Lib.hid (put_step H.out HB.out hown2 hg2 (hat_name (by rw [World.size_alloc]; exact hat2))); clear hown2 hg2 hat2 hlt2)
  go_end0
  exact ⟨rfl, _, HS.out.1, HS.out.2⟩
end Go.Proofs.YtchpkdpefpiegaaDoor.Tok
