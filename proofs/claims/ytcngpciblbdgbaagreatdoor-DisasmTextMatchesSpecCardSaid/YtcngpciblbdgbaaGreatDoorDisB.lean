/- Contract of disasm.decode: the instruction at an offset of code, by the one form that has the code there. Conditions: the table reads as forms and is valid; the code reads as bytes; the offset lies in the code. -/
import Derived.Deep.RegionHeld3
import Derived.Test.YtcngpciblbdgbaaGreatDoorEncLem
namespace Go.Proofs.YtcngpciblbdgbaaGreatDoor
open Go Go.RowKit Go.Shelf
set_option maxRecDepth 100000 in
set_option maxHeartbeats 800000 in
theorem decFn_any (B b b' a : Nat) (v : Value) (l : List UInt8) (f : Frm) (w : World) (hf : KindsAt B w f.kv f.kinds) (hl : BytesAt B w v l) (hB : B ≤ w.heap.size) (ha : a < l.length) (h1 : w.cell? ⟨b, 0, none⟩ = some v) (h2 : w.cell? ⟨b', 0, none⟩ = some (.int .i64 (a : Int))) :
    Calls Tryz.prog 61 #[f.val, .pointer (some ⟨b, 0, none⟩), .pointer (some ⟨b', 0, none⟩)] w fun e w' => e = .returned (.bool (codeB (l.drop a) f)) ∧ Below w.heap.size w w' := by
  obtain ⟨W, hW⟩ : ∃ W, W = w.alloc (.cells #[.string f.name, .int .i64 f.code, f.kv] 39) := ⟨_, rfl⟩
  have hb : Below w.heap.size w W := by rw [hW]; exact (Below.refl _ _).alloc (Nat.le_refl _) _
  have hlt : b < w.heap.size := block_lt_of_cell h1
  have hlt' : b' < w.heap.size := block_lt_of_cell h2
  obtain ⟨A, n, c, rfl, H1, ⟨hn, hc⟩, hcell⟩ := hl.opens
  rw [H1.out] at ha
  obtain ⟨b1, o1, rfl, hb1, hcc⟩ := hcell (Nat.lt_of_le_of_lt (Nat.zero_le _) ha)
  have d1 : W.cell? ⟨b1, o1 + a, none⟩ = some (.int .u8 ((l[a]?.getD 0).toNat : Int)) := (hb.cell (p := ⟨b1, o1 + a, none⟩) (by show b1 < _; omega)).trans (hcc a ha)
  have d2 := cell_below h1 hb
  have d4 := cell_below h2 hb
  have d3 : W.cell? ⟨w.heap.size, 1, none⟩ = some (.int .i64 f.code) := by rw [hW]; simp
  have hai : (a : Int) < (n : Int) := by omega
  have ha0 : (0 : Int) ≤ (a : Int) := by omega
  have e0 : codeB (l.drop a) f = (f.code == ((l[a]?.getD 0).toNat : Int)) := by unfold codeB; rw [List.getElem?_drop, Nat.add_zero]
  rw [e0]
  obtain ⟨A2, m2, c2, e2, _⟩ := hf.opens
  obtain ⟨nm, q, kv, ks⟩ := f
  dsimp only [Frm.val] at *
  subst e2
  have hbW := block_lt_of_cell d2
  have hb2W := block_lt_of_cell d4
  have hb1W := block_lt_of_cell d1
  have hwW := block_lt_of_cell d3
  have Hb := Lib.hid hb
  have h256 := u8_lt (l[a]?.getD 0)
  generalize (l[a]?.getD 0).toNat = x at *
  have hwx : IntKind.i64.wrap (x : Int) = (x : Int) := IntWalk.i64_in _ (by omega)
  clear hf hl h1 h2 hcell hcc hb e0 hlt hlt'
  go_enter Tryz.func61, Tryz.ntmps61
  go_wp2
  rw [← hW]
  clear hW
  go_quiet (fail)
  go_wp2
  go_ret
  exact ⟨rfl, below_drewN Hb.out _⟩
/-- decode's world when it has boxed its parameters and laid its results -/
def ddW (w : World) (v : Value) (a : Int) : World := (((w.alloc (.cells #[v] 23)).alloc (.cells #[.int .i64 a] 3)).alloc (.cells #[.int .i64 0, .int .i64 0, .int .i64 0, .slice none 0 0] 41)).alloc (.cells #[.int .i64 0, .int .i64 0] 27)
theorem ddW_below (w : World) (v : Value) (a : Int) : Below w.heap.size w (ddW w v a) := (two_more w _ _).trans ((((Below.refl _ _).alloc (by simp; omega) _).alloc (by simp; omega) _))
theorem ddW_c1 (w : World) (v : Value) (a : Int) : (ddW w v a).cell? ⟨w.heap.size, 0, none⟩ = some v := cell_alloc_l _ (cell_alloc_l _ (cell_alloc_l _ (by simp)))
theorem ddW_c2 (w : World) (v : Value) (a : Int) : (ddW w v a).cell? ⟨w.heap.size + 1, 0, none⟩ = some (.int .i64 a) := by
  refine cell_alloc_l _ (cell_alloc_l _ ?_)
  simp
theorem decd_index (B : Nat) (v cv : Value) (fs : List Frm) (l : List UInt8) (a : Nat) (w : World) (h : FormsAt B w v fs) (hl : BytesAt B w cv l) (hB : B ≤ w.heap.size) (ha : a < l.length) :
    Calls Tryz.prog 60 #[v, .func (.func 61) #[] #[.pointer (some ⟨w.heap.size, 0, none⟩), .pointer (some ⟨w.heap.size + 1, 0, none⟩)]] (ddW w cv a) fun e w' => e = .returned (.int .i64 (idxOf (codeB (l.drop a)) fs)) ∧ Below (ddW w cv a).heap.size (ddW w cv a) w' := by
  have hbw := ddW_below w cv a
  refine index_forms B 61 _ (codeB (l.drop a)) v fs _ (h.below (hbw.mono hB)) (Nat.le_trans hB hbw.size) (fun W' g hg hW' => ?_) (enters_of Tryz.func61 (by kernel_rfl) rfl)
  have hb := hbw.trans (hW'.mono hbw.size)
  exact decFn_any B w.heap.size (w.heap.size + 1) a cv l g W' ((h.below (hb.mono hB)).kinds hg) (hl.below (hb.mono hB)) (Nat.le_trans hB hb.size) ha (cell_below (ddW_c1 w cv a) hW') (cell_below (ddW_c2 w cv a) hW')
theorem forms_one {B : Nat} {w : World} {b o n c k : Nat} {fs : List Frm} {f : Frm} (h : FormsAt B w (.slice (some ⟨b, o, none⟩) n c) fs) (hx : fs[k]? = some f) : FormsAt B w (.slice (some ⟨b, o + k * 3, none⟩) 1 (c - k)) [f] := by
  obtain ⟨A, c', e, ⟨h1, h2⟩, h3, h4⟩ := h
  injection e with e1 e2 e3
  subst e1
  subst e3
  have hk := (List.getElem?_eq_some_iff.1 hx).1
  refine ⟨_, c - k, rfl, ⟨by simp, by simp; omega⟩, fun g hg => by rw [List.mem_singleton.1 hg]; exact h3 f (List.mem_of_getElem? hx), fun _ => ?_⟩
  obtain ⟨b', o', e, hb, hc⟩ := h4 (by omega)
  injection e with e
  injection e with e4 e5
  subst e4
  subst e5
  refine ⟨b, o + k * 3, rfl, hb, fun j g hj => ?_⟩
  match j, hj with
  | 0, hj =>
    injection hj with hj
    subst hj
    rw [Nat.zero_mul, Nat.add_zero]
    exact hc k f hx
theorem forms_nil (B : Nat) (w : World) : FormsAt B w (.slice none 0 0) [] := ⟨none, 0, rfl, ⟨by simp, by simp⟩, fun f hf => absurd hf (by simp), fun h => absurd h (by simp)⟩
theorem good_one {fs : List Frm} {l : List UInt8} {k : Nat} {f : Frm} (hi : idxOf (codeB l) fs = (k : Int)) (hx : fs[k]? = some f) (hc : codeB l f = true) : (∀ j g xs, GoodAt [f] l j g xs → j = 0 ∧ g = f ∧ GoodAt fs l k f xs) ∧ (∀ j g xs, GoodAt fs l j g xs → GoodAt [f] l 0 f xs) := by
  have h0 : idxOf (codeB l) [f] = ((0 : Nat) : Int) := idxOf_at (k := 0) rfl hc (fun j g hj => absurd hj (Nat.not_lt_zero j))
  refine ⟨fun j g xs h => ?_, fun j g xs h => ?_⟩
  · obtain ⟨g1, g2, g3⟩ := h
    rw [h0] at g1
    obtain rfl : j = 0 := by omega
    injection g2 with g2
    subst g2
    exact ⟨rfl, rfl, hi, hx, g3⟩
  · obtain ⟨g1, g2, g3⟩ := h
    rw [hi] at g1
    obtain rfl : j = k := by omega
    rw [hx] at g2
    injection g2 with g2
    subst g2
    exact ⟨h0, rfl, g3⟩
/-! ## decode -/
/-- a box of four cells -/
def Quad (W : World) (R : Nat) (x y z u : Value) : Prop := (W.cell? ⟨R, 0, none⟩ = some x ∧ W.cell? ⟨R, 1, none⟩ = some y ∧ W.cell? ⟨R, 2, none⟩ = some z ∧ W.cell? ⟨R, 3, none⟩ = some u) ∧ W.frozen? ⟨R, 0, none⟩ = false ∧ W.frozen? ⟨R, 1, none⟩ = false ∧ W.frozen? ⟨R, 2, none⟩ = false ∧ W.frozen? ⟨R, 3, none⟩ = false
theorem Quad.new (w : World) (x y z u : Value) (t : TypeId) : Quad (w.alloc (.cells #[x, y, z, u] t)) w.heap.size x y z u := ⟨⟨by simp, by simp, by simp, by simp⟩, by simp, by simp, by simp, by simp⟩
theorem Quad.lt {W : World} {R : Nat} {x y z u : Value} (h : Quad W R x y z u) : R < W.heap.size := block_lt_of_cell h.1.1
theorem Quad.below {W W' : World} {R : Nat} {x y z u : Value} (h : Quad W R x y z u) (hb : Below W.heap.size W W') : Quad W' R x y z u := by
  have hlt := h.lt
  obtain ⟨⟨h0, h1, h2, h3⟩, f0, f1, f2, f3⟩ := h
  exact ⟨⟨cell_below h0 hb, cell_below h1 hb, cell_below h2 hb, cell_below h3 hb⟩, (World.frozen?_of_block (a := ⟨R, 0, none⟩) (hb.block R hlt)).trans f0, (World.frozen?_of_block (a := ⟨R, 1, none⟩) (hb.block R hlt)).trans f1, (World.frozen?_of_block (a := ⟨R, 2, none⟩) (hb.block R hlt)).trans f2, (World.frozen?_of_block (a := ⟨R, 3, none⟩) (hb.block R hlt)).trans f3⟩
theorem ddW_res (w : World) (v : Value) (a : Int) : Quad (ddW w v a) (w.heap.size + 1 + 1) (.int .i64 0) (.int .i64 0) (.int .i64 0) (.slice none 0 0) ∧ Two (ddW w v a) (w.heap.size + 1 + 1 + 1) (.int .i64 0) (.int .i64 0) := by
  have q := (Quad.new ((w.alloc (.cells #[v] 23)).alloc (.cells #[.int .i64 a] 3)) (.int .i64 0) (.int .i64 0) (.int .i64 0) (.slice none 0 0) 41).below (one_more _ (.cells #[.int .i64 0, .int .i64 0] 27))
  have t := Two.new (((w.alloc (.cells #[v] 23)).alloc (.cells #[.int .i64 a] 3)).alloc (.cells #[.int .i64 0, .int .i64 0, .int .i64 0, .slice none 0 0] 41)) (.int .i64 0) (.int .i64 0) 27
  simp only [World.size_alloc] at q t
  exact ⟨q, t⟩
theorem dec_zero {gs : List Frm} {l : List UInt8} {a : Nat} (ht : tableFault gs = (0, 0)) (h15 : l.length ≤ 1500) (ha : a < l.length) : decFault gs l (a : Int) = (0, 0) := by
  unfold decFault
  rw [if_neg (by rw [ht]; decide), if_neg (by omega), if_neg (by omega)]
theorem dec_bad_of {gs : List Frm} {l : List UInt8} {a : Nat} (ht : tableFault gs = (0, 0)) (h15 : l.length ≤ 1500) (ha : a < l.length) (hno : ¬ ∃ k f xs, GoodAt gs (l.drop a) k f xs) : DecBad gs l (a : Int) 17 a := by
  rcases dec_cases gs l (a : Int) with ⟨p, i, hp, hd, _⟩ | ⟨b, hb, _, _, _, _, h⟩ | ⟨b, k, f, xs, hb, _, h⟩
  · rw [dec_zero ht h15 ha] at hd
    injection hd with hd
    exact absurd hd.symm hp
  · obtain rfl : a = b := by omega
    exact h
  · obtain rfl : a = b := by omega
    exact absurd ⟨k, f, xs, h.2.2.2⟩ hno
abbrev noLoc : Value := .agg #[.int .i64 0, .int .i64 0, .int .i64 0, .slice none 0 0]
theorem dd_below {w W : World} {x y z u p q : Value} (h : Below w.heap.size w W) : Below w.heap.size w ((((((W.setCell ⟨w.heap.size + 1 + 1, 0, none⟩ x).setCell ⟨w.heap.size + 1 + 1, 1, none⟩ y).setCell ⟨w.heap.size + 1 + 1, 2, none⟩ z).setCell ⟨w.heap.size + 1 + 1, 3, none⟩ u).setCell ⟨w.heap.size + 1 + 1 + 1, 0, none⟩ p).setCell ⟨w.heap.size + 1 + 1 + 1, 1, none⟩ q) := by
  have h1 : w.heap.size ≤ w.heap.size + 1 + 1 := by omega
  have h2 : w.heap.size ≤ w.heap.size + 1 + 1 + 1 := by omega
  exact (((((h.setCell (p := ⟨w.heap.size + 1 + 1, 0, none⟩) h1 x).setCell (p := ⟨w.heap.size + 1 + 1, 1, none⟩) h1 y).setCell (p := ⟨w.heap.size + 1 + 1, 2, none⟩) h1 z).setCell (p := ⟨w.heap.size + 1 + 1, 3, none⟩) h1 u).setCell (p := ⟨w.heap.size + 1 + 1 + 1, 0, none⟩) h2 p).setCell (p := ⟨w.heap.size + 1 + 1 + 1, 1, none⟩) h2 q
theorem one_slice {k n c : Nat} (hk : k < n) (hc : n ≤ c) (hn : n * 48 ≤ 140737488351232) : wrap64 ((k : Int) + 1) = ((k + 1 : Nat) : Int) ∧ (0 : Int) ≤ (k : Int) ∧ k ≤ k + 1 ∧ k + 1 ≤ c ∧ ¬ c = k ∧ k + 1 - k = 1 := by
  refine ⟨by rw [IntWalk.wrap64_in _ (by omega)]; omega, by omega, by omega, by omega, by omega, by omega⟩
theorem box_apart2 {a b : Nat} (h : a + 1 + 1 + 1 < b) : ¬ b = a + 1 + 1 ∧ ¬ a + 1 + 1 = b ∧ ¬ b = a + 1 + 1 + 1 ∧ ¬ a + 1 + 1 + 1 = b ∧ ¬ b = a + 1 ∧ ¬ a + 1 = b := by omega
theorem box_apart {a b : Nat} (h : a + 1 + 1 + 1 < b) : ¬ b + 1 = a + 1 + 1 ∧ ¬ a + 1 + 1 = b + 1 ∧ ¬ b + 1 = a + 1 + 1 + 1 ∧ ¬ a + 1 + 1 + 1 = b + 1 := by omega
set_option maxRecDepth 100000 in
set_option maxHeartbeats 2000000 in
theorem disDec_no (B : Nat) (v cv : Value) (fs : List Frm) (l : List UInt8) (a : Nat) (w : World) (h : FormsAt B w v fs) (hl : BytesAt B w cv l) (hB : B ≤ w.heap.size) (ht : tableFault fs = (0, 0)) (h15 : l.length ≤ 1500) (ha : a < l.length) (hno : ¬ ∃ k f xs, GoodAt fs (l.drop a) k f xs) :
    Calls Tryz.prog 39 #[v, cv, .int .i64 (a : Int)] w fun e w' => e = .returned (.tuple #[noLoc, faultV (17, (a : Int))]) ∧ Below w.heap.size w w' := by
  have C := decd_index B v cv fs l a w h hl hB ha
  have hbw := ddW_below w cv a
  obtain ⟨A, n, c, rfl, hfs, ⟨hn48, hnc⟩, -, hop⟩ := h.opens
  obtain ⟨A2, n2, c2, rfl, -⟩ := hl.opens
  obtain ⟨Q, T2⟩ := ddW_res w (.slice A2 n2 c2) a
  have x1 := ddW_c1 w (.slice A2 n2 c2) a
  have x2 := ddW_c2 w (.slice A2 n2 c2) a
  have HC := Lib.hid C
  have HF := Lib.hid h
  have HL := Lib.hid hl
  have HQ := Lib.hid Q
  have HT2 := Lib.hid T2
  have HX1 := Lib.hid x1
  have HX2 := Lib.hid x2
  have HBW := Lib.hid hbw
  clear C h hl Q T2 x1 x2 hbw
  by_cases hj : idxOf (codeB (l.drop a)) fs < 0
  · obtain ⟨j, hje⟩ : ∃ j, j = idxOf (codeB (l.drop a)) fs := ⟨_, rfl⟩
    rw [← hje] at hj HC
    have hj0 : ¬ (0 : Int) ≤ j := by omega
    clear hje hj
    go_enter Tryz.func39, Tryz.ntmps39
    go_wp2_with (go_at_call 60; refine HC.out.mono ?_; rintro e W1 ⟨rfl, hb1⟩; have y1 := cell_below HX1.out hb1; have y2 := cell_below HX2.out hb1; have z1 := block_lt_of_cell y1; have z2 := block_lt_of_cell y2)
    have g1 := HBW.out.trans (hb1.mono HBW.out.size)
    have hq := HQ.out.below hb1
    have ht2 := HT2.out.below hb1
    have E := dec_bad_of (gs := []) (by kernel_rfl) h15 ha (fun ⟨k, f, xs, hg⟩ => by obtain ⟨_, g2, _⟩ := hg; simp at g2) B _ _ W1 (forms_nil B W1) (HL.out.below (g1.mono hB)) (Nat.le_trans hB g1.size)
    have HE := Lib.hid E
    have HQ1 := Lib.hid hq
    have HT1 := Lib.hid ht2
    have G1 := Lib.hid g1
    clear E hb1 g1 hq ht2 HQ HT2
    refine HE.out.mono ?_
    rintro e W2 ⟨rfl, hb2⟩
    have a3 := two_more W2 (.cells #[.int .i64 0, .slice none 0 0] 34) (.cells #[.int .i64 17, .int .i64 (a : Int)] 27)
    have g13 := hb2.trans (a3.mono hb2.size)
    have q3 := HQ1.out.below g13
    have t3 := HT1.out.below g13
    have u3 : Two ((W2.alloc (.cells #[.int .i64 0, .slice none 0 0] 34)).alloc (.cells #[.int .i64 17, .int .i64 (a : Int)] 27)) (W2.heap.size + 1) (.int .i64 17) (.int .i64 (a : Int)) := by
      have := Two.new (W2.alloc (.cells #[.int .i64 0, .slice none 0 0] 34)) (.int .i64 17) (.int .i64 (a : Int)) 27
      rwa [World.size_alloc] at this
    have w3 := G1.out.trans (g13.mono G1.out.size)
    have zz1 := q3.lt
    have zz2 := t3.lt
    have zz3 := u3.lt
    obtain ⟨⟨q0, q1, q2, q3'⟩, f0, f1, f2, f3⟩ := q3
    obtain ⟨t0, t1, t2, t3'⟩ := t3
    obtain ⟨u0, u1, u2, u3'⟩ := u3
    have HFN := Lib.hid w3
    have HZ := Lib.hid (show w.heap.size + 1 + 1 + 1 < W2.heap.size by have := G1.out.size; have h1 := HT1.out.lt; have h2 := hb2.size; omega)
    clear a3 g13 w3 hb2 y1 y2 z1 z2
    go_wp2_with fail
    obtain ⟨W3, hW3⟩ : ∃ W3, W3 = (W2.alloc (.cells #[.int .i64 0, .slice none 0 0] 34)).alloc (.cells #[.int .i64 17, .int .i64 (a : Int)] 27) := ⟨_, rfl⟩
    rw [← hW3] at q0 q1 q2 q3' f0 f1 f2 f3 t0 t1 t2 t3' u0 u1 u2 u3' zz1 zz2 zz3 HFN ⊢
    clear hW3
    obtain ⟨n1, n2', n3, n4⟩ := box_apart HZ.out
    go_region
    all_goals go_wp2
    refine bodyPost_ret (v := .tuple #[noLoc, faultV (17, (a : Int))]) ?_ rfl ⟨rfl, ?_⟩
    · simp [results, Tryz.results39, go_sem, q0, q1, q2, q3', t0, t1]
    · exact (dd_below HFN.out).drew
  · obtain ⟨k, f, hje, hx, hcf⟩ := idx_some hj
    rw [hje] at HC
    have hkn : k < n := by rw [← hfs.out]; exact (List.getElem?_eq_some_iff.1 hx).1
    obtain ⟨b1, o1, rfl, -, -⟩ := hop (Nat.lt_of_le_of_lt (Nat.zero_le _) hkn)
    obtain ⟨m1, m2, m3, m4, m5, m6⟩ := one_slice hkn hnc hn48
    clear hop
    go_enter Tryz.func39, Tryz.ntmps39
    go_wp2_with (go_at_call 60; refine HC.out.mono ?_; rintro e W1 ⟨rfl, hb1⟩; have y1 := cell_below HX1.out hb1; have y2 := cell_below HX2.out hb1; have z1 := block_lt_of_cell y1; have z2 := block_lt_of_cell y2)
    have g1 := HBW.out.trans (hb1.mono HBW.out.size)
    have hq := HQ.out.below hb1
    have ht2 := HT2.out.below hb1
    have E := dec_bad_of (gs := [f]) (valid_form ht (List.mem_of_getElem? hx)).table h15 ha (fun ⟨k2, f2, xs, hg⟩ => hno ⟨_, _, _, ((good_one (hje ▸ rfl) hx hcf).1 k2 f2 xs hg).2.2⟩) B _ _ W1 (forms_one (HF.out.below (g1.mono hB)) hx) (HL.out.below (g1.mono hB)) (Nat.le_trans hB g1.size)
    have HE := Lib.hid E
    have HQ1 := Lib.hid hq
    have HT1 := Lib.hid ht2
    have G1 := Lib.hid g1
    clear E hb1 g1 hq ht2 HQ HT2
    refine HE.out.mono ?_
    rintro e W2 ⟨rfl, hb2⟩
    have a3 := two_more W2 (.cells #[.int .i64 0, .slice none 0 0] 34) (.cells #[.int .i64 17, .int .i64 (a : Int)] 27)
    have g13 := hb2.trans (a3.mono hb2.size)
    have q3 := HQ1.out.below g13
    have t3 := HT1.out.below g13
    have u3 : Two ((W2.alloc (.cells #[.int .i64 0, .slice none 0 0] 34)).alloc (.cells #[.int .i64 17, .int .i64 (a : Int)] 27)) (W2.heap.size + 1) (.int .i64 17) (.int .i64 (a : Int)) := by
      have := Two.new (W2.alloc (.cells #[.int .i64 0, .slice none 0 0] 34)) (.int .i64 17) (.int .i64 (a : Int)) 27
      rwa [World.size_alloc] at this
    have w3 := G1.out.trans (g13.mono G1.out.size)
    have zz1 := q3.lt
    have zz2 := t3.lt
    have zz3 := u3.lt
    obtain ⟨⟨q0, q1, q2, q3'⟩, f0, f1, f2, f3⟩ := q3
    obtain ⟨t0, t1, t2, t3'⟩ := t3
    obtain ⟨u0, u1, u2, u3'⟩ := u3
    have HFN := Lib.hid w3
    have HZ := Lib.hid (show w.heap.size + 1 + 1 + 1 < W2.heap.size by have := G1.out.size; have h1 := HT1.out.lt; have h2 := hb2.size; omega)
    clear a3 g13 w3 hb2 y1 y2 z1 z2
    go_wp2_with fail
    obtain ⟨W3, hW3⟩ : ∃ W3, W3 = (W2.alloc (.cells #[.int .i64 0, .slice none 0 0] 34)).alloc (.cells #[.int .i64 17, .int .i64 (a : Int)] 27) := ⟨_, rfl⟩
    rw [← hW3] at q0 q1 q2 q3' f0 f1 f2 f3 t0 t1 t2 t3' u0 u1 u2 u3' zz1 zz2 zz3 HFN ⊢
    clear hW3
    obtain ⟨n1, n2', n3, n4⟩ := box_apart HZ.out
    go_region
    all_goals go_wp2
    refine bodyPost_ret (v := .tuple #[noLoc, faultV (17, (a : Int))]) ?_ rfl ⟨rfl, ?_⟩
    · simp [results, Tryz.results39, go_sem, q0, q1, q2, q3', t0, t1]
    · exact (dd_below HFN.out).drew
theorem row_base0 {w : World} {B : Nat} {e : TypeId} {size n : Nat} {v : Value} {xs : List Value} (h : w.ownsRow B e size v n xs) : w.ownsRow 0 e size v n xs := by
  refine ⟨h.1, ?_⟩
  rcases h.2 with h2 | ⟨g, cap, cur, h3, h4, r⟩
  · exact .inl h2
  · exact .inr ⟨g, cap, cur, h3, Nat.zero_le _, r⟩
set_option maxRecDepth 100000 in
set_option maxHeartbeats 2000000 in
theorem disDec_ok (B : Nat) (v cv : Value) (fs : List Frm) (l : List UInt8) (a k : Nat) (f : Frm) (xs : List Int) (w : World) (h : FormsAt B w v fs) (hl : BytesAt B w cv l) (hB : B ≤ w.heap.size) (ht : tableFault fs = (0, 0)) (h15 : l.length ≤ 1500) (ha : a < l.length) (hg : GoodAt fs (l.drop a) k f xs) :
    Calls Tryz.prog 39 #[v, cv, .int .i64 (a : Int)] w fun e w' => ∃ R, e = .returned (.tuple #[.agg #[.int .i64 (a : Int), .int .i64 (sizeOf f.kinds : Nat), .int .i64 (k : Int), .slice (some ⟨R, 0, none⟩) f.kinds.length f.kinds.length], faultV (0, 0)]) ∧
      w'.ownsRow 0 3 1 (.slice (some ⟨R, 0, none⟩) f.kinds.length f.kinds.length) f.kinds.length (iv xs) ∧ Below w.heap.size w w' := by
  have C := decd_index B v cv fs l a w h hl hB ha
  have hbw := ddW_below w cv a
  obtain ⟨A, n, c, rfl, hfs, ⟨hn48, hnc⟩, -, hop⟩ := h.opens
  obtain ⟨A2, n2, c2, rfl, -⟩ := hl.opens
  obtain ⟨Q, T2⟩ := ddW_res w (.slice A2 n2 c2) a
  have x1 := ddW_c1 w (.slice A2 n2 c2) a
  have x2 := ddW_c2 w (.slice A2 n2 c2) a
  have hx := hg.2.1
  have hje := hg.1
  obtain ⟨k', f', e1, e2, hcf⟩ := idx_some (p := codeB (l.drop a)) (fs := fs) (by rw [hje]; omega)
  rw [hje] at e1
  obtain rfl : k' = k := by omega
  rw [hx] at e2
  injection e2 with e2
  subst e2
  rw [hje] at C
  have hok := valid_form ht (List.mem_of_getElem? hx)
  have O1 : DecOk [f] l a 0 f xs := ⟨hok.table, h15, ha, (good_one hje hx hcf).2 _ _ _ hg⟩
  have hkn : k' < n := by rw [← hfs.out]; exact (List.getElem?_eq_some_iff.1 hx).1
  obtain ⟨b1, o1, rfl, -, -⟩ := hop (Nat.lt_of_le_of_lt (Nat.zero_le _) hkn)
  obtain ⟨m1, m2, m3, m4, m5, m6⟩ := one_slice hkn hnc hn48
  have HO := Lib.hid O1
  have HX := Lib.hid hx
  have HC := Lib.hid C
  have HF := Lib.hid h
  have HL := Lib.hid hl
  have HQ := Lib.hid Q
  have HT2 := Lib.hid T2
  have HX1 := Lib.hid x1
  have HX2 := Lib.hid x2
  have HBW := Lib.hid hbw
  clear C h hl Q T2 x1 x2 hbw hop O1 hok hcf hje hx hg e1
  go_enter Tryz.func39, Tryz.ntmps39
  go_wp2_with (go_at_call 60; refine HC.out.mono ?_; rintro e W1 ⟨rfl, hb1⟩; have y1 := cell_below HX1.out hb1; have y2 := cell_below HX2.out hb1; have z1 := block_lt_of_cell y1; have z2 := block_lt_of_cell y2)
  have g1 := HBW.out.trans (hb1.mono HBW.out.size)
  have E := decode_ok B _ _ [f] l a W1 (forms_one (HF.out.below (g1.mono hB)) HX.out) (HL.out.below (g1.mono hB)) (Nat.le_trans hB g1.size) HO.out.1 h15 ha 0 f xs HO.out.2.2.2
  rw [show ((0 : Nat) : Int) = 0 from rfl] at E
  have HE := Lib.hid E
  have HQ1 := Lib.hid (HQ.out.below hb1)
  have HT1 := Lib.hid (HT2.out.below hb1)
  have HY2 := Lib.hid y2
  have G1 := Lib.hid g1
  clear E hb1 g1 HQ HT2
  refine HE.out.mono ?_
  rintro e W2 ⟨R, rfl, hk2, hb2⟩
  have a3 := two_more W2 (.cells #[.int .i64 (k' : Int), .slice (some ⟨R, 0, none⟩) f.kinds.length f.kinds.length] 34) (.cells #[.int .i64 0, .int .i64 0] 27)
  have g13 := hb2.trans (a3.mono hb2.size)
  have q3 := HQ1.out.below g13
  have t3 := HT1.out.below g13
  have y3 := cell_below HY2.out g13
  have i3 := (Two.new W2 (.int .i64 (k' : Int)) (.slice (some ⟨R, 0, none⟩) f.kinds.length f.kinds.length) 34).below (one_more _ (.cells #[.int .i64 0, .int .i64 0] 27))
  have u3 : Two ((W2.alloc (.cells #[.int .i64 (k' : Int), .slice (some ⟨R, 0, none⟩) f.kinds.length f.kinds.length] 34)).alloc (.cells #[.int .i64 0, .int .i64 0] 27)) (W2.heap.size + 1) (.int .i64 0) (.int .i64 0) := by
    have := Two.new (W2.alloc (.cells #[.int .i64 (k' : Int), .slice (some ⟨R, 0, none⟩) f.kinds.length f.kinds.length] 34)) (.int .i64 0) (.int .i64 0) 27
    rwa [World.size_alloc] at this
  have w3 := G1.out.trans (g13.mono G1.out.size)
  have K3 := Lib.hid (row_below hk2 a3)
  have HZ1 := Lib.hid (show w.heap.size + 1 + 1 + 1 < W1.heap.size from HT1.out.lt)
  have HSH := Lib.hid (valid_form ht (List.mem_of_getElem? HX.out)).short
  have zz1 := q3.lt
  have zz2 := t3.lt
  have zz3 := u3.lt
  have zz4 := i3.lt
  obtain ⟨⟨q0, q1, q2, q3'⟩, f0, f1, f2, f3⟩ := q3
  obtain ⟨t0, t1, t2, t3'⟩ := t3
  obtain ⟨u0, u1, u2, u3'⟩ := u3
  obtain ⟨i0, i1, i2, i3'⟩ := i3
  have hz5 := block_lt_of_cell y3
  have HFN := Lib.hid w3
  have HSZ := Lib.hid a3.size
  have HZ := Lib.hid (show w.heap.size + 1 + 1 + 1 < W2.heap.size by have := G1.out.size; have h1 := HT1.out.lt; have h2 := hb2.size; omega)
  obtain ⟨n1, n2', n3, n4⟩ := box_apart HZ.out
  obtain ⟨n5, n6, n7, n8, n9, n10⟩ := box_apart2 HZ.out
  clear a3 g13 w3 hb2 y1 y2 z1 z2 hk2
  go_wp2_with fail
  refine bodyPost_ret (v := .tuple #[.agg #[.int .i64 (a : Int), .int .i64 (sizeOf f.kinds : Nat), .int .i64 (k' : Int), .slice (some ⟨R, 0, none⟩) f.kinds.length f.kinds.length], faultV (0, 0)]) ?_ rfl ⟨R, rfl, ?_, dd_below HFN.out⟩
  · simp [results, Tryz.results39, go_sem, q0, q1, q2, q3', t0, t1]
  · have h6 : w.heap.size + 1 + 1 < W1.heap.size := Nat.lt_of_succ_lt HZ1.out
    exact row_base0 (row_set (row_set (row_set (row_set (row_set (row_set K3.out h6) h6) h6) h6) HZ1.out) HZ1.out)
end Go.Proofs.YtcngpciblbdgbaaGreatDoor
