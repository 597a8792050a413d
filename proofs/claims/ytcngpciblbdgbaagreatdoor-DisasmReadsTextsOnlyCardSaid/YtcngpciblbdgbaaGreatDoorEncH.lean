/- Contract of encoding. Conditions: the form is valid by itself; the arguments are as many as its operands and in their ranges. -/
import Derived.Test.YtcngpciblbdgbaaGreatDoorEncG
namespace Go.Proofs.YtcngpciblbdgbaaGreatDoor
open Go Go.RowKit Go.Shelf
attribute [local go_sem] Oper.semAt_some

theorem u8_wrap (c : Int) : IntKind.u8.wrap c = ((UInt8.ofNat (c % 256).toNat).toNat : Int) := by
  rw [IntKind.wrap_u8', ofNat_toNat _ (by omega)]
  omega
theorem zero_set {sz : Nat} (h : 1 ≤ sz) (b : UInt8) : (List.replicate sz (0 : UInt8)).set 0 b = b :: List.replicate (sz - 1) 0 := by
  obtain ⟨k, rfl⟩ : ∃ k, sz = k + 1 := ⟨sz - 1, by omega⟩
  rw [List.replicate_succ]
  simp

/-- what is known behind the make: the boxes lie as they lay, the row is zero -/
theorem enc_made {B N sz : Nat} {w Wm W1 w2 : World} {q : Int} {kv av : Value} (p1 : Wm.cell? ⟨N, 1, none⟩ = some (.int .i64 q)) (p2 : Wm.cell? ⟨N, 2, none⟩ = some kv) (p3 : Wm.cell? ⟨N + 1, 0, none⟩ = some av) (p4 : Below N w Wm) (p5 : Wm.heap.size = N + 1 + 1)
    (hb : Below Wm.heap.size Wm W1) (hg : W1.grownBy w2 none) (hs1 : 1 ≤ sz) (hown : w2.ownsRow B 5 1 (.slice (some ⟨W1.heap.size, 0, none⟩) sz sz) sz (madeCells (Value.int .u8 0).cells (sz * 1)).toList) :
    (w2.cell? ⟨N, 1, none⟩ = some (.int .i64 q) ∧ w2.cell? ⟨N, 2, none⟩ = some kv ∧ w2.cell? ⟨N + 1, 0, none⟩ = some av ∧ w2.cell? ⟨W1.heap.size, 0, none⟩ = some (.int .u8 0) ∧ w2.frozen? ⟨W1.heap.size, 0, none⟩ = false) ∧
      N + 1 < W1.heap.size ∧ W1.heap.size < w2.heap.size ∧ Below N w w2 ∧ w2.ownsRow B 5 1 (.slice (some ⟨W1.heap.size, 0, none⟩) sz sz) sz (bv (List.replicate sz 0)) := by
  rw [made_bytes] at hown
  have hz := hb.size
  have c : ∀ (k j : Nat) (u : Value), k < N + 1 + 1 → Wm.cell? ⟨k, j, none⟩ = some u → w2.cell? ⟨k, j, none⟩ = some u := fun k j u hk h => hg.cell ((hb.cell (p := ⟨k, j, none⟩) (by show k < _; omega)).trans h) (by simp)
  refine ⟨⟨c _ _ _ (by omega) p1, c _ _ _ (by omega) p2, c _ _ _ (by omega) p3, ?_, hown.frozenAt 0⟩, by omega, (hown.lt _ rfl).2, ?_, hown⟩
  · have := bv_cell hown 0 (by simp; omega)
    rw [this, List.getElem?_replicate]
    split <;> rfl
  · have h1 : Below N w W1 := p4.trans (hb.mono (by omega))
    exact h1.grown hg (by have := h1.size; omega) (fun r e => by cases e)

set_option maxRecDepth 100000 in
set_option maxHeartbeats 2000000 in
theorem encoding_any (B : Nat) (f : Frm) (v : Value) (xs : List Int) (w : World) (hk : KindsAt B w f.kv f.kinds) (ha : KindsAt B w v xs) (hB : B ≤ w.heap.size) (hn : f.name.size ≤ 140737488351232) (hok : FormOk f) (hlen : xs.length = f.kinds.length) (hin : insideAll f.kinds xs) :
    Calls Tryz.prog 36 #[f.val, v] w fun e w' => ∃ R, e = .returned (.slice (some ⟨R, 0, none⟩) (sizeOf f.kinds) (sizeOf f.kinds)) ∧ w'.ownsRow w.heap.size 5 1 (.slice (some ⟨R, 0, none⟩) (sizeOf f.kinds) (sizeOf f.kinds)) (sizeOf f.kinds) (bv (encL f.code (f.kinds.zip xs))) ∧ Below w.heap.size w w' := by
  have h4 := hok.short
  have hkn := hok.known
  have hs20 := sizeOf_le h4
  have hs1 : 1 ≤ sizeOf f.kinds := by unfold sizeOf; omega
  have HS := Lib.hid (fun (W : World) (hb : Below w.heap.size w W) => sizeForm_any B f W (hk.below (hb.mono hB)) (Nat.le_trans hB hb.size) hn hok)
  obtain ⟨nm, q, kv, ks⟩ := f
  dsimp only [Frm.val] at *
  have Hk := Lib.hid hk
  have Ha := Lib.hid ha
  obtain ⟨A, m, c, rfl, Hl, hm, _⟩ := hk.opens
  obtain ⟨A2, m2, c2z, rfl, Hl2, hm2, hc2⟩ := ha.opens
  have Hc2 := Lib.hid hc2
  have Hkn := Lib.hid hkn
  have Hlen := Lib.hid hlen
  have Hin := Lib.hid hin
  obtain rfl : m2 = m := by rw [← Hl.out, ← Hl2.out, hlen]
  obtain ⟨sz, hsz⟩ : ∃ sz, sz = sizeOf ks := ⟨_, rfl⟩
  rw [← hsz] at hs20 hs1 HS ⊢
  have Hsz := Lib.hid hsz
  obtain ⟨i0, hi, hz0, hz1, hz2⟩ := info_parts infoByte
  obtain ⟨N, hN⟩ : ∃ N, N = w.heap.size := ⟨_, rfl⟩
  obtain ⟨Wm, hWm⟩ : ∃ Wm, Wm = (w.alloc (.cells #[.string nm, .int .i64 q, .slice A m2 c] 39)).alloc (.cells #[.slice A2 m2 c2z] 32) := ⟨_, rfl⟩
  have p1 : Wm.cell? ⟨N, 1, none⟩ = some (.int .i64 q) := by rw [hWm, hN]; exact cell_alloc_l _ (by simp)
  have p2 : Wm.cell? ⟨N, 2, none⟩ = some (.slice A m2 c) := by rw [hWm, hN]; exact cell_alloc_l _ (by simp)
  have p3 : Wm.cell? ⟨N + 1, 0, none⟩ = some (.slice A2 m2 c2z) := by rw [hWm, hN]; exact new_cell0 _ _ _ (World.size_alloc _ _)
  have p4 : Below N w Wm := by rw [hWm, hN]; exact ((Below.refl _ _).alloc (Nat.le_refl _) _).alloc (by simp) _
  have p5 : Wm.heap.size = N + 1 + 1 := by rw [hWm, hN]; simp
  have P1 := Lib.hid p1
  have P2 := Lib.hid p2
  have P3 := Lib.hid p3
  have P4 := Lib.hid p4
  have P5 := Lib.hid p5
  have HN := Lib.hid hN
  have C0 := HS.out Wm (by rw [← hN]; exact p4)
  rw [hWm] at C0
  have HC0 := Lib.hid C0
  have HWm := Lib.hid hWm
  clear hk ha hkn hlen hin hsz hc2 p1 p2 p3 p4 p5 hN hWm C0 HS hn hok
  refine (callsIn_wide (n := 3)).1 ?_
  refine callsIn_of_wp_marks Tryz.func36 rfl trivial ?_ rfl
  simp only [Tryz.ntmps36, List.size_toArray, List.length_cons, List.length_nil, Nat.reduceAdd, Nat.reduceSub, Array.replicate_succ, Array.replicate_zero, List.push_toArray, List.append_toArray, List.nil_append, List.cons_append]
  refine wpIn_wide.2 ?_
  go_wp2_with (first | (go_at_call 50; refine HC0.out.mono ?_; rintro e W1 ⟨rfl, hb1⟩; rw [← HWm.out] at hb1; obtain ⟨w2, hmk, hown, hgr⟩ := run_make_full (P := Tryz.prog) W1 w.heap.size 23 5 i0 _ 1 Tryz.underlying23 hi hz0 hz1 .i64 .i64 sz (by rw [hz2]; omega) (by unfold maxLen; omega) (by have := hb1.size; have := P5.out; have := HN.out; omega); obtain ⟨⟨k1, k2, k3, k4, k5⟩, z1, z2, b2, hr2⟩ := enc_made P1.out P2.out P3.out P4.out P5.out hb1 hgr hs1 hown; rw [HN.out] at k1 k2; have z0 : w.heap.size < w2.heap.size := block_lt_of_cell k1; have K3 := Lib.hid k3; have B2 := Lib.hid b2; have R2 := Lib.hid hr2; clear hown hgr k3 b2 hr2) | (go_at_call 49; refine (fields_any _ _ _ _).mono ?_; rintro e w' ⟨rfl, rfl⟩))
  obtain ⟨X, hX⟩ : ∃ X, X = w2.heap.size := ⟨_, rfl⟩
  obtain ⟨R, hR⟩ : ∃ R, R = W1.heap.size := ⟨_, rfl⟩
  obtain ⟨W0, hW0⟩ : ∃ W0, W0 = (((w2.setCell ⟨W1.heap.size, 0, none⟩ (.int .u8 (q % 256))).alloc (.cells #[.slice (some ⟨W1.heap.size, 0, none⟩) sz sz] 23)).alloc (.cells #[.slice A m2 c] 32)) := ⟨_, rfl⟩
  have hst0 := R2.out.stored 0 (.int .u8 (q % 256))
  have q0 : W0.cell? ⟨X, 0, none⟩ = some (.slice (some ⟨R, 0, none⟩) sz sz) := by rw [hW0, hX, hR]; exact cell_alloc_l _ (new_cell0 _ _ _ (by simp))
  have q1 : W0.cell? ⟨X + 1, 0, none⟩ = some (.slice A m2 c) := by rw [hW0, hX]; exact new_cell0 _ _ _ (by simp)
  have q2 : W0.cell? ⟨N + 1, 0, none⟩ = some (.slice A2 m2 c2z) := by rw [hW0]; exact cell_alloc_l _ (cell_alloc_l _ (hst0.2.cell K3.out (by simp; omega)))
  have q3 : W0.ownsRow N 5 1 (.slice (some ⟨R, 0, none⟩) sz sz) sz (bv (laidB q ks xs 0)) := by
    rw [hW0, hR, laidB_zero, ← Hsz.out, ← zero_set hs1, ← bv_set]
    have h := hst0.1
    rw [show Value.int .u8 (q % 256) = .int .u8 ((UInt8.ofNat (q % 256).toNat).toNat : Int) by congr 1; rw [ofNat_toNat _ (by omega)]; omega] at h ⊢
    rw [HN.out]
    exact (h.alloc _).alloc _
  have q4 : Below N w W0 := by rw [hW0]; exact ((B2.out.grown hst0.2 (by omega) (fun r e => by injection e with e; omega)).alloc (by simp; omega) _).alloc (by simp; omega) _
  have q5 : W0.heap.size = X + 1 + 1 := by rw [hW0, hX]; simp
  have hBN : B ≤ N := by rw [HN.out]; exact hB
  have hRX : R < X := by rw [hX, hR]; exact z2
  have hNR : N + 1 < R := by rw [hR]; exact z1
  have hst := fields_stops 2 (Nat.le_refl _) B (X + 1) _ ks h4 Hkn.out W0 (by omega) q1 (Hk.out.below (q4.mono hBN))
  have Q5 := Lib.hid q5
  rw [← hW0, ← hX, ← hR, ← HN.out]
  clear hW0 q1 q5 hX hR K3 B2 R2 hst0 k1 k2 k4 k5 z0 z1 z2 hb1 hmk P1 P2 P3 P4 P5 HWm HC0
  refine (wpIn_wide (n := 3)).1 ?_
  refine wpIn_rangeFunc_ownH (n := 3) rfl (by omega) (gf := 70) (lb := #[.pointer (some ⟨X + 1, 0, none⟩)]) rfl trivial (enters_of Tryz.func70 (by kernel_rfl) rfl)
    hst KB.trans (kb_b (by have := Q5.out; omega) (by have := Q5.out; omega)) (Below.refl _ _) (fun _ => rfl)
    (fun pre W => W.ownsRow N 5 1 (.slice (some ⟨R, 0, none⟩) sz sz) sz (bv (encAfter q ks xs pre)) ∧ W.cell? ⟨X, 0, none⟩ = some (.slice (some ⟨R, 0, none⟩) sz sz) ∧ W.cell? ⟨N + 1, 0, none⟩ = some (.slice A2 m2 c2z) ∧ Below N w W ∧ X + 1 < W.heap.size)
    (fun _ _ _ => False)
    ?own1 (fun _ _ _ _ _ hs _ _ => hs) ⟨q3, q0, q2, q4, by have := Q5.out; omega⟩
    (fun x a' W => ∃ Y, a' = { tmps := #[.agg #[.string nm, .int .i64 q, .slice A m2 c], .slice A2 m2 c2z, .pointer (some ⟨N, 0, none⟩), .pointer (some ⟨N + 1, 0, none⟩), .slice none 0 0, .pointer (some ⟨X, 0, none⟩), .int .i64 (x.val : Int), .pointer (some ⟨Y, 0, none⟩), .agg #[.string nm, .int .i64 q, .slice A m2 c], .int .i64 (sz : Int), .slice (some ⟨R, 0, none⟩) sz sz, .slice (some ⟨R, 0, none⟩) sz sz, .pointer (some ⟨N, 1, none⟩), .int .i64 q, .int .u8 (q % 256), .pointer (some ⟨R, 0, none⟩), .pointer (some ⟨N, 2, none⟩), .slice A m2 c, .func (.func 70) #[] #[.pointer (some ⟨X + 1, 0, none⟩)], .int .i64 (x.val : Int), fldV ks x.val, undef, undef, undef, undef, undef, undef, undef, undef], defers := [] } ∧
      (∀ j, j < 5 → W.cell? ⟨Y, j, none⟩ = (fldCells ks x.val)[j]?))
    ?own3 ?assign ?body ?done ?stop
  case own1 =>
    rintro pre W W' row ⟨h1, h2, h3, h5, h6⟩ hg hr
    have hr' := fun r e => (hr r e).2
    exact ⟨h1.kept hg (ownsRow_far hr' h1), cell_kept h2 hg hr', cell_kept h3 hg hr', h5.grown hg (by rw [HN.out]; exact h5.size) (fun r e => by have := (hr r e).1; have := Q5.out; omega), Nat.lt_of_lt_of_le h6 hg.size⟩
  case own3 =>
    rintro x a' _ W W' row ⟨Y, h1, h2⟩ hg hr
    have hr' := fun r e => (hr r e).2
    refine ⟨Y, h1, fun j hj => ?_⟩
    obtain ⟨u, hu⟩ : ∃ u, (fldCells ks x.val)[j]? = some u := fldCells_some _ _ hj
    have := h2 j hj
    rw [hu] at this ⊢
    exact cell_kept this hg hr'
  case assign =>
    rintro l' pre x W K ⟨h1, h2, h3, h5, h6⟩ hK
    have hz : N ≤ W.heap.size := by omega
    obtain ⟨f0, f1, f2, f3, f4, hf0, hfc⟩ := fld_parts ks x.val
    have HF := Lib.hid hf0
    have HC := Lib.hid hfc
    dsimp only [encF]
    rw [hf0]
    clear hf0 hfc
    gi_wp2
    have hbv : Below W.heap.size W (W.alloc (.cells #[.int .i64 f0, .int .i64 f1, .int .i64 f2, .int .i64 f3, .int .i64 f4] 103)) := (Below.refl _ _).alloc (Nat.le_refl _) _
    refine hK _ _ (KeepsFrom.of_grownBy (World.grownBy_alloc W _ none) (fun j e => by cases e)) (KB.below hbv (by omega) h6) ⟨h1.alloc _, cell_alloc_l _ h2, cell_alloc_l _ h3, h5.trans (hbv.mono hz), Nat.lt_of_lt_of_le h6 hbv.size⟩ ⟨W.heap.size, by rw [HF.out], fun j hj => ?_⟩
    rw [HC.out]
    match j, hj with
    | 0, _ => simp
    | 1, _ => simp
    | 2, _ => simp
    | 3, _ => simp
    | 4, _ => simp
    | j + 5, hj => omega
  case body =>
    rintro l' pre x a' W _ _ ⟨h1, h2, h3, h5, h6⟩ ⟨Y, rfl, h7⟩ hlen
    have hz : N ≤ W.heap.size := by omega
    have hxm : x.val < m2 := by rw [← Hl.out]; exact x.isLt
    obtain ⟨f0, f1, f2, f3, f4, hf0, hfc⟩ := fld_parts ks x.val
    rw [hfc] at h7
    have c0 : W.cell? ⟨Y, 0, none⟩ = some (.int .i64 f0) := h7 0 (by omega)
    have c1 : W.cell? ⟨Y, 1, none⟩ = some (.int .i64 f1) := h7 1 (by omega)
    have c2 : W.cell? ⟨Y, 2, none⟩ = some (.int .i64 f2) := h7 2 (by omega)
    have c3 : W.cell? ⟨Y, 3, none⟩ = some (.int .i64 f3) := h7 3 (by omega)
    have c4 : W.cell? ⟨Y, 4, none⟩ = some (.int .i64 f4) := h7 4 (by omega)
    have C := put_any N R x.val ks (xs[x.val]?.getD 0) _ W.drew sz x.isLt h4 Hkn.out (Hin.out _ x.isLt) Hsz.out.symm ((encAfter_length Hlen.out pre).trans Hsz.out.symm) h1.drew
    rw [hf0, ← encAfter_snoc] at C
    have HC := Lib.hid C
    have HF := Lib.hid hf0
    have H1 := Lib.hid h1
    clear h7 hf0 hfc C h1
    obtain ⟨b1, o1, rfl, hb1, g1⟩ := Hc2.out (by omega)
    have d0 : W.cell? ⟨b1, o1 + x.val, none⟩ = some (.int .i64 (xs[x.val]?.getD 0)) := (h5.cell (p := ⟨b1, o1 + x.val, none⟩) (by show b1 < N; omega)).trans (g1 _ hxm)
    obtain ⟨xn, hxn⟩ : ∃ xn, xn = x.val := ⟨_, rfl⟩
    obtain ⟨y, hy⟩ : ∃ y, y = xs[x.val]?.getD 0 := ⟨_, rfl⟩
    rw [← hy] at HC d0
    rw [← hxn] at HF hxm d0 ⊢
    rw [HF.out]
    clear hxn hy g1
    have hY : Y < W.heap.size := block_lt_of_cell c0
    have hbL : b1 < W.heap.size := by omega
    gi_wp2
    refine region_inRound_tail 6 (by kernel_rfl) (by kernel_rfl) (by kernel_rfl) (fun ⟨_, _, h⟩ => h) ?_
    simp only [List.take_succ_cons, List.take_zero, List.drop_succ_cons, List.drop_zero]
    repeat still_step
    refine wpStill_nil ?_
    change wpList _ _ _ _ _ W.drew
    go_wp2_with (go_at_call 51; refine HC.out.mono ?_; rintro e W2 ⟨rfl, hr2, hg2⟩)
    have hgR : W.grownBy W2 (some R) := (grown_none_drew W (some R)).trans hg2
    have hXW : X < W.heap.size := by omega
    exact ⟨KeepsFrom.of_grownBy hgR (fun j e => by injection e with e; have := Q5.out; omega), ⟨fun j hj => (hgR.block j (by omega) (by simp; omega)), hgR.block _ (by omega) (by simp; omega), hgR.size⟩, hr2, hgR.cell h2 (by simp; omega), hgR.cell h3 (by simp; omega), h5.grown hgR hz (fun j e => by injection e with e; omega), Nat.lt_of_lt_of_le h6 hgR.size⟩
  case done =>
    rintro D ys W hD rfl ⟨h1, h2, h3, h5, h6⟩ hK
    rw [encAfter_all Hlen.out Hin.out] at h1
    have HM := Lib.hid (show Marks (X + 1) W W.heap.size [{ target := .collected D, args := #[] }] from ⟨D, rfl, by have := Q5.out; omega, (Array.getElem?_eq_some_iff.1 hK).1, hK, trivial⟩)
    have H1 := Lib.hid h1
    clear h1 hK
    have hXW : X < W.heap.size := block_lt_of_cell h2
    gi_wp2
    go_wp2
    refine leaves_marks (B := X + 1) (fun W' => Below N w W' ∧ W'.ownsRow N 5 1 (.slice (some ⟨R, 0, none⟩) sz sz) sz (bv (encL q (ks.zip xs)))) ?_ ?_ _ W.heap.size _ HM.out ⟨h5, H1.out⟩
    · rintro W' D' hD' hK' ⟨t1, t2⟩
      exact ⟨t1.grown (grownBy_putObj' W' D' _) (by rw [HN.out]; exact t1.size) (fun r e => by cases e; omega), t2.kept (grownBy_putObj' W' D' _) (.inr (by simp [Value.ownBlock]; omega))⟩
    · rintro W' ⟨t1, t2⟩
      exact ⟨.slice (some ⟨R, 0, none⟩) sz sz, by simp [results, Tryz.results36, go_sem], R, rfl, by rw [← HN.out]; exact t2, by rw [← HN.out]; exact t1⟩
  case stop =>
    rintro D cd pre W hD hpre h hK
    exact h.elim
end Go.Proofs.YtcngpciblbdgbaaGreatDoor
