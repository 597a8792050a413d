/- Contracts of arguments and encoding. Conditions: the form is valid by itself; the bytes are as many as its size says; the arguments are as many as its operands and in their ranges. -/
import Derived.Test.YtcngpciblbdgbaaGreatDoorEncF
namespace Go.Proofs.YtcngpciblbdgbaaGreatDoor
open Go Go.RowKit Go.Shelf
attribute [local go_sem] Oper.semAt_some

theorem infoInt : (Tryz.prog.info? 3).map (fun i => (i.zero, i.size, i.bytes)) = some (some (.int .i64 0), 1, 8) := by kernel_rfl
theorem infoByte : (Tryz.prog.info? 5).map (fun i => (i.zero, i.size, i.bytes)) = some (some (.int .u8 0), 1, 1) := by kernel_rfl
/-- numbers as values -/
def iv (zs : List Int) : List Value := zs.map (Value.int .i64)
theorem iv_set (l : List Int) (p : Nat) (z : Int) : (iv l).set p (.int .i64 z) = iv (l.set p z) := by unfold iv; rw [List.map_set]
theorem iv_length (l : List Int) : (iv l).length = l.length := by simp [iv]
theorem iv_cell {w : World} {B R n c : Nat} {e : TypeId} {l : List Int} (h : w.ownsRow B e 1 (.slice (some ⟨R, 0, none⟩) n c) n (iv l)) (j : Nat) (hj : j < l.length) : w.cell? ⟨R, j, none⟩ = some (.int .i64 (l[j]?.getD 0)) := by
  have hl := h.1
  rw [iv_length] at hl
  rw [h.cellAt j (by omega)]
  simp [iv, hj]
/-- a row of the call's own reads as its numbers -/
theorem kinds_of_row {w : World} {B R n c : Nat} {l : List Int} (h : w.ownsRow B 3 1 (.slice (some ⟨R, 0, none⟩) n c) n (iv l)) (hn : n ≤ 17592186044416) : KindsAt w.heap.size w (.slice (some ⟨R, 0, none⟩) n c) l := by
  have hl : l.length = n := by have := h.1; rw [iv_length] at this; omega
  refine ⟨_, c, by rw [hl], by omega, fun _ => ⟨R, 0, rfl, (h.lt R rfl).2, fun j hj => ?_⟩⟩
  rw [Nat.zero_add]
  exact iv_cell h j hj
/-- a list set at each of its places, one behind the other -/
theorem fold_set {α : Type} (g : Nat → α) : ∀ (n k : Nat) (l : List α), l.length = n → k ≤ n → (firstN n k).foldl (fun l i => l.set i.val (g i.val)) l = (List.range k).map g ++ l.drop k
  | n, 0, l, _, _ => by simp [firstN]
  | n, k + 1, l, hl, hk => by
    rw [firstN_succ hk, List.foldl_append, fold_set g n k l hl (by omega)]
    obtain ⟨y, ys, hy⟩ : ∃ y ys, l.drop k = y :: ys := by
      cases h : l.drop k with
      | nil => have := List.drop_eq_nil_iff.1 h; omega
      | cons y ys => exact ⟨y, ys, rfl⟩
    have hd : l.drop (k + 1) = ys := by rw [← List.drop_drop, hy]; rfl
    have e : ((List.range k).map g ++ y :: ys).set k (g k) = (List.range k).map g ++ (y :: ys).set (k - ((List.range k).map g).length) (g k) := List.set_append_right _ _ (by simp)
    simp only [List.foldl_cons, List.foldl_nil]
    rw [hy, e, hd, List.range_succ]
    simp
def argsAfter (ks : List Int) (l : List UInt8) (pre : List (Fin ks.length)) : List Int := pre.foldl (fun a i => a.set i.val (getA ks l i.val)) (List.replicate ks.length 0)
theorem argsAfter_all (ks : List Int) (l : List UInt8) : argsAfter ks l (List.finRange ks.length) = getL ks l := by
  unfold argsAfter
  rw [← firstN_all, fold_set (getA ks l) _ _ _ (by simp) (Nat.le_refl _)]
  simp [getL]
theorem argsAfter_length (ks : List Int) (l : List UInt8) (pre : List (Fin ks.length)) : (argsAfter ks l pre).length = ks.length := by
  unfold argsAfter
  have : ∀ (pre : List (Fin ks.length)) (a : List Int), (pre.foldl (fun a i => a.set i.val (getA ks l i.val)) a).length = a.length := by
    intro pre
    induction pre with
    | nil => intro a; rfl
    | cons i pre ih => intro a; rw [List.foldl_cons, ih]; simp
  rw [this]; simp
theorem argsAfter_snoc (ks : List Int) (l : List UInt8) (pre : List (Fin ks.length)) (x : Fin ks.length) : argsAfter ks l (pre ++ [x]) = (argsAfter ks l pre).set x.val (getA ks l x.val) := by
  simp [argsAfter]
def encAfter (code : Int) (ks xs : List Int) (pre : List (Fin ks.length)) : List UInt8 := pre.foldl (fun l i => putOp ks i.val (xs[i.val]?.getD 0) l) (laidB code ks xs 0)
theorem encAfter_length {code : Int} {ks xs : List Int} (h : xs.length = ks.length) (pre : List (Fin ks.length)) : (encAfter code ks xs pre).length = sizeOf ks := by
  unfold encAfter
  have : ∀ (pre : List (Fin ks.length)) (a : List UInt8), (pre.foldl (fun l i => putOp ks i.val (xs[i.val]?.getD 0) l) a).length = a.length := by
    intro pre
    induction pre with
    | nil => intro a; rfl
    | cons i pre ih => intro a; rw [List.foldl_cons, ih]; exact putOp_length _ _ _ _
  rw [this, laidB_length h]
theorem encAfter_snoc (code : Int) (ks xs : List Int) (pre : List (Fin ks.length)) (x : Fin ks.length) : encAfter code ks xs (pre ++ [x]) = putOp ks x.val (xs[x.val]?.getD 0) (encAfter code ks xs pre) := by
  simp [encAfter]
theorem encAfter_first {code : Int} {ks xs : List Int} (h : xs.length = ks.length) (hi : insideAll ks xs) : ∀ k, k ≤ ks.length → encAfter code ks xs (firstN ks.length k) = laidB code ks xs k
  | 0, _ => by simp [encAfter, firstN]
  | k + 1, hk => by
    rw [firstN_succ hk, encAfter_snoc, encAfter_first h hi k (by omega)]
    exact laidB_succ h hi hk
theorem encAfter_all {code : Int} {ks xs : List Int} (h : xs.length = ks.length) (hi : insideAll ks xs) : encAfter code ks xs (List.finRange ks.length) = encL code (ks.zip xs) := by
  rw [← firstN_all, encAfter_first h hi _ (Nat.le_refl _), laidB_full h]
theorem made_ints (n : Nat) : (madeCells (Value.int .i64 0).cells (n * 1)).toList = iv (List.replicate n 0) := by
  unfold madeCells iv
  rw [Nat.mul_one, Array.toList_map, List.map_replicate]
  apply List.ext_getElem
  · simp
  · intro j h1 h2
    simp [Value.cells, Nat.mod_one]
theorem made_bytes (n : Nat) : (madeCells (Value.int .u8 0).cells (n * 1)).toList = bv (List.replicate n 0) := by
  unfold madeCells bv
  rw [Nat.mul_one, Array.toList_map, List.map_replicate]
  apply List.ext_getElem
  · simp
  · intro j h1 h2
    simp [Value.cells, Nat.mod_one]

/-- the cells of a field -/
def fldCells (ks : List Int) (n : Nat) : List Value := [.int .i64 (fldAt ks n : Nat), .int .i64 (fldSh ks n : Nat), .int .i64 (bitsOf (ks[n]?.getD 0) : Nat), .int .i64 (lowOf (ks[n]?.getD 0)), .int .i64 (highOf (ks[n]?.getD 0))]
theorem fldCells_some (ks : List Int) (n : Nat) {j : Nat} (hj : j < 5) : ∃ u, (fldCells ks n)[j]? = some u := ⟨_, List.getElem?_eq_getElem (by simpa [fldCells] using hj)⟩
theorem fld_parts (ks : List Int) (n : Nat) : ∃ f0 f1 f2 f3 f4 : Int, fldV ks n = .agg #[.int .i64 f0, .int .i64 f1, .int .i64 f2, .int .i64 f3, .int .i64 f4] ∧ fldCells ks n = [.int .i64 f0, .int .i64 f1, .int .i64 f2, .int .i64 f3, .int .i64 f4] := ⟨_, _, _, _, _, rfl, rfl⟩
theorem ownsRow_far {w : World} {base R n c size : Nat} {e : TypeId} {xs : List Value} {row : Option Nat} (hr : ∀ r, row = some r → ∃ o : Obj, w.heap[r]? = some o ∧ o.isCells = false) (h : w.ownsRow base e size (.slice (some ⟨R, 0, none⟩) n c) n xs) :
    (Value.slice (some ⟨R, 0, none⟩) n c).ownBlock = none ∨ (Value.slice (some ⟨R, 0, none⟩) n c).ownBlock ≠ row := by
  refine .inr (fun e' => ?_)
  obtain ⟨o, ho, hc⟩ := hr R e'.symm
  rcases h.2 with ⟨h', _⟩ | ⟨g, cap, cur, h', _, hg, _⟩
  · simp at h'
  · simp only [Value.slice.injEq, Option.some.injEq, Addr.mk.injEq, and_true, true_and] at h'
    obtain ⟨rfl, rfl⟩ := h'
    rw [hg] at ho
    injection ho with ho
    subst ho
    cases hc

set_option maxRecDepth 100000 in
set_option maxHeartbeats 2000000 in
theorem arguments_any (B : Nat) (f : Frm) (v : Value) (l : List UInt8) (w : World) (hk : KindsAt B w f.kv f.kinds) (hl : BytesAt B w v l) (hB : B ≤ w.heap.size) (h4 : f.kinds.length ≤ 4) (hkn : Known f.kinds) (hsz : sizeOf f.kinds ≤ l.length) :
    Calls Tryz.prog 88 #[f.val, v] w fun e w' => ∃ R, e = .returned (.slice (some ⟨R, 0, none⟩) f.kinds.length f.kinds.length) ∧ w'.ownsRow w.heap.size 3 1 (.slice (some ⟨R, 0, none⟩) f.kinds.length f.kinds.length) f.kinds.length (iv (getL f.kinds l)) ∧ Below w.heap.size w w' := by
  obtain ⟨nm, q, kv, ks⟩ := f
  dsimp only [Frm.val] at *
  have Hk := Lib.hid hk
  have Hb := Lib.hid hl
  obtain ⟨A, m, c, rfl, Hl, hm, _⟩ := hk.opens
  obtain ⟨A2, m2, c2z, rfl, Hl2, ⟨hm2, hmc2⟩, _⟩ := hl.opens
  have Hkn := Lib.hid hkn
  have Hsz := Lib.hid hsz
  have hm4 : m ≤ 4 := by rw [← Hl.out]; exact h4
  obtain ⟨i0, hi, hz0, hz1, hz2⟩ := info_parts infoInt
  obtain ⟨w1, hmk, hown, hgr⟩ := run_make_full (P := Tryz.prog) ((w.alloc (.cells #[.string nm, .int .i64 q, .slice A m c] 39)).alloc (.cells #[.slice A2 m2 c2z] 23)) w.heap.size 32 3 i0 _ 1 Tryz.underlying32 hi hz0 hz1 .i64 .i64 m (by rw [hz2]; omega) (by unfold maxLen; omega) (by simp; omega)
  rw [made_ints] at hown
  rw [World.size_alloc, World.size_alloc] at hmk hown
  obtain ⟨N, hN⟩ : ∃ N, N = w.heap.size := ⟨_, rfl⟩
  obtain ⟨Wm, hWm⟩ : ∃ Wm, Wm = (w.alloc (.cells #[.string nm, .int .i64 q, .slice A m c] 39)).alloc (.cells #[.slice A2 m2 c2z] 23) := ⟨_, rfl⟩
  rw [← hWm] at hgr
  have p1 : w1.cell? ⟨w.heap.size, 2, none⟩ = some (.slice A m c) := hgr.cell (by rw [hWm]; exact cell_alloc_l _ (by simp)) (by simp)
  have p2 : w1.cell? ⟨N + 1, 0, none⟩ = some (.slice A2 m2 c2z) := hgr.cell (by rw [hWm, hN]; exact new_cell0 _ _ _ (World.size_alloc _ _)) (by simp)
  have p3 : w.heap.size < w1.heap.size := block_lt_of_cell p1
  have p4 : N + 1 < w1.heap.size := block_lt_of_cell p2
  have p5 : Below N w w1 := by
    rw [hN]
    refine Below.grown ?_ hgr (by rw [hWm]; simp; omega) (fun r e => by cases e)
    rw [hWm]
    exact ((Below.refl _ _).alloc (Nat.le_refl _) _).alloc (by simp) _
  have Hown := Lib.hid hown
  have P2 := Lib.hid p2
  have P5 := Lib.hid p5
  have HN := Lib.hid hN
  clear hk hl hkn hsz hown hgr p2 p5 hN hWm
  refine (callsIn_wide (n := 3)).1 ?_
  refine callsIn_of_wp_marks Tryz.func88 rfl trivial ?_ rfl
  simp only [Tryz.ntmps88, List.size_toArray, List.length_cons, List.length_nil, Nat.reduceAdd, Nat.reduceSub, Array.replicate_succ, Array.replicate_zero, List.push_toArray, List.append_toArray, List.nil_append, List.cons_append]
  refine wpIn_wide.2 ?_
  go_wp2_with (go_at_call 49; refine (fields_any _ _ _ _).mono ?_; rintro e w' ⟨rfl, rfl⟩)
  obtain ⟨X, hX⟩ : ∃ X, X = w1.heap.size := ⟨_, rfl⟩
  obtain ⟨R, hR⟩ : ∃ R, R = w.heap.size + 1 + 1 := ⟨_, rfl⟩
  obtain ⟨W0, hW0⟩ : ∃ W0, W0 = (w1.alloc (.cells #[.slice (some ⟨w.heap.size + 1 + 1, 0, none⟩) m m] 32)).alloc (.cells #[.slice A m c] 32) := ⟨_, rfl⟩
  have q0 : W0.cell? ⟨X, 0, none⟩ = some (.slice (some ⟨R, 0, none⟩) m m) := by rw [hW0, hX, hR]; exact cell_alloc_l _ (new_cell0 _ _ _ rfl)
  have q1 : W0.cell? ⟨X + 1, 0, none⟩ = some (.slice A m c) := by rw [hW0, hX]; exact new_cell0 _ _ _ (World.size_alloc _ _)
  have q2 : W0.cell? ⟨N + 1, 0, none⟩ = some (.slice A2 m2 c2z) := by rw [hW0]; exact cell_alloc_l _ (cell_alloc_l _ P2.out)
  have q3 : W0.ownsRow N 3 1 (.slice (some ⟨R, 0, none⟩) m m) m (iv (List.replicate m 0)) := by rw [hW0, hR, HN.out]; exact (Hown.out.alloc _).alloc _
  have q4 : Below N w W0 := by rw [hW0]; exact (P5.out.alloc (by omega) _).alloc (by simp; omega) _
  have q5 : W0.heap.size = X + 1 + 1 := by rw [hW0, hX]; simp
  have hBN : B ≤ N := by rw [HN.out]; exact hB
  have hRX : R < X := by rw [hX, hR]; exact (Hown.out.lt _ rfl).2
  have hNX : N + 1 < X := by rw [hX]; exact p4
  have hRN : N + 1 < R := by rw [hR, HN.out]; omega
  have hst := fields_stops 2 (Nat.le_refl _) B (X + 1) _ ks h4 Hkn.out W0 (by omega) q1 (Hk.out.below (q4.mono hBN))
  have Q5 := Lib.hid q5
  rw [← hW0, ← hX, ← hR, ← HN.out]
  clear hW0 q1 q5 hX hR P2 P5 Hown p1 p3 p4 hmk
  refine (wpIn_wide (n := 3)).1 ?_
  refine wpIn_rangeFunc_ownH (n := 3) rfl (by omega) (gf := 70) (lb := #[.pointer (some ⟨X + 1, 0, none⟩)]) rfl trivial (enters_of Tryz.func70 (by kernel_rfl) rfl)
    hst KB.trans (kb_b (by have := Q5.out; omega) (by have := Q5.out; omega)) (Below.refl _ _) (fun _ => rfl)
    (fun pre W => W.ownsRow N 3 1 (.slice (some ⟨R, 0, none⟩) m m) m (iv (argsAfter ks l pre)) ∧ W.cell? ⟨X, 0, none⟩ = some (.slice (some ⟨R, 0, none⟩) m m) ∧ W.cell? ⟨N + 1, 0, none⟩ = some (.slice A2 m2 c2z) ∧ Below N w W ∧ X + 1 < W.heap.size)
    (fun _ _ _ => False)
    ?own1 (fun _ _ _ _ _ hs _ _ => hs) ⟨by show W0.ownsRow N _ 1 _ m (iv (List.replicate ks.length 0)); rw [Hl.out]; exact q3, q0, q2, q4, by have := Q5.out; omega⟩
    (fun x a' W => ∃ Y, a' = { tmps := #[.agg #[.string nm, .int .i64 q, .slice A m c], .slice A2 m2 c2z, .pointer (some ⟨N, 0, none⟩), .pointer (some ⟨N + 1, 0, none⟩), .slice none 0 0, .pointer (some ⟨X, 0, none⟩), .int .i64 (x.val : Int), .pointer (some ⟨Y, 0, none⟩), .pointer (some ⟨N, 2, none⟩), .slice A m c, .int .i64 (m : Int), .slice (some ⟨R, 0, none⟩) m m, .pointer (some ⟨N, 2, none⟩), .slice A m c, .func (.func 70) #[] #[.pointer (some ⟨X + 1, 0, none⟩)], .int .i64 (x.val : Int), fldV ks x.val, undef, undef, undef, undef, undef, undef, undef], defers := [] } ∧
      (∀ j, j < 5 → W.cell? ⟨Y, j, none⟩ = (fldCells ks x.val)[j]?) ∧ X + 1 < Y)
    ?own3 ?assign ?body ?done ?stop
  case own1 =>
    rintro pre W W' row ⟨h1, h2, h3, h5, h6⟩ hg hr
    have hr' := fun r e => (hr r e).2
    exact ⟨h1.kept hg (ownsRow_far hr' h1), cell_kept h2 hg hr', cell_kept h3 hg hr', h5.grown hg (by rw [HN.out]; exact h5.size) (fun r e => by have := (hr r e).1; have := Q5.out; omega), Nat.lt_of_lt_of_le h6 hg.size⟩
  case own3 =>
    rintro x a' _ W W' row ⟨Y, h1, h2, h3⟩ hg hr
    have hr' := fun r e => (hr r e).2
    refine ⟨Y, h1, fun j hj => ?_, h3⟩
    obtain ⟨u, hu⟩ : ∃ u, (fldCells ks x.val)[j]? = some u := fldCells_some _ _ hj
    have := h2 j hj
    rw [hu] at this ⊢
    exact cell_kept this hg hr'
  case assign =>
    rintro l' pre x W K ⟨h1, h2, h3, h5, h6⟩ hK
    have hz : N ≤ W.heap.size := by omega
    obtain ⟨f0, f1, f2, f3, f4, hf0, hfc⟩ := fld_parts ks x.val
    have HF := Lib.hid hf0
    have HC := Lib.hid hfc
    dsimp only [encF]
    rw [hf0]
    clear hf0 hfc
    gi_wp2
    have hbv : Below W.heap.size W (W.alloc (.cells #[.int .i64 f0, .int .i64 f1, .int .i64 f2, .int .i64 f3, .int .i64 f4] 103)) := (Below.refl _ _).alloc (Nat.le_refl _) _
    refine hK _ _ (KeepsFrom.of_grownBy (World.grownBy_alloc W _ none) (fun j e => by cases e)) (KB.below hbv (by omega) h6) ⟨h1.alloc _, cell_alloc_l _ h2, cell_alloc_l _ h3, h5.trans (hbv.mono hz), Nat.lt_of_lt_of_le h6 hbv.size⟩ ⟨W.heap.size, by rw [HF.out], fun j hj => ?_, h6⟩
    rw [HC.out]
    match j, hj with
    | 0, _ => simp
    | 1, _ => simp
    | 2, _ => simp
    | 3, _ => simp
    | 4, _ => simp
    | j + 5, hj => omega
  case body =>
    rintro l' pre x a' W _ _ ⟨h1, h2, h3, h5, h6⟩ ⟨Y, rfl, h7, hYX⟩ hlen
    have hz : N ≤ W.heap.size := by omega
    have hxm : x.val < m := by rw [← Hl.out]; exact x.isLt
    obtain ⟨f0, f1, f2, f3, f4, hf0, hfc⟩ := fld_parts ks x.val
    rw [hfc] at h7
    have c0 : W.cell? ⟨Y, 0, none⟩ = some (.int .i64 f0) := h7 0 (by omega)
    have c1 : W.cell? ⟨Y, 1, none⟩ = some (.int .i64 f1) := h7 1 (by omega)
    have c2 : W.cell? ⟨Y, 2, none⟩ = some (.int .i64 f2) := h7 2 (by omega)
    have c3 : W.cell? ⟨Y, 3, none⟩ = some (.int .i64 f3) := h7 3 (by omega)
    have c4 : W.cell? ⟨Y, 4, none⟩ = some (.int .i64 f4) := h7 4 (by omega)
    have C : ∀ W', Below W.heap.size W W' → Calls Tryz.prog 106 #[.agg #[.int .i64 f0, .int .i64 f1, .int .i64 f2, .int .i64 f3, .int .i64 f4], .slice A2 m2 c2z] W' fun e w' => e = .returned (.int .i64 (getA ks l x.val)) ∧ Below W'.heap.size W' w' := fun W' hW' => by
      have := get_any B x.val ks _ l W' x.isLt h4 Hkn.out (Hb.out.below ((h5.trans (hW'.mono hz)).mono hBN)) (by have := hW'.size; omega) Hsz.out
      rw [hf0] at this
      exact this
    have HC := Lib.hid C
    have HF := Lib.hid hf0
    have hsn := argsAfter_snoc ks l pre x
    have hal := argsAfter_length ks l pre
    have Hsn := Lib.hid hsn
    have Hal := Lib.hid hal
    have H1 := Lib.hid h1
    clear h7 hf0 hfc C hsn hal
    obtain ⟨xn, hxn⟩ : ∃ xn, xn = x.val := ⟨_, rfl⟩
    obtain ⟨g, hg⟩ : ∃ g, g = getA ks l x.val := ⟨_, rfl⟩
    rw [← hg] at HC Hsn
    rw [← hxn] at HF Hsn hxm ⊢
    rw [HF.out]
    have Hg := Lib.hid hg
    clear hxn hg h1
    obtain ⟨y, hy⟩ : ∃ y, y = (argsAfter ks l pre)[xn]?.getD 0 := ⟨_, rfl⟩
    have d0 : W.cell? ⟨R, xn, none⟩ = some (.int .i64 y) := by rw [hy]; exact iv_cell H1.out xn (by rw [Hal.out, Hl.out]; exact hxm)
    have d1 : W.frozen? ⟨R, xn, none⟩ = false := H1.out.frozenAt xn
    clear hy
    have hY : Y < W.heap.size := block_lt_of_cell c0
    have hRW : R < W.heap.size := block_lt_of_cell d0
    gi_wp2
    refine region_inRound_held (fun W' => W'.cell? ⟨X, 0, none⟩ = some (.slice (some ⟨R, 0, none⟩) m m) ∧ W'.cell? ⟨N + 1, 0, none⟩ = some (.slice A2 m2 c2z) ∧ W'.cell? ⟨Y, 0, none⟩ = some (.int .i64 f0) ∧ W'.cell? ⟨Y, 1, none⟩ = some (.int .i64 f1) ∧ W'.cell? ⟨Y, 2, none⟩ = some (.int .i64 f2) ∧ W'.cell? ⟨Y, 3, none⟩ = some (.int .i64 f3) ∧ W'.cell? ⟨Y, 4, none⟩ = some (.int .i64 f4)) (by kernel_rfl) (by kernel_rfl) (fun ⟨_, _, h⟩ => h) ?_
    have hS : W.drew.cell? ⟨X, 0, none⟩ = some (.slice (some ⟨R, 0, none⟩) m m) ∧ W.drew.cell? ⟨N + 1, 0, none⟩ = some (.slice A2 m2 c2z) ∧ W.drew.cell? ⟨Y, 0, none⟩ = some (.int .i64 f0) ∧ W.drew.cell? ⟨Y, 1, none⟩ = some (.int .i64 f1) ∧ W.drew.cell? ⟨Y, 2, none⟩ = some (.int .i64 f2) ∧ W.drew.cell? ⟨Y, 3, none⟩ = some (.int .i64 f3) ∧ W.drew.cell? ⟨Y, 4, none⟩ = some (.int .i64 f4) := ⟨h2, h3, c0, c1, c2, c3, c4⟩
    refine wpAnyH_take (i := 0) (v := ?_) rfl (by kernel_rfl) (by kernel_rfl) (by kernel_rfl) (fun _ _ _ h => h) (Or.inl ⟨by rfl, ?_⟩) hS ?_
    rotate_left
    · rintro W' ⟨s0, s1, s2, s3, s4, s5, s6⟩; go_simp; rfl
    simp [Act.put]
    refine wpAnyH_take (i := 1) (v := ?_) rfl (by kernel_rfl) (by kernel_rfl) (by kernel_rfl) (fun _ _ _ h => h) (Or.inl ⟨by rfl, ?_⟩) hS ?_
    rotate_left
    · rintro W' ⟨s0, s1, s2, s3, s4, s5, s6⟩; go_simp; rfl
    simp [Act.put]
    refine wpAnyH_take (i := 2) (v := ?_) rfl (by kernel_rfl) (by kernel_rfl) (by kernel_rfl) (fun _ _ _ h => h) (Or.inl ⟨by rfl, ?_⟩) hS ?_
    rotate_left
    · rintro W' ⟨s0, s1, s2, s3, s4, s5, s6⟩; go_simp; rfl
    simp [Act.put]
    refine wpAnyH_take (i := 3) (v := ?_) rfl (by kernel_rfl) (by kernel_rfl) (by kernel_rfl) (fun _ _ _ h => h) (Or.inl ⟨by rfl, ?_⟩) hS ?_
    rotate_left
    · rintro W' ⟨s0, s1, s2, s3, s4, s5, s6⟩; go_simp; rfl
    simp [Act.put]
    refine wpAnyH_ready (rs := [4]) (by kernel_rfl) (by simp) ?_
    refine AllReadyH.cons rfl (fun K hK => ?_) AllReadyH.nil
    go_simp
    refine (HC.out _ (Below.refl _ _).drew).mono ?_
    rintro e W2 ⟨rfl, hb2⟩
    have e0 : W2.cell? ⟨R, xn, none⟩ = some (.int .i64 y) := (hb2.cell (p := ⟨R, xn, none⟩) hRW).trans d0
    have e1 : W2.frozen? ⟨R, xn, none⟩ = false := (hb2.frozen (p := ⟨R, xn, none⟩) hRW).trans d1
    have hXW : X < W.heap.size := block_lt_of_cell h2
    have hNW : N + 1 < W.heap.size := block_lt_of_cell h3
    have hS2 := And.intro ((hb2.cell (p := ⟨X, 0, none⟩) hXW).trans h2) (And.intro ((hb2.cell (p := ⟨N + 1, 0, none⟩) hNW).trans h3) (And.intro ((hb2.cell (p := ⟨Y, 0, none⟩) hY).trans c0) (And.intro ((hb2.cell (p := ⟨Y, 1, none⟩) hY).trans c1) (And.intro ((hb2.cell (p := ⟨Y, 2, none⟩) hY).trans c2) (And.intro ((hb2.cell (p := ⟨Y, 3, none⟩) hY).trans c3) ((hb2.cell (p := ⟨Y, 4, none⟩) hY).trans c4))))))
    have HS2 := Lib.hid hS2
    clear hS hS2 c0 c1 c2 c3 c4
    refine hK.out _ _ HS2.out (fun _ => ?_)
    clear hK K
    try simp [Act.put]
    refine wpAnyH_ready (rs := [5]) (by kernel_rfl) (by simp) ?_
    refine AllReadyH.cons rfl (fun K hK => ?_) AllReadyH.nil
    go_simp
    refine hK.out _ _ HS2.out (fun _ => ?_)
    clear hK K
    try simp [Act.put]
    refine wpAnyH_ready (rs := [6]) (by kernel_rfl) (by simp) ?_
    refine AllReadyH.cons rfl (fun K hK => ?_) AllReadyH.nil
    go_simp
    have hst := ((H1.out.drew).kept (grown_none hb2) (.inr (by simp [Value.ownBlock]))).stored xn (.int .i64 g)
    have hbR : Below W.heap.size W W2 := (Below.refl _ _).drew.trans hb2
    have hS3 := And.intro (hst.2.cell HS2.out.1 (by simp; omega)) (And.intro (hst.2.cell HS2.out.2.1 (by simp; omega)) (And.intro (hst.2.cell HS2.out.2.2.1 (by simp; have := Q5.out; omega)) (And.intro (hst.2.cell HS2.out.2.2.2.1 (by simp; have := Q5.out; omega)) (And.intro (hst.2.cell HS2.out.2.2.2.2.1 (by simp; have := Q5.out; omega)) (And.intro (hst.2.cell HS2.out.2.2.2.2.2.1 (by simp; have := Q5.out; omega)) (hst.2.cell HS2.out.2.2.2.2.2.2 (by simp; have := Q5.out; omega)))))))
    refine hK.out _ _ hS3 (fun _ => ?_)
    clear hK K
    refine wpAnyH_done (by kernel_rfl) ?_ _
    have hgR : W.grownBy (W2.setCell ⟨R, xn, none⟩ (.int .i64 g)) (some R) := ((grown_none hbR).but (some R)).trans hst.2
    refine ⟨KeepsFrom.of_grownBy hgR (fun j e => by injection e with e; have := Q5.out; omega), ⟨fun j hj => (hgR.block j (by omega) (by simp; omega)), hgR.block _ (by omega) (by simp; omega), hgR.size⟩, ?_, hS3.1, hS3.2.1, h5.grown hgR hz (fun j e => by injection e with e; have := (H1.out.lt R rfl).1; omega), Nat.lt_of_lt_of_le h6 hgR.size⟩
    rw [Hsn.out, ← iv_set]
    exact hst.1
  case done =>
    rintro D ys W hD rfl ⟨h1, h2, h3, h5, h6⟩ hK
    rw [argsAfter_all] at h1
    have HM := Lib.hid (show Marks (X + 1) W W.heap.size [{ target := .collected D, args := #[] }] from ⟨D, rfl, by have := Q5.out; omega, (Array.getElem?_eq_some_iff.1 hK).1, hK, trivial⟩)
    have H1 := Lib.hid h1
    clear h1 hK
    have hXW : X < W.heap.size := block_lt_of_cell h2
    gi_wp2
    go_wp2
    refine leaves_marks (B := X + 1) (fun W' => Below N w W' ∧ W'.ownsRow N 3 1 (.slice (some ⟨R, 0, none⟩) m m) m (iv (getL ks l))) ?_ ?_ _ W.heap.size _ HM.out ⟨h5, H1.out⟩
    · rintro W' D' hD' hK' ⟨t1, t2⟩
      exact ⟨t1.grown (grownBy_putObj' W' D' _) (by rw [HN.out]; exact t1.size) (fun r e => by cases e; omega), t2.kept (grownBy_putObj' W' D' _) (.inr (by simp [Value.ownBlock]; omega))⟩
    · rintro W' ⟨t1, t2⟩
      refine ⟨.slice (some ⟨R, 0, none⟩) m m, by simp [results, Tryz.results88, go_sem], R, ?_, ?_, by rw [← HN.out]; exact t1⟩
      · rw [Hl.out]
      · rw [Hl.out, ← HN.out]; exact t2
  case stop =>
    rintro D cd pre W hD hpre h hK
    exact h.elim
end Go.Proofs.YtcngpciblbdgbaaGreatDoor
