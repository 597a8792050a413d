/- Contracts of outside, arguments, encoding and size. Conditions: the kinds are known ones, at most four; the slices read as named. -/
import Derived.Test.YtcngpciblbdgbaaGreatDoorIsaS
import Derived.Test.YtcngpciblbdgbaaGreatDoorEncR
import Derived.Test.YtcngpciblbdgbaaGreatDoorEncB
import Derived.Test.YtcngpciblbdgbaaGreatDoorEncC
import Derived.Test.YtcngpciblbdgbaaGreatDoorEncD
namespace Go.Proofs.YtcngpciblbdgbaaGreatDoor
open Go Go.RowKit Go.Shelf
attribute [local go_sem] Oper.semAt_some

/-- the first operand out of its range; -1 -/
def outIdx (ks xs : List Int) : Int := idxOf (fun p : Int × Int => outB p.1 p.2) (ks.zip xs)
theorem zip_at {ks xs : List Int} (h : xs.length = ks.length) {n : Nat} (hn : n < ks.length) : (ks.zip xs)[n]? = some (ks[n]?.getD 0, xs[n]?.getD 0) := by
  rw [List.getElem?_eq_getElem (by simp; omega)]
  simp [List.getElem_zip, List.getElem?_eq_getElem hn, List.getElem?_eq_getElem (show n < xs.length by omega)]
theorem firstN_at {n k j : Nat} (hj : j < k) (hk : k ≤ n) : (firstN n k)[j]? = some ⟨j, by omega⟩ := by
  unfold firstN
  rw [List.getElem?_take, if_pos hj, List.getElem?_eq_getElem (by simp; omega)]
  simp
theorem outIdx_none {ks xs : List Int} (h : xs.length = ks.length) (hi : ∀ i ∈ List.finRange ks.length, outB (ks[i.val]?.getD 0) (xs[i.val]?.getD 0) = false) : outIdx ks xs = -1 := by
  refine idxOf_none (n := ks.length) (by simp; omega) (fun j x hj hx => ?_)
  rw [zip_at h hj] at hx
  injection hx with hx
  subst hx
  exact hi ⟨j, hj⟩ (List.mem_finRange _)
theorem outIdx_some {ks xs : List Int} (h : xs.length = ks.length) {ini : List (Fin ks.length)} {last : Fin ks.length} (hp : ini ++ [last] <+: List.finRange ks.length)
    (hi : ∀ i ∈ ini, outB (ks[i.val]?.getD 0) (xs[i.val]?.getD 0) = false) (hl : outB (ks[last.val]?.getD 0) (xs[last.val]?.getD 0) = true) : outIdx ks xs = (last.val : Int) := by
  obtain ⟨r, hr⟩ := hp
  have hat : ∀ j (hj : j < (ini ++ [last]).length), (ini ++ [last])[j].val = j := fun j hj => by
    have h1 : (List.finRange ks.length)[j]? = some (ini ++ [last])[j] := by
      rw [← hr, List.getElem?_append_left hj, List.getElem?_eq_getElem hj]
    have h2 := (List.getElem?_eq_some_iff.1 h1).1
    rw [List.getElem?_eq_getElem h2] at h1
    injection h1 with h1
    rw [← h1]
    simp
  have hlast : last.val = ini.length := by
    have := hat ini.length (by simp)
    simpa using this
  have hll := last.isLt
  rw [hlast]
  rw [hlast] at hl
  refine idxOf_hit (fun j x hj hx => ?_) (zip_at h (by omega)) hl
  rw [zip_at h (by omega)] at hx
  injection hx with hx
  subst hx
  have e := hat j (by simp; omega)
  rw [List.getElem_append_left hj] at e
  have := hi ini[j] (List.getElem_mem hj)
  rw [e] at this
  exact this

theorem new_cell0 (w : World) (v : Value) (t : TypeId) {k : Nat} (h : w.heap.size = k) : (w.alloc (.cells #[v] t)).cell? ⟨k, 0, none⟩ = some v := by subst h; simp
theorem new_free0 (w : World) (v : Value) (t : TypeId) {k : Nat} (h : w.heap.size = k) : (w.alloc (.cells #[v] t)).frozen? ⟨k, 0, none⟩ = false := by subst h; simp
theorem frozen_alloc_l {w : World} (o : Obj) {k j : Nat} {b : Bool} (h : k < w.heap.size) (hf : w.frozen? ⟨k, j, none⟩ = b) : (w.alloc o).frozen? ⟨k, j, none⟩ = b :=
  (((Below.refl w.heap.size w).alloc (Nat.le_refl _) o).frozen (p := ⟨k, j, none⟩) h).trans hf

theorem grown_set_drewN (w : World) (q b j : Nat) (v : Value) : w.grownBy ((w.drewN q).setCell ⟨b, j, none⟩ v) (some b) :=
  ⟨rfl, rfl, rfl, by simp [World.setCell], fun k _ hk => Below.heap_setCell _ _ _ _ (fun e => hk (by simp [e]))⟩

set_option maxRecDepth 100000 in
set_option maxHeartbeats 2000000 in
theorem outside_any (B : Nat) (v av : Value) (ks xs : List Int) (w : World) (hk : KindsAt B w v ks) (ha : KindsAt B w av xs) (hB : B ≤ w.heap.size) (hlen : xs.length = ks.length) (hks4 : ks.length ≤ 4) (hkn : Known ks) :
    Calls Tryz.prog 35 #[v, av] w fun e w' => e = .returned (.int .i64 (outIdx ks xs)) ∧ Below w.heap.size w w' := by
  have Hk := Lib.hid hk
  have Ha := Lib.hid ha
  obtain ⟨A, m, c, rfl, Hl, hm, _⟩ := hk.opens
  obtain ⟨A2, m2, c2, rfl, Hl2, hm2, hc2⟩ := ha.opens
  have Hc2 := Lib.hid hc2
  have Hlen := Lib.hid hlen
  have Hkn := Lib.hid hkn
  obtain rfl : m2 = m := by rw [← Hl.out, ← Hl2.out, hlen]
  clear hk ha hc2 hlen hkn
  refine (callsIn_wide (n := 3)).1 ?_
  refine callsIn_of_wp_marks Tryz.func35 rfl trivial ?_ rfl
  simp only [Tryz.ntmps35, List.size_toArray, List.length_cons, List.length_nil, Nat.reduceAdd, Nat.reduceSub, Array.replicate_succ, Array.replicate_zero, List.push_toArray, List.append_toArray, List.nil_append, List.cons_append]
  refine wpIn_wide.2 ?_
  go_wp2_with (go_at_call 49; refine (fields_any _ _ _ _).mono ?_; rintro e w' ⟨rfl, rfl⟩)
  obtain ⟨N, hN⟩ : ∃ N, N = w.heap.size := ⟨_, rfl⟩
  obtain ⟨W0, hW0⟩ : ∃ W0, W0 = (((w.alloc (.cells #[.slice A2 m2 c2] 32)).alloc (.cells #[.int .i64 0] 3)).alloc (.cells #[.slice A m2 c] 32)) := ⟨_, rfl⟩
  have q0 : W0.cell? ⟨N, 0, none⟩ = some (.slice A2 m2 c2) := by rw [hW0, hN]; exact cell_alloc_l _ (cell_alloc_l _ (new_cell0 _ _ _ rfl))
  have q1 : W0.cell? ⟨N + 1, 0, none⟩ = some (.int .i64 0) := by rw [hW0, hN]; exact cell_alloc_l _ (new_cell0 _ _ _ (World.size_alloc _ _))
  have q2 : W0.frozen? ⟨N + 1, 0, none⟩ = false := by rw [hW0, hN]; exact frozen_alloc_l _ (by simp) (new_free0 _ _ _ (World.size_alloc _ _))
  have q3 : W0.cell? ⟨N + 1 + 1, 0, none⟩ = some (.slice A m2 c) := by rw [hW0, hN]; exact new_cell0 _ _ _ (by simp)
  have q4 : Below N w W0 := by rw [hW0, hN]; exact (((Below.refl _ _).alloc (Nat.le_refl _) _).alloc (by simp) _).alloc (by simp; omega) _
  have q5 : W0.heap.size = N + 1 + 1 + 1 := by rw [hW0, hN]; simp
  have hBN : B ≤ N := by rw [hN]; exact hB
  have hst := fields_stops 2 (Nat.le_refl _) B (N + 1 + 1) _ ks hks4 Hkn.out W0 (by omega) q3 (Hk.out.below (q4.mono hBN))
  have Q5 := Lib.hid q5
  have HN := Lib.hid hN
  rw [← hW0, ← hN]
  clear hW0 q3 hN q5
  refine (wpIn_wide (n := 3)).1 ?_
  refine wpIn_rangeFunc_ownH (n := 3) rfl (by omega) (gf := 70) (lb := #[.pointer (some ⟨N + 1 + 1, 0, none⟩)]) rfl trivial (enters_of Tryz.func70 (by kernel_rfl) rfl)
    hst KB.trans (kb_b (by have := Q5.out; omega) (by have := Q5.out; omega)) (Below.refl _ _) (fun _ => rfl)
    (fun pre W => (∀ i ∈ pre, outB (ks[i.val]?.getD 0) (xs[i.val]?.getD 0) = false) ∧ W.cell? ⟨N, 0, none⟩ = some (.slice A2 m2 c2) ∧ W.cell? ⟨N + 1, 0, none⟩ = some (.int .i64 0) ∧ W.frozen? ⟨N + 1, 0, none⟩ = false ∧ Below N w W ∧ N + 1 + 1 < W.heap.size)
    (fun cd pre W => cd = .ret ∧ ∃ ini last, pre = ini ++ [last] ∧ (∀ i ∈ ini, outB (ks[i.val]?.getD 0) (xs[i.val]?.getD 0) = false) ∧ outB (ks[last.val]?.getD 0) (xs[last.val]?.getD 0) = true ∧ W.cell? ⟨N + 1, 0, none⟩ = some (.int .i64 (last.val : Int)) ∧ Below N w W)
    ?own1 ?own2 ⟨by simp, q0, q1, q2, q4, by have := Q5.out; omega⟩
    (fun x a' W => ∃ X, a' = { tmps := #[.slice A m2 c, .slice A2 m2 c2, undef, .pointer (some ⟨N, 0, none⟩), .pointer (some ⟨N + 1, 0, none⟩), .int .i64 (x.val : Int), .pointer (some ⟨X, 0, none⟩), .slice A m2 c, .func (.func 70) #[] #[.pointer (some ⟨N + 1 + 1, 0, none⟩)], .int .i64 (x.val : Int), fldV ks x.val, undef, undef, undef, undef, undef, undef, undef, undef, undef, undef, undef, undef, undef, undef, undef, undef, undef, undef, undef], defers := [] } ∧
      W.cell? ⟨X, 3, none⟩ = some (.int .i64 (lowOf (ks[x.val]?.getD 0))) ∧ W.cell? ⟨X, 4, none⟩ = some (.int .i64 (highOf (ks[x.val]?.getD 0))))
    ?own3 ?assign ?body ?done ?stop
  case own1 =>
    rintro pre W W' row ⟨h1, h2, h3, h4, h5, h6⟩ hg hr
    have hr' := fun r e => (hr r e).2
    exact ⟨h1, cell_kept h2 hg hr', cell_kept h3 hg hr', (frozen_kept h3 hg hr').trans h4, h5.grown hg (by rw [HN.out]; exact h5.size) (fun r e => by have := (hr r e).1; have := Q5.out; omega), Nat.lt_of_lt_of_le h6 hg.size⟩
  case own2 =>
    rintro cd pre W W' row ⟨h1, ini, last, h2, h3, h4, h5, h6⟩ hg hr
    have hr' := fun r e => (hr r e).2
    exact ⟨h1, ini, last, h2, h3, h4, cell_kept h5 hg hr', h6.grown hg (by rw [HN.out]; exact h6.size) (fun r e => by have := (hr r e).1; have := Q5.out; omega)⟩
  case own3 =>
    rintro x a' _ W W' row ⟨X, h1, h2, h3⟩ hg hr
    have hr' := fun r e => (hr r e).2
    exact ⟨X, h1, cell_kept h2 hg hr', cell_kept h3 hg hr'⟩
  case assign =>
    rintro l pre x W K ⟨h1, h2, h3, h4, h5, hbW⟩ hK
    have hz : N ≤ W.heap.size := by rw [HN.out]; exact h5.size
    obtain ⟨kk, hkk⟩ : ∃ kk, kk = ks[x.val]?.getD 0 := ⟨_, rfl⟩
    obtain ⟨f0, f1, f2, hf0⟩ : ∃ f0 f1 f2 : Int, fldV ks x.val = .agg #[.int .i64 f0, .int .i64 f1, .int .i64 f2, .int .i64 (lowOf kk), .int .i64 (highOf kk)] := ⟨_, _, _, by rw [hkk]; rfl⟩
    have Hkk := Lib.hid hkk
    have HF := Lib.hid hf0
    clear hkk
    dsimp only [encF]
    rw [hf0]
    clear hf0
    gi_wp2
    have hbv : Below W.heap.size W (W.alloc (.cells #[.int .i64 f0, .int .i64 f1, .int .i64 f2, .int .i64 (lowOf kk), .int .i64 (highOf kk)] 103)) := (Below.refl _ _).alloc (Nat.le_refl _) _
    refine hK _ _ (KeepsFrom.of_grownBy (World.grownBy_alloc W _ none) (fun j e => by cases e)) (KB.below hbv (by omega) hbW) ⟨h1, cell_alloc_l _ h2, cell_alloc_l _ h3, frozen_alloc_l _ (by omega) h4, h5.trans (hbv.mono hz), Nat.lt_of_lt_of_le hbW hbv.size⟩ ⟨W.heap.size, by rw [HF.out], by rw [← Hkk.out]; simp, by rw [← Hkk.out]; simp⟩
  case body =>
    rintro l pre x a' W _ _ ⟨h1, h2, h3, h4, h5, hbW⟩ ⟨X, rfl, h6, h7⟩ hlen
    have hz : N ≤ W.heap.size := by rw [HN.out]; exact h5.size
    have hxm : x.val < m2 := by rw [← Hl.out]; exact x.isLt
    obtain ⟨b1, o1, rfl, hb1, g1⟩ := Hc2.out (by omega)
    have d1 : W.cell? ⟨b1, o1 + x.val, none⟩ = some (.int .i64 (xs[x.val]?.getD 0)) := (h5.cell (p := ⟨b1, o1 + x.val, none⟩) (by show b1 < N; omega)).trans (g1 _ hxm)
    obtain ⟨kk, hkk⟩ : ∃ kk, kk = ks[x.val]?.getD 0 := ⟨_, rfl⟩
    obtain ⟨y, hy⟩ : ∃ y, y = xs[x.val]?.getD 0 := ⟨_, rfl⟩
    rw [← hkk] at h6 h7
    rw [← hy] at d1
    have Hkk := Lib.hid hkk
    have Hy := Lib.hid hy
    have H1 := Lib.hid h1
    clear hkk hy h1 g1
    obtain ⟨xn, hxn⟩ : ∃ xn, xn = x.val := ⟨_, rfl⟩
    rw [← hxn] at d1 hxm ⊢
    have Hxn := Lib.hid hxn
    clear hxn
    have hX : X < W.heap.size := block_lt_of_cell h6
    have hbL : b1 < W.heap.size := by omega
    have hdl : lowOf kk ≤ 0 := by unfold lowOf; repeat' split
                                  all_goals omega
    by_cases hlo : y < lowOf kk
    · have e1 : decide (y < lowOf kk) = true := by simpa using hlo
      have Ho := Lib.hid (show outB kk y = true by unfold outB; rw [e1]; rfl)
      gi_wp2
      refine region_inRound_quiet (by kernel_rfl) (by kernel_rfl) (by kernel_rfl) (fun ⟨_, _, h⟩ => h) ?_
      repeat (go_big_quiet_step (fail))
      refine wpQuiet_nil ?_
      rintro _ ⟨nq, rfl⟩
      gi_wp2
      have hgq : W.grownBy ((W.drewN nq).setCell ⟨N + 1, 0, none⟩ (.int .i64 (xn : Int))) (some (N + 1)) := grown_set_drewN _ _ _ _ _
      refine ⟨KeepsFrom.of_grownBy hgq (fun j e => by injection e with e; have := Q5.out; omega), rfl, pre, x, rfl, H1.out, by rw [← Hkk.out, ← Hy.out]; exact Ho.out, ?_, h5.grown hgq hz (fun j e => by injection e with e; omega)⟩
      rw [← Hxn.out]
      exact World.cell?_setCell_same' _ _ _ (by rw [show (W.drewN nq).cell? ⟨N + 1, 0, none⟩ = W.cell? ⟨N + 1, 0, none⟩ from rfl, h3]; rfl)
    · have e1 : decide (y < lowOf kk) = false := by simpa using hlo
      by_cases hhi : highOf kk < y
      · have e2 : decide (highOf kk < y) = true := by simpa using hhi
        have Ho := Lib.hid (show outB kk y = true by unfold outB; rw [e2]; simp)
        gi_wp2
        refine region_inRound_quiet (by kernel_rfl) (by kernel_rfl) (by kernel_rfl) (fun ⟨_, _, h⟩ => h) ?_
        repeat (go_big_quiet_step (fail))
        refine wpQuiet_nil ?_
        rintro _ ⟨nq, rfl⟩
        gi_wp2
        have hgq : W.grownBy ((W.drewN nq).setCell ⟨N + 1, 0, none⟩ (.int .i64 (xn : Int))) (some (N + 1)) := grown_set_drewN _ _ _ _ _
        refine ⟨KeepsFrom.of_grownBy hgq (fun j e => by injection e with e; have := Q5.out; omega), rfl, pre, x, rfl, H1.out, by rw [← Hkk.out, ← Hy.out]; exact Ho.out, ?_, h5.grown hgq hz (fun j e => by injection e with e; omega)⟩
        rw [← Hxn.out]
        exact World.cell?_setCell_same' _ _ _ (by rw [show (W.drewN nq).cell? ⟨N + 1, 0, none⟩ = W.cell? ⟨N + 1, 0, none⟩ from rfl, h3]; rfl)
      · have e2 : decide (highOf kk < y) = false := by simpa using hhi
        have Ho := Lib.hid (show outB kk y = false by unfold outB; rw [e1, e2]; rfl)
        gi_wp2
        refine region_inRound_quiet (by kernel_rfl) (by kernel_rfl) (by kernel_rfl) (fun ⟨_, _, h⟩ => h) ?_
        repeat (go_big_quiet_step (fail))
        refine wpQuiet_nil ?_
        rintro _ ⟨nq, rfl⟩
        gi_wp2
        have hbd : Below W.heap.size W (W.drewN nq) := below_drewN (Below.refl _ _) _
        exact ⟨KeepsFrom.of_grownBy (grown_none hbd) (fun j e => by cases e), KB.below hbd (by omega) hbW, fun i hi => (List.mem_append.1 hi).elim (H1.out i) (fun e => by simp at e; subst e; rw [← Hkk.out, ← Hy.out]; exact Ho.out), h2, h3, h4, below_drewN h5 _, hbW⟩
  case done =>
    rintro D ys W hD rfl ⟨h1, h2, h3, h4, h5, hbW⟩ hK
    have hz : N ≤ W.heap.size := by rw [HN.out]; exact h5.size
    have Hr := Lib.hid (outIdx_none Hlen.out h1)
    have HM := Lib.hid (show Marks (N + 1 + 1) W W.heap.size [{ target := .collected D, args := #[] }] from ⟨D, rfl, by have := Q5.out; omega, (Array.getElem?_eq_some_iff.1 hK).1, hK, trivial⟩)
    clear h1 hK
    gi_wp2
    go_wp2
    have hko : KeepsOthers W (W.setCell ⟨N + 1, 0, none⟩ (.int .i64 (-1))) := KeepsOthers.setCell _ _ _
    refine leaves_marks (B := N + 1 + 1) (fun W' => Below N w W' ∧ W'.cell? ⟨N + 1, 0, none⟩ = some (.int .i64 (-1))) ?_ ?_ _ W.heap.size _ (HM.out.same (fun j _ hh => hko.same j _ hh rfl))
      ⟨h5.setCell (p := ⟨N + 1, 0, none⟩) (by show N ≤ N + 1; omega) _, World.cell?_setCell_same' _ _ _ (by rw [h3]; rfl)⟩
    · rintro W' D' hD' hK' ⟨t1, t2⟩
      exact ⟨t1.grown (grownBy_putObj' W' D' _) (by rw [HN.out]; exact t1.size) (fun r e => by cases e; omega), cell_kept t2 (grownBy_putObj' _ D' _) (fun r e => by cases e; exact ⟨_, hK', rfl⟩)⟩
    · rintro W' ⟨t1, t2⟩
      exact ⟨_, by simp [results, Tryz.results35, go_sem, t2], ret_int Hr.out.symm, by rw [← HN.out]; exact t1⟩
  case stop =>
    rintro D cd pre W hD hpre ⟨rfl, ini, last, rfl, h1, h2, h3, h5⟩ hK
    have hz : N ≤ W.heap.size := by rw [HN.out]; exact h5.size
    have Hr := Lib.hid (outIdx_some Hlen.out hpre h1 h2)
    have HM := Lib.hid (show Marks (N + 1 + 1) W W.heap.size [{ target := .collected D, args := #[] }] from ⟨D, rfl, by have := Q5.out; omega, (Array.getElem?_eq_some_iff.1 hK).1, hK, trivial⟩)
    clear h1 h2 hpre hK
    gi_wp2
    refine leaves_marks (B := N + 1 + 1) (fun W' => Below N w W' ∧ W'.cell? ⟨N + 1, 0, none⟩ = some (.int .i64 (last.val : Int))) ?_ ?_ _ _ _ HM.out ⟨h5, h3⟩
    · rintro W' D' hD' hK' ⟨t1, t2⟩
      exact ⟨t1.grown (grownBy_putObj' W' D' _) (by rw [HN.out]; exact t1.size) (fun r e => by cases e; omega), cell_kept t2 (grownBy_putObj' _ D' _) (fun r e => by cases e; exact ⟨_, hK', rfl⟩)⟩
    · rintro W' ⟨t1, t2⟩
      exact ⟨_, by simp [results, Tryz.results35, go_sem, t2], ret_int Hr.out.symm, by rw [← HN.out]; exact t1⟩
end Go.Proofs.YtcngpciblbdgbaaGreatDoor
