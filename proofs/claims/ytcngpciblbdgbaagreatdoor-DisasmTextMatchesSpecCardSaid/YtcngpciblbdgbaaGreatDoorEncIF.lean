/- The reference's InsFault is insFault. Conditions: the table reads as forms, the arguments as ints. -/
import Derived.BigQuiet
import Derived.Test.YtcngpciblbdgbaaGreatDoorEncY
import Derived.Test.YtcngpciblbdgbaaGreatDoorEncZ
namespace Go.Proofs.YtcngpciblbdgbaaGreatDoor
open Go Go.RowKit Go.Shelf
theorem last_sum {n : Nat} (hn : n * 48 ≤ 140737488351232) : wrap64 ((n : Int) - 1) = (n : Int) - 1 := by rw [IntWalk.wrap64_in _ (by omega)]
theorem in_out {n : Nat} {form : Int} (h : form < 0 ∨ (n : Int) ≤ form) : inB form 0 ((n : Int) - 1) = false := by
  unfold inB
  rcases h with h | h
  · rw [show decide ((0 : Int) ≤ form) = false by simp; omega]; rfl
  · rw [show decide (form ≤ (n : Int) - 1) = false by simp; omega, Bool.and_false]
theorem in_in {n k : Nat} (h : k < n) : inB (k : Int) 0 ((n : Int) - 1) = true := inB_true (by omega) (by omega)
theorem in_lim (k a : Int) : inB a (lowOf k) (highOf k) = !outB k a := by
  unfold inB outB
  by_cases h1 : a < lowOf k <;> by_cases h2 : highOf k < a <;> simp [h1, h2] <;> omega

/-- the end of a way through InsFault: a fault stored in the result's box -/
theorem insf_end {w W : World} {p i : Int} (hb : Below w.heap.size w W) (T : Two W (w.heap.size + 1) (.int .i64 0) (.int .i64 0)) :
    (((W.setCell ⟨w.heap.size + 1, 0, none⟩ (.int .i64 p)).setCell ⟨w.heap.size + 1, 1, none⟩ (.int .i64 i)).cell? ⟨w.heap.size + 1, 0, none⟩ = some (.int .i64 p) ∧ ((W.setCell ⟨w.heap.size + 1, 0, none⟩ (.int .i64 p)).setCell ⟨w.heap.size + 1, 1, none⟩ (.int .i64 i)).cell? ⟨w.heap.size + 1, 1, none⟩ = some (.int .i64 i)) ∧
    Below w.heap.size w ((W.setCell ⟨w.heap.size + 1, 0, none⟩ (.int .i64 p)).setCell ⟨w.heap.size + 1, 1, none⟩ (.int .i64 i)) :=
  ⟨two_set T.1 T.2.1, (hb.setCell (p := ⟨w.heap.size + 1, 0, none⟩) (by show w.heap.size ≤ w.heap.size + 1; omega) _).setCell (p := ⟨w.heap.size + 1, 1, none⟩) (by show w.heap.size ≤ w.heap.size + 1; omega) _⟩

set_option maxRecDepth 100000 in
set_option maxHeartbeats 1000000 in
theorem insFault_range (B : Nat) (v av : Value) (fs : List Frm) (form : Int) (xs : List Int) (w : World) (h : FormsAt B w v fs) (ha : KindsAt B w av xs) (_hB : B ≤ w.heap.size) (hf : form < 0 ∨ (fs.length : Int) ≤ form) :
    Calls Tryz.prog 16 #[v, .agg #[.int .i64 form, av]] w fun e w' => e = .returned (faultV (3, -2)) ∧ Below w.heap.size w w' := by
  obtain ⟨A, n, c, rfl, hln, ⟨hn48, -⟩, -, -⟩ := h.opens
  obtain ⟨A2, n2, c2, rfl, -, -, -⟩ := ha.opens
  rw [hln.out] at hf
  have hwr := last_sum hn48
  have I1 := Lib.hid (in_out hf)
  have bw := Lib.hid (encW_below w form (.slice A2 n2 c2))
  have T2 := Lib.hid (encW_res w form (.slice A2 n2 c2))
  clear hn48 hf h ha
  go_enter Tryz.func16, Tryz.ntmps16
  go_wp2_with fail
  refine (in_any _ _ _ _).mono ?_
  rintro e w' ⟨rfl, rfl⟩
  rw [I1.out]
  go_wp2_with fail
  refine (at_any _ _ _).mono ?_
  rintro e W1 ⟨rfl, hb1⟩
  have t2 := Two.below (W := encW w form (.slice A2 n2 c2)) T2.out hb1
  have b1 := bw.out.trans ((show Below (encW w form (.slice A2 n2 c2)).heap.size (encW w form (.slice A2 n2 c2)) W1 from hb1).mono bw.out.size)
  obtain ⟨e1, e2⟩ := insf_end (p := 3) (i := -2) b1 t2
  have hz := t2.lt
  obtain ⟨q0, q1, q2, q3⟩ := t2
  clear hb1
  go_wp2_with fail
  refine bodyPost_ret (v := faultV (3, -2)) ?_ rfl ⟨rfl, e2⟩
  simp [results, Tryz.results16, go_sem, e1.1, e1.2]
/-- what InsFault reads of the form k -/
theorem insf_form {B : Nat} {w W : World} {A : Option Addr} {n c k : Nat} {fs : List Frm} {f : Frm} (h : FormsAt B w (.slice A n c) fs) (hx : fs[k]? = some f) (hb : Below B w W) :
    ∃ b1 o1, A = some ⟨b1, o1, none⟩ ∧ b1 < B ∧ W.cell? ⟨b1, o1 + k * 3 + 2, none⟩ = some f.kv ∧ k < n ∧ KindsAt B W f.kv f.kinds := by
  obtain ⟨A', n', c', e, hl, _, hk, hop⟩ := h.opens
  injection e with e1 e2 e3
  subst e1
  subst e2
  have hkn : k < n := by rw [← hl.out]; exact (List.getElem?_eq_some_iff.1 hx).1
  obtain ⟨b1, o1, rfl, hb1, g⟩ := hop (by omega)
  exact ⟨b1, o1, rfl, hb1, (hb.cell (p := ⟨b1, o1 + k * 3 + 2, none⟩) hb1).trans (g k f hx).2.2, hkn, ((hk f (List.mem_of_getElem? hx)).1).below hb⟩
set_option maxRecDepth 100000 in
set_option maxHeartbeats 1000000 in
theorem insFault_length (B : Nat) (v av : Value) (fs : List Frm) (k : Nat) (f : Frm) (xs : List Int) (w : World) (h : FormsAt B w v fs) (ha : KindsAt B w av xs) (hB : B ≤ w.heap.size) (hx : fs[k]? = some f) (hl : xs.length ≠ f.kinds.length) :
    Calls Tryz.prog 16 #[v, .agg #[.int .i64 (k : Int), av]] w fun e w' => e = .returned (faultV (9, -3)) ∧ Below w.heap.size w w' := by
  obtain ⟨A, n, c, rfl, hln, ⟨hn48, -⟩, -, -⟩ := h.opens
  obtain ⟨A2, n2, c2, rfl, hl2, -, -⟩ := ha.opens
  have bw := Lib.hid (encW_below w (k : Int) (.slice A2 n2 c2))
  have T2 := Lib.hid (encW_res w (k : Int) (.slice A2 n2 c2))
  obtain ⟨b1, o1, rfl, hb1, hd, hkn, hkk⟩ := insf_form h hx (bw.out.mono hB)
  obtain ⟨nm, q, kv, ks⟩ := f
  obtain ⟨A3, n3, c3, e3, hl3, -, -⟩ := hkk.opens
  dsimp only at e3 hd hl hl3
  subst e3
  rw [hl2.out, hl3.out] at hl
  have hne : ¬ ((n2 : Int) = (n3 : Int)) := by omega
  have hwr := last_sum hn48
  have I1 := Lib.hid (in_in hkn)
  have hd' : ((w.alloc (.cells #[.int .i64 (k : Int), .slice A2 n2 c2] 34)).alloc (.cells #[.int .i64 0, .int .i64 0] 27)).cell? ⟨b1, o1 + k * 3 + 2, none⟩ = some (.slice A3 n3 c3) := hd
  have hbw : b1 < w.heap.size := Nat.lt_of_lt_of_le hb1 hB
  clear hn48 h ha hd hkk hx hl
  go_enter Tryz.func16, Tryz.ntmps16
  go_wp2_with fail
  refine (in_any _ _ _ _).mono ?_
  rintro e w' ⟨rfl, rfl⟩
  rw [I1.out]
  go_wp2_with fail
  go_quiet (fail)
  go_wp2_with fail
  refine (at_any _ _ _).mono ?_
  rintro e W1 ⟨rfl, hb1'⟩
  have hv : Below (encW w (k : Int) (.slice A2 n2 c2)).heap.size (encW w (k : Int) (.slice A2 n2 c2)) W1 := (below_drewN (Below.refl _ _) nq).trans hb1'
  have t2 := Two.below (W := encW w (k : Int) (.slice A2 n2 c2)) T2.out hv
  have b1' := bw.out.trans (hv.mono bw.out.size)
  obtain ⟨e1, e2⟩ := insf_end (p := 9) (i := -3) b1' t2
  have hz := t2.lt
  obtain ⟨q0, q1, q2, q3⟩ := t2
  clear hb1' hv
  go_wp2_with fail
  refine bodyPost_ret (v := faultV (9, -3)) ?_ rfl ⟨rfl, e2⟩
  simp [results, Tryz.results16, go_sem, e1.1, e1.2]
theorem kinds_at_cell {B n c j : Nat} {A : Option Addr} {w : World} {xs : List Int} (h : KindsAt B w (.slice A n c) xs) (hj : j < n) : ∃ b off, A = some ⟨b, off, none⟩ ∧ b < B ∧ w.cell? ⟨b, off + j, none⟩ = some (.int .i64 (xs[j]?.getD 0)) := by
  obtain ⟨A', c', e, _, h3⟩ := h
  injection e with e1 e2 e3
  subst e1
  obtain ⟨b, off, ha, hb, hc⟩ := h3 (by omega)
  exact ⟨b, off, ha, hb, hc j (by omega)⟩
theorem out_hit {ks xs : List Int} {j : Nat} (hl : xs.length = ks.length) (hj : j < ks.length) (hno : ∀ t, t < j → outB (ks[t]?.getD 0) (xs[t]?.getD 0) = false) (ho : outB (ks[j]?.getD 0) (xs[j]?.getD 0) = true) : outIdx ks xs = (j : Int) := by
  refine idxOf_hit (k := j) (fun t p ht hp => ?_) (zip_at hl hj) ho
  rw [zip_at hl (by omega)] at hp
  injection hp with hp
  subst hp
  exact hno t ht
set_option maxRecDepth 100000 in
set_option maxHeartbeats 2000000 in
theorem insFault_args (B : Nat) (v av : Value) (fs : List Frm) (k : Nat) (f : Frm) (xs : List Int) (w : World) (h : FormsAt B w v fs) (ha : KindsAt B w av xs) (hB : B ≤ w.heap.size) (hx : fs[k]? = some f) (hl : xs.length = f.kinds.length) :
    Calls Tryz.prog 16 #[v, .agg #[.int .i64 (k : Int), av]] w fun e w' => e = .returned (faultV (if 0 ≤ outIdx f.kinds xs then (3, outIdx f.kinds xs) else (0, 0))) ∧ Below w.heap.size w w' := by
  obtain ⟨A, n, c, rfl, hln, ⟨hn48, -⟩, -, -⟩ := h.opens
  obtain ⟨A2, n2, c2, rfl, hl2, hm2, hop2⟩ := ha.opens
  have bw := Lib.hid (encW_below w (k : Int) (.slice A2 n2 c2))
  have T2 := Lib.hid (encW_res w (k : Int) (.slice A2 n2 c2))
  have T1 := Lib.hid (encW_ins w (k : Int) (.slice A2 n2 c2))
  obtain ⟨b1, o1, rfl, hb1, hd, hkn, hkk⟩ := insf_form h hx (bw.out.mono hB)
  obtain ⟨nm, q, kv, ks⟩ := f
  obtain ⟨A3, n3, c3, e3, hl3, -, hop3⟩ := hkk.opens
  dsimp only at e3 hd hl hl3 ⊢
  subst e3
  obtain rfl : n2 = n3 := by rw [← hl2.out, ← hl3.out]; exact hl
  have hwr := last_sum hn48
  have I1 := Lib.hid (in_in hkn)
  have hd' : ((w.alloc (.cells #[.int .i64 (k : Int), .slice A2 n2 c2] 34)).alloc (.cells #[.int .i64 0, .int .i64 0] 27)).cell? ⟨b1, o1 + k * 3 + 2, none⟩ = some (.slice A3 n2 c3) := hd
  have hbw : b1 < w.heap.size := Nat.lt_of_lt_of_le hb1 hB
  have HKK := Lib.hid hkk
  have HA := Lib.hid (ha.below (bw.out.mono hB))
  have HL := Lib.hid hl
  have HL2 := Lib.hid hl2.out
  clear hn48 h ha hd hkk hx hl hop2 hop3
  go_enter Tryz.func16, Tryz.ntmps16
  go_wp2_with fail
  refine (in_any _ _ _ _).mono ?_
  rintro e w' ⟨rfl, rfl⟩
  rw [I1.out]
  go_wp2_with fail
  go_quiet (fail)
  go_wp2_with fail
  go_loopw [5] (fun i wr => ∃ j : Nat, j ≤ n2 ∧ i = .int .i64 (j : Int) ∧ Hid (∀ t, t < j → outB (ks[t]?.getD 0) (xs[t]?.getD 0) = false) ∧ Below (encW w (k : Int) (.slice A2 n2 c2)).heap.size (encW w (k : Int) (.slice A2 n2 c2)) wr) (fun i _ => n2 - (intOf i).toNat)
  case atStart => exact ⟨0, Nat.zero_le _, rfl, Lib.hid (fun t ht => absurd ht (Nat.not_lt_zero t)), below_drewN (Below.refl _ _) nq⟩
  case round =>
    obtain ⟨j, hjn, rfl, Hno, hbr⟩ := hrel
    obtain ⟨r0, r1, -, -⟩ := Two.below (W := encW w (k : Int) (.slice A2 n2 c2)) T1.out hbr
    have t2 := Two.below (W := encW w (k : Int) (.slice A2 n2 c2)) T2.out hbr
    have hz := t2.lt
    have hz0 : w.heap.size < wr.heap.size := Nat.lt_of_succ_lt hz
    have hBr : B ≤ (encW w (k : Int) (.slice A2 n2 c2)).heap.size := Nat.le_trans hB bw.out.size
    have d1 : wr.cell? ⟨b1, o1 + k * 3 + 2, none⟩ = some (.slice A3 n2 c3) := cell_below (W := encW w (k : Int) (.slice A2 n2 c2)) hd' hbr
    have hb1r : b1 < wr.heap.size := block_lt_of_cell d1
    have bwr := Lib.hid (bw.out.trans (hbr.mono bw.out.size))
    have T2' := Lib.hid t2
    have Hbr := Lib.hid hbr
    by_cases hlt : j < n2
    · obtain ⟨b3, o3, hA3, hb3, g3⟩ := kinds_at_cell (HKK.out.below (hbr.mono hBr)) hlt
      obtain ⟨b2, o2, hA2, hb2, g2⟩ := kinds_at_cell (HA.out.below (hbr.mono hBr)) hlt
      subst hA3
      subst hA2
      have hz2 := block_lt_of_cell g2
      have hz3 := block_lt_of_cell g3
      have HJK := Lib.hid (show j < ks.length by rw [← HL.out, HL2.out]; exact hlt)
      obtain ⟨kj, hkj⟩ : ∃ kj, kj = ks[j]?.getD 0 := ⟨_, rfl⟩
      obtain ⟨xj, hxj⟩ : ∃ xj, xj = xs[j]?.getD 0 := ⟨_, rfl⟩
      rw [← hkj] at g3
      rw [← hxj] at g2
      have Ol := Lib.hid (in_lim kj xj)
      have HKJ := Lib.hid hkj
      have HXJ := Lib.hid hxj
      clear hkj hxj
      clear hbr hd' hwr hb2 hb3 t2
      go_wp2_with fail
      refine (limits_any _ _).mono ?_
      rintro e w' ⟨rfl, rfl⟩
      go_wp2_with fail
      refine (in_any _ _ _ _).mono ?_
      rintro e w' ⟨rfl, rfl⟩
      rw [Ol.out]
      cases ho : outB kj xj with
      | false =>
        have hno' : ∀ t, t < j + 1 → outB (ks[t]?.getD 0) (xs[t]?.getD 0) = false := fun t ht => by
          rcases Nat.lt_succ_iff_lt_or_eq.1 ht with h | rfl
          · exact Hno.out t h
          · rw [← HKJ.out, ← HXJ.out]; exact ho
        have HN := Lib.hid hno'
        clear hno'
        go_wp2_with fail
        go_round
        case rel => exact ⟨j + 1, hlt, by go_num, HN, Hbr.out⟩
        case measure => simp [intOf]; omega
      | true =>
        have hit : outIdx ks xs = (j : Int) := out_hit HL.out HJK.out Hno.out (by rw [← HKJ.out, ← HXJ.out]; exact ho)
        go_wp2_with fail
        refine (at_any _ _ _).mono ?_
        rintro e W1 ⟨rfl, hb1'⟩
        have t3 := T2'.out.below hb1'
        obtain ⟨e1, e2⟩ := insf_end (p := 3) (i := (j : Int)) (bwr.out.trans (hb1'.mono bwr.out.size)) t3
        have hz4 := t3.lt
        obtain ⟨q0, q1, q2, q3⟩ := t3
        clear hb1'
        go_wp2_with fail
        refine bodyPost_ret (v := faultV (3, (j : Int))) ?_ rfl ⟨by first | rfl | rw [hit, if_pos (Int.natCast_nonneg _)], e2⟩
        simp [results, Tryz.results16, go_sem, e1.1, e1.2]
    · obtain rfl : j = n2 := Nat.le_antisymm hjn (Nat.not_lt.1 hlt)
      have hnone : outIdx ks xs = -1 := outIdx_none HL.out fun t _ => Hno.out t.val (by rw [← HL2.out, HL.out]; exact t.isLt)
      obtain ⟨e1, e2⟩ := insf_end (p := 0) (i := 0) bwr.out t2
      obtain ⟨q0, q1, q2, q3⟩ := t2
      clear hbr hd' hwr
      go_wp2_with fail
      refine bodyPost_ret (v := faultV (0, 0)) ?_ rfl ⟨by first | rfl | (rw [hnone]; rfl), e2⟩
      simp [results, Tryz.results16, go_sem, e1.1, e1.2]
/-- InsFault, whatever the instruction -/
theorem insFault_any (B : Nat) (v av : Value) (fs : List Frm) (form : Int) (xs : List Int) (w : World) (h : FormsAt B w v fs) (ha : KindsAt B w av xs) (hB : B ≤ w.heap.size) :
    Calls Tryz.prog 16 #[v, .agg #[.int .i64 form, av]] w fun e w' => e = .returned (faultV (insFault fs form xs)) ∧ Below w.heap.size w w' := by
  by_cases hf : form < 0 ∨ (fs.length : Int) ≤ form
  · have e : insFault fs form xs = (3, -2) := by unfold insFault; rw [if_pos hf]
    rw [e]
    exact insFault_range B v av fs form xs w h ha hB hf
  · obtain ⟨k, rfl⟩ : ∃ k : Nat, form = (k : Int) := ⟨form.toNat, by omega⟩
    obtain ⟨f, hx⟩ : ∃ f, fs[k]? = some f := ⟨_, List.getElem?_eq_getElem (by omega)⟩
    have e1 : insFault fs (k : Int) xs = if xs.length ≠ f.kinds.length then (9, -3) else if 0 ≤ outIdx f.kinds xs then (3, outIdx f.kinds xs) else (0, 0) := by
      unfold insFault
      rw [if_neg hf]
      simp only [Int.toNat_natCast, hx]
    by_cases hl : xs.length = f.kinds.length
    · rw [e1, if_neg (by simpa using hl)]
      exact insFault_args B v av fs k f xs w h ha hB hx hl
    · rw [e1, if_pos hl]
      exact insFault_length B v av fs k f xs w h ha hB hx hl
end Go.Proofs.YtcngpciblbdgbaaGreatDoor
