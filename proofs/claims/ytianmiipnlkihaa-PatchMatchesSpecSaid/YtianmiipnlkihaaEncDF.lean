/- The law file's decodeFault is decFault. Conditions: the table reads as forms, the code as bytes. -/
import Derived.Test.YtianmiipnlkihaaEncIF
namespace Go.Proofs.Ytianmiipnlkihaa
open Go Go.RowKit Go.Shelf
theorem dfault_end {w W : World} {X : Nat} {p i x y a b : Int} (hb : Below w.heap.size w W) (T : Two W w.heap.size (.int .i64 a) (.int .i64 b)) (U : Two W X (.int .i64 x) (.int .i64 y)) (hX : w.heap.size < X) :
    Two ((W.setCell ⟨X, 0, none⟩ (.int .i64 p)).setCell ⟨X, 1, none⟩ (.int .i64 i)) X (.int .i64 p) (.int .i64 i) ∧ Two ((W.setCell ⟨X, 0, none⟩ (.int .i64 p)).setCell ⟨X, 1, none⟩ (.int .i64 i)) w.heap.size (.int .i64 a) (.int .i64 b) ∧
    Below w.heap.size w ((W.setCell ⟨X, 0, none⟩ (.int .i64 p)).setCell ⟨X, 1, none⟩ (.int .i64 i)) := by
  obtain ⟨s0, s1⟩ := two_set (x := .int .i64 p) (y := .int .i64 i) U.1 U.2.1
  have hne : ¬ w.heap.size = X := by omega
  have hne' : ¬ X = w.heap.size := by omega
  obtain ⟨t0, t1, t2, t3⟩ := T
  obtain ⟨u0, u1, u2, u3⟩ := U
  refine ⟨⟨s0, s1, by simp [u2], by simp [u3]⟩, ⟨?_, ?_, by simp [t2], by simp [t3]⟩, (hb.setCell (p := ⟨X, 0, none⟩) (Nat.le_of_lt hX) _).setCell (p := ⟨X, 1, none⟩) (Nat.le_of_lt hX) _⟩
  · rw [World.cell?_setCell_other _ _ _ _ (by first | (simp; done) | (simp; omega)), World.cell?_setCell_other _ _ _ _ (by first | (simp; done) | (simp; omega))]; exact t0
  · rw [World.cell?_setCell_other _ _ _ _ (by first | (simp; done) | (simp; omega)), World.cell?_setCell_other _ _ _ _ (by first | (simp; done) | (simp; omega))]; exact t1
theorem big_cast {n : Nat} (h : 1500 < n) : (1500 : Int) < (n : Int) := by omega
theorem small_cast {n : Nat} (h : ¬ 1500 < n) : ¬ (1500 : Int) < (n : Int) := by omega
theorem dfault_plain {w W : World} {p i a b x y : Int} {t : TypeId} (hb : Below w.heap.size w W) (h0 : W.cell? ⟨w.heap.size, 0, none⟩ = some (.int .i64 a)) (h1 : W.cell? ⟨w.heap.size, 1, none⟩ = some (.int .i64 b)) :
    (((W.setCell ⟨w.heap.size, 0, none⟩ (.int .i64 p)).setCell ⟨w.heap.size, 1, none⟩ (.int .i64 i)).alloc (.cells #[.int .i64 x, .int .i64 y] t)).cell? ⟨w.heap.size, 0, none⟩ = some (.int .i64 p) ∧
    (((W.setCell ⟨w.heap.size, 0, none⟩ (.int .i64 p)).setCell ⟨w.heap.size, 1, none⟩ (.int .i64 i)).alloc (.cells #[.int .i64 x, .int .i64 y] t)).cell? ⟨w.heap.size, 1, none⟩ = some (.int .i64 i) ∧
    Below w.heap.size w (((W.setCell ⟨w.heap.size, 0, none⟩ (.int .i64 p)).setCell ⟨w.heap.size, 1, none⟩ (.int .i64 i)).alloc (.cells #[.int .i64 x, .int .i64 y] t)) := by
  obtain ⟨y0, y1⟩ := two_set (x := .int .i64 p) (y := .int .i64 i) h0 h1
  have b2 := (hb.setCell (p := ⟨w.heap.size, 0, none⟩) (Nat.le_refl _) (.int .i64 p)).setCell (p := ⟨w.heap.size, 1, none⟩) (Nat.le_refl _) (.int .i64 i)
  exact ⟨cell_alloc_l _ y0, cell_alloc_l _ y1, b2.alloc b2.size _⟩
set_option maxHeartbeats 1000000 in
theorem decodeFault_any (B : Nat) (v cv : Value) (fs : List Frm) (l : List UInt8) (at_ : Int) (w : World) (h : FormsAt B w v fs) (hc : BytesAt B w cv l) (hB : B ≤ w.heap.size) :
    Calls Try.prog 13 #[v, cv, .int .i64 at_] w fun e w' => e = .returned (faultV (decFault fs l at_)) ∧ Below w.heap.size w w' := by
  have b0 := one_more w (.cells #[.int .i64 0, .int .i64 0] 29)
  have C := tableFault_any B v fs _ (h.below (b0.mono hB)) (Nat.le_trans hB b0.size)
  obtain ⟨p, i, ht⟩ : ∃ p i, tableFault fs = (p, i) := ⟨_, _, rfl⟩
  rw [ht] at C
  have D : decFault fs l at_ = if p ≠ 0 then (p, i) else if 1500 < l.length then (2, -4) else if at_ < 0 ∨ (l.length : Int) ≤ at_ then (3, -5) else (0, 0) := by unfold decFault; rw [ht]
  have hpi : p = 0 → i = 0 := fun hp => by
    have := fault_pair (fs := fs) (by rw [ht]; exact hp)
    rw [ht] at this
    exact (Prod.mk.inj this).2
  have T0 := Two.new w (.int .i64 0) (.int .i64 0) 29
  obtain ⟨A, n, c, rfl, -⟩ := h.opens
  obtain ⟨A1, n1, c1, rfl, hn1, ⟨hm1, -⟩, -⟩ := hc.opens
  rw [hn1.out] at D
  have HD := Lib.hid D
  have hwr : wrap64 ((n1 : Int) - 1) = (n1 : Int) - 1 := by rw [IntWalk.wrap64_in _ (by omega)]
  have HC := Lib.hid C
  have HPI := Lib.hid hpi
  clear C h hc D hpi ht hm1
  go_enter Try.func13, Try.ntmps13
  go_wp2_with fail
  refine HC.out.mono ?_
  rintro e W1 ⟨rfl, hb1⟩
  have hb := b0.trans (hb1.mono b0.size)
  have t1 := T0.below hb1
  have hX : w.heap.size < W1.heap.size := t1.lt
  have hbV := one_more W1 (.cells #[.int .i64 p, .int .i64 i] 29)
  have t2 := t1.below hbV
  have u2 : Two (W1.alloc (.cells #[.int .i64 p, .int .i64 i] 29)) W1.heap.size (.int .i64 p) (.int .i64 i) := Two.new _ _ _ _
  have wV := hb.trans (hbV.mono hb.size)
  obtain ⟨r0, r1, r2, r3⟩ := t1
  have T2 := Lib.hid t2
  have U2 := Lib.hid u2
  have WV := Lib.hid wV
  have HB := Lib.hid hb
  clear hb1 b0 T0 hb hbV t2 u2 wV
  by_cases hp : p = 0
  · obtain rfl := hp
    obtain rfl := HPI.out rfl
    by_cases hlong : 1500 < n1
    · have hd : decFault fs l at_ = (2, -4) := by rw [HD.out, if_neg (by simp), if_pos hlong]
      have hlong' : (1500 : Int) < (n1 : Int) := big_cast hlong
      go_wp2_with fail
      refine (at_any _ _ _).mono ?_
      rintro e W3 ⟨rfl, hb3⟩
      have w3 := WV.out.trans (hb3.mono WV.out.size)
      obtain ⟨x1, x2, x3⟩ := dfault_end (p := 2) (i := -4) w3 (T2.out.below hb3) (U2.out.below hb3) hX
      have hz1 := (T2.out.below hb3).lt
      have hz2 := (U2.out.below hb3).lt
      obtain ⟨q0, q1, q2, q3⟩ := U2.out.below hb3
      obtain ⟨y0, y1⟩ := two_set (x := .int .i64 2) (y := .int .i64 (-4)) x2.1 x2.2.1
      have x4 := (x3.setCell (p := ⟨w.heap.size, 0, none⟩) (Nat.le_refl _) (.int .i64 2)).setCell (p := ⟨w.heap.size, 1, none⟩) (Nat.le_refl _) (.int .i64 (-4))
      obtain ⟨m0, m1, m2, m3⟩ := x1
      obtain ⟨k0, k1, k2, k3⟩ := x2
      clear hb3 r0 r1 r2 r3
      go_wp2_with fail
      refine bodyPost_ret (v := faultV (2, -4)) ?_ rfl ⟨by first | rfl | rw [hd], x4⟩
      simp [results, Try.results13, go_sem, y0, y1]
    · have hlong' : ¬ (1500 : Int) < (n1 : Int) := small_cast hlong
      by_cases hr : at_ < 0 ∨ (n1 : Int) ≤ at_
      · have hd : decFault fs l at_ = (3, -5) := by rw [HD.out, if_neg (by simp), if_neg hlong, if_pos hr]
        have I1 := Lib.hid (in_out hr)
        go_wp2_with fail
        refine (in_any _ _ _ _).mono ?_
        rintro e w' ⟨rfl, rfl⟩
        rw [I1.out]
        go_wp2_with fail
        refine (at_any _ _ _).mono ?_
        rintro e W3 ⟨rfl, hb3⟩
        have w3 := WV.out.trans (hb3.mono WV.out.size)
        obtain ⟨x1, x2, x3⟩ := dfault_end (p := 3) (i := -5) w3 (T2.out.below hb3) (U2.out.below hb3) hX
        have hz1 := (T2.out.below hb3).lt
        have hz2 := (U2.out.below hb3).lt
        obtain ⟨q0, q1, q2, q3⟩ := U2.out.below hb3
        obtain ⟨y0, y1⟩ := two_set (x := .int .i64 3) (y := .int .i64 (-5)) x2.1 x2.2.1
        have x4 := (x3.setCell (p := ⟨w.heap.size, 0, none⟩) (Nat.le_refl _) (.int .i64 3)).setCell (p := ⟨w.heap.size, 1, none⟩) (Nat.le_refl _) (.int .i64 (-5))
        obtain ⟨m0, m1, m2, m3⟩ := x1
        obtain ⟨k0, k1, k2, k3⟩ := x2
        clear hb3 r0 r1 r2 r3
        go_wp2_with fail
        refine bodyPost_ret (v := faultV (3, -5)) ?_ rfl ⟨by first | rfl | rw [hd], x4⟩
        simp [results, Try.results13, go_sem, y0, y1]
      · have hd : decFault fs l at_ = (0, 0) := by rw [HD.out, if_neg (by simp), if_neg hlong, if_neg hr]
        obtain ⟨a, rfl⟩ : ∃ a : Nat, at_ = (a : Int) := ⟨at_.toNat, by omega⟩
        have I1 := Lib.hid (in_in (n := n1) (k := a) (by omega))
        go_wp2_with fail
        refine (in_any _ _ _ _).mono ?_
        rintro e w' ⟨rfl, rfl⟩
        rw [I1.out]
        obtain ⟨y0, y1, x4⟩ := dfault_plain (p := 0) (i := 0) (x := 0) (y := 0) (t := 29) HB.out r0 r1
        go_wp2_with fail
        refine bodyPost_ret (v := faultV (0, 0)) ?_ rfl ⟨by first | rfl | rw [hd], x4⟩
        simp [results, Try.results13, go_sem, y0, y1]
  · have hd : decFault fs l at_ = (p, i) := by rw [HD.out, if_pos hp]
    obtain ⟨y0, y1, x4⟩ := dfault_plain (p := p) (i := i) (x := p) (y := i) (t := 29) HB.out r0 r1
    go_wp2_with fail
    refine bodyPost_ret (v := faultV (p, i)) ?_ rfl ⟨by first | rfl | rw [hd], x4⟩
    simp [results, Try.results13, go_sem, y0, y1]
end Go.Proofs.Ytianmiipnlkihaa
