/- Contract of All where it stops before the code is read: a table that is not valid, code that is too long. Conditions: the table reads as forms, the code as bytes. -/
import Derived.RangeFuncBox
import Derived.Test.YtcngpciblbdgbaaGreatDoorDisE
namespace Go.Proofs.YtcngpciblbdgbaaGreatDoor
open Go Go.RowKit Go.Shelf
/-- the world behind the result's two boxes -/
def allW (w : World) : World := (w.alloc (.cells #[.slice none 0 0] 25)).alloc (.cells #[.int .i64 0, .int .i64 0] 27)
theorem allW_below (w : World) : Below w.heap.size w (allW w) := two_more w _ _
theorem allW_list (w : World) : Boxed (allW w) w.heap.size 25 (.slice none 0 0) := (Boxed.new w _ _).alloc _
theorem allW_fault (w : World) : Two (allW w) (w.heap.size + 1) (.int .i64 0) (.int .i64 0) := by
  have t := Two.new (w.alloc (.cells #[.slice none 0 0] 25)) (.int .i64 0) (.int .i64 0) 27
  rwa [World.size_alloc] at t
theorem boxed_below {W W' : World} {b : Nat} {t : TypeId} {v : Value} (h : Boxed W b t v) (hb : Below W.heap.size W W') : Boxed W' b t v := (hb.block b h.lt).trans h
set_option maxRecDepth 100000 in
set_option maxHeartbeats 1000000 in
theorem all_table (B : Nat) (v cv : Value) (fs : List Frm) (w : World) (h : FormsAt B w v fs) (hB : B ≤ w.heap.size) (p i : Int) (ht : tableFault fs = (p, i)) (hp : p ≠ 0) :
    Calls Tryz.prog 9 #[v, cv] w fun e w' => e = .returned (.tuple #[.slice none 0 0, faultV (p, i)]) ∧ Below w.heap.size w w' := by
  have HBX := Lib.hid (allW_below w)
  have HT1 := Lib.hid (allW_list w)
  have HT2 := Lib.hid (allW_fault w)
  have C := validate_any B v fs (allW w) (h.below (HBX.out.mono hB)) (Nat.le_trans hB HBX.out.size)
  rw [ht] at C
  have HC := Lib.hid C
  have hpz : (p == 0) = false := by simpa using hp
  have hpn : (p != 0) = true := by simpa using hp
  clear C h ht
  go_enter Tryz.func9, Tryz.ntmps9
  go_wp2_with fail
  refine HC.out.mono ?_
  rintro e W1 ⟨rfl, hb1⟩
  have a3 := one_more W1 (.cells #[.int .i64 p, .int .i64 i] 27)
  have g := hb1.trans (a3.mono hb1.size)
  have q1 := boxed_below HT1.out g
  have q2 := HT2.out.below g
  have u := Two.new W1 (.int .i64 p) (.int .i64 i) 27
  have hz1 := q1.lt
  have hz2 := q2.lt
  have hz3 := u.lt
  have HFN := Lib.hid (HBX.out.trans (g.mono HBX.out.size))
  have hx : w.heap.size + 1 < W1.heap.size := (HT2.out.below hb1).lt
  have n1 : ¬ w.heap.size = W1.heap.size := by omega
  have n2 : ¬ W1.heap.size = w.heap.size := by omega
  have n3 : ¬ w.heap.size + 1 = W1.heap.size := by omega
  have n4 : ¬ W1.heap.size = w.heap.size + 1 := by omega
  have q0 := q1.cell
  have q3 := q1.frozen
  obtain ⟨t0, t1, t2, t3⟩ := q2
  obtain ⟨u0, u1, u2, u3⟩ := u
  clear a3 g hb1 hx q1
  go_wp2_with fail
  obtain ⟨W2, hW2⟩ : ∃ W2, W2 = W1.alloc (.cells #[.int .i64 p, .int .i64 i] 27) := ⟨_, rfl⟩
  rw [← hW2] at q0 q3 t0 t1 t2 t3 u0 u1 u2 u3 hz1 hz2 hz3 HFN ⊢
  clear hW2
  go_region
  all_goals go_wp2
  all_goals
    refine bodyPost_ret (v := .tuple #[.slice none 0 0, faultV (p, i)]) ?_ rfl ⟨rfl, ?_⟩
  · simp [results, Tryz.results9, go_sem, q0, t0, t1]
  · exact ((((HFN.out.setCell (p := ⟨w.heap.size, 0, none⟩) (Nat.le_refl _) _)).setCell (p := ⟨w.heap.size + 1, 0, none⟩) (Nat.le_succ _) _).setCell (p := ⟨w.heap.size + 1, 1, none⟩) (Nat.le_succ _) _).drew
set_option maxRecDepth 100000 in
set_option maxHeartbeats 1000000 in
theorem all_long (B : Nat) (v cv : Value) (fs : List Frm) (l : List UInt8) (w : World) (h : FormsAt B w v fs) (hl : BytesAt B w cv l) (hB : B ≤ w.heap.size) (ht : tableFault fs = (0, 0)) (h15 : 1500 < l.length) :
    Calls Tryz.prog 9 #[v, cv] w fun e w' => e = .returned (.tuple #[.slice none 0 0, faultV (2, -4)]) ∧ Below w.heap.size w w' := by
  obtain ⟨A2, n2, c2, rfl, hl2, -, -⟩ := hl.opens
  have HBX := Lib.hid (allW_below w)
  have HT1 := Lib.hid (allW_list w)
  have HT2 := Lib.hid (allW_fault w)
  have C := validate_any B v fs (allW w) (h.below (HBX.out.mono hB)) (Nat.le_trans hB HBX.out.size)
  rw [ht] at C
  have HC := Lib.hid C
  rw [hl2.out] at h15
  have hd : decide ((1500 : Int) < (n2 : Int)) = true := decide_eq_true (by omega)
  clear C h hl ht h15
  go_enter Tryz.func9, Tryz.ntmps9
  go_wp2_with fail
  refine HC.out.mono ?_
  rintro e W1 ⟨rfl, hb1⟩
  have a3 := one_more W1 (.cells #[.int .i64 0, .int .i64 0] 27)
  have g := hb1.trans (a3.mono hb1.size)
  have q1 := boxed_below HT1.out g
  have q2 := HT2.out.below g
  have u := Two.new W1 (.int .i64 0) (.int .i64 0) 27
  have hz1 := q1.lt
  have hz2 := q2.lt
  have hz3 := u.lt
  have HFN := Lib.hid (HBX.out.trans (g.mono HBX.out.size))
  have q0 := q1.cell
  have q3 := q1.frozen
  obtain ⟨t0, t1, t2, t3⟩ := q2
  obtain ⟨u0, u1, u2, u3⟩ := u
  clear a3 g hb1 q1
  go_wp2_with fail
  obtain ⟨W2, hW2⟩ : ∃ W2, W2 = W1.alloc (.cells #[.int .i64 0, .int .i64 0] 27) := ⟨_, rfl⟩
  rw [← hW2] at q0 q3 t0 t1 t2 t3 u0 u1 u2 u3 hz1 hz2 hz3 HFN ⊢
  clear hW2
  refine bodyPost_ret (v := .tuple #[.slice none 0 0, faultV (2, -4)]) ?_ rfl ⟨rfl, ?_⟩
  · simp [results, Tryz.results9, go_sem, q0, t0, t1]
  · exact ((HFN.out.setCell (p := ⟨w.heap.size, 0, none⟩) (Nat.le_refl _) _).setCell (p := ⟨w.heap.size + 1, 0, none⟩) (Nat.le_succ _) _).setCell (p := ⟨w.heap.size + 1, 1, none⟩) (Nat.le_succ _) _
end Go.Proofs.YtcngpciblbdgbaaGreatDoor
