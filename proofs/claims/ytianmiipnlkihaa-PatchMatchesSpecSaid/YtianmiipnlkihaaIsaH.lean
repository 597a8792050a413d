/- Contracts of Size and Find. Conditions: the slices read as forms and as kinds. -/
import Derived.Deep.RegionHeld3
import Derived.Test.YtianmiipnlkihaaIsaG
namespace Go.Proofs.Ytianmiipnlkihaa
open Go Go.RowKit Go.Shelf

theorem scanFault_cases (fs : List Frm) : ∀ r k, scanFault fs r k = (0, 0) ∨ (scanFault fs r k).1 ≠ 0
  | 0, _ => .inl rfl
  | r + 1, k => by
    unfold scanFault
    by_cases h : faultAt fs k = 0
    · rw [if_pos h]; exact scanFault_cases fs r (k + 1)
    · rw [if_neg h]; exact .inr h
theorem tableFault_cases (fs : List Frm) : tableFault fs = (0, 0) ∨ (tableFault fs).1 ≠ 0 := by
  unfold tableFault
  by_cases h : 100 < fs.length
  · rw [if_pos h]; exact .inr (by simp)
  · rw [if_neg h]; exact scanFault_cases fs _ _

/-- block R holds two values in its first cells, neither frozen -/
def Two (W : World) (R : Nat) (x y : Value) : Prop := W.cell? ⟨R, 0, none⟩ = some x ∧ W.cell? ⟨R, 1, none⟩ = some y ∧ W.frozen? ⟨R, 0, none⟩ = false ∧ W.frozen? ⟨R, 1, none⟩ = false
theorem Two.new (w : World) (x y : Value) (t : TypeId) : Two (w.alloc (.cells #[x, y] t)) w.heap.size x y := ⟨by simp, by simp, by simp, by simp⟩
theorem Two.lt {W : World} {R : Nat} {x y : Value} (h : Two W R x y) : R < W.heap.size := block_lt_of_cell h.1
theorem Two.below {W W' : World} {R : Nat} {x y : Value} (h : Two W R x y) (hb : Below W.heap.size W W') : Two W' R x y :=
  ⟨(hb.cell (p := ⟨R, 0, none⟩) h.lt).trans h.1, (hb.cell (p := ⟨R, 1, none⟩) h.lt).trans h.2.1, (hb.frozen (p := ⟨R, 0, none⟩) h.lt).trans h.2.2.1, (hb.frozen (p := ⟨R, 1, none⟩) h.lt).trans h.2.2.2⟩

set_option maxHeartbeats 400000 in
theorem size_bad (B : Nat) (v : Value) (fs : List Frm) (form : Int) (w : World) (h : FormsAt B w v fs) (hB : B ≤ w.heap.size) (hne : (tableFault fs).1 ≠ 0) :
    Calls Try.prog 24 #[v, .int .i64 form] w fun e w' => e = .returned (.tuple #[.int .i64 0, faultV (tableFault fs)]) ∧ Below w.heap.size w w' := by
  have hb0 : Below B w (w.alloc (.cells #[.int .i64 0, .int .i64 0] 29)) := (Below.refl _ _).alloc hB _
  have C := validate_any B v fs _ (h.below hb0) (by simp; omega)
  obtain ⟨A, n, c, rfl, _⟩ := h.opens
  generalize tableFault fs = t at *
  obtain ⟨p, i⟩ := t
  have hp : (p == 0) = false := by simpa using hne
  have C := Lib.hid C
  have hRR : w.heap.size < w.heap.size + 1 := Nat.lt_succ_self _
  have T := Lib.hid (Two.new w (.int .i64 0) (.int .i64 0) 29)
  clear h hne hb0
  go_enter Try.func24, Try.ntmps24
  go_wp2_with (go_at_call 29; refine C.out.mono ?_; rintro e W1 ⟨rfl, hb1⟩; obtain ⟨r4, r5, r6, r7⟩ := T.out.below hb1; have hR1 := (T.out.below hb1).lt)
  obtain ⟨W2, hW2⟩ : ∃ W2, W2 = W1.alloc (.cells #[.int .i64 p, .int .i64 i] 29) := ⟨_, rfl⟩
  have hb2 : Below W1.heap.size W1 W2 := by rw [hW2]; exact (Below.refl _ _).alloc (Nat.le_refl _) _
  have q0 : W2.cell? ⟨W1.heap.size, 0, none⟩ = some (.int .i64 p) := by rw [hW2]; simp
  have q1 : W2.cell? ⟨W1.heap.size, 1, none⟩ = some (.int .i64 i) := by rw [hW2]; simp
  obtain ⟨s4, s5, s6, s7⟩ := (show Two W1 _ _ _ from ⟨r4, r5, r6, r7⟩).below hb2
  rw [← hW2]
  clear hW2 r4 r5 r6 r7
  go_still_tail 2, (by kernel_rfl)
  change wpList _ _ _ _ _ W2.drew
  have hbR : Below w.heap.size w W2 := (((Below.refl _ _).alloc (Nat.le_refl _) _).trans (hb1.mono (by simp))).trans (hb2.mono (Nat.le_of_lt hR1))
  go_wp2
  refine bodyPost_ret (v := .tuple #[.int .i64 0, faultV (p, i)]) ?_ rfl ⟨rfl, ?_⟩
  · simp [results, Try.results24, go_sem, s4, s5]
  · exact ((hbR.setCell (p := ⟨w.heap.size, 0, none⟩) (Nat.le_refl _) _).setCell (p := ⟨w.heap.size, 1, none⟩) (Nat.le_refl _) _).drew

set_option maxHeartbeats 400000 in
theorem size_range (B : Nat) (v : Value) (fs : List Frm) (form : Int) (w : World) (h : FormsAt B w v fs) (hB : B ≤ w.heap.size) (ht : tableFault fs = (0, 0)) (hf : form < 0 ∨ (fs.length : Int) ≤ form) :
    Calls Try.prog 24 #[v, .int .i64 form] w fun e w' => e = .returned (.tuple #[.int .i64 0, faultV (3, -2)]) ∧ Below w.heap.size w w' := by
  have hb0 : Below B w (w.alloc (.cells #[.int .i64 0, .int .i64 0] 29)) := (Below.refl _ _).alloc hB _
  have C := validate_any B v fs _ (h.below hb0) (by simp; omega)
  obtain ⟨A, n, c, rfl, hfs, _⟩ := h.opens
  rw [ht] at C
  have C := Lib.hid C
  rw [hfs.out] at hf
  have T := Lib.hid (Two.new w (.int .i64 0) (.int .i64 0) 29)
  clear h ht hb0
  by_cases h0 : form < 0
  all_goals
    go_enter Try.func24, Try.ntmps24
    go_wp2_with (go_at_call 29; refine C.out.mono ?_; rintro e W1 ⟨rfl, hb1⟩; obtain ⟨r4, r5, r6, r7⟩ := T.out.below hb1; have hR1 := (T.out.below hb1).lt)
    have hbR : Below w.heap.size w W1 := ((Below.refl _ _).alloc (Nat.le_refl _) _).trans (hb1.mono (by simp))
    refine bodyPost_ret (v := .tuple #[.int .i64 0, faultV (3, -2)]) ?_ rfl ⟨rfl, ?_⟩
    · simp [results, Try.results24, go_sem, r4, r5, hR1]
    · exact ((hbR.setCell (p := ⟨w.heap.size, 0, none⟩) (Nat.le_refl _) _).setCell (p := ⟨w.heap.size, 1, none⟩) (Nat.le_refl _) _).alloc (by simp; omega) _

set_option maxHeartbeats 400000 in
theorem size_ok (B : Nat) (v : Value) (fs : List Frm) (k : Nat) (f : Frm) (w : World) (h : FormsAt B w v fs) (hB : B ≤ w.heap.size) (ht : tableFault fs = (0, 0)) (hx : fs[k]? = some f) :
    Calls Try.prog 24 #[v, .int .i64 (k : Int)] w fun e w' => e = .returned (.tuple #[.int .i64 (sizeOf f.kinds : Nat), faultV (0, 0)]) ∧ Below w.heap.size w w' := by
  have hb0 : Below B w (w.alloc (.cells #[.int .i64 0, .int .i64 0] 29)) := (Below.refl _ _).alloc hB _
  have C := validate_any B v fs _ (h.below hb0) (by simp; omega)
  rw [ht] at C
  have C := Lib.hid C
  obtain ⟨A, n, c, rfl, hfs, ⟨hn, hnc⟩, hk, hc⟩ := h.opens
  have hlt : k < n := by rw [← hfs.out]; exact (List.getElem?_eq_some_iff.1 hx).1
  obtain ⟨b1, o1, rfl, hb1', g1⟩ := hc (by omega)
  have hkf := (hk f (List.mem_of_getElem? hx)).1
  have Hg := Lib.hid (g1 k f hx)
  have Hk := Lib.hid hkf
  have T := Lib.hid (Two.new w (.int .i64 0) (.int .i64 0) 29)
  clear h ht hx hk hc g1 hkf
  have Hb0 := Lib.hid hb0
  clear hb0
  go_enter Try.func24, Try.ntmps24
  go_wp2_with (go_at_call 29; refine C.out.mono ?_; rintro e W1 ⟨rfl, hb1⟩; obtain ⟨r4, r5, r6, r7⟩ := T.out.below hb1; have hR1 := (T.out.below hb1).lt; have hc3 : W1.cell? ⟨b1, o1 + k * 3 + 2, none⟩ = some f.kv := ((hb1.mono (by simp; omega)).cell (B := B) (p := ⟨b1, o1 + k * 3 + 2, none⟩) hb1').trans ((Hb0.out.cell (p := ⟨b1, o1 + k * 3 + 2, none⟩) hb1').trans Hg.out.2.2); have hbW : b1 < W1.heap.size := by omega)
  have hk2 : KindsAt B (W1.alloc (.cells #[.int .i64 0, .int .i64 0] 29)) f.kv f.kinds := ((Hk.out.below Hb0.out).below (hb1.mono (by simp; omega))).below ((Below.refl _ _).alloc (by omega) _)
  refine (size_any B f.kv f.kinds _ hk2).mono ?_
  rintro e W2 ⟨rfl, rfl⟩
  go_wp2
  have hbR : Below w.heap.size w W1 := ((Below.refl _ _).alloc (Nat.le_refl _) _).trans (hb1.mono (by simp))
  refine bodyPost_ret (v := .tuple #[.int .i64 (sizeOf f.kinds : Nat), faultV (0, 0)]) ?_ rfl ⟨rfl, ?_⟩
  · simp [results, Try.results24, go_sem, r4, r5, hR1]
  · exact ((hbR.setCell (p := ⟨w.heap.size, 0, none⟩) (Nat.le_refl _) _).setCell (p := ⟨w.heap.size, 1, none⟩) (Nat.le_refl _) _).alloc (by simp; omega) _

end Go.Proofs.Ytianmiipnlkihaa
