/- Contracts of Size and Find. Conditions: the slices read as forms and as kinds. -/
import Derived.Deep.RegionHeld3
import Derived.Test.YtcngpciblbdgbaaGreatDoorIsaG
namespace Go.Proofs.YtcngpciblbdgbaaGreatDoor
open Go Go.RowKit Go.Shelf

theorem scanFault_cases (fs : List Frm) : ∀ r k, scanFault fs r k = (0, 0) ∨ (scanFault fs r k).1 ≠ 0
  | 0, _ => .inl rfl
  | r + 1, k => by
    unfold scanFault
    by_cases h : faultAt fs k = 0
    · rw [if_pos h]; exact scanFault_cases fs r (k + 1)
    · rw [if_neg h]; exact .inr h
theorem tableFault_cases (fs : List Frm) : tableFault fs = (0, 0) ∨ (tableFault fs).1 ≠ 0 := by
  unfold tableFault
  by_cases h : 100 < fs.length
  · rw [if_pos h]; exact .inr (by simp)
  · rw [if_neg h]; exact scanFault_cases fs _ _

/-- block R holds two values in its first cells, neither frozen -/
def Two (W : World) (R : Nat) (x y : Value) : Prop := W.cell? ⟨R, 0, none⟩ = some x ∧ W.cell? ⟨R, 1, none⟩ = some y ∧ W.frozen? ⟨R, 0, none⟩ = false ∧ W.frozen? ⟨R, 1, none⟩ = false
theorem Two.new (w : World) (x y : Value) (t : TypeId) : Two (w.alloc (.cells #[x, y] t)) w.heap.size x y := ⟨by simp, by simp, by simp, by simp⟩
theorem Two.lt {W : World} {R : Nat} {x y : Value} (h : Two W R x y) : R < W.heap.size := block_lt_of_cell h.1
theorem Two.below {W W' : World} {R : Nat} {x y : Value} (h : Two W R x y) (hb : Below W.heap.size W W') : Two W' R x y :=
  ⟨(hb.cell (p := ⟨R, 0, none⟩) h.lt).trans h.1, (hb.cell (p := ⟨R, 1, none⟩) h.lt).trans h.2.1, (hb.frozen (p := ⟨R, 0, none⟩) h.lt).trans h.2.2.1, (hb.frozen (p := ⟨R, 1, none⟩) h.lt).trans h.2.2.2⟩

set_option maxRecDepth 100000 in
set_option maxHeartbeats 400000 in
theorem size_bad (B : Nat) (v : Value) (fs : List Frm) (form : Int) (w : World) (h : FormsAt B w v fs) (hB : B ≤ w.heap.size) (hne : (tableFault fs).1 ≠ 0) :
    Calls Tryz.prog 34 #[v, .int .i64 form] w fun e w' => e = .returned (.tuple #[.int .i64 0, faultV (tableFault fs)]) ∧ Below w.heap.size w w' := by
  have hb0 : Below B w (w.alloc (.cells #[.int .i64 0, .int .i64 0] 27)) := (Below.refl _ _).alloc hB _
  have C := validate_any B v fs _ (h.below hb0) (by simp; omega)
  obtain ⟨A, n, c, rfl, _⟩ := h.opens
  generalize tableFault fs = t at *
  obtain ⟨p, i⟩ := t
  have hp : (p == 0) = false := by simpa using hne
  have C := Lib.hid C
  have hRR : w.heap.size < w.heap.size + 1 := Nat.lt_succ_self _
  have T := Lib.hid (Two.new w (.int .i64 0) (.int .i64 0) 27)
  clear h hne hb0
  go_enter Tryz.func34, Tryz.ntmps34
  go_wp2_with (go_at_call 23; refine C.out.mono ?_; rintro e W1 ⟨rfl, hb1⟩; obtain ⟨r4, r5, r6, r7⟩ := T.out.below hb1; have hR1 := (T.out.below hb1).lt)
  obtain ⟨W2, hW2⟩ : ∃ W2, W2 = W1.alloc (.cells #[.int .i64 p, .int .i64 i] 27) := ⟨_, rfl⟩
  have hb2 : Below W1.heap.size W1 W2 := by rw [hW2]; exact (Below.refl _ _).alloc (Nat.le_refl _) _
  have q0 : W2.cell? ⟨W1.heap.size, 0, none⟩ = some (.int .i64 p) := by rw [hW2]; simp
  have q1 : W2.cell? ⟨W1.heap.size, 1, none⟩ = some (.int .i64 i) := by rw [hW2]; simp
  obtain ⟨s4, s5, s6, s7⟩ := (show Two W1 _ _ _ from ⟨r4, r5, r6, r7⟩).below hb2
  rw [← hW2]
  clear hW2 r4 r5 r6 r7
  go_still_tail 2, (by kernel_rfl)
  change wpList _ _ _ _ _ W2.drew
  have hbR : Below w.heap.size w W2 := (((Below.refl _ _).alloc (Nat.le_refl _) _).trans (hb1.mono (by simp))).trans (hb2.mono (Nat.le_of_lt hR1))
  go_wp2
  refine bodyPost_ret (v := .tuple #[.int .i64 0, faultV (p, i)]) ?_ rfl ⟨rfl, ?_⟩
  · simp [results, Tryz.results34, go_sem, s4, s5]
  · exact ((hbR.setCell (p := ⟨w.heap.size, 0, none⟩) (Nat.le_refl _) _).setCell (p := ⟨w.heap.size, 1, none⟩) (Nat.le_refl _) _).drew

set_option maxHeartbeats 400000 in
theorem size_range (B : Nat) (v : Value) (fs : List Frm) (form : Int) (w : World) (h : FormsAt B w v fs) (hB : B ≤ w.heap.size) (ht : tableFault fs = (0, 0)) (hf : form < 0 ∨ (fs.length : Int) ≤ form) :
    Calls Tryz.prog 34 #[v, .int .i64 form] w fun e w' => e = .returned (.tuple #[.int .i64 0, faultV (3, -2)]) ∧ Below w.heap.size w w' := by
  have hb0 : Below B w (w.alloc (.cells #[.int .i64 0, .int .i64 0] 27)) := (Below.refl _ _).alloc hB _
  have C := validate_any B v fs _ (h.below hb0) (by simp; omega)
  obtain ⟨A, n, c, rfl, hfs, _⟩ := h.opens
  rw [ht] at C
  have C := Lib.hid C
  rw [hfs.out] at hf
  have T := Lib.hid (Two.new w (.int .i64 0) (.int .i64 0) 27)
  clear h ht hb0
  by_cases h0 : form < 0
  all_goals
    go_enter Tryz.func34, Tryz.ntmps34
    go_wp2_with (go_at_call 23; refine C.out.mono ?_; rintro e W1 ⟨rfl, hb1⟩; obtain ⟨r4, r5, r6, r7⟩ := T.out.below hb1; have hR1 := (T.out.below hb1).lt)
    have hbR : Below w.heap.size w W1 := ((Below.refl _ _).alloc (Nat.le_refl _) _).trans (hb1.mono (by simp))
    refine bodyPost_ret (v := .tuple #[.int .i64 0, faultV (3, -2)]) ?_ rfl ⟨rfl, ?_⟩
    · simp [results, Tryz.results34, go_sem, r4, r5, hR1]
    · exact ((hbR.setCell (p := ⟨w.heap.size, 0, none⟩) (Nat.le_refl _) _).setCell (p := ⟨w.heap.size, 1, none⟩) (Nat.le_refl _) _).alloc (by simp; omega) _

set_option maxHeartbeats 400000 in
theorem size_ok (B : Nat) (v : Value) (fs : List Frm) (k : Nat) (f : Frm) (w : World) (h : FormsAt B w v fs) (hB : B ≤ w.heap.size) (ht : tableFault fs = (0, 0)) (hx : fs[k]? = some f) :
    Calls Tryz.prog 34 #[v, .int .i64 (k : Int)] w fun e w' => e = .returned (.tuple #[.int .i64 (sizeOf f.kinds : Nat), faultV (0, 0)]) ∧ Below w.heap.size w w' := by
  have hb0 : Below B w (w.alloc (.cells #[.int .i64 0, .int .i64 0] 27)) := (Below.refl _ _).alloc hB _
  have C := validate_any B v fs _ (h.below hb0) (by simp; omega)
  rw [ht] at C
  have C := Lib.hid C
  obtain ⟨A, n, c, rfl, hfs, ⟨hn, hnc⟩, hk, hc⟩ := h.opens
  have hlt : k < n := by rw [← hfs.out]; exact (List.getElem?_eq_some_iff.1 hx).1
  obtain ⟨b1, o1, rfl, hb1', g1⟩ := hc (by omega)
  have hkf := (hk f (List.mem_of_getElem? hx)).1
  have Hg := Lib.hid (g1 k f hx)
  have Hk := Lib.hid hkf
  have T := Lib.hid (Two.new w (.int .i64 0) (.int .i64 0) 27)
  clear h ht hx hk hc g1 hkf
  have Hb0 := Lib.hid hb0
  clear hb0
  go_enter Tryz.func34, Tryz.ntmps34
  go_wp2_with (go_at_call 23; refine C.out.mono ?_; rintro e W1 ⟨rfl, hb1⟩; obtain ⟨r4, r5, r6, r7⟩ := T.out.below hb1; have hR1 := (T.out.below hb1).lt; have hc3 : W1.cell? ⟨b1, o1 + k * 3 + 2, none⟩ = some f.kv := ((hb1.mono (by simp; omega)).cell (B := B) (p := ⟨b1, o1 + k * 3 + 2, none⟩) hb1').trans ((Hb0.out.cell (p := ⟨b1, o1 + k * 3 + 2, none⟩) hb1').trans Hg.out.2.2); have hbW : b1 < W1.heap.size := by omega)
  have hk2 : KindsAt B (W1.alloc (.cells #[.int .i64 0, .int .i64 0] 27)) f.kv f.kinds := ((Hk.out.below Hb0.out).below (hb1.mono (by simp; omega))).below ((Below.refl _ _).alloc (by omega) _)
  refine (size_any B f.kv f.kinds _ hk2).mono ?_
  rintro e W2 ⟨rfl, rfl⟩
  go_wp2
  have hbR : Below w.heap.size w W1 := ((Below.refl _ _).alloc (Nat.le_refl _) _).trans (hb1.mono (by simp))
  refine bodyPost_ret (v := .tuple #[.int .i64 (sizeOf f.kinds : Nat), faultV (0, 0)]) ?_ rfl ⟨rfl, ?_⟩
  · simp [results, Tryz.results34, go_sem, r4, r5, hR1]
  · exact ((hbR.setCell (p := ⟨w.heap.size, 0, none⟩) (Nat.le_refl _) _).setCell (p := ⟨w.heap.size, 1, none⟩) (Nat.le_refl _) _).alloc (by simp; omega) _

/-! ## Find -/
/-- Find's world when it has boxed its parameters and laid its result -/
def findW (w : World) (nm : ByteArray) (kv : Value) : World := ((w.alloc (.cells #[.string nm] 9)).alloc (.cells #[kv] 32)).alloc (.cells #[.int .i64 0, .int .i64 0] 27)
theorem findW_below (w : World) (nm : ByteArray) (kv : Value) : Below w.heap.size w (findW w nm kv) := (((Below.refl _ _).alloc (Nat.le_refl _) _).alloc (by simp) _).alloc (by simp; omega) _
theorem findW_two (w : World) (nm : ByteArray) (kv : Value) : Two (findW w nm kv) (w.heap.size + 1 + 1) (.int .i64 0) (.int .i64 0) := by
  have := Two.new ((w.alloc (.cells #[.string nm] 9)).alloc (.cells #[kv] 32)) (.int .i64 0) (.int .i64 0) 27
  unfold findW
  simpa only [World.size_alloc] using this
theorem findW_c1 (w : World) (nm : ByteArray) (kv : Value) : (findW w nm kv).cell? ⟨w.heap.size, 0, none⟩ = some (.string nm) := cell_alloc_l _ (cell_alloc_l _ (by simp))
theorem findW_c2 (w : World) (nm : ByteArray) (kv : Value) : (findW w nm kv).cell? ⟨w.heap.size + 1, 0, none⟩ = some kv := by
  refine cell_alloc_l _ ?_
  simp

set_option maxRecDepth 100000 in
set_option maxHeartbeats 400000 in
theorem find_bad (B : Nat) (v : Value) (fs : List Frm) (nm : ByteArray) (kv : Value) (ks : List Int) (w : World) (h : FormsAt B w v fs) (hk : KindsAt B w kv ks) (hB : B ≤ w.heap.size) (hne : (tableFault fs).1 ≠ 0) :
    Calls Tryz.prog 46 #[v, .string nm, kv] w fun e w' => e = .returned (.tuple #[.int .i64 0, faultV (tableFault fs)]) ∧ Below w.heap.size w w' := by
  have hbw := findW_below w nm kv
  have C := validate_any B v fs (findW w nm kv) (h.below (hbw.mono hB)) (Nat.le_trans hB hbw.size)
  obtain ⟨A, n, c, rfl, _⟩ := h.opens
  obtain ⟨A', n', c', rfl, _⟩ := hk.opens
  generalize tableFault fs = t at *
  obtain ⟨p, i⟩ := t
  have hp : (p == 0) = false := by simpa using hne
  have C := Lib.hid C
  have T := Lib.hid (findW_two w nm (.slice A' n' c'))
  clear h hne hk
  go_enter Tryz.func46, Tryz.ntmps46
  go_wp2_with (go_at_call 23; refine C.out.mono ?_; rintro e W1 ⟨rfl, hb1⟩; obtain ⟨r4, r5, r6, r7⟩ := T.out.below hb1; have hR1 := (T.out.below hb1).lt)
  obtain ⟨W2, hW2⟩ : ∃ W2, W2 = W1.alloc (.cells #[.int .i64 p, .int .i64 i] 27) := ⟨_, rfl⟩
  have hb2 : Below W1.heap.size W1 W2 := by rw [hW2]; exact (Below.refl _ _).alloc (Nat.le_refl _) _
  have q0 : W2.cell? ⟨W1.heap.size, 0, none⟩ = some (.int .i64 p) := by rw [hW2]; simp
  have q1 : W2.cell? ⟨W1.heap.size, 1, none⟩ = some (.int .i64 i) := by rw [hW2]; simp
  obtain ⟨s4, s5, s6, s7⟩ := (show Two W1 _ _ _ from ⟨r4, r5, r6, r7⟩).below hb2
  have hbR : Below w.heap.size w W2 := (hbw.trans (hb1.mono hbw.size)).trans (hb2.mono (by omega))
  rw [← hW2]
  clear hW2 r4 r5 r6 r7 hbw
  go_still_tail 2, (by kernel_rfl)
  change wpList _ _ _ _ _ W2.drew
  go_wp2
  refine bodyPost_ret (v := .tuple #[.int .i64 0, faultV (p, i)]) ?_ rfl ⟨rfl, ?_⟩
  · simp [results, Tryz.results46, go_sem, s4, s5]
  · exact ((hbR.setCell (p := ⟨w.heap.size + 1 + 1, 0, none⟩) (by show w.heap.size ≤ w.heap.size + 1 + 1; omega) _).setCell (p := ⟨w.heap.size + 1 + 1, 1, none⟩) (by show w.heap.size ≤ w.heap.size + 1 + 1; omega) _).drew

set_option maxHeartbeats 800000 in
theorem find_good (B : Nat) (v : Value) (fs : List Frm) (nm : ByteArray) (kv : Value) (ks : List Int) (w : World) (h : FormsAt B w v fs) (hk : KindsAt B w kv ks) (hB : B ≤ w.heap.size) (ht : tableFault fs = (0, 0)) :
    Calls Tryz.prog 46 #[v, .string nm, kv] w fun e w' =>
      e = .returned (if idxOf (hasB nm ks) fs < 0 then .tuple #[.int .i64 0, faultV (6, -2)] else .tuple #[.int .i64 (idxOf (hasB nm ks) fs), faultV (0, 0)]) ∧ Below w.heap.size w w' := by
  have hbw := findW_below w nm kv
  have hB1 := Nat.le_trans hB hbw.size
  have hf1 := h.below (hbw.mono hB)
  have hk1 := hk.below (hbw.mono hB)
  have C := validate_any B v fs (findW w nm kv) hf1 hB1
  rw [ht] at C
  have C := Lib.hid C
  have c1 := findW_c1 w nm kv
  have c2 := findW_c2 w nm kv
  -- what the second call gives, in the world behind the first
  have D : ∀ W1, Below (findW w nm kv).heap.size (findW w nm kv) W1 → Calls Tryz.prog 60 #[v, .func (.func 68) #[] #[.pointer (some ⟨w.heap.size, 0, none⟩), .pointer (some ⟨w.heap.size + 1, 0, none⟩)]] (W1.alloc (.cells #[.int .i64 0, .int .i64 0] 27))
      fun e w' => e = .returned (.int .i64 (idxOf (hasB nm ks) fs)) ∧ Below (W1.alloc (.cells #[.int .i64 0, .int .i64 0] 27)).heap.size (W1.alloc (.cells #[.int .i64 0, .int .i64 0] 27)) w' := fun W1 hb1 => by
    have hb2 : Below (findW w nm kv).heap.size (findW w nm kv) (W1.alloc (.cells #[.int .i64 0, .int .i64 0] 27)) := hb1.alloc hb1.size _
    refine index_forms B 68 _ (hasB nm ks) v fs _ (hf1.below (hb2.mono hB1)) (Nat.le_trans hB1 hb2.size) (fun W' g hg hW' => ?_) (enters_of Tryz.func68 (by kernel_rfl) rfl)
    have hb3 := hb2.trans (hW'.mono hb2.size)
    exact has_any B w.heap.size (w.heap.size + 1) nm kv ks g W' (hk1.below (hb3.mono hB1)) ((hf1.below (hb3.mono hB1)).kinds hg) (Nat.le_trans hB1 hb3.size) ((hb3.cell (p := ⟨w.heap.size, 0, none⟩) (block_lt_of_cell c1)).trans c1) ((hb3.cell (p := ⟨w.heap.size + 1, 0, none⟩) (block_lt_of_cell c2)).trans c2)
  have HD := Lib.hid D
  obtain ⟨A, n, c, rfl, _⟩ := h.opens
  obtain ⟨A', n', c', rfl, _⟩ := hk.opens
  have T := Lib.hid (findW_two w nm (.slice A' n' c'))
  have Hbw := Lib.hid hbw
  generalize idxOf (hasB nm ks) fs = j at *
  clear h ht hk hf1 hk1 D c1 c2 hbw hB1
  by_cases hj : j < 0
  · rw [if_pos hj]
    go_enter Tryz.func46, Tryz.ntmps46
    go_wp2_with (go_at_call 23; refine C.out.mono ?_; rintro e W1 ⟨rfl, hb1⟩)
    have hT1 := T.out.below hb1
    have hbW1 := Hbw.out.trans (hb1.mono Hbw.out.size)
    have hb2 : Below W1.heap.size W1 (W1.alloc (.cells #[.int .i64 0, .int .i64 0] 27)) := (Below.refl _ _).alloc (Nat.le_refl _) _
    refine (HD.out W1 hb1).mono ?_
    rintro e W3 ⟨rfl, hb3⟩
    have hT3 := (hT1.below hb2).below hb3
    have hbR : Below w.heap.size w W3 := (hbW1.trans (hb2.mono hbW1.size)).trans (hb3.mono (Nat.le_trans hbW1.size hb2.size))
    have hR3 := hT3.lt
    obtain ⟨s4, s5, s6, s7⟩ := hT3
    go_wp2
    refine bodyPost_ret (v := .tuple #[.int .i64 0, faultV (6, -2)]) ?_ rfl ⟨rfl, ?_⟩
    · simp [results, Tryz.results46, go_sem, s4, s5]
    · exact ((hbR.setCell (p := ⟨w.heap.size + 1 + 1, 0, none⟩) (by show w.heap.size ≤ w.heap.size + 1 + 1; omega) _).setCell (p := ⟨w.heap.size + 1 + 1, 1, none⟩) (by show w.heap.size ≤ w.heap.size + 1 + 1; omega) _)
  · rw [if_neg hj]
    go_enter Tryz.func46, Tryz.ntmps46
    go_wp2_with (go_at_call 23; refine C.out.mono ?_; rintro e W1 ⟨rfl, hb1⟩)
    have hT1 := T.out.below hb1
    have hbW1 := Hbw.out.trans (hb1.mono Hbw.out.size)
    have hb2 : Below W1.heap.size W1 (W1.alloc (.cells #[.int .i64 0, .int .i64 0] 27)) := (Below.refl _ _).alloc (Nat.le_refl _) _
    refine (HD.out W1 hb1).mono ?_
    rintro e W3 ⟨rfl, hb3⟩
    have hT3 := (hT1.below hb2).below hb3
    have hbR : Below w.heap.size w W3 := (hbW1.trans (hb2.mono hbW1.size)).trans (hb3.mono (Nat.le_trans hbW1.size hb2.size))
    have hR3 := hT3.lt
    obtain ⟨s4, s5, s6, s7⟩ := hT3
    go_wp2
    refine bodyPost_ret (v := .tuple #[.int .i64 j, faultV (0, 0)]) ?_ rfl ⟨rfl, ?_⟩
    · simp [results, Tryz.results46, go_sem, s4, s5]
    · exact ((hbR.setCell (p := ⟨w.heap.size + 1 + 1, 0, none⟩) (by show w.heap.size ≤ w.heap.size + 1 + 1; omega) _).setCell (p := ⟨w.heap.size + 1 + 1, 1, none⟩) (by show w.heap.size ≤ w.heap.size + 1 + 1; omega) _)
end Go.Proofs.YtcngpciblbdgbaaGreatDoor
