/- decoding, Get and GetText. Conditions: the readings. -/
import Derived.Test.YtldepghojmkohaaCodL
import Derived.Test.YtldepghojmkohaaCodM
namespace Go.Proofs.Ytldepghojmkohaa.Cod
open Go Go.RowKit Go.Lib

theorem fault_cells {w W : World} {X : Nat} {o : Obj} (ho : o = .cells #[.int .i64 0, .int .i64 0] 27) (hX : X < w.heap.size) (hb : But (w.alloc o).heap.size X (w.alloc o) W) :
    W.cell? ⟨w.heap.size, 0, none⟩ = some (.int .i64 0) ∧ W.cell? ⟨w.heap.size, 1, none⟩ = some (.int .i64 0) ∧ W.frozen? ⟨w.heap.size, 0, none⟩ = false ∧ W.frozen? ⟨w.heap.size, 1, none⟩ = false ∧ w.heap.size < W.heap.size := by
  subst ho
  have hfc : W.heap[w.heap.size]? = some (.cells #[.int .i64 0, .int .i64 0] 27 (0, 0)) := (hb.block w.heap.size (by simp) (by omega)).trans (heap_alloc_new w _)
  exact ⟨by simp [World.cell?, hfc], by simp [World.cell?, hfc], by simp [World.frozen?, hfc], by simp [World.frozen?, hfc], lt_of_block hfc⟩
theorem but_alloc {w W : World} {X : Nat} {o : Obj} (hb : But (w.alloc o).heap.size X (w.alloc o) W) (u0 u1 : Value) : But w.heap.size X w ((W.setCell ⟨w.heap.size, 0, none⟩ u0).setCell ⟨w.heap.size, 1, none⟩ u1) :=
  (((But.of_below (lit_below w o)).trans (hb.mono (by simp))).setCell (Nat.le_refl _) 0 u0).setCell (Nat.le_refl _) 1 u1
/-- the world behind Get's two boxes -/
def getW (w : World) (v : Value) : World := (w.alloc (.cells #[.int .i64 0, .int .i64 0] 27)).alloc (.cells #[v] 57)
theorem getW_below {w : World} {v : Value} : Below w.heap.size w (getW w v) := (lit_below w _).trans ((lit_below _ _).mono (by simp))
theorem getW_new {w : World} {v : Value} : (getW w v).heap[w.heap.size + 1]? = some (.cells #[v] 57 (0, 0)) := by
  unfold getW
  rw [← World.size_alloc w (.cells #[.int .i64 0, .int .i64 0] 27)]
  exact heap_alloc_new _ _
theorem getW_size {w : World} {v : Value} : (getW w v).heap.size = w.heap.size + 1 + 1 := by simp [getW]
theorem get_cells {w W : World} {v : Value} (hb : But (getW w v).heap.size (w.heap.size + 1) (getW w v) W) : W.cell? ⟨w.heap.size, 0, none⟩ = some (.int .i64 0) ∧ W.cell? ⟨w.heap.size, 1, none⟩ = some (.int .i64 0) ∧ W.frozen? ⟨w.heap.size, 0, none⟩ = false ∧ W.frozen? ⟨w.heap.size, 1, none⟩ = false ∧ w.heap.size < W.heap.size := by
  have hfc : W.heap[w.heap.size]? = some (.cells #[.int .i64 0, .int .i64 0] 27 (0, 0)) := (hb.block w.heap.size (by rw [getW_size]; omega) (by omega)).trans ((Below.heap_alloc _ _ _ (by simp)).trans (heap_alloc_new w _))
  exact ⟨by simp [World.cell?, hfc], by simp [World.cell?, hfc], by simp [World.frozen?, hfc], by simp [World.frozen?, hfc], lt_of_block hfc⟩
theorem get_end {w W : World} {v : Value} (hb : But (getW w v).heap.size (w.heap.size + 1) (getW w v) W) (u0 u1 : Value) : Below w.heap.size w ((W.setCell ⟨w.heap.size, 0, none⟩ u0).setCell ⟨w.heap.size, 1, none⟩ u1) := by
  rw [getW_size] at hb
  exact ((getW_below.trans (hb.below (by omega) (by omega))).setCell (Nat.le_refl _) u0).setCell (Nat.le_refl _) u1

/-- what the decoding of a list answers -/
def DecI (l : List UInt8) (e : Ending) (N : Nat) (w' : World) : Prop :=
  (200000 < l.length ∧ e = .returned (.tuple #[.slice none 0 0, .agg #[.int .i64 2, .int .i64 (-1)]])) ∨
  (l.length ≤ 200000 ∧ (¬ ∃ xs, (∀ x ∈ xs, I64 x) ∧ l = numsL xs) ∧ e = .returned (.tuple #[.slice none 0 0, .agg #[.int .i64 17, .int .i64 (-2)]])) ∨
  (l.length ≤ 200000 ∧ ∃ xs v', (∀ x ∈ xs, I64 x) ∧ l = numsL xs ∧ e = .returned (.tuple #[v', .agg #[.int .i64 0, .int .i64 0]]) ∧ w'.ownsRow N 3 1 v' xs.length (iv xs))
theorem DecI.sets {l : List UInt8} {e : Ending} {N k : Nat} {w' : World} (h : DecI l e N w') (N' : Nat) (hN : N' ≤ N) (hk : k < N) (u0 u1 : Value) : DecI l e N' ((w'.setCell ⟨k, 0, none⟩ u0).setCell ⟨k, 1, none⟩ u1) := by
  rcases h with h | h | ⟨h0, xs, v, h1, h2, h3, h4⟩
  · exact .inl h
  · exact .inr (.inl h)
  · exact .inr (.inr ⟨h0, xs, v, h1, h2, h3, ownsRow_base (ownsRow_sets h4 hk u0 u1) hN⟩)
theorem numsL_short {xs : List Int} {l r : List UInt8} (h : l = numsL xs ++ r) (hl : l.length ≤ 200000) : xs.length ≤ 9223372036854775807 := by
  have h1 := flat_len xs
  have h2 : l.length = (numL (xs.length : Int)).length + (flat xs).length + r.length := by rw [h]; unfold numsL; simp only [List.length_append]
  omega
set_option maxRecDepth 100000 in
set_option maxHeartbeats 1000000 in
theorem decodingI_any (B0 X : Nat) (l : List UInt8) (w : World) (hX : B0 ≤ X) (h : RdAt B0 X w l) :
    Calls Try.prog 27 #[.pointer (some ⟨X, 0, none⟩), .func (.func 28) #[.pointer (some ⟨X, 0, none⟩)] #[]] w fun e w' => DecI l e w.heap.size w' ∧ But w.heap.size X w w' := by
  have hXw := h.lt
  have h1 := h.grow hX (lit_below w (.cells #[.int .i64 0, .int .i64 0] 27))
  obtain ⟨v, hb, hby⟩ := id h1
  obtain ⟨A, n, c, rfl, Hn, ⟨hn, hnc⟩, -⟩ := hby.opens
  have hc := cell_of_one hb
  have HR := Lib.hid h1
  clear h h1 hb hby
  by_cases hbig : 200000 < n
  · have hd : decide (200000 < (n : Int)) = true := by simp; omega
    have HBG := Lib.hid (show 200000 < l.length by rw [Hn.out]; exact hbig)
    clear hbig
    go_enter Try.func27, Try.ntmps27
    go_wp2_with fail
    refine bodyPost_ret (v := .tuple #[.slice none 0 0, .agg #[.int .i64 2, .int .i64 (-1)]]) (by simp [results, Try.results27, go_sem]) rfl ?_
    exact ⟨.inl ⟨HBG.out, rfl⟩, But.of_below (lit_below w _)⟩
  · have hd : decide (200000 < (n : Int)) = false := by simp; omega
    have HSM := Lib.hid (show l.length ≤ 200000 by rw [Hn.out]; omega)
    have C := Lib.hid (getListI_any B0 X l _ hX HR.out HSM.out)
    clear hbig
    go_enter Try.func27, Try.ntmps27
    go_wp2_with fail
    refine C.out.mono ?_
    rintro e W ⟨hbut, hcase⟩
    obtain ⟨hc0, hc1, hf0, hf1, hFr⟩ := fault_cells rfl hXw hbut
    have HB := Lib.hid hbut
    clear hbut hc C
    rcases hcase with ⟨hno, rfl⟩ | ⟨xs, r, v', hI, he, rfl, hrow, hrd⟩
    · have HNO := Lib.hid (show ¬ ∃ xs, (∀ x ∈ xs, I64 x) ∧ l = numsL xs from fun ⟨xs, h1, h2⟩ => hno ⟨xs, [], h1, by rw [List.append_nil]; exact h2⟩)
      clear hno
      go_wp2_with fail
      refine bodyPost_ret (v := .tuple #[.slice none 0 0, .agg #[.int .i64 17, .int .i64 (-2)]]) (by simp [results, Try.results27, go_sem, hc0, hc1]) rfl ?_
      exact ⟨.inr (.inl ⟨HSM.out, HNO.out, rfl⟩), but_alloc HB.out _ _⟩
    · obtain ⟨v2, hb2, hby2⟩ := hrd
      obtain ⟨A2, m, c2, rfl, Hm, -, -⟩ := hby2.opens
      have hcx := cell_of_one hb2
      have HE := Lib.hid he
      have HI := Lib.hid hI
      have HRO := Lib.hid (ownsRow_base hrow (B' := w.heap.size + 1) (by simp))
      obtain ⟨A3, c3, rfl⟩ := row_is hrow
      clear hb2 hby2 he hI hrow
      by_cases hm : m = 0
      · subst hm
        go_wp2_with fail
        refine bodyPost_ret (v := .tuple #[.slice A3 xs.length c3, .agg #[.int .i64 0, .int .i64 0]]) (by simp [results, Try.results27, go_sem, hc0, hc1]) rfl ?_
        refine ⟨.inr (.inr ⟨HSM.out, xs, _, HI.out, ?_, rfl, ownsRow_base (ownsRow_sets HRO.out (Nat.lt_succ_self _) _ _) (Nat.le_succ _)⟩), but_alloc HB.out _ _⟩
        have h1 := HE.out
        rw [List.eq_nil_of_length_eq_zero Hm.out, List.append_nil] at h1
        exact h1
      · have hd2 : decide (0 < (m : Int)) = true := by simp; omega
        have HNO := Lib.hid (show ¬ ∃ ys, (∀ x ∈ ys, I64 x) ∧ l = numsL ys from fun ⟨ys, h1, h2⟩ => by
          have h3 : l = numsL ys ++ [] := by rw [List.append_nil]; exact h2
          have h4 := (numsL_inj HI.out h1 (numsL_short HE.out HSM.out) (numsL_short h3 HSM.out) (HE.out.symm.trans h3)).2
          have h5 := Hm.out
          rw [h4] at h5
          exact hm h5.symm)
        have hm1 : 1 ≤ m := by omega
        clear hm
        go_wp2_with fail
        refine bodyPost_ret (v := .tuple #[.slice none 0 0, .agg #[.int .i64 17, .int .i64 (-2)]]) (by simp [results, Try.results27, go_sem, hc0, hc1]) rfl ?_
        exact ⟨.inr (.inl ⟨HSM.out, HNO.out, rfl⟩), but_alloc HB.out _ _⟩

set_option maxRecDepth 100000 in
set_option maxHeartbeats 1000000 in
theorem getI_any (B0 : Nat) (v : Value) (l : List UInt8) (w : World) (hB : B0 ≤ w.heap.size) (h : BytesAt B0 w v l) :
    Calls Try.prog 15 #[v] w fun e w' => DecI l e w.heap.size w' ∧ Below w.heap.size w w' := by
  obtain ⟨A, n, c, rfl, Hn, -, -⟩ := h.opens
  have C := Lib.hid (decodingI_any B0 (w.heap.size + 1) l (getW w (.slice A n c)) (by omega) ⟨_, getW_new, h.below (getW_below.mono hB)⟩)
  unfold getW at C
  clear h
  go_enter Try.func15, Try.ntmps15
  go_wp2_with fail
  refine C.out.mono ?_
  rintro e W ⟨hdec, hbut⟩
  obtain ⟨hc0, hc1, hf0, hf1, hFr⟩ := get_cells hbut
  have HB := Lib.hid hbut
  have hend : ∀ u0 u1, DecI l e w.heap.size ((W.setCell ⟨w.heap.size, 0, none⟩ u0).setCell ⟨w.heap.size, 1, none⟩ u1) := hdec.sets _ (by simp; omega) (by simp; omega)
  have HE := Lib.hid hend
  clear hbut hend C
  rcases hdec with ⟨-, rfl⟩ | ⟨-, -, rfl⟩ | ⟨-, xs, v', -, -, rfl, hrow⟩
  · go_wp2_with fail
    refine bodyPost_ret (v := .tuple #[.slice none 0 0, .agg #[.int .i64 2, .int .i64 (-1)]]) (by simp [results, Try.results15, go_sem, hc0, hc1]) rfl ?_
    exact ⟨HE.out _ _, get_end HB.out _ _⟩
  · go_wp2_with fail
    refine bodyPost_ret (v := .tuple #[.slice none 0 0, .agg #[.int .i64 17, .int .i64 (-2)]]) (by simp [results, Try.results15, go_sem, hc0, hc1]) rfl ?_
    exact ⟨HE.out _ _, get_end HB.out _ _⟩
  · obtain ⟨A3, c3, rfl⟩ := row_is hrow
    clear hrow
    go_wp2_with fail
    refine bodyPost_ret (v := .tuple #[.slice A3 xs.length c3, .agg #[.int .i64 0, .int .i64 0]]) (by simp [results, Try.results15, go_sem, hc0, hc1]) rfl ?_
    exact ⟨HE.out _ _, get_end HB.out _ _⟩

/-- what the decoding of a list answers -/
def DecS (l : List UInt8) (e : Ending) (N : Nat) (w' : World) : Prop :=
  (200000 < l.length ∧ e = .returned (.tuple #[.slice none 0 0, .agg #[.int .i64 2, .int .i64 (-1)]])) ∨
  (l.length ≤ 200000 ∧ (¬ ∃ xs, (∀ x ∈ xs, Short x) ∧ l = textsL xs) ∧ e = .returned (.tuple #[.slice none 0 0, .agg #[.int .i64 17, .int .i64 (-2)]])) ∨
  (l.length ≤ 200000 ∧ ∃ xs v', (∀ x ∈ xs, Short x) ∧ l = textsL xs ∧ e = .returned (.tuple #[v', .agg #[.int .i64 0, .int .i64 0]]) ∧ w'.ownsRow N 9 1 v' xs.length (sv xs))
theorem DecS.sets {l : List UInt8} {e : Ending} {N k : Nat} {w' : World} (h : DecS l e N w') (N' : Nat) (hN : N' ≤ N) (hk : k < N) (u0 u1 : Value) : DecS l e N' ((w'.setCell ⟨k, 0, none⟩ u0).setCell ⟨k, 1, none⟩ u1) := by
  rcases h with h | h | ⟨h0, xs, v, h1, h2, h3, h4⟩
  · exact .inl h
  · exact .inr (.inl h)
  · exact .inr (.inr ⟨h0, xs, v, h1, h2, h3, ownsRow_base (ownsRow_sets h4 hk u0 u1) hN⟩)
theorem textsL_short {xs : List (List UInt8)} {l r : List UInt8} (h : l = textsL xs ++ r) (hl : l.length ≤ 200000) : xs.length ≤ 9223372036854775807 := by
  have h1 := flatT_len xs
  have h2 : l.length = (numL (xs.length : Int)).length + (flatT xs).length + r.length := by rw [h]; unfold textsL; simp only [List.length_append]
  omega
set_option maxRecDepth 100000 in
set_option maxHeartbeats 1000000 in
theorem decodingS_any (B0 X : Nat) (l : List UInt8) (w : World) (hX : B0 ≤ X) (h : RdAt B0 X w l) :
    Calls Try.prog 30 #[.pointer (some ⟨X, 0, none⟩), .func (.func 31) #[.pointer (some ⟨X, 0, none⟩)] #[]] w fun e w' => DecS l e w.heap.size w' ∧ But w.heap.size X w w' := by
  have hXw := h.lt
  have h1 := h.grow hX (lit_below w (.cells #[.int .i64 0, .int .i64 0] 27))
  obtain ⟨v, hb, hby⟩ := id h1
  obtain ⟨A, n, c, rfl, Hn, ⟨hn, hnc⟩, -⟩ := hby.opens
  have hc := cell_of_one hb
  have HR := Lib.hid h1
  clear h h1 hb hby
  by_cases hbig : 200000 < n
  · have hd : decide (200000 < (n : Int)) = true := by simp; omega
    have HBG := Lib.hid (show 200000 < l.length by rw [Hn.out]; exact hbig)
    clear hbig
    go_enter Try.func30, Try.ntmps30
    go_wp2_with fail
    refine bodyPost_ret (v := .tuple #[.slice none 0 0, .agg #[.int .i64 2, .int .i64 (-1)]]) (by simp [results, Try.results30, go_sem]) rfl ?_
    exact ⟨.inl ⟨HBG.out, rfl⟩, But.of_below (lit_below w _)⟩
  · have hd : decide (200000 < (n : Int)) = false := by simp; omega
    have HSM := Lib.hid (show l.length ≤ 200000 by rw [Hn.out]; omega)
    have C := Lib.hid (getListS_any B0 X l _ hX HR.out HSM.out)
    clear hbig
    go_enter Try.func30, Try.ntmps30
    go_wp2_with fail
    refine C.out.mono ?_
    rintro e W ⟨hbut, hcase⟩
    obtain ⟨hc0, hc1, hf0, hf1, hFr⟩ := fault_cells rfl hXw hbut
    have HB := Lib.hid hbut
    clear hbut hc C
    rcases hcase with ⟨hno, rfl⟩ | ⟨xs, r, v', hI, he, rfl, hrow, hrd⟩
    · have HNO := Lib.hid (show ¬ ∃ xs, (∀ x ∈ xs, Short x) ∧ l = textsL xs from fun ⟨xs, h1, h2⟩ => hno ⟨xs, [], h1, by rw [List.append_nil]; exact h2⟩)
      clear hno
      go_wp2_with fail
      refine bodyPost_ret (v := .tuple #[.slice none 0 0, .agg #[.int .i64 17, .int .i64 (-2)]]) (by simp [results, Try.results30, go_sem, hc0, hc1]) rfl ?_
      exact ⟨.inr (.inl ⟨HSM.out, HNO.out, rfl⟩), but_alloc HB.out _ _⟩
    · obtain ⟨v2, hb2, hby2⟩ := hrd
      obtain ⟨A2, m, c2, rfl, Hm, -, -⟩ := hby2.opens
      have hcx := cell_of_one hb2
      have HE := Lib.hid he
      have HI := Lib.hid hI
      have HRO := Lib.hid (ownsRow_base hrow (B' := w.heap.size + 1) (by simp))
      obtain ⟨A3, c3, rfl⟩ := row_is hrow
      clear hb2 hby2 he hI hrow
      by_cases hm : m = 0
      · subst hm
        go_wp2_with fail
        refine bodyPost_ret (v := .tuple #[.slice A3 xs.length c3, .agg #[.int .i64 0, .int .i64 0]]) (by simp [results, Try.results30, go_sem, hc0, hc1]) rfl ?_
        refine ⟨.inr (.inr ⟨HSM.out, xs, _, HI.out, ?_, rfl, ownsRow_base (ownsRow_sets HRO.out (Nat.lt_succ_self _) _ _) (Nat.le_succ _)⟩), but_alloc HB.out _ _⟩
        have h1 := HE.out
        rw [List.eq_nil_of_length_eq_zero Hm.out, List.append_nil] at h1
        exact h1
      · have hd2 : decide (0 < (m : Int)) = true := by simp; omega
        have HNO := Lib.hid (show ¬ ∃ ys, (∀ x ∈ ys, Short x) ∧ l = textsL ys from fun ⟨ys, h1, h2⟩ => by
          have h3 : l = textsL ys ++ [] := by rw [List.append_nil]; exact h2
          have h4 := (textsL_inj HI.out h1 (textsL_short HE.out HSM.out) (textsL_short h3 HSM.out) (HE.out.symm.trans h3)).2
          have h5 := Hm.out
          rw [h4] at h5
          exact hm h5.symm)
        have hm1 : 1 ≤ m := by omega
        clear hm
        go_wp2_with fail
        refine bodyPost_ret (v := .tuple #[.slice none 0 0, .agg #[.int .i64 17, .int .i64 (-2)]]) (by simp [results, Try.results30, go_sem, hc0, hc1]) rfl ?_
        exact ⟨.inr (.inl ⟨HSM.out, HNO.out, rfl⟩), but_alloc HB.out _ _⟩

set_option maxRecDepth 100000 in
set_option maxHeartbeats 1000000 in
theorem getS_any (B0 : Nat) (v : Value) (l : List UInt8) (w : World) (hB : B0 ≤ w.heap.size) (h : BytesAt B0 w v l) :
    Calls Try.prog 18 #[v] w fun e w' => DecS l e w.heap.size w' ∧ Below w.heap.size w w' := by
  obtain ⟨A, n, c, rfl, Hn, -, -⟩ := h.opens
  have C := Lib.hid (decodingS_any B0 (w.heap.size + 1) l (getW w (.slice A n c)) (by omega) ⟨_, getW_new, h.below (getW_below.mono hB)⟩)
  unfold getW at C
  clear h
  go_enter Try.func18, Try.ntmps18
  go_wp2_with fail
  refine C.out.mono ?_
  rintro e W ⟨hdec, hbut⟩
  obtain ⟨hc0, hc1, hf0, hf1, hFr⟩ := get_cells hbut
  have HB := Lib.hid hbut
  have hend : ∀ u0 u1, DecS l e w.heap.size ((W.setCell ⟨w.heap.size, 0, none⟩ u0).setCell ⟨w.heap.size, 1, none⟩ u1) := hdec.sets _ (by simp; omega) (by simp; omega)
  have HE := Lib.hid hend
  clear hbut hend C
  rcases hdec with ⟨-, rfl⟩ | ⟨-, -, rfl⟩ | ⟨-, xs, v', -, -, rfl, hrow⟩
  · go_wp2_with fail
    refine bodyPost_ret (v := .tuple #[.slice none 0 0, .agg #[.int .i64 2, .int .i64 (-1)]]) (by simp [results, Try.results18, go_sem, hc0, hc1]) rfl ?_
    exact ⟨HE.out _ _, get_end HB.out _ _⟩
  · go_wp2_with fail
    refine bodyPost_ret (v := .tuple #[.slice none 0 0, .agg #[.int .i64 17, .int .i64 (-2)]]) (by simp [results, Try.results18, go_sem, hc0, hc1]) rfl ?_
    exact ⟨HE.out _ _, get_end HB.out _ _⟩
  · obtain ⟨A3, c3, rfl⟩ := row_is hrow
    clear hrow
    go_wp2_with fail
    refine bodyPost_ret (v := .tuple #[.slice A3 xs.length c3, .agg #[.int .i64 0, .int .i64 0]]) (by simp [results, Try.results18, go_sem, hc0, hc1]) rfl ?_
    exact ⟨HE.out _ _, get_end HB.out _ _⟩
end Go.Proofs.Ytldepghojmkohaa.Cod
