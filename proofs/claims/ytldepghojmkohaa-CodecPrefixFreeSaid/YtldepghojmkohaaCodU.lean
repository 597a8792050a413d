/- The law CodecPrefixFree: true for all numbers and bytes. Conditions: the readings of the arguments. -/
import Derived.Test.YtldepghojmkohaaCodS
namespace Go.Proofs.Ytldepghojmkohaa.Cod
open Go Go.RowKit Go.Lib

theorem ints_yes7 {f : FuncId} {args : Array Value} {xs : List Int} {W : World} (h : Calls Try.prog f args W fun e w' => e = .returned (.bool (decide (xs = xs))) ∧ ∃ n, w' = W.drewN n) : Calls Try.prog f args W fun e w' => e = .returned (.bool true) ∧ ∃ n, w' = W.drewN n :=
  h.mono fun e w' ⟨h1, h2⟩ => ⟨by rw [h1, decide_eq_true (rfl : xs = xs)], h2⟩
set_option maxRecDepth 100000 in
set_option maxHeartbeats 2000000 in
theorem law_prefix (B : Nat) (v u : Value) (xs : List Int) (mo : List UInt8) (w : World) (h : IntsAt B w v xs) (k : BytesAt B w u mo) (hB : B ≤ w.heap.size) :
    Calls Try.prog 7 #[v, u] w fun e w' => e = .returned (.bool true) ∧ Below w.heap.size w w' := by
  obtain ⟨A, n, c, rfl, Hn, hn, Hr, -⟩ := h.opens
  obtain ⟨A2, m, c2, rfl, Hm, ⟨hm, -⟩, -⟩ := k.opens
  have H := Lib.hid h
  have K := Lib.hid k
  clear h k
  by_cases hbig : 100000 < n
  · have C := Lib.hid (fun (W : World) (hb : IntsAt B W (.slice A n c) xs) => putI_many B _ xs W hb (by rw [Hn.out]; exact hbig))
    clear hbig
    go_enter Try.func7, Try.ntmps7
    go_wp2_with (go_at_call 8; refine (example_any _).mono ?_; rintro e W1 ⟨rfl, hb1⟩)
    have HB1 := Lib.hid hb1
    clear hb1
    refine (C.out W1 (H.out.below (HB1.out.mono hB))).mono ?_
    rintro e W2 ⟨rfl, hb2⟩
    have HB2 := Lib.hid (HB1.out.trans (hb2.mono HB1.out.size))
    clear hb2
    go_wp2_with fail
    go_ret
    exact ⟨rfl, HB2.out.trans ((lit_below _ _).mono HB2.out.size)⟩
  · have hxs : xs.length ≤ 100000 := by rw [Hn.out]; omega
    have HXS := Lib.hid hxs
    have C := Lib.hid (fun (W : World) (hb : IntsAt B W (.slice A n c) xs) (hB : B ≤ W.heap.size) => putI_any B _ xs W hb hB hxs)
    have HLN := Lib.hid (show (numsL xs).length ≤ 1000010 by have h1 := flat_le Hr.out; have h2 := numL_ten (n := (xs.length : Int)) ⟨by omega, by omega⟩; unfold numsL; rw [List.length_append]; omega)
    obtain ⟨q, hq⟩ : ∃ q, q = numsL xs := ⟨_, rfl⟩
    rw [← hq] at HLN C
    have HQ := Lib.hid hq
    have hqn : q.length ≤ 1000010 := HLN.out
    clear hbig hxs hq
    go_enter Try.func7, Try.ntmps7
    go_wp2_with (go_at_call 8; refine (example_any _).mono ?_; rintro e W1 ⟨rfl, hb1⟩)
    have HB1 := Lib.hid hb1
    clear hb1
    refine (C.out W1 (H.out.below (HB1.out.mono hB)) (Nat.le_trans hB HB1.out.size)).mono ?_
    rintro e W2 ⟨v1, rfl, hrow, hb2⟩
    have HB2 := Lib.hid (HB1.out.trans (hb2.mono HB1.out.size))
    have HRO := Lib.hid hrow
    obtain ⟨A3, c3, rfl⟩ := row_is hrow
    clear hb2 hrow C
    by_cases hlong : 200000 < q.length + m
    · have hd : decide (200000 < (q.length : Int) + (m : Int)) = true := by simp; omega
      clear hlong
      go_wp2_with fail
      go_ret
      exact ⟨rfl, HB2.out.trans ((lit_below _ _).mono HB2.out.size)⟩
    · have hd : decide (200000 < (q.length : Int) + (m : Int)) = false := by simp; omega
      have HSH := Lib.hid hlong
      clear hlong
      go_wp2_with fail
      obtain ⟨W3, hW3⟩ : ∃ W3, W3 = W2.alloc (.cells #[.int .i64 0, .int .i64 0] 27) := ⟨_, rfl⟩
      have hb23 : Below W2.heap.size W2 W3 := by rw [hW3]; exact lit_below _ _
      have HB3 := Lib.hid (HB2.out.trans (hb23.mono HB2.out.size))
      have R1 := Lib.hid (((bytes_of_row HRO.out (by omega)).below hb23).more hb23.size)
      rw [← hW3]
      clear hW3 hb23
      refine (copy_any W3.heap.size _ q W3 R1.out).mono ?_
      rintro e W4 ⟨v4, rfl, hrow4, hb4⟩
      have HB4 := Lib.hid (HB3.out.trans (hb4.mono HB3.out.size))
      have HR4 := Lib.hid hrow4
      have HZ4 := Lib.hid hb4.size
      clear hrow4 hb4
      go_wp2_with (at_builtin; refine wp_append_bytes rfl (.tmp 30) (.tmp 31) rfl W3.heap.size v4 q.length q rfl HR4.out B (.slice A2 m c2) mo rfl (K.out.below (HB4.out.mono hB)) (by have := HSH.out; have := Hm.out; omega) HZ4.out ?_; intro v5 W5 hrow5 hg5; rw [← bv_app] at hrow5; have HR5 := Lib.hid hrow5; have HB5 := Lib.hid (HB4.out.grown hg5 HB4.out.size (fun r e => Nat.le_trans HB3.out.size (HR4.out.lt r e).1)); clear hrow5 hg5)
      refine (getI_any W5.heap.size v5 (q ++ mo) W5 (Nat.le_refl _) (bytes_of_row HR5.out (by rw [List.length_append]; have := HSH.out; have := Hm.out; omega))).mono ?_
      rintro e W6 ⟨hd6, hb6⟩
      have HB6 := Lib.hid (HB5.out.trans (hb6.mono HB5.out.size))
      have HLE := Lib.hid (show (q ++ mo).length ≤ 200000 by rw [List.length_append]; have := HSH.out; have := Hm.out; omega)
      clear hb6
      by_cases hm0 : m = 0
      · subst hm0
        have hmo : mo = [] := List.eq_nil_of_length_eq_zero Hm.out
        obtain ⟨v6, rfl, hrow6⟩ := decI_hit hd6 (by rw [hmo, List.append_nil]; exact HQ.out) Hr.out HLE.out
        have HR6 := Lib.hid hrow6
        obtain ⟨A6, c6, rfl⟩ := row_is hrow6
        clear hd6 hmo hrow6
        go_wp2_with fail
        obtain ⟨W7, hW7⟩ : ∃ W7, W7 = W6.alloc (.cells #[.int .i64 0, .int .i64 0] 27) := ⟨_, rfl⟩
        obtain ⟨X, hX⟩ : ∃ X, X = W6.heap.size := ⟨_, rfl⟩
        have hbx : Box X 0 0 W7 := by rw [hW7, hX]; exact box_new _ _ _
        have hb67 : Below W6.heap.size W6 W7 := by rw [hW7]; exact lit_below _ _
        have HFN := Lib.hid (HB6.out.trans (hb67.mono HB6.out.size))
        have R6 := Lib.hid (((ints_of_row HR6.out (by have := HXS.out; omega) Hr.out).below hb67).more hb67.size)
        have R0 := Lib.hid ((H.out.below (HFN.out.mono hB)).more (Nat.le_trans hB HFN.out.size))
        have CI := Lib.hid (fun k => ints_yes7 (ints_any W7.heap.size _ _ xs xs (W7.drewN k) R6.out R0.out))
        rw [← hX, ← hW7]
        obtain ⟨hc0, hc1⟩ := hbx
        have hXl := block_lt_of_cell hc0
        clear hW7 hX hb67
        go_quiet ((go_at_call 17; exact Calls.quiet_of (CI.out _)))
        go_wp2_with fail
        go_ret
        exact ⟨rfl, below_drewN HFN.out _⟩
      · have hno : ¬ ∃ ys, (∀ y ∈ ys, I64 y) ∧ q ++ mo = numsL ys := fun ⟨ys, h1, h2⟩ => by
          have e1 : q ++ mo = numsL xs ++ mo := by rw [HQ.out]
          have e2 : q ++ mo = numsL ys ++ [] := by rw [List.append_nil]; exact h2
          have h3 := (numsL_inj Hr.out h1 (numsL_short e1 HLE.out) (numsL_short e2 HLE.out) (e1.symm.trans e2)).2
          have h4 := Hm.out
          rw [h3] at h4
          exact hm0 h4.symm
        rcases hd6 with ⟨h1, -⟩ | ⟨-, -, rfl⟩ | ⟨-, ys, v', h1, h2, -, -⟩
        · exact absurd HLE.out (Nat.not_le.2 h1)
        · have hm1 : ((m : Int) == 0) = false := by simp; exact hm0
          have hm2 : decide (0 < (m : Int)) = true := by simp; omega
          have hm3 : decide (0 < m) = true := by simp; omega
          clear hno hm0
          go_wp2_with fail
          obtain ⟨W7, hW7⟩ : ∃ W7, W7 = W6.alloc (.cells #[.int .i64 17, .int .i64 (-2)] 27) := ⟨_, rfl⟩
          obtain ⟨X, hX⟩ : ∃ X, X = W6.heap.size := ⟨_, rfl⟩
          have hbx : Box X 17 (-2) W7 := by rw [hW7, hX]; exact box_new _ _ _
          have hb67 : Below W6.heap.size W6 W7 := by rw [hW7]; exact lit_below _ _
          have HFN := Lib.hid (HB6.out.trans (hb67.mono HB6.out.size))
          rw [← hX, ← hW7]
          have KS := Lib.hid hbx
          have hcur : Below W7.heap.size W7 W7.drew := (Below.refl _ _).drew
          have hXl := block_lt_of_cell hbx.1
          clear hW7 hX hb67 hbx
          refine wp_region_held (S := fun W' => W'.cell? ⟨X, 0, none⟩ = some (.int .i64 17) ∧ W'.cell? ⟨X, 1, none⟩ = some (.int .i64 (-2))) (by kernel_rfl) ?_
          have hS := KS.out.below hcur
          change wpAnyH _ _ _ _ _ _ _ _ W7.drew
          refine wpAnyH_take (i := 0) (v := ?_) rfl (by kernel_rfl) (by kernel_rfl) (by kernel_rfl) (fun _ _ _ h => h) (Or.inl ⟨by rfl, ?_⟩) hS ?_
          rotate_left
          · rintro W' ⟨s0, s1⟩; go_simp; rfl
          simp [Act.put]
          refine wpAnyH_take (i := 1) (v := ?_) rfl (by kernel_rfl) (by kernel_rfl) (by kernel_rfl) (fun _ _ _ h => h) (Or.inl ⟨by rfl, ?_⟩) hS ?_
          rotate_left
          · rintro W' ⟨s0, s1⟩; go_simp; rfl
          simp [Act.put]
          refine wpAnyH_take (i := 2) (v := ?_) rfl (by kernel_rfl) (by kernel_rfl) (by kernel_rfl) (fun _ _ _ h => h) (Or.inl ⟨by rfl, ?_⟩) hS ?_
          rotate_left
          · rintro W' ⟨s0, s1⟩; go_simp; rfl
          simp [Act.put]
          refine wpAnyH_take (i := 3) (v := ?_) rfl (by kernel_rfl) (by kernel_rfl) (by kernel_rfl) (fun _ _ _ h => h) (Or.inl ⟨by rfl, ?_⟩) hS ?_
          rotate_left
          · rintro W' ⟨s0, s1⟩; go_simp; rfl
          simp [Act.put]
          refine wpAnyH_take (i := 4) (v := undef) rfl (by kernel_rfl) (by kernel_rfl) (by kernel_rfl) (fun _ _ _ h => h) (Or.inr ⟨by rfl, rfl⟩) hS ?_
          simp [Act.put]
          refine wpAnyH_take (i := 5) (v := undef) rfl (by kernel_rfl) (by kernel_rfl) (by kernel_rfl) (fun _ _ _ h => h) (Or.inr ⟨by rfl, rfl⟩) hS ?_
          simp [Act.put]
          refine wpAnyH_take (i := 6) (v := undef) rfl (by kernel_rfl) (by kernel_rfl) (by kernel_rfl) (fun _ _ _ h => h) (Or.inr ⟨by rfl, rfl⟩) hS ?_
          simp [Act.put]
          refine wpAnyH_take (i := 7) (v := ?_) rfl (by kernel_rfl) (by kernel_rfl) (by kernel_rfl) (fun _ _ _ h => h) (Or.inl ⟨by rfl, ?_⟩) hS ?_
          rotate_left
          · rintro W' ⟨s0, s1⟩; go_simp; rfl
          simp [Act.put]
          refine wpAnyH_take (i := 8) (v := ?_) rfl (by kernel_rfl) (by kernel_rfl) (by kernel_rfl) (fun _ _ _ h => h) (Or.inl ⟨by rfl, ?_⟩) hS ?_
          rotate_left
          · rintro W' ⟨s0, s1⟩; go_simp; rfl
          simp [Act.put]
          refine wpAnyH_take (i := 9) (v := undef) rfl (by kernel_rfl) (by kernel_rfl) (by kernel_rfl) (fun _ _ _ h => h) (Or.inr ⟨by rfl, rfl⟩) hS ?_
          simp [Act.put]
          refine wpAnyH_take (i := 10) (v := undef) rfl (by kernel_rfl) (by kernel_rfl) (by kernel_rfl) (fun _ _ _ h => h) (Or.inr ⟨by rfl, rfl⟩) hS ?_
          simp [Act.put]
          refine wpAnyH_take (i := 11) (v := undef) rfl (by kernel_rfl) (by kernel_rfl) (by kernel_rfl) (fun _ _ _ h => h) (Or.inr ⟨by rfl, rfl⟩) hS ?_
          simp [Act.put]
          refine wpAnyH_take (i := 12) (v := ?_) rfl (by kernel_rfl) (by kernel_rfl) (by kernel_rfl) (fun _ _ _ h => h) (Or.inl ⟨by rfl, ?_⟩) hS ?_
          rotate_left
          · rintro W' ⟨s0, s1⟩; go_simp; rfl
          simp [Act.put]
          refine wpAnyH_take (i := 13) (v := ?_) rfl (by kernel_rfl) (by kernel_rfl) (by kernel_rfl) (fun _ _ _ h => h) (Or.inl ⟨by rfl, ?_⟩) hS ?_
          rotate_left
          · rintro W' ⟨s0, s1⟩; go_simp; rfl
          simp [Act.put]
          refine wpAnyH_take (i := 14) (v := ?_) rfl (by kernel_rfl) (by kernel_rfl) (by kernel_rfl) (fun _ _ _ h => h) (Or.inl ⟨by rfl, ?_⟩) hS ?_
          rotate_left
          · rintro W' ⟨s0, s1⟩; go_simp; rfl
          simp [Act.put]
          refine wpAnyH_take (i := 15) (v := ?_) rfl (by kernel_rfl) (by kernel_rfl) (by kernel_rfl) (fun _ _ _ h => h) (Or.inl ⟨by rfl, ?_⟩) hS ?_
          rotate_left
          · rintro W' ⟨s0, s1⟩; go_simp; rfl
          simp [Act.put]
          refine wpAnyH_take (i := 16) (v := ?_) rfl (by kernel_rfl) (by kernel_rfl) (by kernel_rfl) (fun _ _ _ h => h) (Or.inl ⟨by rfl, ?_⟩) hS ?_
          rotate_left
          · rintro W' ⟨s0, s1⟩; go_simp; rfl
          simp [Act.put]
          refine wpAnyH_take (i := 17) (v := ?_) rfl (by kernel_rfl) (by kernel_rfl) (by kernel_rfl) (fun _ _ _ h => h) (Or.inl ⟨by rfl, ?_⟩) hS ?_
          rotate_left
          · rintro W' ⟨s0, s1⟩; go_simp; rfl
          simp [Act.put]
          refine wpAnyH_take (i := 18) (v := ?_) rfl (by kernel_rfl) (by kernel_rfl) (by kernel_rfl) (fun _ _ _ h => h) (Or.inl ⟨by rfl, ?_⟩) hS ?_
          rotate_left
          · rintro W' ⟨s0, s1⟩; go_simp; rfl
          simp [Act.put]
          refine wpAnyH_ready (rs := [19]) (by kernel_rfl) (by simp) ?_
          refine AllReadyH.cons rfl (fun K hK => ?_) AllReadyH.nil
          go_simp
          refine (at_any _ _ _).mono ?_
          rintro e W8 ⟨rfl, hb8⟩
          replace hcur := hcur.trans (hb8.mono hcur.size)
          replace hS := KS.out.below hcur
          refine hK.out _ _ hS (fun _ => ?_)
          clear hK K
          refine wpAnyH_take (i := 20) (v := ?_) rfl (by kernel_rfl) (by kernel_rfl) (by kernel_rfl) (fun _ _ _ h => h) (Or.inl ⟨by rfl, ?_⟩) hS ?_
          rotate_left
          · rintro W' ⟨s0, s1⟩; go_simp; rfl
          simp [Act.put]
          refine wpAnyH_take (i := 21) (v := ?_) rfl (by kernel_rfl) (by kernel_rfl) (by kernel_rfl) (fun _ _ _ h => h) (Or.inl ⟨by rfl, ?_⟩) hS ?_
          rotate_left
          · rintro W' ⟨s0, s1⟩; go_simp; rfl
          simp [Act.put]
          refine wpAnyH_take (i := 22) (v := ?_) rfl (by kernel_rfl) (by kernel_rfl) (by kernel_rfl) (fun _ _ _ h => h) (Or.inl ⟨by rfl, ?_⟩) hS ?_
          rotate_left
          · rintro W' ⟨s0, s1⟩; go_simp; rfl
          simp [Act.put]
          refine wpAnyH_take (i := 23) (v := ?_) rfl (by kernel_rfl) (by kernel_rfl) (by kernel_rfl) (fun _ _ _ h => h) (Or.inl ⟨by rfl, ?_⟩) hS ?_
          rotate_left
          · rintro W' ⟨s0, s1⟩; go_simp; rfl
          simp [Act.put]
          refine wpAnyH_take (i := 24) (v := ?_) rfl (by kernel_rfl) (by kernel_rfl) (by kernel_rfl) (fun _ _ _ h => h) (Or.inl ⟨by rfl, ?_⟩) hS ?_
          rotate_left
          · rintro W' ⟨s0, s1⟩; go_simp; rfl
          simp [Act.put]
          refine wpAnyH_take (i := 25) (v := ?_) rfl (by kernel_rfl) (by kernel_rfl) (by kernel_rfl) (fun _ _ _ h => h) (Or.inl ⟨by rfl, ?_⟩) hS ?_
          rotate_left
          · rintro W' ⟨s0, s1⟩; go_simp; rfl
          simp [Act.put]
          refine wpAnyH_take (i := 26) (v := ?_) rfl (by kernel_rfl) (by kernel_rfl) (by kernel_rfl) (fun _ _ _ h => h) (Or.inl ⟨by rfl, ?_⟩) hS ?_
          rotate_left
          · rintro W' ⟨s0, s1⟩; go_simp; rfl
          simp [Act.put]
          refine wpAnyH_take (i := 27) (v := ?_) rfl (by kernel_rfl) (by kernel_rfl) (by kernel_rfl) (fun _ _ _ h => h) (Or.inl ⟨by rfl, ?_⟩) hS ?_
          rotate_left
          · rintro W' ⟨s0, s1⟩; go_simp; rfl
          simp [Act.put]
          refine wpAnyH_take (i := 28) (v := ?_) rfl (by kernel_rfl) (by kernel_rfl) (by kernel_rfl) (fun _ _ _ h => h) (Or.inl ⟨by rfl, ?_⟩) hS ?_
          rotate_left
          · rintro W' ⟨s0, s1⟩; go_simp; rfl
          simp [Act.put]
          refine wpAnyH_done (by kernel_rfl) ?_ _
          go_wp2_with fail
          go_ret
          exact ⟨rfl, HFN.out.trans (hcur.mono HFN.out.size)⟩
        · exact absurd ⟨ys, h1, h2⟩ hno
end Go.Proofs.Ytldepghojmkohaa.Cod
