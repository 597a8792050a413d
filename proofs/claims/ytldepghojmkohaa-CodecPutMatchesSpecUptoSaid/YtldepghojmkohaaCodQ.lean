/- The reference's NumbersOf. Conditions: the bytes are at most 200000. -/
import Derived.Test.YtldepghojmkohaaCodP
namespace Go.Proofs.Ytldepghojmkohaa.Cod
open Go Go.RowKit Go.Lib

theorem drop_taken {l r : List UInt8} {n : Int} (h : tk l = some (n, r)) : l.drop (l.length - r.length) = r ∧ 1 ≤ l.length - r.length ∧ l.length - r.length ≤ l.length := by
  obtain ⟨h1, -⟩ := tk_sound h
  have h2 := tk_lt h
  refine ⟨?_, by omega, by omega⟩
  rw [h1, List.length_append, Nat.add_sub_cancel, List.drop_append_of_le_length (Nat.le_refl _), List.drop_length, List.nil_append]
/-- what NumbersOf answers -/
def Of (l : List UInt8) (e : Ending) (N : Nat) (w' : World) : Prop :=
  ((¬ ∃ xs, (∀ x ∈ xs, I64 x) ∧ l = numsL xs) ∧ ∃ v, e = .returned (.tuple #[v, .bool false])) ∨
  ∃ xs v, (∀ x ∈ xs, I64 x) ∧ l = numsL xs ∧ e = .returned (.tuple #[v, .bool true]) ∧ w'.ownsRow N 3 1 v xs.length (iv xs)
theorem tk_nums {l : List UInt8} {xs : List Int} (hl : l.length ≤ 200000) (h : l = numsL xs) : tk l = some ((xs.length : Int), flat xs) ∧ xs.length ≤ l.length := by
  have h1 := flat_len xs
  have h2 : l.length = (numL (xs.length : Int)).length + (flat xs).length := by rw [h]; unfold numsL; simp only [List.length_append]
  refine ⟨?_, by omega⟩
  rw [h]
  unfold numsL
  exact tk_num ⟨by omega, by omega⟩ _
theorem iv_snoc (l : List Int) (x : Int) : iv (l ++ [x]) = iv l ++ [.int .i64 x] := by simp [iv]

set_option maxRecDepth 100000 in
set_option maxHeartbeats 1000000 in
theorem numbersOf_any (B0 : Nat) (v : Value) (l : List UInt8) (w : World) (hB : B0 ≤ w.heap.size) (h : BytesAt B0 w v l) (hl : l.length ≤ 200000) :
    Calls Try.prog 16 #[v] w fun e w' => Of l e w.heap.size w' ∧ Below w.heap.size w w' := by
  obtain ⟨i0, hi, hz0, hz1, hz2⟩ := info_parts infoInt
  have C := Lib.hid (taken_any B0 v l w hB h hl)
  obtain ⟨A, m, c, rfl, Hm, ⟨-, hmc⟩, Hc⟩ := h.opens
  have H := Lib.hid h
  have HL := Lib.hid hl
  have hm2 : m ≤ 200000 := by rw [← Hm.out]; exact hl
  clear h hl
  go_enter Try.func16, Try.ntmps16
  go_wp2_with fail
  refine C.out.mono ?_
  rintro e W ⟨⟨ht, rfl⟩ | ⟨nz, r1, ht, rfl⟩, hb⟩
  · have HNO := Lib.hid (show ¬ ∃ xs, (∀ x ∈ xs, I64 x) ∧ l = numsL xs from fun ⟨xs, h1, h2⟩ => by rw [(tk_nums HL.out h2).1] at ht; cases ht)
    have HB := Lib.hid hb
    clear ht hb C
    go_wp2_with fail
    go_ret2
    exact ⟨.inl ⟨HNO.out, _, rfl⟩, HB.out⟩
  · obtain ⟨d1, d2, d3⟩ := drop_taken ht
    obtain ⟨a0, ha0⟩ : ∃ a0, a0 = l.length - r1.length := ⟨_, rfl⟩
    rw [← ha0] at d1 d2 d3 ⊢
    have ha1 : 1 ≤ a0 := d2
    have ha2 : a0 ≤ m := by rw [← Hm.out]; exact d3
    have HD := Lib.hid d1
    have HT := Lib.hid ht
    have HB := Lib.hid hb
    have hat : ((a0 : Int) == 0) = false := by simp; omega
    clear d1 d2 d3 ht hb C ha0
    by_cases hn0 : 0 ≤ nz
    · by_cases hnm : nz ≤ (m : Int)
      · obtain ⟨n, rfl⟩ := Int.eq_ofNat_of_zero_le hn0
        have hnm' : n ≤ m := by omega
        obtain ⟨b1, o1, rfl, hb1, -⟩ := Hc.out (by omega)
        have hv1 : decide ((n : Int) < 0) = false := by simp
        have hv2 : decide (m < n) = false := by simp; omega
        clear hn0 hnm
        go_wp2_with fail
        go_loopw [5, 6, 7] (fun at_ ov i wr => ∃ k a : Nat, i = .int .i64 (k : Int) ∧ at_ = .int .i64 (a : Int) ∧ k ≤ n ∧ 1 ≤ a ∧ a ≤ m ∧ ∃ (xs : List Int) (r : List UInt8), Hid (xs.length = k) ∧ Hid (∀ x ∈ xs, I64 x) ∧ Hid (r1 = flat xs ++ r ∧ l.drop a = r) ∧ Hid (wr.ownsRow w.heap.size 3 1 ov xs.length (iv xs) ∧ Below w.heap.size w wr)) (fun _ _ i _ => n - (intOf i).toNat)
        case atStart => exact ⟨0, a0, rfl, rfl, Nat.zero_le _, ha1, ha2, [], r1, Lib.hid rfl, Lib.hid (by simp), Lib.hid ⟨rfl, HD.out⟩, Lib.hid ⟨World.ownsRow_nil _ _ _ _, HB.out⟩⟩
        case round =>
          obtain ⟨k, a, rfl, rfl, hk, hga, ham, xs, r, HK, HI, HE, HR⟩ := hrel
          have HS := Lib.hid (show r.length ≤ 200000 ∧ r.length + a = m by have h1 := HE.out.2; have h2 := HL.out; have h3 := Hm.out; rw [← h1, List.length_drop]; omega)
          by_cases hlt : k < n
          · have HBY := Lib.hid (H.out.below (HR.out.2.mono hB))
            rcases Nat.lt_or_ge a c with hac | hac
            · have C2 := Lib.hid (taken_any B0 (.slice (some ⟨b1, o1 + a, none⟩) (m - a) (c - a)) r wr (Nat.le_trans hB HR.out.2.size) (by rw [← HE.out.2]; exact bytes_drop HBY.out ham) HS.out.1)
              go_wp2_with fail
              refine C2.out.mono ?_
              rintro e W2 ⟨⟨ht2, rfl⟩ | ⟨x, r', ht2, rfl⟩, hb2⟩
              · have HNO := Lib.hid (show ¬ ∃ xs, (∀ x ∈ xs, I64 x) ∧ l = numsL xs from fun ⟨ys, h1, h2⟩ => by
                  obtain ⟨e1, -⟩ := tk_nums HL.out h2
                  have e3 := e1.symm.trans HT.out
                  injection e3 with e3
                  injection e3 with e3 e4
                  obtain ⟨y, q, h6⟩ := flat_pre (r := r) (t := []) HI.out h1 (by have := HK.out; omega) (by rw [List.append_nil, e4]; exact HE.out.1.symm)
                  rw [ht2] at h6
                  cases h6)
                have HB2 := Lib.hid (HR.out.2.trans (hb2.mono HR.out.2.size))
                clear ht2 hb2
                go_wp2_with fail
                go_ret2
                exact ⟨.inl ⟨HNO.out, _, rfl⟩, HB2.out⟩
              · obtain ⟨q1, q2, q3⟩ := drop_taken ht2
                obtain ⟨q, hq⟩ : ∃ q, q = r.length - r'.length := ⟨_, rfl⟩
                rw [← hq] at q1 q2 q3 ⊢
                have hqs : ((q : Int) == 0) = false := by simp; omega
                have hq200 : q ≤ 200000 := by have := HS.out.1; omega
                have haq : a + q ≤ m := by have := HS.out.2; omega
                have HQ := Lib.hid q1
                have HTX := Lib.hid (tk_sound ht2)
                have HB2 := Lib.hid hb2
                have HOW := Lib.hid (ownsRow_below HR.out.1 hb2)
                have HZ := Lib.hid (show xs.length + 1 ≤ 300000 by have := HK.out; omega)
                have HSZ := Lib.hid (show w.heap.size ≤ W2.heap.size from Nat.le_trans HR.out.2.size hb2.size)
                clear q1 q2 q3 hq ht2 hb2
                go_wp2_with (at_builtin; refine wpList_append_own _ rfl (.tmp 41) (.tmp 43) 22 rfl w.heap.size 3 i0 _ 1 8 Try.underlying22 hi hz0 hz1 hz2 (by rfl) (by decide) u6 xs.length _ rfl (HOW.out.alloc _) ⟨W2.heap.size, 0, none⟩ 1 1 [.int .i64 x] rfl rfl (lit_cells _ _ _) (by simp [Value.oneCell']) (by have := HZ.out; unfold maxLen; omega) (by have := HZ.out; omega) (by have := HSZ.out; simp; omega) ?_; intro v' w1 hown1 hgrow hnil; clear hnil; have HG1 := Lib.hid hown1; have HG2 := Lib.hid ((HR.out.2.trans ((HB2.out.trans (lit_below _ _ |>.mono HB2.out.size)).mono HR.out.2.size)).grown hgrow (by have := HSZ.out; simp; omega) (fun k e => (HOW.out.lt k e).1)); clear hown1 hgrow)
                go_roundw
                case rel =>
                  refine ⟨k + 1, a + q, by go_num, by go_num, by omega, by omega, haq, xs ++ [x], r', Lib.hid (by rw [List.length_append, HK.out]; rfl), Lib.hid ?_, Lib.hid ⟨?_, ?_⟩, Lib.hid ⟨?_, HG2.out⟩⟩
                  · intro y hy
                    rcases List.mem_append.1 hy with h1 | h1
                    · exact HI.out y h1
                    · simp at h1
                      rw [h1]
                      exact HTX.out.2
                  · rw [HE.out.1, flat_snoc, List.append_assoc, ← HTX.out.1]
                  · rw [← List.drop_drop, HE.out.2, HQ.out]
                  · rw [List.length_append, iv_snoc]
                    exact HG1.out
                case measure => simp [intOf]; omega
            · obtain rfl : a = c := by omega
              obtain rfl : a = m := by omega
              have C2 := Lib.hid (taken_any B0 (.slice (some ⟨b1, o1, none⟩) 0 0) r wr (Nat.le_trans hB HR.out.2.size) (by rw [← HE.out.2]; exact bytes_none (by rw [Hm.out]; exact Nat.le_refl _)) HS.out.1)
              go_wp2_with fail
              refine C2.out.mono ?_
              rintro e W2 ⟨⟨ht2, rfl⟩ | ⟨x, r', ht2, rfl⟩, hb2⟩
              · have HNO := Lib.hid (show ¬ ∃ xs, (∀ x ∈ xs, I64 x) ∧ l = numsL xs from fun ⟨ys, h1, h2⟩ => by
                  obtain ⟨e1, -⟩ := tk_nums HL.out h2
                  have e3 := e1.symm.trans HT.out
                  injection e3 with e3
                  injection e3 with e3 e4
                  obtain ⟨y, q, h6⟩ := flat_pre (r := r) (t := []) HI.out h1 (by have := HK.out; omega) (by rw [List.append_nil, e4]; exact HE.out.1.symm)
                  rw [ht2] at h6
                  cases h6)
                have HB2 := Lib.hid (HR.out.2.trans (hb2.mono HR.out.2.size))
                clear ht2 hb2
                go_wp2_with fail
                go_ret2
                exact ⟨.inl ⟨HNO.out, _, rfl⟩, HB2.out⟩
              · obtain ⟨q1, q2, q3⟩ := drop_taken ht2
                obtain ⟨q, hq⟩ : ∃ q, q = r.length - r'.length := ⟨_, rfl⟩
                rw [← hq] at q1 q2 q3 ⊢
                have hqs : ((q : Int) == 0) = false := by simp; omega
                have hq200 : q ≤ 200000 := by have := HS.out.1; omega
                have haq : a + q ≤ a := by have := HS.out.2; omega
                have HQ := Lib.hid q1
                have HTX := Lib.hid (tk_sound ht2)
                have HB2 := Lib.hid hb2
                have HOW := Lib.hid (ownsRow_below HR.out.1 hb2)
                have HZ := Lib.hid (show xs.length + 1 ≤ 300000 by have := HK.out; omega)
                have HSZ := Lib.hid (show w.heap.size ≤ W2.heap.size from Nat.le_trans HR.out.2.size hb2.size)
                clear q1 q2 q3 hq ht2 hb2
                go_wp2_with (at_builtin; refine wpList_append_own _ rfl (.tmp 41) (.tmp 43) 22 rfl w.heap.size 3 i0 _ 1 8 Try.underlying22 hi hz0 hz1 hz2 (by rfl) (by decide) u6 xs.length _ rfl (HOW.out.alloc _) ⟨W2.heap.size, 0, none⟩ 1 1 [.int .i64 x] rfl rfl (lit_cells _ _ _) (by simp [Value.oneCell']) (by have := HZ.out; unfold maxLen; omega) (by have := HZ.out; omega) (by have := HSZ.out; simp; omega) ?_; intro v' w1 hown1 hgrow hnil; clear hnil; have HG1 := Lib.hid hown1; have HG2 := Lib.hid ((HR.out.2.trans ((HB2.out.trans (lit_below _ _ |>.mono HB2.out.size)).mono HR.out.2.size)).grown hgrow (by have := HSZ.out; simp; omega) (fun k e => (HOW.out.lt k e).1)); clear hown1 hgrow)
                go_roundw
                case rel =>
                  refine ⟨k + 1, a + q, by go_num, by go_num, by omega, by omega, haq, xs ++ [x], r', Lib.hid (by rw [List.length_append, HK.out]; rfl), Lib.hid ?_, Lib.hid ⟨?_, ?_⟩, Lib.hid ⟨?_, HG2.out⟩⟩
                  · intro y hy
                    rcases List.mem_append.1 hy with h1 | h1
                    · exact HI.out y h1
                    · simp at h1
                      rw [h1]
                      exact HTX.out.2
                  · rw [HE.out.1, flat_snoc, List.append_assoc, ← HTX.out.1]
                  · rw [← List.drop_drop, HE.out.2, HQ.out]
                  · rw [List.length_append, iv_snoc]
                    exact HG1.out
                case measure => simp [intOf]; omega
          · obtain rfl : k = n := by omega
            by_cases hr0 : r = []
            · have hd : ((a : Int) == (m : Int)) = true := by have := HS.out.2; rw [hr0] at this; simp at this ⊢; omega
              have HR0 := Lib.hid hr0
              clear hr0
              go_wp2_with fail
              go_ret2
              refine ⟨.inr ⟨xs, _, HI.out, ?_, rfl, HR.out.1⟩, HR.out.2⟩
              have h1 := (tk_sound HT.out).1
              rw [h1, HE.out.1, HR0.out, List.append_nil]
              unfold numsL
              rw [HK.out]
            · have hd : ((a : Int) == (m : Int)) = false := by
                have h1 := HS.out.2
                have h2 : r.length ≠ 0 := fun h => hr0 (List.eq_nil_of_length_eq_zero h)
                simp
                omega
              have HNO := Lib.hid (show ¬ ∃ xs, (∀ x ∈ xs, I64 x) ∧ l = numsL xs from fun ⟨ys, h1, h2⟩ => by
                obtain ⟨e1, -⟩ := tk_nums HL.out h2
                have e3 := e1.symm.trans HT.out
                injection e3 with e3
                injection e3 with e3 e4
                exact hr0 (flat_inj (r := r) (t := []) HI.out h1 (by have := HK.out; omega) (by rw [List.append_nil, e4]; exact HE.out.1.symm)).2)
              clear hr0
              go_wp2_with fail
              go_ret2
              exact ⟨.inl ⟨HNO.out, _, rfl⟩, HR.out.2⟩
      · have HNO := Lib.hid (show ¬ ∃ xs, (∀ x ∈ xs, I64 x) ∧ l = numsL xs from fun ⟨xs, h1, h2⟩ => by
          obtain ⟨e1, e2⟩ := tk_nums HL.out h2
          have e3 := e1.symm.trans HT.out
          injection e3 with e3
          injection e3 with e3 e4
          have := Hm.out
          omega)
        go_wp2_with fail
        go_ret2
        exact ⟨.inl ⟨HNO.out, _, rfl⟩, HB.out⟩
    · have HNO := Lib.hid (show ¬ ∃ xs, (∀ x ∈ xs, I64 x) ∧ l = numsL xs from fun ⟨xs, h1, h2⟩ => by
        obtain ⟨e1, e2⟩ := tk_nums HL.out h2
        have e3 := e1.symm.trans HT.out
        injection e3 with e3
        injection e3 with e3 e4
        omega)
      go_wp2_with fail
      go_ret2
      exact ⟨.inl ⟨HNO.out, _, rfl⟩, HB.out⟩
end Go.Proofs.Ytldepghojmkohaa.Cod
