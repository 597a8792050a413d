/- The law of Validate and Size. Conditions: the table reads as forms; the library's table of white space reads as its text lays it. -/
import Derived.Deep.CutRange
import Derived.Test.YtbpnogpjpklmjaaDoorIsaN
namespace Go.Proofs.YtbpnogpjpklmjaaDoor
open Go Go.RowKit Go.Shelf

theorem in_yes (n k : Nat) (h : k < n) : inB (k : Int) 0 ((n : Int) - 1) = true := by
  simp only [inB, Bool.and_eq_true, decide_eq_true_eq]
  omega
theorem in_no (n : Nat) (form : Int) (h : ¬ (0 ≤ form ∧ form < n)) : inB form 0 ((n : Int) - 1) = false := by
  rw [Bool.eq_false_iff]
  intro he
  simp only [inB, Bool.and_eq_true, decide_eq_true_eq] at he
  omega

set_option maxHeartbeats 2000000 in
theorem law_validate (B : Nat) (v : Value) (fs : List Frm) (form : Int) (w : World) (h : FormsAt B w v fs) (hB : B ≤ w.heap.size) (hsp : SpaceAt w) (hg : 0 < w.heap.size) :
    Calls Tryd.prog 3 #[v, .int .i64 form] w fun e w' => e = .returned (.bool true) ∧ Below w.heap.size w w' := by
  have H := Lib.hid h
  obtain ⟨A, n, c, rfl, hl, ⟨hn, hnc⟩, hk, hc⟩ := h.opens
  have Hk := Lib.hid hk
  have Hc := Lib.hid hc
  obtain ⟨⟨p, i⟩, ht⟩ : ∃ t, t = tableFault fs := ⟨_, rfl⟩
  have Ht := Lib.hid ht
  have Hsp := Lib.hid hsp
  clear h hsp ht hk hc
  go_enter Tryd.func3, Tryd.ntmps3
  go_upto_region 4 with (first
    | (go_at_call 8; refine (example_any _ Hsp.out hg).mono ?_; rintro e W1 ⟨rfl, hb1⟩)
    | (go_at_call 9; refine (tableFault_any B _ fs _ (H.out.below (hb1.mono hB)) (Nat.le_trans hB hb1.size)).mono ?_; rintro e W2 ⟨rfl, hb2⟩; rw [← Ht.out]))
  obtain ⟨X, hX⟩ : ∃ X, X = W2.heap.size := ⟨_, rfl⟩
  obtain ⟨V, hV⟩ : ∃ V, V = (W2.alloc (.cells #[.int .i64 p, .int .i64 i] 25)).drew := ⟨_, rfl⟩
  have hbV : Below w.heap.size w V := by
    rw [hV]
    exact ((hb1.trans (hb2.mono hb1.size)).alloc (Nat.le_trans hb1.size hb2.size) _).drew
  have t0 : Two V X (.int .i64 p) (.int .i64 i) := by rw [hV, hX]; exact Two.new W2 _ _ _
  refine wp_region_any (by kernel_rfl) ?_
  change wpAny _ _ _ _ _ _ _ (W2.alloc (.cells #[.int .i64 p, .int .i64 i] 25)).drew
  have HX := Lib.hid (show w.heap.size ≤ X by rw [hX]; exact Nat.le_trans hb1.size hb2.size)
  rw [← hV, ← hX]
  clear hV hX hb1 hb2
  have C : ∀ W, Below V.heap.size V W → Calls Tryd.prog 10 #[.slice A n c] W fun e w' => e = .returned (faultV (p, i)) ∧ Below W.heap.size W w' := fun W hW => by
    have := validate_any B _ fs W (H.out.below ((hbV.trans (hW.mono hbV.size)).mono hB)) (Nat.le_trans hB (Nat.le_trans hbV.size hW.size))
    rw [← Ht.out] at this
    exact this
  have HC := Lib.hid C
  clear C
  have T0 := Lib.hid t0
  obtain ⟨r0, r1, r2, r3⟩ := t0
  have hXV : X < V.heap.size := T0.out.lt
  refine wpAny_take (i := 0) (v := ?_) rfl (by kernel_rfl) (by kernel_rfl) (by kernel_rfl) (fun _ _ _ h => h) (Or.inl ⟨by rfl, ?_⟩) ?_
  rotate_left
  · intro w; go_simp; rfl
  simp [Act.put]
  refine wpAny_ready (rs := [1, 2]) (by kernel_rfl) (by simp) ?_
  refine AllReady.cons rfl (fun K hK => ?_) (AllReady.cons rfl (fun K hK => ?_) AllReady.nil)
  focus
    go_simp
    refine (HC.out _ (Below.refl _ _)).mono ?_
    rintro e W3 ⟨rfl, hb3⟩
    obtain ⟨s0, s1, s2, s3⟩ := T0.out.below hb3
    have hX3 : X < W3.heap.size := Nat.lt_of_lt_of_le hXV hb3.size
    refine hK _ _ ?_
    clear hK K
    refine wpAny_ready (rs := [2]) (by kernel_rfl) (by simp) ?_
    refine AllReady.cons rfl (fun K hK => ?_) AllReady.nil
    go_simp
    refine hK _ _ ?_
    clear hK K
  rotate_left
  focus
    go_simp
    refine hK _ _ ?_
    clear hK K
    refine wpAny_ready (rs := [1]) (by kernel_rfl) (by simp) ?_
    refine AllReady.cons rfl (fun K hK => ?_) AllReady.nil
    go_simp
    refine (HC.out _ (Below.refl _ _)).mono ?_
    rintro e W3 ⟨rfl, hb3⟩
    obtain ⟨s0, s1, s2, s3⟩ := T0.out.below hb3
    have hX3 : X < W3.heap.size := Nat.lt_of_lt_of_le hXV hb3.size
    refine hK _ _ ?_
    clear hK K
  all_goals
    refine wpAny_ready (rs := [3]) (by kernel_rfl) (by simp) ?_
    refine AllReady.cons rfl (fun K hK => ?_) AllReady.nil
    go_simp
    refine hK _ _ ?_
    clear hK K
    refine wpAny_done (by kernel_rfl) ?_ _
    have hbw3 : Below w.heap.size w W3 := hbV.trans (hb3.mono hbV.size)
    have H3 := Lib.hid (H.out.below (hbw3.mono hB))
    have hB3 := Nat.le_trans hB hbw3.size
    have T3 := Lib.hid (T0.out.below hb3)
    clear hbV r0 r1 r2 r3 hXV hb3 T0 HC
    by_cases hp0 : p = 0
    · have h00 : tableFault fs = (0, 0) := by
        rcases tableFault_cases fs with h | h
        · exact h
        · rw [← Ht.out] at h; exact absurd hp0 h
      obtain ⟨rfl, rfl⟩ : p = 0 ∧ i = 0 := by rw [h00] at Ht; have := Ht.out; simpa using this
      have H00 := Lib.hid h00
      clear h00 hp0
      by_cases hin : 0 ≤ form ∧ form < n
      · obtain ⟨k, rfl⟩ : ∃ k : Nat, form = (k : Int) := ⟨form.toNat, by omega⟩
        have hkn : k < n := by omega
        obtain ⟨f, hx, hm⟩ := getElem?_of_lt hl hkn
        have Hx := Lib.hid hx
        have Hm := Lib.hid hm
        obtain ⟨b1, o1, rfl, hb1, g1⟩ := Hc.out (by omega)
        have hcell := (g1 k f hx).below (hbw3.mono hB) hb1
        have kf := (Hk.out f hm).1.below (hbw3.mono hB)
        obtain ⟨nm, q, kv, ks⟩ := f
        obtain ⟨fA, fm, fc, fkv, _⟩ := kf.opens
        dsimp only at fkv
        subst fkv
        have HcE := Lib.hid hcell
        have Kf := Lib.hid kf
        clear hin hx hm hcell kf g1 Hc Hk
        go_wp2_with (first
          | (go_at_call 11; refine (in_any _ _ _ _).mono ?_; rintro e W4 ⟨rfl, rfl⟩; rw [in_yes n k hkn])
          | (go_at_call 13; refine (size_ok B _ fs k _ _ H3.out hB3 H00.out Hx.out).mono ?_; rintro e W5 ⟨rfl, hb5⟩; obtain ⟨q0, q1, q2, q3⟩ := T3.out.below hb5; have hX5 : X < W5.heap.size := (T3.out.below hb5).lt; have hb15 : b1 < W5.heap.size := Nat.lt_of_lt_of_le hb1 (Nat.le_trans hB3 hb5.size); obtain ⟨d1, d2, d3⟩ := HcE.out.below (hb5.mono hB3) hb1))
        have hbE : Below W5.heap.size W5 (W5.alloc (.cells #[.int .i64 0, .int .i64 0] 25)) := (Below.refl _ _).alloc (Nat.le_refl _) _
        have hB5 : B ≤ W5.heap.size := Nat.le_trans hB3 hb5.size
        have HS := Lib.hid (formSize_any B nm q (.slice fA fm fc) ks _ ((Kf.out.below (hb5.mono hB3)).below (hbE.mono hB5)) (Nat.le_trans hB5 hbE.size))
        have hbw5 : Below w.heap.size w W5 := hbw3.trans (hb5.mono hbw3.size)
        refine HS.out.mono ?_
        rintro e W6 ⟨rfl, hb6⟩
        go_wp2
        refine bodyPost_ret (v := .bool true) (by simp [results, Tryd.results3, go_sem]) rfl ⟨rfl, ?_⟩
        exact (hbw5.trans (hbE.mono hbw5.size)).trans (hb6.mono (Nat.le_trans hbw5.size hbE.size))
      · go_wp2_with (first
          | (go_at_call 11; refine (in_any _ _ _ _).mono ?_; rintro e W4 ⟨rfl, rfl⟩; rw [in_no n form hin])
          | (go_at_call 12; refine (at_exact _ _ _).mono ?_; rintro e W5 ⟨rfl, rfl⟩))
        obtain ⟨V6, hV6⟩ : ∃ V6, V6 = ((W3.setCell ⟨X, 0, none⟩ (.int .i64 3)).setCell ⟨X, 1, none⟩ (.int .i64 (-2))).alloc (.cells #[.int .i64 3, .int .i64 (-2)] 25) := ⟨_, rfl⟩
        have hb6 : Below w.heap.size w V6 := by
          rw [hV6]
          exact ((hbw3.setCell (p := ⟨X, 0, none⟩) HX.out _).setCell (p := ⟨X, 1, none⟩) HX.out _).alloc (by simp; exact hbw3.size) _
        have t6 : Two V6 X (.int .i64 3) (.int .i64 (-2)) := by
          rw [hV6]
          obtain ⟨e0, e1⟩ := two_set (x := .int .i64 3) (y := .int .i64 (-2)) s0 s1
          exact (show Two _ X (.int .i64 3) (.int .i64 (-2)) from ⟨e0, e1, by simpa using s2, by simpa using s3⟩).below ((Below.refl _ _).alloc (Nat.le_refl _) _)
        have H6 := Lib.hid (H.out.below (hb6.mono hB))
        have T6 := Lib.hid t6
        have hB6 := Nat.le_trans hB hb6.size
        have hout : form < 0 ∨ (fs.length : Int) ≤ form := by rw [hl.out]; omega
        rw [← hV6]
        clear hV6 t6 s0 s1 s2 s3 hin
        go_wp2_with (go_at_call 13; refine (size_range B _ fs form _ H6.out hB6 H00.out hout).mono ?_; rintro e W7 ⟨rfl, hb7⟩; obtain ⟨q0, q1, q2, q3⟩ := T6.out.below hb7; have hX7 : X < W7.heap.size := (T6.out.below hb7).lt)
        refine bodyPost_ret (v := .bool true) (by simp [results, Tryd.results3, go_sem]) rfl ⟨rfl, ?_⟩
        exact (hb6.trans (hb7.mono hb6.size)).alloc (Nat.le_trans hb6.size hb7.size) _
    · have hp : (p == 0) = false := by simpa using hp0
      have Hne := Lib.hid (show (tableFault fs).1 ≠ 0 by rw [← Ht.out]; exact hp0)
      clear hp0
      go_wp2_with (first
          | (go_at_call 13; refine (size_bad B _ fs form _ H3.out hB3 Hne.out).mono ?_; rintro e W5 ⟨rfl, hb5⟩; rw [← Ht.out]; obtain ⟨q0, q1, q2, q3⟩ := T3.out.below hb5; have hX5 : X < W5.heap.size := (T3.out.below hb5).lt))
      refine bodyPost_ret (v := .bool true) (by simp [results, Tryd.results3, go_sem]) rfl ⟨rfl, ?_⟩
      exact (hbw3.trans (hb5.mono hbw3.size)).alloc (Nat.le_trans hbw3.size hb5.size) _
end Go.Proofs.YtbpnogpjpklmjaaDoor
