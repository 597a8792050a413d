/- The law of Find. Conditions: the table reads as forms, the list as kinds; the library's table of white space reads as its text lays it. -/
import Derived.Deep.CutRange
import Derived.Test.YtbpnogpjpklmjaaDoorIsaN
namespace Go.Proofs.YtbpnogpjpklmjaaDoor
open Go Go.RowKit Go.Shelf

set_option maxHeartbeats 2000000 in
theorem law_find_bad (B : Nat) (v : Value) (fs : List Frm) (nm : ByteArray) (kv : Value) (ks : List Int) (w : World) (h : FormsAt B w v fs) (hk : KindsAt B w kv ks) (hB : B ≤ w.heap.size) (hsp : SpaceAt w) (hg : 0 < w.heap.size) (hne : (tableFault fs).1 ≠ 0) :
    Calls Tryd.prog 4 #[v, .string nm, kv] w fun e w' => e = .returned (.bool true) ∧ Below w.heap.size w w' := by
  have C : ∀ W, Below w.heap.size w W → Calls Tryd.prog 15 #[v, .string nm, kv] W fun e w' => e = .returned (.tuple #[.int .i64 0, faultV (tableFault fs)]) ∧ Below W.heap.size W w' := fun W hW =>
    find_bad B v fs nm kv ks W (h.below (hW.mono hB)) (hk.below (hW.mono hB)) (Nat.le_trans hB hW.size) hne
  have D : ∀ W, Below w.heap.size w W → Calls Tryd.prog 9 #[v] W fun e w' => e = .returned (faultV (tableFault fs)) ∧ Below W.heap.size W w' := fun W hW =>
    tableFault_any B v fs W (h.below (hW.mono hB)) (Nat.le_trans hB hW.size)
  obtain ⟨A, n, c, rfl, hl, _⟩ := h.opens
  obtain ⟨A2, n2, c2, rfl, _⟩ := hk.opens
  generalize tableFault fs = t at *
  obtain ⟨p, i⟩ := t
  have hp : (p == 0) = false := by simpa using hne
  have HC := Lib.hid C
  have HD := Lib.hid D
  have Hsp := Lib.hid hsp
  clear h hk hne hsp C D hl
  go_enter Tryd.func4, Tryd.ntmps4
  go_wp2_with (first
    | (go_at_call 8; refine (example_any _ Hsp.out hg).mono ?_; rintro e W1 ⟨rfl, hb1⟩)
    | (go_at_call 15; refine (HC.out _ hb1).mono ?_; rintro e W2 ⟨rfl, hb2⟩; have hbw2 := hb1.trans (hb2.mono hb1.size))
    | (go_at_call 9; refine (HD.out _ (hbw2.alloc hbw2.size _)).mono ?_; rintro e W3 ⟨rfl, hb3⟩; obtain ⟨q0, q1, q2, q3⟩ := (Two.new W2 (.int .i64 p) (.int .i64 i) 25).below hb3; have hX3 : W2.heap.size < W3.heap.size := block_lt_of_cell q0))
  refine bodyPost_ret (v := .bool true) (by simp [results, Tryd.results4, go_sem]) rfl ⟨rfl, ?_⟩
  exact ((hbw2.alloc hbw2.size _).trans (hb3.mono (by simp; exact Nat.le_succ_of_le hbw2.size))).alloc (Nat.le_trans hbw2.size (Nat.le_of_lt hX3)) _

set_option maxHeartbeats 2000000 in
theorem law_find_good (B : Nat) (v : Value) (fs : List Frm) (nm : ByteArray) (kv : Value) (ks : List Int) (w : World) (h : FormsAt B w v fs) (hk : KindsAt B w kv ks) (hB : B ≤ w.heap.size) (hsp : SpaceAt w) (hg : 0 < w.heap.size) (ht : tableFault fs = (0, 0)) :
    Calls Tryd.prog 4 #[v, .string nm, kv] w fun e w' => e = .returned (.bool true) ∧ Below w.heap.size w w' := by
  obtain ⟨r, fc, fi, hrf, C⟩ : ∃ r fc fi : Int, ((idxOf (hasB nm ks) fs < 0 ∧ r = 0 ∧ fc = 6 ∧ fi = -2) ∨ (0 ≤ idxOf (hasB nm ks) fs ∧ r = idxOf (hasB nm ks) fs ∧ fc = 0 ∧ fi = 0)) ∧
      ∀ W, Below w.heap.size w W → Calls Tryd.prog 15 #[v, .string nm, kv] W fun e w' => e = .returned (.tuple #[.int .i64 r, faultV (fc, fi)]) ∧ Below W.heap.size W w' := by
    have C := fun W (hW : Below w.heap.size w W) => find_good B v fs nm kv ks W (h.below (hW.mono hB)) (hk.below (hW.mono hB)) (Nat.le_trans hB hW.size) ht
    by_cases hj : idxOf (hasB nm ks) fs < 0
    · refine ⟨0, 6, -2, .inl ⟨hj, rfl, rfl, rfl⟩, fun W hW => ?_⟩
      have := C W hW
      rw [if_pos hj] at this
      exact this
    · refine ⟨_, 0, 0, .inr ⟨by omega, rfl, rfl, rfl⟩, fun W hW => ?_⟩
      have := C W hW
      rw [if_neg hj] at this
      exact this
  have D : ∀ W, Below w.heap.size w W → Calls Tryd.prog 9 #[v] W fun e w' => e = .returned (faultV (0, 0)) ∧ Below W.heap.size W w' := fun W hW => by
    have := tableFault_any B v fs W (h.below (hW.mono hB)) (Nat.le_trans hB hW.size)
    rwa [ht] at this
  have H := Lib.hid h
  have K := Lib.hid hk
  obtain ⟨A, n, c, rfl, hl, ⟨hn, hnc⟩, hks, hc⟩ := h.opens
  obtain ⟨A2, n2, c2, rfl, _⟩ := hk.opens
  have Hks := Lib.hid hks
  have Hc := Lib.hid hc
  have HC := Lib.hid C
  have HD := Lib.hid D
  have Hsp := Lib.hid hsp
  have Hrf := Lib.hid hrf
  clear h hk hsp C D ht hks hc hrf
  go_enter Tryd.func4, Tryd.ntmps4
  go_wp2_with (first
    | (go_at_call 8; refine (example_any _ Hsp.out hg).mono ?_; rintro e W1 ⟨rfl, hb1⟩)
    | (go_at_call 15; refine (HC.out _ hb1).mono ?_; rintro e W2 ⟨rfl, hb2⟩; have hbw2 := hb1.trans (hb2.mono hb1.size))
    | (go_at_call 9; refine (HD.out _ (hbw2.alloc hbw2.size _)).mono ?_; rintro e W3 ⟨rfl, hb3⟩; have t3 := (Two.new W2 (.int .i64 fc) (.int .i64 fi) 25).below hb3; have hX3 : W2.heap.size < W3.heap.size := block_lt_of_cell t3.1))
  obtain ⟨X, hX⟩ : ∃ X, X = W2.heap.size := ⟨_, rfl⟩
  obtain ⟨V, hV⟩ : ∃ V, V = W3.alloc (.cells #[.int .i64 0, .int .i64 0] 25) := ⟨_, rfl⟩
  have hbV : Below w.heap.size w V := by
    rw [hV]
    exact ((hbw2.alloc hbw2.size _).trans (hb3.mono (by simp; exact Nat.le_succ_of_le hbw2.size))).alloc (Nat.le_trans hbw2.size (Nat.le_of_lt hX3)) _
  have tV : Two V X (.int .i64 fc) (.int .i64 fi) := by rw [hV, hX]; exact t3.below ((Below.refl _ _).alloc (Nat.le_refl _) _)
  rw [← hV, ← hX]
  clear hV hX hb1 hb2 hb3 t3 hX3 hbw2
  have TV := Lib.hid tV
  clear tV
  go_loopw [10] (fun i wr => ∃ k : Nat, k ≤ n ∧ i = .int .i64 (k : Int) ∧ Hid (noneYet (hasB nm ks) fs k) ∧ Below w.heap.size w wr ∧ Hid (Two wr X (.int .i64 fc) (.int .i64 fi))) (fun i _ => n - (intOf i).toNat)
  case atStart => exact ⟨0, Nat.zero_le _, rfl, Lib.hid (noneYet_zero _ _), hbV, TV⟩
  case round =>
    obtain ⟨k, hkn, rfl, HN, hbw, TW⟩ := hrel
    by_cases hlt : k < n
    · obtain ⟨f, hx, hm⟩ := getElem?_of_lt hl hlt
      obtain ⟨b1, o1, rfl, hb1, g1⟩ := Hc.out (by omega)
      have hcell := (g1 k f hx).below (hbw.mono hB) hb1
      have hb1w : b1 < wr.heap.size := Nat.lt_of_lt_of_le hb1 (Nat.le_trans hB hbw.size)
      have S : Calls Tryd.prog 16 #[.agg #[.string f.name, .int .i64 f.code, f.kv], .agg #[.string nm, .int .i64 0, .slice A2 n2 c2]] wr fun e w' => e = .returned (.bool (hasB nm ks f)) ∧ Below wr.heap.size wr w' :=
        same_any B f ⟨nm, 0, .slice A2 n2 c2, ks⟩ wr (((Hks.out f hm).1).below (hbw.mono hB)) (K.out.below (hbw.mono hB)) (Nat.le_trans hB hbw.size)
      have HS := Lib.hid S
      have Hx := Lib.hid hx
      obtain ⟨fA, fm, fc', fkv, _⟩ := (Hks.out f hm).1.opens
      obtain ⟨fn, fq, fv, fks⟩ := f
      dsimp only at fkv
      subst fkv
      obtain ⟨d1, d2, d3⟩ := hcell
      dsimp only at d1 d2 d3
      cases hh : hasB nm ks ⟨fn, fq, .slice fA fm fc', fks⟩ with
      | false =>
        have HS' := HS.out
        rw [hh] at HS'
        have HS2 := Lib.hid HS'
        have HN2 := Lib.hid (noneYet_succ HN.out Hx.out hh)
        clear HS HS' hh S hx hm g1 HN
        go_wp2_with (go_at_call 16; refine HS2.out.mono ?_; rintro e W5 ⟨rfl, hb5⟩)
        exact ⟨⟨k + 1, by omega, by push_cast; rfl, HN2, hbw.trans (hb5.mono hbw.size), Lib.hid (TW.out.below hb5)⟩, by simp [intOf]; omega⟩
      | true =>
        have HS' := HS.out
        rw [hh] at HS'
        have HS2 := Lib.hid HS'
        have hidx := idxOf_hit HN.out Hx.out hh
        obtain ⟨rfl, rfl, rfl⟩ : r = (k : Int) ∧ fc = 0 ∧ fi = 0 := by
          rcases Hrf.out with ⟨h1, _⟩ | ⟨_, h2, h3, h4⟩
          · omega
          · exact ⟨by rw [h2, hidx], h3, h4⟩
        clear HS HS' hh S hx hm g1 HN hidx Hrf
        go_wp2_with (go_at_call 16; refine HS2.out.mono ?_; rintro e W5 ⟨rfl, hb5⟩; obtain ⟨q0, q1, q2, q3⟩ := TW.out.below hb5; have hX5 := (TW.out.below hb5).lt)
        refine bodyPost_ret (v := .bool true) (by simp [results, Tryd.results4, go_sem]) rfl ⟨rfl, ?_⟩
        exact hbw.trans (hb5.mono hbw.size)
    · obtain rfl : k = n := by omega
      have hidx := idxOf_none (Nat.le_of_eq hl.out) HN.out
      obtain ⟨rfl, rfl, rfl⟩ : r = 0 ∧ fc = 6 ∧ fi = -2 := by
        rcases Hrf.out with ⟨_, h2, h3, h4⟩ | ⟨h1, _⟩
        · exact ⟨h2, h3, h4⟩
        · omega
      clear hidx HN Hrf hkn hlt
      go_upto_region 12 with fail
      refine wp_region_any (by kernel_rfl) ?_
      change wpAny _ _ _ _ _ _ _ wr.drew
      obtain ⟨V2, hV2⟩ : ∃ V2, V2 = wr.drew := ⟨_, rfl⟩
      have hbV2 : Below w.heap.size w V2 := by rw [hV2]; exact hbw.drew
      have t2 : Two V2 X (.int .i64 6) (.int .i64 (-2)) := by rw [hV2]; exact TW.out
      have hXV := t2.lt
      have T2 := Lib.hid t2
      obtain ⟨r0, r1, r2, r3⟩ := t2
      rw [← hV2]
      clear hV2
      refine wpAny_ready (rs := [0, 1]) (by kernel_rfl) (by simp) ?_
      refine AllReady.cons rfl (fun K hK => ?_) (AllReady.cons rfl (fun K hK => ?_) AllReady.nil)
      focus
        go_simp
        refine hK _ _ ?_
        clear hK K
        refine wpAny_ready (rs := [1]) (by kernel_rfl) (by simp) ?_
        refine AllReady.cons rfl (fun K hK => ?_) AllReady.nil
        go_simp
        refine (at_any 6 (-2) V2).mono ?_
        rintro e W5 ⟨rfl, hb5⟩
        refine hK _ _ ?_
        clear hK K
      rotate_left
      focus
        go_simp
        refine (at_any 6 (-2) V2).mono ?_
        rintro e W5 ⟨rfl, hb5⟩
        obtain ⟨s0, s1, s2, s3⟩ := T2.out.below hb5
        refine hK _ _ ?_
        clear hK K
        refine wpAny_ready (rs := [0]) (by kernel_rfl) (by simp) ?_
        refine AllReady.cons rfl (fun K hK => ?_) AllReady.nil
        go_simp
        refine hK _ _ ?_
        clear hK K
      all_goals
        refine wpAny_ready (rs := [2]) (by kernel_rfl) (by simp) ?_
        refine AllReady.cons rfl (fun K hK => ?_) AllReady.nil
        go_simp
        refine hK _ _ ?_
        clear hK K
        refine wpAny_ready (rs := [3]) (by kernel_rfl) (by simp) ?_
        refine AllReady.cons rfl (fun K hK => ?_) AllReady.nil
        go_simp
        refine hK _ _ ?_
        clear hK K
        refine wpAny_ready (rs := [4]) (by kernel_rfl) (by simp) ?_
        refine AllReady.cons rfl (fun K hK => ?_) AllReady.nil
        go_simp
        refine hK _ _ ?_
        clear hK K
        refine wpAny_ready (rs := [5]) (by kernel_rfl) (by simp) ?_
        refine AllReady.cons rfl (fun K hK => ?_) AllReady.nil
        go_simp
        refine hK _ _ ?_
        clear hK K
        refine wpAny_ready (rs := [6]) (by kernel_rfl) (by simp) ?_
        refine AllReady.cons rfl (fun K hK => ?_) AllReady.nil
        go_simp
        refine hK _ _ ?_
        clear hK K
        refine wpAny_ready (rs := [7]) (by kernel_rfl) (by simp) ?_
        refine AllReady.cons rfl (fun K hK => ?_) AllReady.nil
        go_simp
        refine hK _ _ ?_
        clear hK K
        refine wpAny_done (by kernel_rfl) ?_ _
        go_wp2
        refine bodyPost_ret (v := .bool true) (by simp [results, Tryd.results4, go_sem]) rfl ⟨rfl, ?_⟩
        exact hbV2.trans (hb5.mono hbV2.size)

theorem law_find (B : Nat) (v : Value) (fs : List Frm) (nm : ByteArray) (kv : Value) (ks : List Int) (w : World) (h : FormsAt B w v fs) (hk : KindsAt B w kv ks) (hB : B ≤ w.heap.size) (hsp : SpaceAt w) (hg : 0 < w.heap.size) :
    Calls Tryd.prog 4 #[v, .string nm, kv] w fun e w' => e = .returned (.bool true) ∧ Below w.heap.size w w' := by
  rcases tableFault_cases fs with ht | hne
  · exact law_find_good B v fs nm kv ks w h hk hB hsp hg ht
  · exact law_find_bad B v fs nm kv ks w h hk hB hsp hg hne
end Go.Proofs.YtbpnogpjpklmjaaDoor
