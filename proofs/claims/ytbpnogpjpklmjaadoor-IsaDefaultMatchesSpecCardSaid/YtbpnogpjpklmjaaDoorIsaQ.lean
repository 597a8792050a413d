/- The law of the default table and of Flow. Conditions: the library's table of white space reads as its text lays it. -/
import Derived.Deep.CutRange
import Derived.Test.YtbpnogpjpklmjaaDoorIsaN
namespace Go.Proofs.YtbpnogpjpklmjaaDoor
open Go Go.RowKit Go.Shelf

theorem default_forms (w : World) (hsp : SpaceAt w) (hg : 0 < w.heap.size) :
    Calls Tryd.prog 17 #[] w fun e w' => ∃ A c fs, e = .returned (.slice A 59 c) ∧ FormsAt w'.heap.size w' (.slice A 59 c) fs ∧ tableFault fs = (0, 0) ∧
      (∀ k, k < 59 → ∃ f, fs[k]? = some f ∧ f.name = namesTab.getD k ByteArray.empty ∧ f.code = (37 * (k : Int) + 11) % 256 ∧ f.kinds = kindsTab.getD k []) ∧ Below w.heap.size w w' := by
  refine (default_any w hsp hg).mono ?_
  rintro e w' ⟨rfl, ⟨fs, hd, hr⟩, hb⟩
  refine ⟨_, _, fs, rfl, hd.at hr, hd.fault, fun k hk => ?_, hb⟩
  obtain ⟨f, hf, _⟩ := getElem?_of_lt (l := fs) (k := k) (n := 59) (Lib.hid hd.1) hk
  obtain ⟨h1, h2, h3, _⟩ := hd.2 k f hf
  exact ⟨f, hf, by rw [List.getD_eq_getElem?_getD, h1]; rfl, h2, h3⟩
theorem ref_forms (w : World) :
    Calls Tryd.prog 18 #[] w fun e w' => ∃ A c fs, e = .returned (.slice A 59 c) ∧ FormsAt w'.heap.size w' (.slice A 59 c) fs ∧
      (∀ k, k < 59 → ∃ f, fs[k]? = some f ∧ f.name = namesTab.getD k ByteArray.empty ∧ f.code = (37 * (k : Int) + 11) % 256 ∧ f.kinds = kindsTab.getD k []) ∧ Below w.heap.size w w' := by
  refine (refDefault_any w).mono ?_
  rintro e w' ⟨v, r, rfl, hf, hb⟩
  obtain ⟨A, n, c, rfl, hl, _⟩ := hf.opens
  obtain rfl : n = 59 := by rw [← hl.out, refForms_len]
  refine ⟨_, _, _, rfl, hf, fun k hk => ?_, hb⟩
  refine ⟨_, by simp only [refForms, List.getElem?_map, List.getElem?_range hk, Option.map_some]; rfl, rfl, rfl, rfl⟩

theorem tableFault_valid (B : Nat) (v : Value) (fs : List Frm) (w : World) (h : FormsAt B w v fs) (hB : B ≤ w.heap.size) (ht : tableFault fs = (0, 0)) :
    Calls Tryd.prog 9 #[v] w fun e w' => e = .returned (.agg #[.int .i64 0, .int .i64 0]) ∧ Below w.heap.size w w' := by
  have := tableFault_any B v fs w h hB
  rwa [ht] at this

set_option maxHeartbeats 2000000 in
theorem law_default (form : Int) (w : World) (hsp : SpaceAt w) (hg : 0 < w.heap.size) :
    Calls Tryd.prog 5 #[.int .i64 form] w fun e w' => e = .returned (.bool true) ∧ Below w.heap.size w w' := by
  have Hsp := Lib.hid hsp
  have hfd : ∀ w : World, (Instr.field 25 (.agg #[.int .i64 0, .int .i64 0]) 0).run Tryd.prog w = .ok (.int .i64 0) w := fun _ => by kernel_rfl
  clear hsp
  go_enter Tryd.func5, Tryd.ntmps5
  go_wp2_with (first
    | (go_at_call 17; refine (default_forms _ Hsp.out hg).mono ?_; rintro e W1 ⟨A1, c1, fs, rfl, hf1, ht, hd1, hb1⟩; have Hf1 := Lib.hid hf1; have Ht := Lib.hid ht; have Hd1 := Lib.hid hd1; clear hf1 ht hd1)
    | (go_at_call 18; refine (ref_forms _).mono ?_; rintro e W2 ⟨A2, c2, gs, rfl, hf2, hd2, hb2⟩; have Hf2 := Lib.hid hf2; have Hd2 := Lib.hid hd2; clear hf2 hd2; have hbw2 := hb1.trans (hb2.mono hb1.size))
    | (go_at_call 8; refine (example_any _ (Hsp.out.below hbw2 hg) (Nat.lt_of_lt_of_le hg hbw2.size)).mono ?_; rintro e W3 ⟨rfl, hb3⟩)
    | (go_at_call 9; refine (tableFault_valid W1.heap.size _ fs _ ((Hf1.out.below hb2).below (hb3.mono hb2.size)) (Nat.le_trans hb2.size hb3.size) Ht.out).mono ?_; rintro e W4 ⟨rfl, hb4⟩))
  have hb14 : Below W1.heap.size W1 W4 := (hb2.trans (hb3.mono hb2.size)).trans (hb4.mono (Nat.le_trans hb2.size hb3.size))
  have hb24 : Below W2.heap.size W2 W4 := hb3.trans (hb4.mono hb3.size)
  have hbw4 : Below w.heap.size w W4 := hb1.trans (hb14.mono hb1.size)
  have F1 := (Hf1.out.below hb14).more hb14.size
  have F2 := (Hf2.out.below hb24).more hb24.size
  obtain ⟨_, _, _, r1, _, _, hk1, hc1⟩ := F1.opens
  injection r1 with r1 r2 r3
  subst r1 r2 r3
  obtain ⟨_, _, _, r1, _, _, hk2, hc2⟩ := F2.opens
  injection r1 with r1 r2 r3
  subst r1 r2 r3
  obtain ⟨b1, o1, rfl, hbb1, g1⟩ := hc1 (by decide)
  obtain ⟨b2, o2, rfl, hbb2, g2⟩ := hc2 (by decide)
  have G1 := Lib.hid g1
  have G2 := Lib.hid g2
  have K1 := Lib.hid hk1
  have K2 := Lib.hid hk2
  clear F1 F2 hc1 hc2 g1 g2 hk1 hk2 Hf1 Hf2 hb1 hb2 hb3 hb4 hbw2 hb14 hb24 Ht
  go_loopw [5] (fun i wr => ∃ k : Nat, k ≤ 59 ∧ i = .int .i64 (k : Int) ∧ Below W4.heap.size W4 wr) (fun i _ => 59 - (intOf i).toNat)
  case atStart => exact ⟨0, by decide, rfl, Below.refl _ _⟩
  case round =>
    obtain ⟨k, hk, rfl, hbw⟩ := hrel
    by_cases hlt : k < 59
    · obtain ⟨f, hf, f1, f2, f3⟩ := Hd1.out k hlt
      obtain ⟨g, hg', g1, g2, g3⟩ := Hd2.out k hlt
      have hq : f.code = g.code := f2.trans g2.symm
      have hs : sameB f g = true := by simp [sameB, nameB, f1, g1, f3, g3]
      have hdf := (G1.out k f hf).below hbw hbb1
      have hdg := (G2.out k g hg').below hbw hbb2
      have kf := (K1.out f (List.mem_of_getElem? hf)).1.below hbw
      have kg := (K2.out g (List.mem_of_getElem? hg')).1.below hbw
      clear f1 f2 f3 g1 g2 g3 hf hg'
      obtain ⟨fA, fm, fc, fkv, _⟩ := kf.opens
      obtain ⟨gA, gm, gc, gkv, _⟩ := kg.opens
      obtain ⟨fn, fq, fv, fks⟩ := f
      obtain ⟨gn, gq, gv, gks⟩ := g
      dsimp only at fkv gkv hq
      subst fkv gkv hq
      have S : ∀ V, Below W4.heap.size wr V → Calls Tryd.prog 16 #[.agg #[.string fn, .int .i64 fq, .slice fA fm fc], .agg #[.string gn, .int .i64 fq, .slice gA gm gc]] V fun e w' => e = .returned (.bool true) ∧ Below V.heap.size V w' := fun V hV => by
        have := same_any W4.heap.size ⟨fn, fq, .slice fA fm fc, fks⟩ ⟨gn, fq, .slice gA gm gc, gks⟩ V (kf.below hV) (kg.below hV) (Nat.le_trans hbw.size hV.size)
        rwa [hs] at this
      have HS := Lib.hid S
      have Hdf := Lib.hid hdf
      have Hdg := Lib.hid hdg
      clear S kf kg hs hdf hdg
      go_upto_region 8 with fail
      refine wp_region_any (by kernel_rfl) ?_
      change wpAny _ _ _ _ _ _ _ wr.drew
      obtain ⟨V, hV⟩ : ∃ V, V = wr.drew := ⟨_, rfl⟩
      have hbV : Below W4.heap.size wr V := by rw [hV]; exact (Below.refl _ _).drew
      obtain ⟨d1, d2, d3⟩ : FrmCells V b1 (o1 + k * 3) ⟨fn, fq, .slice fA fm fc, fks⟩ := by rw [hV]; exact Hdf.out
      obtain ⟨e1, e2, e3⟩ : FrmCells V b2 (o2 + k * 3) ⟨gn, fq, .slice gA gm gc, gks⟩ := by rw [hV]; exact Hdg.out
      dsimp only at d1 d2 d3 e1 e2 e3
      have hS := HS.out V hbV
      rw [← hV]
      clear hV Hdf Hdg HS
      refine wpAny_take (i := 0) (v := ?_) rfl (by kernel_rfl) (by kernel_rfl) (by kernel_rfl) (fun _ _ _ h => h) (Or.inl ⟨by rfl, ?_⟩) ?_
      rotate_left
      · intro w; go_simp; rfl
      refine wpAny_take (i := 1) (v := ?_) rfl (by kernel_rfl) (by kernel_rfl) (by kernel_rfl) (fun _ _ _ h => h) (Or.inl ⟨by rfl, ?_⟩) ?_
      rotate_left
      · intro w; go_simp; rfl
      refine wpAny_take (i := 2) (v := ?_) rfl (by kernel_rfl) (by kernel_rfl) (by kernel_rfl) (fun _ _ _ h => h) (Or.inl ⟨by rfl, ?_⟩) ?_
      rotate_left
      · intro w; go_simp; rfl
      refine wpAny_take (i := 3) (v := ?_) rfl (by kernel_rfl) (by kernel_rfl) (by kernel_rfl) (fun _ _ _ h => h) (Or.inl ⟨by rfl, ?_⟩) ?_
      rotate_left
      · intro w; go_simp; rfl
      refine wpAny_take (i := 5) (v := ?_) rfl (by kernel_rfl) (by kernel_rfl) (by kernel_rfl) (fun _ _ _ h => h) (Or.inl ⟨by rfl, ?_⟩) ?_
      rotate_left
      · intro w; go_simp; rfl
      refine wpAny_take (i := 6) (v := ?_) rfl (by kernel_rfl) (by kernel_rfl) (by kernel_rfl) (fun _ _ _ h => h) (Or.inl ⟨by rfl, ?_⟩) ?_
      rotate_left
      · intro w; go_simp; rfl
      refine wpAny_take (i := 7) (v := ?_) rfl (by kernel_rfl) (by kernel_rfl) (by kernel_rfl) (fun _ _ _ h => h) (Or.inl ⟨by rfl, ?_⟩) ?_
      rotate_left
      · intro w; go_simp; rfl
      refine wpAny_take (i := 8) (v := ?_) rfl (by kernel_rfl) (by kernel_rfl) (by kernel_rfl) (fun _ _ _ h => h) (Or.inl ⟨by rfl, ?_⟩) ?_
      rotate_left
      · intro w; go_simp; rfl
      simp [Act.put]
      refine wpAny_ready (rs := [4, 9]) (by kernel_rfl) (by simp) ?_
      refine AllReady.cons rfl (fun K hK => ?_) (AllReady.cons rfl (fun K hK => ?_) AllReady.nil)
      focus
        go_simp
        refine hK _ _ ?_
        clear hK K
        refine wpAny_ready (rs := [9]) (by kernel_rfl) (by simp) ?_
        refine AllReady.cons rfl (fun K hK => ?_) AllReady.nil
        go_simp
        refine hK _ _ ?_
        clear hK K
      rotate_left
      focus
        go_simp
        refine hK _ _ ?_
        clear hK K
        refine wpAny_ready (rs := [4]) (by kernel_rfl) (by simp) ?_
        refine AllReady.cons rfl (fun K hK => ?_) AllReady.nil
        go_simp
        refine hK _ _ ?_
        clear hK K
      all_goals
        refine wpAny_ready (rs := [10]) (by kernel_rfl) (by simp) ?_
        refine AllReady.cons rfl (fun K hK => ?_) AllReady.nil
        go_simp
        refine hK _ _ ?_
        clear hK K
        refine wpAny_ready (rs := [11]) (by kernel_rfl) (by simp) ?_
        refine AllReady.cons rfl (fun K hK => ?_) AllReady.nil
        go_simp
        refine hK _ _ ?_
        clear hK K
        refine wpAny_take (i := 12) (v := ?_) rfl (by kernel_rfl) (by kernel_rfl) (by kernel_rfl) (fun _ _ _ h => h) (Or.inl ⟨by rfl, ?_⟩) ?_
        rotate_left
        · intro w; go_simp; rfl
        refine wpAny_take (i := 13) (v := ?_) rfl (by kernel_rfl) (by kernel_rfl) (by kernel_rfl) (fun _ _ _ h => h) (Or.inl ⟨by rfl, ?_⟩) ?_
        rotate_left
        · intro w; go_simp; rfl
        refine wpAny_take (i := 14) (v := ?_) rfl (by kernel_rfl) (by kernel_rfl) (by kernel_rfl) (fun _ _ _ h => h) (Or.inl ⟨by rfl, ?_⟩) ?_
        rotate_left
        · intro w; go_simp; rfl
        refine wpAny_take (i := 16) (v := ?_) rfl (by kernel_rfl) (by kernel_rfl) (by kernel_rfl) (fun _ _ _ h => h) (Or.inl ⟨by rfl, ?_⟩) ?_
        rotate_left
        · intro w; go_simp; rfl
        refine wpAny_take (i := 17) (v := ?_) rfl (by kernel_rfl) (by kernel_rfl) (by kernel_rfl) (fun _ _ _ h => h) (Or.inl ⟨by rfl, ?_⟩) ?_
        rotate_left
        · intro w; go_simp; rfl
        refine wpAny_take (i := 18) (v := ?_) rfl (by kernel_rfl) (by kernel_rfl) (by kernel_rfl) (fun _ _ _ h => h) (Or.inl ⟨by rfl, ?_⟩) ?_
        rotate_left
        · intro w; go_simp; rfl
        simp [Act.put]
        refine wpAny_ready (rs := [15, 19]) (by kernel_rfl) (by simp) ?_
        refine AllReady.cons rfl (fun K hK => ?_) (AllReady.cons rfl (fun K hK => ?_) AllReady.nil)
        focus
          go_simp
          refine hK _ _ ?_
          clear hK K
          refine wpAny_ready (rs := [19]) (by kernel_rfl) (by simp) ?_
          refine AllReady.cons rfl (fun K hK => ?_) AllReady.nil
          go_simp
          refine hK _ _ ?_
          clear hK K
        rotate_left
        focus
          go_simp
          refine hK _ _ ?_
          clear hK K
          refine wpAny_ready (rs := [15]) (by kernel_rfl) (by simp) ?_
          refine AllReady.cons rfl (fun K hK => ?_) AllReady.nil
          go_simp
          refine hK _ _ ?_
          clear hK K
        all_goals
          refine wpAny_ready (rs := [20]) (by kernel_rfl) (by simp) ?_
          refine AllReady.cons rfl (fun K hK => ?_) AllReady.nil
          go_simp
          refine hS.mono ?_
          rintro e V5 ⟨rfl, hb5⟩
          refine hK _ _ ?_
          clear hK K
          refine wpAny_ready (rs := [21]) (by kernel_rfl) (by simp) ?_
          refine AllReady.cons rfl (fun K hK => ?_) AllReady.nil
          go_simp
          refine hK _ _ ?_
          clear hK K
          refine wpAny_ready (rs := [22]) (by kernel_rfl) (by simp) ?_
          refine AllReady.cons rfl (fun K hK => ?_) AllReady.nil
          go_simp
          refine hK _ _ ?_
          clear hK K
          refine wpAny_done (by kernel_rfl) ?_ _
          have hb45 : Below W4.heap.size W4 V5 := (hbw.trans hbV).trans (hb5.mono (Nat.le_trans hbw.size hbV.size))
          go_wp2
          exact ⟨⟨k + 1, by omega, by push_cast; rfl, hb45⟩, by simp [intOf]; omega⟩
    · obtain rfl : k = 59 := by omega
      clear hlt hk
      have hbw5 : Below w.heap.size w wr := hbw4.trans (hbw.mono hbw4.size)
      by_cases hin : 0 ≤ form ∧ form < 59
      · have hi : inB form 0 58 = true := by simp only [inB, Bool.and_eq_true, decide_eq_true_eq]; omega
        have Hi := Lib.hid hi
        obtain ⟨j, rfl⟩ : ∃ j : Nat, form = (j : Int) := ⟨form.toNat, by omega⟩
        have hj : j < 59 := by omega
        clear hi hin
        go_wp2_with (first
          | (go_at_call 19; refine (flow_any _ (by omega) _).mono ?_; rintro e W6 ⟨rfl, hb6⟩)
          | (go_at_call 11; refine (in_any _ _ _ _).mono ?_; rintro e W7 ⟨rfl, rfl⟩; rw [Hi.out])
          | (go_at_call 20; refine (flowOf_any j hj _).mono ?_; rintro e W8 ⟨rfl, hb8⟩))
        refine bodyPost_ret (v := .bool true) (by simp [results, Tryd.results5, go_sem]) rfl ⟨rfl, ?_⟩
        have hbw6 := hbw5.trans (hb6.mono hbw5.size)
        exact (hbw6.alloc hbw6.size _).trans (hb8.mono (by simp; exact Nat.le_succ_of_le hbw6.size))
      · have hi : inB form 0 58 = false := by
          rw [Bool.eq_false_iff]
          intro he
          simp only [inB, Bool.and_eq_true, decide_eq_true_eq] at he
          omega
        have Hi := Lib.hid hi
        have hout : form < 0 ∨ 59 ≤ form := by omega
        clear hi hin
        go_upto_region 12 with (first
          | (go_at_call 19; refine (flow_bad _ hout _).mono ?_; rintro e W6 ⟨rfl, hb6⟩)
          | (go_at_call 11; refine (in_any _ _ _ _).mono ?_; rintro e W7 ⟨rfl, rfl⟩; rw [Hi.out]))
        have hbw6 := hbw5.trans (hb6.mono hbw5.size)
        refine wp_region_any (by kernel_rfl) ?_
        change wpAny _ _ _ _ _ _ _ (W6.alloc (.cells #[.int .i64 3, .int .i64 (-2)] 25)).drew
        obtain ⟨X, hX⟩ : ∃ X, X = W6.heap.size := ⟨_, rfl⟩
        obtain ⟨V2, hV2⟩ : ∃ V2, V2 = (W6.alloc (.cells #[.int .i64 3, .int .i64 (-2)] 25)).drew := ⟨_, rfl⟩
        have hbV2 : Below w.heap.size w V2 := by rw [hV2]; exact (hbw6.alloc hbw6.size _).drew
        have t2 : Two V2 X (.int .i64 3) (.int .i64 (-2)) := by rw [hV2, hX]; exact Two.new W6 _ _ _
        have hXV := t2.lt
        have T2 := Lib.hid t2
        obtain ⟨r0, r1, r2, r3⟩ := t2
        rw [← hV2, ← hX]
        clear hV2 hX
        refine wpAny_ready (rs := [0, 1]) (by kernel_rfl) (by simp) ?_
        refine AllReady.cons rfl (fun K hK => ?_) (AllReady.cons rfl (fun K hK => ?_) AllReady.nil)
        focus
          go_simp
          refine hK _ _ ?_
          clear hK K
          refine wpAny_ready (rs := [1]) (by kernel_rfl) (by simp) ?_
          refine AllReady.cons rfl (fun K hK => ?_) AllReady.nil
          go_simp
          refine (at_any 3 (-2) V2).mono ?_
          rintro e V5 ⟨rfl, hb5⟩
          obtain ⟨s0, s1, s2, s3⟩ := T2.out.below hb5
          have hX5 := (T2.out.below hb5).lt
          refine hK _ _ ?_
          clear hK K
        rotate_left
        focus
          go_simp
          refine (at_any 3 (-2) V2).mono ?_
          rintro e V5 ⟨rfl, hb5⟩
          obtain ⟨s0, s1, s2, s3⟩ := T2.out.below hb5
          have hX5 := (T2.out.below hb5).lt
          refine hK _ _ ?_
          clear hK K
          refine wpAny_ready (rs := [0]) (by kernel_rfl) (by simp) ?_
          refine AllReady.cons rfl (fun K hK => ?_) AllReady.nil
          go_simp
          refine hK _ _ ?_
          clear hK K
        all_goals
          refine wpAny_ready (rs := [2]) (by kernel_rfl) (by simp) ?_
          refine AllReady.cons rfl (fun K hK => ?_) AllReady.nil
          go_simp
          refine hK _ _ ?_
          clear hK K
          refine wpAny_ready (rs := [3]) (by kernel_rfl) (by simp) ?_
          refine AllReady.cons rfl (fun K hK => ?_) AllReady.nil
          go_simp
          refine hK _ _ ?_
          clear hK K
          refine wpAny_ready (rs := [4]) (by kernel_rfl) (by simp) ?_
          refine AllReady.cons rfl (fun K hK => ?_) AllReady.nil
          go_simp
          refine hK _ _ ?_
          clear hK K
          refine wpAny_ready (rs := [5]) (by kernel_rfl) (by simp) ?_
          refine AllReady.cons rfl (fun K hK => ?_) AllReady.nil
          go_simp
          refine hK _ _ ?_
          clear hK K
          refine wpAny_ready (rs := [6]) (by kernel_rfl) (by simp) ?_
          refine AllReady.cons rfl (fun K hK => ?_) AllReady.nil
          go_simp
          refine hK _ _ ?_
          clear hK K
          refine wpAny_ready (rs := [7]) (by kernel_rfl) (by simp) ?_
          refine AllReady.cons rfl (fun K hK => ?_) AllReady.nil
          go_simp
          refine hK _ _ ?_
          clear hK K
          refine wpAny_done (by kernel_rfl) ?_ _
          go_wp2
          refine bodyPost_ret (v := .bool true) (by simp [results, Tryd.results5, go_sem]) rfl ⟨rfl, ?_⟩
          exact hbV2.trans (hb5.mono hbV2.size)
end Go.Proofs.YtbpnogpjpklmjaaDoor
