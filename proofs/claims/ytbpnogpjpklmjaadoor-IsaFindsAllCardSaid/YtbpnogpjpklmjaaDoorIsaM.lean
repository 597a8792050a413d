/- The reference's default table. No condition. -/
import Derived.Deep.CutRange
import Derived.Test.YtbpnogpjpklmjaaDoorIsaL
namespace Go.Proofs.YtbpnogpjpklmjaaDoor
open Go Go.RowKit Go.Shelf

/-! ## slices of constants, laid one behind the other -/
def kindsV : Nat → List (List Int) → List Value
  | _, [] => []
  | r, ks :: l => .slice (some ⟨r, 0, none⟩) ks.length ks.length :: kindsV (r + 1) l
def kindsW : World → List (List Int) → World
  | w, [] => w
  | w, ks :: l => kindsW (w.alloc (.cells (ks.map (Value.int .i64)).toArray 3)) l
theorem kindsW_size : ∀ (l : List (List Int)) (w : World), (kindsW w l).heap.size = w.heap.size + l.length
  | [], _ => rfl
  | ks :: l, w => by
    show (kindsW (w.alloc _) l).heap.size = _
    rw [kindsW_size l, World.size_alloc, List.length_cons]; omega
theorem kindsW_below : ∀ (l : List (List Int)) (w : World), Below w.heap.size w (kindsW w l)
  | [], _ => Below.refl _ _
  | ks :: l, w => ((Below.refl _ _).alloc (Nat.le_refl _) _).trans ((kindsW_below l (w.alloc (.cells (ks.map (Value.int .i64)).toArray 3))).mono (by simp))
theorem kindsV_len : ∀ (l : List (List Int)) (r : Nat), (kindsV r l).length = l.length
  | [], _ => rfl
  | _ :: l, r => congrArg (· + 1) (kindsV_len l (r + 1))
theorem kindsV_at : ∀ (l : List (List Int)) (w : World) (r j : Nat) (ks : List Int), r = w.heap.size → (∀ x ∈ l, x.length ≤ 4) → l[j]? = some ks → KindsAt (kindsW w l).heap.size (kindsW w l) ((kindsV r l).getD j undef) ks
  | [], _, _, j, _, _, _, hj => by simp at hj
  | k0 :: l, w, r, 0, ks, hr, hl, hj => by
    simp at hj
    subst hj
    have h4 := hl k0 (List.mem_cons_self ..)
    have hb := kindsW_below l (w.alloc (.cells (k0.map (Value.int .i64)).toArray 3))
    refine ⟨_, k0.length, rfl, by omega, fun h0 => ⟨r, 0, rfl, ?_, fun j hj => ?_⟩⟩
    · rw [kindsW_size]; simp; omega
    · show (kindsW (w.alloc (.cells (k0.map (Value.int .i64)).toArray 3)) l).cell? _ = _
      refine (hb.cell (p := ⟨r, 0 + j, none⟩) (by simp; omega)).trans ?_
      subst hr
      have hn := World.alloc_heap_new w (.cells (k0.map (Value.int .i64)).toArray 3)
      simp only [World.cell?, hn]
      simp [hj]
  | k0 :: l, w, r, j + 1, ks, hr, hl, hj => by
    have := kindsV_at l (w.alloc (.cells (k0.map (Value.int .i64)).toArray 3)) (r + 1) j ks (by simp [hr]) (fun x hx => hl x (List.mem_cons_of_mem _ hx)) (by simpa using hj)
    exact this

/-- the first k forms of the reference's default table; the slices of their kinds lie from block r on -/
def refForms (r k : Nat) : List Frm := (List.range k).map fun j => ⟨namesTab.getD j ByteArray.empty, (37 * (j : Int) + 11) % 256, (kindsV r kindsTab).getD j undef, kindsTab.getD j []⟩
theorem refForms_len (r k : Nat) : (refForms r k).length = k := by simp [refForms]
theorem refForms_succ (r k : Nat) : refForms r (k + 1) = refForms r k ++ [⟨namesTab.getD k ByteArray.empty, (37 * (k : Int) + 11) % 256, (kindsV r kindsTab).getD k undef, kindsTab.getD k []⟩] := by
  simp [refForms, List.range_succ]
theorem refForms_plain (r : Nat) : (refForms r 59).map Frm.plain = defTab := by
  simp only [refForms, List.map_map]; rfl

/-- the code of a form, once and again -/
theorem code_next (k : Nat) (_ : k < 59) : (wrap64 ((37 * (k : Int) + 11) % 256 + 37)).tmod 256 = (37 * ((k + 1 : Nat) : Int) + 11) % 256 := by
  rw [IntWalk.wrap64_in _ (by omega), Int.tmod_eq_emod_of_nonneg (by omega)]
  omega
theorem cells_map (w : World) (b : Nat) (l : List Value) (j : Nat) (x : Value) (h : w.heap[b]? = some (.cells l.toArray 9 (0, 0)) ∨ w.heap[b]? = some (.cells l.toArray 32 (0, 0))) (hj : l[j]? = some x) : w.cell? ⟨b, j, none⟩ = some x := by
  rcases h with h | h <;> simp only [World.cell?, h] <;> simp [hj]

theorem ref_at {r : Nat} {W3 w : World} {A : Option Addr} {c : Nat} (hr : w.ownsRow W3.heap.size 34 3 (.slice A 59 c) 59 (cellsOf (refForms r 59)))
    (hk : ∀ k, k < 59 → KindsAt W3.heap.size W3 ((kindsV r kindsTab).getD k undef) (kindsTab.getD k [])) (hb : Below W3.heap.size W3 w) : FormsAt w.heap.size w (.slice A 59 c) (refForms r 59) := by
  have hl := refForms_len r 59
  rcases hr.2 with ⟨_, h⟩ | ⟨g, cap, cur, h1, h2, h3, h4, _⟩
  · cases h
  injection h1 with hA hn hc
  subst hA
  subst hc
  refine ⟨_, c, by rw [hl], ⟨by omega, by omega⟩, fun f hf => ?_, fun _ => ⟨g, 0, rfl, (Array.getElem?_eq_some_iff.1 h3).1, fun j f hj => ?_⟩⟩
  · obtain ⟨j, hj⟩ := List.mem_iff_getElem?.1 hf
    have hj' := (List.getElem?_eq_some_iff.1 hj).1
    rw [hl] at hj'
    simp only [refForms, List.getElem?_map, List.getElem?_range hj', Option.map_some, Option.some.injEq] at hj
    subst hj
    refine ⟨((hk j hj').below hb).more hb.size, ?_⟩
    show (namesTab.getD j ByteArray.empty).size ≤ _
    have := List.all_eq_true.1 names_small (namesTab.getD j ByteArray.empty) (by rw [List.getD_eq_getElem?_getD, List.getElem?_eq_getElem (show j < namesTab.length from hj')]; exact List.getElem_mem _)
    have := of_decide_eq_true this
    exact Nat.le_trans this (by decide)
  · have hj' := (List.getElem?_eq_some_iff.1 hj).1
    have hc : ∀ i, i < 3 → w.cell? ⟨g, 0 + j * 3 + i, none⟩ = [Value.string f.name, .int .i64 f.code, f.kv][i]? := fun i hi => by
      rw [Nat.zero_add, hr.cellAt (j * 3 + i) (by omega)]
      exact cells_at _ j i f hj hi
    exact ⟨hc 0 (by omega), hc 1 (by omega), hc 2 (by omega)⟩

set_option maxRecDepth 100000 in
set_option maxHeartbeats 2000000 in
theorem refDefault_any (w : World) : Calls Tryd.prog 18 #[] w fun e w' => ∃ v r, e = .returned v ∧ FormsAt w'.heap.size w' v (refForms r 59) ∧ Below w.heap.size w w' := by
  obtain ⟨r, hr⟩ : ∃ r, r = w.heap.size + 1 := ⟨_, rfl⟩
  obtain ⟨W1, hW1⟩ : ∃ W1, W1 = w.alloc (.cells (namesTab.map Value.string).toArray 9) := ⟨_, rfl⟩
  obtain ⟨W2, hW2⟩ : ∃ W2, W2 = kindsW W1 kindsTab := ⟨_, rfl⟩
  obtain ⟨W3, hW3⟩ : ∃ W3, W3 = W2.alloc (.cells (kindsV r kindsTab).toArray 32) := ⟨_, rfl⟩
  have e3 : W3 = (kindsW (w.alloc (.cells (namesTab.map Value.string).toArray 9)) kindsTab).alloc (.cells (kindsV (w.heap.size + 1) kindsTab).toArray 32) := by rw [hW3, hW2, hW1, hr]
  have hz1 : W1.heap.size = r := by rw [hW1, hr]; simp
  have hz2 : W2.heap.size = r + 59 := by rw [hW2, kindsW_size, hz1]; rfl
  have hz3 : W3.heap.size = r + 59 + 1 := by rw [hW3, World.size_alloc, hz2]
  have hb1 : Below w.heap.size w W1 := by rw [hW1]; exact (Below.refl _ _).alloc (Nat.le_refl _) _
  have hb2 : Below W1.heap.size W1 W2 := by rw [hW2]; exact kindsW_below _ _
  have hb3 : Below W2.heap.size W2 W3 := by rw [hW3]; exact (Below.refl _ _).alloc (Nat.le_refl _) _
  have hbw0 : Below w.heap.size w W3 := (hb1.trans (hb2.mono (by omega))).trans (hb3.mono (by omega))
  have hN : ∀ k, k < 59 → W3.cell? ⟨w.heap.size, k, none⟩ = some (.string (namesTab.getD k ByteArray.empty)) := fun k hk => by
    have h1 : W1.cell? ⟨w.heap.size, k, none⟩ = some (.string (namesTab.getD k ByteArray.empty)) := by
      rw [hW1]
      refine cells_map _ _ _ k _ (.inl (World.alloc_heap_new w _)) ?_
      rw [List.getElem?_map, List.getD_eq_getElem?_getD, List.getElem?_eq_getElem (show k < namesTab.length from hk)]; rfl
    exact (hb3.cell (p := ⟨w.heap.size, k, none⟩) (by show w.heap.size < _; omega)).trans ((hb2.cell (p := ⟨w.heap.size, k, none⟩) (by show w.heap.size < _; omega)).trans h1)
  have hK : ∀ k, k < 59 → W3.cell? ⟨r + 59, k, none⟩ = some ((kindsV r kindsTab).getD k undef) := fun k hk => by
    rw [hW3, ← hz2]
    refine cells_map _ _ _ k _ (.inr (World.alloc_heap_new W2 _)) ?_
    rw [List.getD_eq_getElem?_getD, List.getElem?_eq_getElem (by rw [kindsV_len]; exact hk)]; rfl
  have hkinds : ∀ k, k < 59 → KindsAt W3.heap.size W3 ((kindsV r kindsTab).getD k undef) (kindsTab.getD k []) := fun k hk => by
    have h1 := kindsV_at kindsTab W1 r k (kindsTab.getD k []) hz1.symm (by decide) (by rw [List.getD_eq_getElem?_getD, List.getElem?_eq_getElem (show k < kindsTab.length from hk)]; rfl)
    rw [← hW2] at h1
    exact (h1.below hb3).more (by omega)
  clear hW1 hW2 hW3
  have E3 := Lib.hid e3
  have HN := Lib.hid hN
  have HK := Lib.hid hK
  have HKi := Lib.hid hkinds
  have Hz3 := Lib.hid hz3
  have Hr := Lib.hid hr
  have Hrw := Lib.hid (show w.heap.size < W3.heap.size by omega)
  have Hbw0 := Lib.hid hbw0
  clear hN hK hkinds hz1 hz2 hz3 hb1 hb2 hb3 hbw0 e3 hr
  obtain ⟨i0, hi, hi0, hi1, hi2⟩ := info_parts infoForm
  go_enter Tryd.func18, Tryd.ntmps18
  go_upto_region 2 with fail
  go_cut [2] from 7 to 66 (fun kv wx => kv = .slice (some ⟨r + 59, 0, none⟩) 59 59 ∧ wx = W3)
  case first =>
    go_wp2
    go_meet
    case rel =>
      refine ⟨?_, ?_⟩
      · rw [Hr.out]
      · rw [E3.out]; rfl
  case rest =>
    obtain ⟨rfl, rfl⟩ := hcut
    generalize hNe : w.heap.size = N at *
    have HNe := Lib.hid hNe
    clear hNe
    go_wp2
    go_loopw [3, 4, 5] (fun v c i wr => ∃ k : Nat, k ≤ 59 ∧ i = .int .i64 (k : Int) ∧ c = .int .i64 ((37 * (k : Int) + 11) % 256) ∧ Hid (wr.ownsRow wc.heap.size 34 3 v k (cellsOf (refForms r k))) ∧ Below wc.heap.size wc wr) (fun _ _ i _ => 59 - (intOf i).toNat)
    case atStart => exact ⟨0, by decide, rfl, rfl, Lib.hid ⟨rfl, .inl ⟨rfl, rfl⟩⟩, Below.refl _ _⟩
    case round =>
      obtain ⟨k, hk, rfl, rfl, Hrow, hbw⟩ := hrel
      obtain ⟨gA, gc, hv⟩ : ∃ A c, u3 = .slice A k c := by
        rcases Hrow.out.2 with ⟨h1, h2⟩ | ⟨g, cap, cur, h1, _⟩
        · exact ⟨_, _, by rw [h1, h2]⟩
        · exact ⟨_, _, h1⟩
      subst hv
      by_cases hlt : k < 59
      · have cN : wr.cell? ⟨N, k, none⟩ = some (.string (namesTab.getD k ByteArray.empty)) := (hbw.cell (p := ⟨N, k, none⟩) Hrw.out).trans (HN.out k hlt)
        have cK : wr.cell? ⟨r + 59, k, none⟩ = some ((kindsV r kindsTab).getD k undef) := (hbw.cell (p := ⟨r + 59, k, none⟩) (by have := Hz3.out; show r + 59 < _; omega)).trans (HK.out k hlt)
        obtain ⟨oA, on, oc, hkv, _⟩ := (HKi.out k hlt).opens
        have Hkv := Lib.hid hkv
        rw [hkv] at cK
        generalize hnm : namesTab.getD k ByteArray.empty = nm at *
        have Hnm := Lib.hid hnm
        clear hkv hnm
        generalize hcd : (37 * (k : Int) + 11) % 256 = code at *
        have Hcd := Lib.hid hcd
        clear hcd
        have HcN := Lib.hid cN
        have HcK := Lib.hid cK
        go_upto_region 8 with fail
        refine wp_region_any (by kernel_rfl) ?_
        obtain ⟨V, hV⟩ : ∃ V, V = wr.drew := ⟨_, rfl⟩
        have vN : V.cell? ⟨N, k, none⟩ = some (.string nm) := by rw [hV]; exact HcN.out
        have vK : V.cell? ⟨r + 59, k, none⟩ = some (.slice oA on oc) := by rw [hV]; exact HcK.out
        have hbV : Below wc.heap.size wc V := by rw [hV]; exact hbw.drew
        have hrV : V.ownsRow wc.heap.size 34 3 (.slice gA k gc) k (cellsOf (refForms r k)) := by rw [hV]; exact Hrow.out.drew
        change wpAny _ _ _ _ _ _ _ wr.drew
        rw [← hV]
        clear hV cN cK HcN HcK hbw Hrow
        refine wpAny_take (i := 0) (v := ?_) rfl (by kernel_rfl) (by kernel_rfl) (by kernel_rfl) (fun _ _ _ h => h) (Or.inl ⟨by rfl, ?_⟩) ?_
        rotate_left
        · intro w; go_simp; rfl
        refine wpAny_take (i := 1) (v := ?_) rfl (by kernel_rfl) (by kernel_rfl) (by kernel_rfl) (fun _ _ _ h => h) (Or.inl ⟨by rfl, ?_⟩) ?_
        rotate_left
        · intro w; go_simp; rfl
        refine wpAny_take (i := 2) (v := ?_) rfl (by kernel_rfl) (by kernel_rfl) (by kernel_rfl) (fun _ _ _ h => h) (Or.inl ⟨by rfl, ?_⟩) ?_
        rotate_left
        · intro w; go_simp; rfl
        refine wpAny_take (i := 3) (v := ?_) rfl (by kernel_rfl) (by kernel_rfl) (by kernel_rfl) (fun _ _ _ h => h) (Or.inl ⟨by rfl, ?_⟩) ?_
        rotate_left
        · intro w; go_simp; rfl
        refine wpAny_take (i := 5) (v := ?_) rfl (by kernel_rfl) (by kernel_rfl) (by kernel_rfl) (fun _ _ _ h => h) (Or.inl ⟨by rfl, ?_⟩) ?_
        rotate_left
        · intro w; go_simp; rfl
        refine wpAny_take (i := 6) (v := ?_) rfl (by kernel_rfl) (by kernel_rfl) (by kernel_rfl) (fun _ _ _ h => h) (Or.inl ⟨by rfl, ?_⟩) ?_
        rotate_left
        · intro w; go_simp; rfl
        refine wpAny_take (i := 7) (v := ?_) rfl (by kernel_rfl) (by kernel_rfl) (by kernel_rfl) (fun _ _ _ h => h) (Or.inl ⟨by rfl, ?_⟩) ?_
        rotate_left
        · intro w; go_simp; rfl
        refine wpAny_take (i := 8) (v := ?_) rfl (by kernel_rfl) (by kernel_rfl) (by kernel_rfl) (fun _ _ _ h => h) (Or.inl ⟨by rfl, ?_⟩) ?_
        rotate_left
        · intro w; go_simp; rfl
        simp [Act.put]
        refine wpAny_ready (rs := [4, 9]) (by kernel_rfl) (by simp) ?_
        refine AllReady.cons rfl (fun K hK => ?_) (AllReady.cons rfl (fun K hK => ?_) AllReady.nil)
        focus
          go_simp
          refine hK _ _ ?_
          clear hK K
          refine wpAny_ready (rs := [9]) (by kernel_rfl) (by simp) ?_
          refine AllReady.cons rfl (fun K hK => ?_) AllReady.nil
          go_simp
          refine hK _ _ ?_
          clear hK K
        rotate_left
        focus
          go_simp
          refine hK _ _ ?_
          clear hK K
          refine wpAny_ready (rs := [4]) (by kernel_rfl) (by simp) ?_
          refine AllReady.cons rfl (fun K hK => ?_) AllReady.nil
          go_simp
          refine hK _ _ ?_
          clear hK K
        all_goals
          refine wpAny_take (i := 10) (v := ?_) rfl (by kernel_rfl) (by kernel_rfl) (by kernel_rfl) (fun _ _ _ h => h) (Or.inl ⟨by rfl, ?_⟩) ?_
          rotate_left
          · intro w; go_simp; rfl
          simp [Act.put]
          clear vN vK
          refine wpAny_ready (rs := [11]) (by kernel_rfl) (by simp) ?_
          refine AllReady.cons rfl (fun K hK => ?_) AllReady.nil
          go_simp
          refine hK _ _ ?_
          clear hK K
          obtain ⟨V9, hV9⟩ : ∃ V9, V9 = V.alloc (.cells #[.string nm, .int .i64 code, .slice oA on oc] 34) := ⟨_, rfl⟩
          have s0 : V9.cell? ⟨V.heap.size, 0, none⟩ = some (.string nm) := by rw [hV9]; simp
          have s1 : V9.cell? ⟨V.heap.size, 1, none⟩ = some (.int .i64 code) := by rw [hV9]; simp
          have s2 : V9.cell? ⟨V.heap.size, 2, none⟩ = some (.slice oA on oc) := by rw [hV9]; simp
          have hrow9 : V9.ownsRow wc.heap.size 34 3 (.slice gA k gc) k (cellsOf (refForms r k)) := by rw [hV9]; exact hrV.alloc _
          have hb9 : Below wc.heap.size wc V9 := by rw [hV9]; exact hbV.alloc hbV.size _
          rw [← hV9]
          obtain ⟨v', V10, hap, hrow10, hg10, _⟩ := run_append_own (P := Tryd.prog) V9 wc.heap.size 22 22 34 i0 _ 3 48 Tryd.underlying22 hi hi0 hi1 hi2 (by rfl) (by decide) (.slice gA k gc) k (cellsOf (refForms r k)) hrow9 ⟨V.heap.size, 0, none⟩ 1 1 [.string nm, .int .i64 code, .slice oA on oc] rfl
            (by intro j u hj; match j, hj with
                  | 0, hj => injection hj with hj; subst hj; exact s0
                  | 1, hj => injection hj with hj; subst hj; exact s1
                  | 2, hj => injection hj with hj; subst hj; exact s2
                  | j + 3, hj => simp at hj)
            (by simp [Value.oneCell']) (by unfold maxLen; omega) (by omega) hb9.size
          clear hV9 s0 s1 s2
          refine wpAny_ready (rs := [12]) (by kernel_rfl) (by simp) ?_
          refine AllReady.cons rfl (fun K hK => ?_) AllReady.nil
          try rw [if_pos rfl]
          refine wp_append_eq (.tmp 73) (.tmp 84) 22 rfl _ _ _ rfl rfl hap ?_
          simp [Act.put]
          refine hK _ _ ?_
          clear hK K hap
          refine wpAny_ready (rs := [13]) (by kernel_rfl) (by simp) ?_
          refine AllReady.cons rfl (fun K hK => ?_) AllReady.nil
          go_simp
          refine hK _ _ ?_
          clear hK K
          refine wpAny_done (by kernel_rfl) ?_ _
          have hb10 : Below wc.heap.size wc V10 := hb9.grown hg10 hb9.size (fun j e => (hrow9.lt j e).1)
          have Hrow10 := Lib.hid hrow10
          clear hrow10 hrow9 hg10 hb9 hbV hrV
          go_wp2
          go_roundw
          case rel =>
            have hcd2 : code = (37 * (k : Int) + 11) % 256 := Hcd.out.symm
            refine ⟨k + 1, by omega, by push_cast; rfl, ?_, Lib.hid ?_, hb10⟩
            · rw [hcd2]; exact congrArg _ (code_next k hlt)
            · rw [refForms_succ, cellsOf_snoc, Hnm.out, ← hcd2, Hkv.out]; exact Hrow10.out
          case measure =>
            simp [intOf]; omega
      · obtain rfl : k = 59 := by omega
        clear hlt
        have Hrow' := Lib.hid (show wr.ownsRow wc.heap.size 34 3 (.slice gA 59 gc) 59 (cellsOf (refForms r 59)) from Hrow.out)
        clear hk
        go_wp2
        refine bodyPost_ret (v := .slice gA 59 gc) (by simp [results, Tryd.results18, go_sem]) rfl ⟨_, r, rfl, ref_at Hrow'.out HKi.out hbw, by rw [HNe.out]; exact Hbw0.out.trans (hbw.mono (Nat.le_of_lt Hrw.out))⟩
end Go.Proofs.YtbpnogpjpklmjaaDoor
