/- The law that each form of a valid table is found at its own position. Conditions: the table reads as forms; the library's table of white space reads as its text lays it. -/
import Derived.Deep.CutRange
import Derived.Test.YtbpnogpjpklmjaaDoorIsaN
import Derived.Test.YtbpnogpjpklmjaaDoorIsaS
namespace Go.Proofs.YtbpnogpjpklmjaaDoor
open Go Go.RowKit Go.Shelf

theorem finds_pre {w wr V W5 : World} {x y : Value} (hbw : Below w.heap.size w wr) (hbV : Below w.heap.size wr V) (hb5 : Below (V.alloc (.cells #[.int .i64 0, .int .i64 0] 25)).heap.size (V.alloc (.cells #[.int .i64 0, .int .i64 0] 25)) W5) :
    Below w.heap.size w ((W5.setCell ⟨V.heap.size, 0, none⟩ x).setCell ⟨V.heap.size, 1, none⟩ y) := by
  have h1 := hbw.trans hbV
  have h2 := (h1.alloc h1.size (.cells #[.int .i64 0, .int .i64 0] 25)).trans (hb5.mono (by simp; exact Nat.le_succ_of_le h1.size))
  exact (h2.setCell (p := ⟨V.heap.size, 0, none⟩) h1.size _).setCell (p := ⟨V.heap.size, 1, none⟩) h1.size _
theorem finds_post {w wr V W5 : World} {o : Obj} (hbw : Below w.heap.size w wr) (hbV : Below w.heap.size wr V) (hb5 : Below V.heap.size V W5) : Below w.heap.size w (W5.alloc o) := by
  have h1 := hbw.trans hbV
  have h2 := h1.trans (hb5.mono h1.size)
  exact h2.alloc h2.size _
theorem finds_two {W : World} {R : Nat} {x y u v : Value} (h0 : W.cell? ⟨R, 0, none⟩ = some u) (h1 : W.cell? ⟨R, 1, none⟩ = some v) (h2 : W.frozen? ⟨R, 0, none⟩ = false) (h3 : W.frozen? ⟨R, 1, none⟩ = false) :
    Two ((W.setCell ⟨R, 0, none⟩ x).setCell ⟨R, 1, none⟩ y) R x y :=
  ⟨(two_set h0 h1).1, (two_set h0 h1).2, by simpa using h2, by simpa using h3⟩

set_option maxHeartbeats 2000000 in
theorem law_finds (B : Nat) (v : Value) (fs : List Frm) (w : World) (h : FormsAt B w v fs) (hB : B ≤ w.heap.size) (hsp : SpaceAt w) (hg : 0 < w.heap.size) :
    Calls Tryd.prog 6 #[v] w fun e w' => e = .returned (.bool true) ∧ Below w.heap.size w w' := by
  have hfd : ∀ (p i : Int) (w : World), (Instr.field 25 (.agg #[.int .i64 p, .int .i64 i]) 0).run Tryd.prog w = .ok (.int .i64 p) w := fun _ _ _ => by kernel_rfl
  obtain ⟨p, i, ht, D⟩ : ∃ p i, tableFault fs = (p, i) ∧ ∀ W, Below w.heap.size w W → Calls Tryd.prog 10 #[v] W fun e w' => e = .returned (.agg #[.int .i64 p, .int .i64 i]) ∧ Below W.heap.size W w' :=
    ⟨_, _, rfl, fun W hW => validate_any B v fs W (h.below (hW.mono hB)) (Nat.le_trans hB hW.size)⟩
  have H := Lib.hid h
  obtain ⟨A, n, c, rfl, hl, ⟨hn, hnc⟩, hks, hc⟩ := h.opens
  have Hks := Lib.hid hks
  have Hc := Lib.hid hc
  have HD := Lib.hid D
  have Hsp := Lib.hid hsp
  have Ht := Lib.hid ht
  clear h hsp D ht hks hc
  by_cases hp0 : p = 0
  · obtain rfl := hp0
    have h0 : tableFault fs = (0, 0) := fault_pair (by rw [Ht.out])
    have H0 := Lib.hid h0
    clear h0
    go_enter Tryd.func6, Tryd.ntmps6
    go_wp2_with (first
      | (go_at_call 8; refine (example_any _ Hsp.out hg).mono ?_; rintro e W1 ⟨rfl, hb1⟩)
      | (go_at_call 10; refine (HD.out _ hb1).mono ?_; rintro e W2 ⟨rfl, hb2⟩; have hbw2 := hb1.trans (hb2.mono hb1.size)))
    clear hb1 hb2
    go_loopw [3] (fun i wr => ∃ k : Nat, k ≤ n ∧ i = .int .i64 (k : Int) ∧ Below w.heap.size w wr) (fun i _ => n - (intOf i).toNat)
    case atStart => exact ⟨0, Nat.zero_le _, rfl, hbw2⟩
    case round =>
      obtain ⟨k, hkn, rfl, hbw⟩ := hrel
      by_cases hlt : k < n
      · obtain ⟨f, hx, hm⟩ := getElem?_of_lt hl hlt
        obtain ⟨b1, o1, rfl, hb1, g1⟩ := Hc.out (by omega)
        have hidx := own_idx H0.out hx
        have hcell := (g1 k f hx).below (hbw.mono hB) hb1
        have kf := (Hks.out f hm).1.below (hbw.mono hB)
        obtain ⟨fA, fm, fc, fkv, _⟩ := kf.opens
        obtain ⟨fn, fq, fv, fks⟩ := f
        dsimp only at fkv hidx
        subst fkv
        have C : ∀ V, Below w.heap.size wr V → Calls Tryd.prog 15 #[.slice (some ⟨b1, o1, none⟩) n c, .string fn, .slice fA fm fc] V fun e w' => e = .returned (.tuple #[.int .i64 (k : Int), .agg #[.int .i64 0, .int .i64 0]]) ∧ Below V.heap.size V w' := fun V hV => by
          have := find_good B _ fs fn (.slice fA fm fc) fks V (H.out.below ((hbw.trans hV).mono hB)) (kf.below (hV.mono hB)) (Nat.le_trans hB (hbw.trans hV).size) H0.out
          rw [hidx, if_neg (by omega)] at this
          exact this
        have HC := Lib.hid C
        have Hcell := Lib.hid hcell
        clear C hidx hcell kf hx hm g1
        go_upto_region 8 with fail
        go_cut [4, 5] from 12 to 40 (fun r q wx => ∃ X, r = .int .i64 (k : Int) ∧ q = .pointer (some ⟨X, 0, none⟩) ∧ Below w.heap.size w wx ∧ Two wx X (.int .i64 0) (.int .i64 0))
        case first =>
          refine wp_region_any (by kernel_rfl) ?_
          change wpAny _ _ _ _ _ _ _ wr.drew
          obtain ⟨V, hV⟩ : ∃ V, V = wr.drew := ⟨_, rfl⟩
          have hbV : Below w.heap.size wr V := by rw [hV]; exact (Below.refl _ _).drew
          obtain ⟨d1, d2, d3⟩ : FrmCells V b1 (o1 + k * 3) ⟨fn, fq, .slice fA fm fc, fks⟩ := by rw [hV]; exact Hcell.out
          have hb1V : b1 < V.heap.size := by rw [hV]; exact Nat.lt_of_lt_of_le hb1 (Nat.le_trans hB hbw.size)
          dsimp only at d1 d2 d3
          rw [← hV]
          clear hV Hcell
          refine wpAny_take (i := 0) (v := ?_) rfl (by kernel_rfl) (by kernel_rfl) (by kernel_rfl) (fun _ _ _ h => h) (Or.inl ⟨by rfl, ?_⟩) ?_
          rotate_left
          · intro w; go_simp; rfl
          refine wpAny_take (i := 1) (v := ?_) rfl (by kernel_rfl) (by kernel_rfl) (by kernel_rfl) (fun _ _ _ h => h) (Or.inl ⟨by rfl, ?_⟩) ?_
          rotate_left
          · intro w; go_simp; rfl
          refine wpAny_take (i := 2) (v := ?_) rfl (by kernel_rfl) (by kernel_rfl) (by kernel_rfl) (fun _ _ _ h => h) (Or.inl ⟨by rfl, ?_⟩) ?_
          rotate_left
          · intro w; go_simp; rfl
          refine wpAny_take (i := 3) (v := ?_) rfl (by kernel_rfl) (by kernel_rfl) (by kernel_rfl) (fun _ _ _ h => h) (Or.inl ⟨by rfl, ?_⟩) ?_
          rotate_left
          · intro w; go_simp; rfl
          refine wpAny_take (i := 4) (v := ?_) rfl (by kernel_rfl) (by kernel_rfl) (by kernel_rfl) (fun _ _ _ h => h) (Or.inl ⟨by rfl, ?_⟩) ?_
          rotate_left
          · intro w; go_simp; rfl
          refine wpAny_take (i := 6) (v := ?_) rfl (by kernel_rfl) (by kernel_rfl) (by kernel_rfl) (fun _ _ _ h => h) (Or.inl ⟨by rfl, ?_⟩) ?_
          rotate_left
          · intro w; go_simp; rfl
          refine wpAny_take (i := 7) (v := ?_) rfl (by kernel_rfl) (by kernel_rfl) (by kernel_rfl) (fun _ _ _ h => h) (Or.inl ⟨by rfl, ?_⟩) ?_
          rotate_left
          · intro w; go_simp; rfl
          refine wpAny_take (i := 8) (v := ?_) rfl (by kernel_rfl) (by kernel_rfl) (by kernel_rfl) (fun _ _ _ h => h) (Or.inl ⟨by rfl, ?_⟩) ?_
          rotate_left
          · intro w; go_simp; rfl
          refine wpAny_take (i := 9) (v := ?_) rfl (by kernel_rfl) (by kernel_rfl) (by kernel_rfl) (fun _ _ _ h => h) (Or.inl ⟨by rfl, ?_⟩) ?_
          rotate_left
          · intro w; go_simp; rfl
          simp [Act.put]
          refine wpAny_ready (rs := [5, 10, 15]) (by kernel_rfl) (by simp) ?_
          refine AllReady.cons rfl (fun K hK => ?_) (AllReady.cons rfl (fun K hK => ?_) (AllReady.cons rfl (fun K hK => ?_) AllReady.nil))
          · go_simp
            refine hK _ _ ?_
            clear hK K
            refine wpAny_ready (rs := [10, 15]) (by kernel_rfl) (by simp) ?_
            refine AllReady.cons rfl (fun K hK => ?_) (AllReady.cons rfl (fun K hK => ?_) AllReady.nil)
            · go_simp
              refine hK _ _ ?_
              clear hK K
              refine wpAny_ready (rs := [11, 15]) (by kernel_rfl) (by simp) ?_
              refine AllReady.cons rfl (fun K hK => ?_) (AllReady.cons rfl (fun K hK => ?_) AllReady.nil)
              · go_simp
                refine (HC.out _ hbV).mono ?_
                rintro e W5 ⟨rfl, hb5⟩
                refine hK _ _ ?_
                clear hK K
                refine wpAny_take (i := 12) (v := ?_) rfl (by kernel_rfl) (by kernel_rfl) (by kernel_rfl) (fun _ _ _ h => h) (Or.inl ⟨by rfl, ?_⟩) ?_
                rotate_left
                · intro w; go_simp; rfl
                refine wpAny_take (i := 13) (v := ?_) rfl (by kernel_rfl) (by kernel_rfl) (by kernel_rfl) (fun _ _ _ h => h) (Or.inl ⟨by rfl, ?_⟩) ?_
                rotate_left
                · intro w; go_simp; rfl
                refine wpAny_take (i := 14) (v := ?_) rfl (by kernel_rfl) (by kernel_rfl) (by kernel_rfl) (fun _ _ _ h => h) (Or.inl ⟨by rfl, ?_⟩) ?_
                rotate_left
                · intro w; go_simp; rfl
                simp [Act.put]
                refine wpAny_ready (rs := [15]) (by kernel_rfl) (by simp) ?_
                refine AllReady.cons rfl (fun K hK => ?_) AllReady.nil
                go_simp
                refine hK _ _ ?_
                clear hK K
                refine wpAny_ready (rs := [16]) (by kernel_rfl) (by simp) ?_
                refine AllReady.cons rfl (fun K hK => ?_) AllReady.nil
                go_simp
                refine hK _ _ ?_
                clear hK K
                refine wpAny_ready (rs := [17]) (by kernel_rfl) (by simp) ?_
                refine AllReady.cons rfl (fun K hK => ?_) AllReady.nil
                go_simp
                refine hK _ _ ?_
                clear hK K
                refine wpAny_done (by kernel_rfl) ?_ _
                go_wp2_with fail
                go_meet
                case rel => exact ⟨_, rfl, rfl, finds_post hbw hbV hb5, Two.new W5 _ _ _⟩
              · go_simp
                refine hK _ _ ?_
                clear hK K
                refine wpAny_ready (rs := [11]) (by kernel_rfl) (by simp) ?_
                refine AllReady.cons rfl (fun K hK => ?_) AllReady.nil
                go_simp
                refine (HC.out _ (hbV.alloc (Nat.le_trans hbw.size hbV.size) (.cells #[.int .i64 0, .int .i64 0] 25))).mono ?_
                rintro e W5 ⟨rfl, hb5⟩
                have t5 := (Two.new V (.int .i64 0) (.int .i64 0) 25).below hb5
                obtain ⟨r0, r1, r2, r3⟩ := t5
                have hX5 : V.heap.size < W5.heap.size := block_lt_of_cell r0
                refine hK _ _ ?_
                clear hK K
                refine wpAny_take (i := 12) (v := ?_) rfl (by kernel_rfl) (by kernel_rfl) (by kernel_rfl) (fun _ _ _ h => h) (Or.inl ⟨by rfl, ?_⟩) ?_
                rotate_left
                · intro w; go_simp; rfl
                refine wpAny_take (i := 13) (v := ?_) rfl (by kernel_rfl) (by kernel_rfl) (by kernel_rfl) (fun _ _ _ h => h) (Or.inl ⟨by rfl, ?_⟩) ?_
                rotate_left
                · intro w; go_simp; rfl
                refine wpAny_take (i := 14) (v := ?_) rfl (by kernel_rfl) (by kernel_rfl) (by kernel_rfl) (fun _ _ _ h => h) (Or.inl ⟨by rfl, ?_⟩) ?_
                rotate_left
                · intro w; go_simp; rfl
                simp [Act.put]
                refine wpAny_ready (rs := [16]) (by kernel_rfl) (by simp) ?_
                refine AllReady.cons rfl (fun K hK => ?_) AllReady.nil
                go_simp
                refine hK _ _ ?_
                clear hK K
                refine wpAny_ready (rs := [17]) (by kernel_rfl) (by simp) ?_
                refine AllReady.cons rfl (fun K hK => ?_) AllReady.nil
                go_simp
                refine hK _ _ ?_
                clear hK K
                refine wpAny_done (by kernel_rfl) ?_ _
                go_wp2_with fail
                go_meet
                case rel => exact ⟨_, rfl, rfl, finds_pre hbw hbV hb5, finds_two r0 r1 r2 r3⟩
            · go_simp
              refine hK _ _ ?_
              clear hK K
              refine wpAny_ready (rs := [10]) (by kernel_rfl) (by simp) ?_
              refine AllReady.cons rfl (fun K hK => ?_) AllReady.nil
              go_simp
              refine hK _ _ ?_
              clear hK K
              refine wpAny_ready (rs := [11]) (by kernel_rfl) (by simp) ?_
              refine AllReady.cons rfl (fun K hK => ?_) AllReady.nil
              go_simp
              refine (HC.out _ (hbV.alloc (Nat.le_trans hbw.size hbV.size) (.cells #[.int .i64 0, .int .i64 0] 25))).mono ?_
              rintro e W5 ⟨rfl, hb5⟩
              have t5 := (Two.new V (.int .i64 0) (.int .i64 0) 25).below hb5
              obtain ⟨r0, r1, r2, r3⟩ := t5
              have hX5 : V.heap.size < W5.heap.size := block_lt_of_cell r0
              refine hK _ _ ?_
              clear hK K
              refine wpAny_take (i := 12) (v := ?_) rfl (by kernel_rfl) (by kernel_rfl) (by kernel_rfl) (fun _ _ _ h => h) (Or.inl ⟨by rfl, ?_⟩) ?_
              rotate_left
              · intro w; go_simp; rfl
              refine wpAny_take (i := 13) (v := ?_) rfl (by kernel_rfl) (by kernel_rfl) (by kernel_rfl) (fun _ _ _ h => h) (Or.inl ⟨by rfl, ?_⟩) ?_
              rotate_left
              · intro w; go_simp; rfl
              refine wpAny_take (i := 14) (v := ?_) rfl (by kernel_rfl) (by kernel_rfl) (by kernel_rfl) (fun _ _ _ h => h) (Or.inl ⟨by rfl, ?_⟩) ?_
              rotate_left
              · intro w; go_simp; rfl
              simp [Act.put]
              refine wpAny_ready (rs := [16]) (by kernel_rfl) (by simp) ?_
              refine AllReady.cons rfl (fun K hK => ?_) AllReady.nil
              go_simp
              refine hK _ _ ?_
              clear hK K
              refine wpAny_ready (rs := [17]) (by kernel_rfl) (by simp) ?_
              refine AllReady.cons rfl (fun K hK => ?_) AllReady.nil
              go_simp
              refine hK _ _ ?_
              clear hK K
              refine wpAny_done (by kernel_rfl) ?_ _
              go_wp2_with fail
              go_meet
              case rel => exact ⟨_, rfl, rfl, finds_pre hbw hbV hb5, finds_two r0 r1 r2 r3⟩
          · go_simp
            refine hK _ _ ?_
            clear hK K
            refine wpAny_ready (rs := [5, 15]) (by kernel_rfl) (by simp) ?_
            refine AllReady.cons rfl (fun K hK => ?_) (AllReady.cons rfl (fun K hK => ?_) AllReady.nil)
            · go_simp
              refine hK _ _ ?_
              clear hK K
              refine wpAny_ready (rs := [11, 15]) (by kernel_rfl) (by simp) ?_
              refine AllReady.cons rfl (fun K hK => ?_) (AllReady.cons rfl (fun K hK => ?_) AllReady.nil)
              · go_simp
                refine (HC.out _ hbV).mono ?_
                rintro e W5 ⟨rfl, hb5⟩
                refine hK _ _ ?_
                clear hK K
                refine wpAny_take (i := 12) (v := ?_) rfl (by kernel_rfl) (by kernel_rfl) (by kernel_rfl) (fun _ _ _ h => h) (Or.inl ⟨by rfl, ?_⟩) ?_
                rotate_left
                · intro w; go_simp; rfl
                refine wpAny_take (i := 13) (v := ?_) rfl (by kernel_rfl) (by kernel_rfl) (by kernel_rfl) (fun _ _ _ h => h) (Or.inl ⟨by rfl, ?_⟩) ?_
                rotate_left
                · intro w; go_simp; rfl
                refine wpAny_take (i := 14) (v := ?_) rfl (by kernel_rfl) (by kernel_rfl) (by kernel_rfl) (fun _ _ _ h => h) (Or.inl ⟨by rfl, ?_⟩) ?_
                rotate_left
                · intro w; go_simp; rfl
                simp [Act.put]
                refine wpAny_ready (rs := [15]) (by kernel_rfl) (by simp) ?_
                refine AllReady.cons rfl (fun K hK => ?_) AllReady.nil
                go_simp
                refine hK _ _ ?_
                clear hK K
                refine wpAny_ready (rs := [16]) (by kernel_rfl) (by simp) ?_
                refine AllReady.cons rfl (fun K hK => ?_) AllReady.nil
                go_simp
                refine hK _ _ ?_
                clear hK K
                refine wpAny_ready (rs := [17]) (by kernel_rfl) (by simp) ?_
                refine AllReady.cons rfl (fun K hK => ?_) AllReady.nil
                go_simp
                refine hK _ _ ?_
                clear hK K
                refine wpAny_done (by kernel_rfl) ?_ _
                go_wp2_with fail
                go_meet
                case rel => exact ⟨_, rfl, rfl, finds_post hbw hbV hb5, Two.new W5 _ _ _⟩
              · go_simp
                refine hK _ _ ?_
                clear hK K
                refine wpAny_ready (rs := [11]) (by kernel_rfl) (by simp) ?_
                refine AllReady.cons rfl (fun K hK => ?_) AllReady.nil
                go_simp
                refine (HC.out _ (hbV.alloc (Nat.le_trans hbw.size hbV.size) (.cells #[.int .i64 0, .int .i64 0] 25))).mono ?_
                rintro e W5 ⟨rfl, hb5⟩
                have t5 := (Two.new V (.int .i64 0) (.int .i64 0) 25).below hb5
                obtain ⟨r0, r1, r2, r3⟩ := t5
                have hX5 : V.heap.size < W5.heap.size := block_lt_of_cell r0
                refine hK _ _ ?_
                clear hK K
                refine wpAny_take (i := 12) (v := ?_) rfl (by kernel_rfl) (by kernel_rfl) (by kernel_rfl) (fun _ _ _ h => h) (Or.inl ⟨by rfl, ?_⟩) ?_
                rotate_left
                · intro w; go_simp; rfl
                refine wpAny_take (i := 13) (v := ?_) rfl (by kernel_rfl) (by kernel_rfl) (by kernel_rfl) (fun _ _ _ h => h) (Or.inl ⟨by rfl, ?_⟩) ?_
                rotate_left
                · intro w; go_simp; rfl
                refine wpAny_take (i := 14) (v := ?_) rfl (by kernel_rfl) (by kernel_rfl) (by kernel_rfl) (fun _ _ _ h => h) (Or.inl ⟨by rfl, ?_⟩) ?_
                rotate_left
                · intro w; go_simp; rfl
                simp [Act.put]
                refine wpAny_ready (rs := [16]) (by kernel_rfl) (by simp) ?_
                refine AllReady.cons rfl (fun K hK => ?_) AllReady.nil
                go_simp
                refine hK _ _ ?_
                clear hK K
                refine wpAny_ready (rs := [17]) (by kernel_rfl) (by simp) ?_
                refine AllReady.cons rfl (fun K hK => ?_) AllReady.nil
                go_simp
                refine hK _ _ ?_
                clear hK K
                refine wpAny_done (by kernel_rfl) ?_ _
                go_wp2_with fail
                go_meet
                case rel => exact ⟨_, rfl, rfl, finds_pre hbw hbV hb5, finds_two r0 r1 r2 r3⟩
            · go_simp
              refine hK _ _ ?_
              clear hK K
              refine wpAny_ready (rs := [5]) (by kernel_rfl) (by simp) ?_
              refine AllReady.cons rfl (fun K hK => ?_) AllReady.nil
              go_simp
              refine hK _ _ ?_
              clear hK K
              refine wpAny_ready (rs := [11]) (by kernel_rfl) (by simp) ?_
              refine AllReady.cons rfl (fun K hK => ?_) AllReady.nil
              go_simp
              refine (HC.out _ (hbV.alloc (Nat.le_trans hbw.size hbV.size) (.cells #[.int .i64 0, .int .i64 0] 25))).mono ?_
              rintro e W5 ⟨rfl, hb5⟩
              have t5 := (Two.new V (.int .i64 0) (.int .i64 0) 25).below hb5
              obtain ⟨r0, r1, r2, r3⟩ := t5
              have hX5 : V.heap.size < W5.heap.size := block_lt_of_cell r0
              refine hK _ _ ?_
              clear hK K
              refine wpAny_take (i := 12) (v := ?_) rfl (by kernel_rfl) (by kernel_rfl) (by kernel_rfl) (fun _ _ _ h => h) (Or.inl ⟨by rfl, ?_⟩) ?_
              rotate_left
              · intro w; go_simp; rfl
              refine wpAny_take (i := 13) (v := ?_) rfl (by kernel_rfl) (by kernel_rfl) (by kernel_rfl) (fun _ _ _ h => h) (Or.inl ⟨by rfl, ?_⟩) ?_
              rotate_left
              · intro w; go_simp; rfl
              refine wpAny_take (i := 14) (v := ?_) rfl (by kernel_rfl) (by kernel_rfl) (by kernel_rfl) (fun _ _ _ h => h) (Or.inl ⟨by rfl, ?_⟩) ?_
              rotate_left
              · intro w; go_simp; rfl
              simp [Act.put]
              refine wpAny_ready (rs := [16]) (by kernel_rfl) (by simp) ?_
              refine AllReady.cons rfl (fun K hK => ?_) AllReady.nil
              go_simp
              refine hK _ _ ?_
              clear hK K
              refine wpAny_ready (rs := [17]) (by kernel_rfl) (by simp) ?_
              refine AllReady.cons rfl (fun K hK => ?_) AllReady.nil
              go_simp
              refine hK _ _ ?_
              clear hK K
              refine wpAny_done (by kernel_rfl) ?_ _
              go_wp2_with fail
              go_meet
              case rel => exact ⟨_, rfl, rfl, finds_pre hbw hbV hb5, finds_two r0 r1 r2 r3⟩
          · go_simp
            refine hK _ _ ?_
            clear hK K
            refine wpAny_ready (rs := [5, 10]) (by kernel_rfl) (by simp) ?_
            refine AllReady.cons rfl (fun K hK => ?_) (AllReady.cons rfl (fun K hK => ?_) AllReady.nil)
            · go_simp
              refine hK _ _ ?_
              clear hK K
              refine wpAny_ready (rs := [10]) (by kernel_rfl) (by simp) ?_
              refine AllReady.cons rfl (fun K hK => ?_) AllReady.nil
              go_simp
              refine hK _ _ ?_
              clear hK K
              refine wpAny_ready (rs := [11]) (by kernel_rfl) (by simp) ?_
              refine AllReady.cons rfl (fun K hK => ?_) AllReady.nil
              go_simp
              refine (HC.out _ (hbV.alloc (Nat.le_trans hbw.size hbV.size) (.cells #[.int .i64 0, .int .i64 0] 25))).mono ?_
              rintro e W5 ⟨rfl, hb5⟩
              have t5 := (Two.new V (.int .i64 0) (.int .i64 0) 25).below hb5
              obtain ⟨r0, r1, r2, r3⟩ := t5
              have hX5 : V.heap.size < W5.heap.size := block_lt_of_cell r0
              refine hK _ _ ?_
              clear hK K
              refine wpAny_take (i := 12) (v := ?_) rfl (by kernel_rfl) (by kernel_rfl) (by kernel_rfl) (fun _ _ _ h => h) (Or.inl ⟨by rfl, ?_⟩) ?_
              rotate_left
              · intro w; go_simp; rfl
              refine wpAny_take (i := 13) (v := ?_) rfl (by kernel_rfl) (by kernel_rfl) (by kernel_rfl) (fun _ _ _ h => h) (Or.inl ⟨by rfl, ?_⟩) ?_
              rotate_left
              · intro w; go_simp; rfl
              refine wpAny_take (i := 14) (v := ?_) rfl (by kernel_rfl) (by kernel_rfl) (by kernel_rfl) (fun _ _ _ h => h) (Or.inl ⟨by rfl, ?_⟩) ?_
              rotate_left
              · intro w; go_simp; rfl
              simp [Act.put]
              refine wpAny_ready (rs := [16]) (by kernel_rfl) (by simp) ?_
              refine AllReady.cons rfl (fun K hK => ?_) AllReady.nil
              go_simp
              refine hK _ _ ?_
              clear hK K
              refine wpAny_ready (rs := [17]) (by kernel_rfl) (by simp) ?_
              refine AllReady.cons rfl (fun K hK => ?_) AllReady.nil
              go_simp
              refine hK _ _ ?_
              clear hK K
              refine wpAny_done (by kernel_rfl) ?_ _
              go_wp2_with fail
              go_meet
              case rel => exact ⟨_, rfl, rfl, finds_pre hbw hbV hb5, finds_two r0 r1 r2 r3⟩
            · go_simp
              refine hK _ _ ?_
              clear hK K
              refine wpAny_ready (rs := [5]) (by kernel_rfl) (by simp) ?_
              refine AllReady.cons rfl (fun K hK => ?_) AllReady.nil
              go_simp
              refine hK _ _ ?_
              clear hK K
              refine wpAny_ready (rs := [11]) (by kernel_rfl) (by simp) ?_
              refine AllReady.cons rfl (fun K hK => ?_) AllReady.nil
              go_simp
              refine (HC.out _ (hbV.alloc (Nat.le_trans hbw.size hbV.size) (.cells #[.int .i64 0, .int .i64 0] 25))).mono ?_
              rintro e W5 ⟨rfl, hb5⟩
              have t5 := (Two.new V (.int .i64 0) (.int .i64 0) 25).below hb5
              obtain ⟨r0, r1, r2, r3⟩ := t5
              have hX5 : V.heap.size < W5.heap.size := block_lt_of_cell r0
              refine hK _ _ ?_
              clear hK K
              refine wpAny_take (i := 12) (v := ?_) rfl (by kernel_rfl) (by kernel_rfl) (by kernel_rfl) (fun _ _ _ h => h) (Or.inl ⟨by rfl, ?_⟩) ?_
              rotate_left
              · intro w; go_simp; rfl
              refine wpAny_take (i := 13) (v := ?_) rfl (by kernel_rfl) (by kernel_rfl) (by kernel_rfl) (fun _ _ _ h => h) (Or.inl ⟨by rfl, ?_⟩) ?_
              rotate_left
              · intro w; go_simp; rfl
              refine wpAny_take (i := 14) (v := ?_) rfl (by kernel_rfl) (by kernel_rfl) (by kernel_rfl) (fun _ _ _ h => h) (Or.inl ⟨by rfl, ?_⟩) ?_
              rotate_left
              · intro w; go_simp; rfl
              simp [Act.put]
              refine wpAny_ready (rs := [16]) (by kernel_rfl) (by simp) ?_
              refine AllReady.cons rfl (fun K hK => ?_) AllReady.nil
              go_simp
              refine hK _ _ ?_
              clear hK K
              refine wpAny_ready (rs := [17]) (by kernel_rfl) (by simp) ?_
              refine AllReady.cons rfl (fun K hK => ?_) AllReady.nil
              go_simp
              refine hK _ _ ?_
              clear hK K
              refine wpAny_done (by kernel_rfl) ?_ _
              go_wp2_with fail
              go_meet
              case rel => exact ⟨_, rfl, rfl, finds_pre hbw hbV hb5, finds_two r0 r1 r2 r3⟩
        case rest =>
          obtain ⟨X, rfl, rfl, hbx, r0, r1, r2, r3⟩ := hcut
          go_wp2
          go_roundw
          case rel => exact ⟨k + 1, by omega, by push_cast; rfl, hbx⟩
          case measure => simp [intOf]; omega
      · obtain rfl : k = n := by omega
        clear hlt hkn
        go_wp2
        exact bodyPost_ret (v := .bool true) (by simp [results, Tryd.results6, go_sem]) rfl ⟨rfl, hbw⟩
  · have hp : (p == 0) = false := by simpa using hp0
    clear hp0
    go_enter Tryd.func6, Tryd.ntmps6
    go_wp2_with (first
      | (go_at_call 8; refine (example_any _ Hsp.out hg).mono ?_; rintro e W1 ⟨rfl, hb1⟩)
      | (go_at_call 10; refine (HD.out _ hb1).mono ?_; rintro e W2 ⟨rfl, hb2⟩; have hbw2 := hb1.trans (hb2.mono hb1.size)))
    exact bodyPost_ret (v := .bool true) (by simp [results, Tryd.results6, go_sem]) rfl ⟨rfl, hbw2⟩
end Go.Proofs.YtbpnogpjpklmjaaDoor
