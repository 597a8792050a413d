/- The reference's TokenCount: how many tokens each node has, at most 8001. -/
import Derived.Test.YtchpkdpefpiegaaDoorExUA
import Derived.Test.YtchpkdpefpiegaaDoorExZJ
namespace Go.Proofs.YtchpkdpefpiegaaDoor.Tok
open Go Go.RowKit

def capC (n : Nat) : Nat := if 8001 < n then 8001 else n
def countsL (ns : List Nd) (k : Nat) : List Int := (List.range k).map fun i => (capC (cntL ns i) : Int)
theorem counts_next (ns : List Nd) (k : Nat) : countsL ns (k + 1) = countsL ns k ++ [(capC (cntL ns k) : Int)] := by unfold countsL; rw [List.range_succ, List.map_append]; rfl
theorem counts_len (ns : List Nd) (k : Nat) : (countsL ns k).length = k := by unfold countsL; simp
theorem counts_at (ns : List Nd) {k j : Nat} (h : j < k) : (tiv (countsL ns k))[j]? = some (.int .i64 (capC (cntL ns j) : Int)) := by
  unfold tiv countsL
  rw [List.getElem?_map, List.getElem?_map, List.getElem?_range h]
  rfl
theorem cap_le (n : Nat) : (0 : Int) ≤ (capC n : Int) ∧ (capC n : Int) ≤ 8001 := by unfold capC; split <;> omega
theorem counts_cell {w : World} {B k j : Nat} {v : Value} {ns : List Nd} (h : w.ownsRow B 3 1 v k (tiv (countsL ns k))) (hj : j < k) : ∃ g cap, v = .slice (some ⟨g, 0, none⟩) k cap ∧ w.cell? ⟨g, j, none⟩ = some (.int .i64 (capC (cntL ns j) : Int)) := by
  rcases h.2 with ⟨-, h0⟩ | ⟨g, cap, cur, rfl, _, _, _, _⟩
  · omega
  · exact ⟨g, cap, rfl, (h.cellAt j (by omega)).trans (counts_at ns hj)⟩
set_option maxRecDepth 100000 in
set_option maxHeartbeats 8000000 in
theorem tokenCount_any (B : Nat) (v : Value) (ns : List Nd) (w : World) (h : NdsAt B w v ns) (hB : B ≤ w.heap.size) (hF : Fine ns) (hn : ns.length ≤ 60) :
    Calls Tryd.prog 22 #[v] w fun e W => (∃ v', e = .returned v' ∧ W.ownsRow w.heap.size 3 1 v' ns.length (tiv (countsL ns ns.length))) ∧ Below w.heap.size w W := by
  obtain ⟨i1, hi1, hy0, hy1, hy2⟩ := info_parts infoInt1
  have HF := Lib.hid hF
  have HB0 := Lib.hid hB
  obtain ⟨A, n, c, rfl, Hn, -, -, HC⟩ := h.opens
  have hn60 : n ≤ 60 := by rw [← Hn.out]; exact hn
  rw [Hn.out]
  clear h hF hB hn
  go_enter Tryd.func22, Tryd.ntmps22
  go_wp2_with fail
  go_loopw [3, 4] (fun u3 u4 wr => ∃ k : Nat, k ≤ n ∧ u4 = .int .i64 k ∧ Hid (wr.ownsRow w.heap.size 3 1 u3 k (tiv (countsL ns k))) ∧ Hid (Below w.heap.size w wr)) (fun _ i _ => n - (intOf i).toNat)
  case atStart => exact ⟨0, Nat.zero_le _, rfl, Lib.hid (World.ownsRow_nil _ _ _ _), Lib.hid (Below.refl _ _)⟩
  case round =>
    obtain ⟨k, hk, rfl, HO, HB⟩ := hrel
    by_cases hlt : k < n
    · obtain ⟨b1, o1, rfl, hb1, g1⟩ := HC.out (by omega)
      obtain ⟨x, hx⟩ := getElem?_of_lt Hn.out hlt
      obtain ⟨p0, p1, p2, p3, p4⟩ := (g1 k x hx).below (HB.out.mono HB0.out) hb1
      have hb1r := block_lt_of_cell p0
      obtain ⟨⟨hk1, hk14⟩, hlf, hrt⟩ := HF.out k x hx
      have hbwr : w.heap.size ≤ wr.heap.size := HB.out.size
      by_cases h3 : 3 ≤ x.kind
      · obtain ⟨l1, l2⟩ := hlf h3
        obtain ⟨a, ha⟩ : ∃ a : Nat, x.left = a := ⟨x.left.toNat, by omega⟩
        have hak : a < k := by omega
        have hat : x.left.toNat = a := by omega
        rw [ha] at p3
        obtain ⟨g, cap, rfl, c0⟩ := counts_cell HO.out hak
        obtain ⟨cl0, cl1⟩ := cap_le (cntL ns a)
        have hgr := block_lt_of_cell c0
        by_cases h5 : 5 ≤ x.kind
        · obtain ⟨r1, r2⟩ := hrt h5
          obtain ⟨b, hb⟩ : ∃ b : Nat, x.right = b := ⟨x.right.toNat, by omega⟩
          have hbk : b < k := by omega
          have hbt : x.right.toNat = b := by omega
          rw [hb] at p4
          obtain ⟨g', cap', e, c1⟩ := counts_cell HO.out hbk
          injection e with e1 _ e2
          injection e1 with e1
          injection e1 with e1 _ _
          subst e1 e2
          obtain ⟨cr0, cr1⟩ := cap_le (cntL ns b)
          have hcnt := cnt_binary HF.out hx h5
          rw [hat, hbt] at hcnt
          have HE := Lib.hid (show ((capC (cntL ns a) : Int) + 1 + (capC (cntL ns b) : Int) + 2 ≤ 8001 → (capC (cntL ns k) : Int) = (capC (cntL ns a) : Int) + 1 + (capC (cntL ns b) : Int) + 2) ∧ (8001 < (capC (cntL ns a) : Int) + 1 + (capC (cntL ns b) : Int) + 2 → (capC (cntL ns k) : Int) = 8001) by
            rw [hcnt]; unfold capC; constructor <;> intro hh <;> (repeat' split at hh) <;> (repeat' split) <;> omega)
          clear hcnt
          generalize (capC (cntL ns a) : Int) = ca at c0 cl0 cl1 HE
          generalize (capC (cntL ns b) : Int) = cb at c1 cr0 cr1 HE
          by_cases hbig : 8001 < ca + 1 + cb + 2
          · have HE2 := Lib.hid (HE.out.2 hbig)
            have HN := Lib.hid (show (capC (cntL ns k) : Int) = 8001 from HE2.out)
            have hlit : Below wr.heap.size wr (wr.alloc (.cells #[.int .i64 (8001)] 3)) := (Below.refl _ _).alloc (Nat.le_refl _) _
            have HO2 := Lib.hid (ownsRow_below HO.out hlit)
            have HB2 := Lib.hid (HB.out.trans (hlit.mono HB.out.size))
            clear hlit g1 hx HC
            go_wp2_with (at_builtin; refine wpList_append_lies _ rfl (.tmp 46) (.tmp 48) 48 rfl w.heap.size 3 i1 _ 1 8 Tryd.underlying48 hi1 hy0 hy1 hy2 (by rfl) (by decide) _ k _ rfl HO2.out ⟨wr.heap.size, 0, none⟩ 1 1 [.int .i64 (8001)] rfl rfl (cell_one_new _ _ _) (by simp [Value.oneCell']) (by decide) (by unfold maxLen; omega) (by omega) (by simp; omega) (wr.heap.size + 1) (by simp) ?_; intro gb cap2 W2 hown2 hg2 hat2 hlt2; have HB3 := Lib.hid (HB2.out.grown hg2 HB2.out.size (fun r e => (HO2.out.lt r e).1)); have HO3 := Lib.hid hown2; clear hown2 hg2 hat2 hlt2)
            go_roundw
            case rel => exact ⟨k + 1, by omega, by go_num, Lib.hid (by rw [counts_next, tiv_snoc, HN.out]; exact HO3.out), HB3⟩
            case measure => simp [intOf]; omega
          · have HE2 := Lib.hid (HE.out.1 (by omega))
            have HN := Lib.hid (show (capC (cntL ns k) : Int) = ca + 1 + cb + 2 from HE2.out)
            have hlit : Below wr.heap.size wr (wr.alloc (.cells #[.int .i64 (ca + 1 + cb + 2)] 3)) := (Below.refl _ _).alloc (Nat.le_refl _) _
            have HO2 := Lib.hid (ownsRow_below HO.out hlit)
            have HB2 := Lib.hid (HB.out.trans (hlit.mono HB.out.size))
            clear hlit g1 hx HC
            go_wp2_with (at_builtin; refine wpList_append_lies _ rfl (.tmp 46) (.tmp 48) 48 rfl w.heap.size 3 i1 _ 1 8 Tryd.underlying48 hi1 hy0 hy1 hy2 (by rfl) (by decide) _ k _ rfl HO2.out ⟨wr.heap.size, 0, none⟩ 1 1 [.int .i64 (ca + 1 + cb + 2)] rfl rfl (cell_one_new _ _ _) (by simp [Value.oneCell']) (by decide) (by unfold maxLen; omega) (by omega) (by simp; omega) (wr.heap.size + 1) (by simp) ?_; intro gb cap2 W2 hown2 hg2 hat2 hlt2; have HB3 := Lib.hid (HB2.out.grown hg2 HB2.out.size (fun r e => (HO2.out.lt r e).1)); have HO3 := Lib.hid hown2; clear hown2 hg2 hat2 hlt2)
            go_roundw
            case rel => exact ⟨k + 1, by omega, by go_num, Lib.hid (by rw [counts_next, tiv_snoc, HN.out]; exact HO3.out), HB3⟩
            case measure => simp [intOf]; omega
        · have hcnt := cnt_unary HF.out hx h3 (by omega)
          rw [hat] at hcnt
          have HE := Lib.hid (show ((capC (cntL ns a) : Int) + 1 ≤ 8001 → (capC (cntL ns k) : Int) = (capC (cntL ns a) : Int) + 1) ∧ (8001 < (capC (cntL ns a) : Int) + 1 → (capC (cntL ns k) : Int) = 8001) by
            rw [hcnt]; unfold capC; constructor <;> intro hh <;> (repeat' split at hh) <;> (repeat' split) <;> omega)
          clear hcnt
          generalize (capC (cntL ns a) : Int) = ca at c0 cl0 cl1 HE
          by_cases hbig : 8001 < ca + 1
          · have HE2 := Lib.hid (HE.out.2 hbig)
            have HN := Lib.hid (show (capC (cntL ns k) : Int) = 8001 from HE2.out)
            have hlit : Below wr.heap.size wr (wr.alloc (.cells #[.int .i64 (8001)] 3)) := (Below.refl _ _).alloc (Nat.le_refl _) _
            have HO2 := Lib.hid (ownsRow_below HO.out hlit)
            have HB2 := Lib.hid (HB.out.trans (hlit.mono HB.out.size))
            clear hlit g1 hx HC
            go_wp2_with (at_builtin; refine wpList_append_lies _ rfl (.tmp 46) (.tmp 48) 48 rfl w.heap.size 3 i1 _ 1 8 Tryd.underlying48 hi1 hy0 hy1 hy2 (by rfl) (by decide) _ k _ rfl HO2.out ⟨wr.heap.size, 0, none⟩ 1 1 [.int .i64 (8001)] rfl rfl (cell_one_new _ _ _) (by simp [Value.oneCell']) (by decide) (by unfold maxLen; omega) (by omega) (by simp; omega) (wr.heap.size + 1) (by simp) ?_; intro gb cap2 W2 hown2 hg2 hat2 hlt2; have HB3 := Lib.hid (HB2.out.grown hg2 HB2.out.size (fun r e => (HO2.out.lt r e).1)); have HO3 := Lib.hid hown2; clear hown2 hg2 hat2 hlt2)
            go_roundw
            case rel => exact ⟨k + 1, by omega, by go_num, Lib.hid (by rw [counts_next, tiv_snoc, HN.out]; exact HO3.out), HB3⟩
            case measure => simp [intOf]; omega
          · have HE2 := Lib.hid (HE.out.1 (by omega))
            have HN := Lib.hid (show (capC (cntL ns k) : Int) = ca + 1 from HE2.out)
            have hlit : Below wr.heap.size wr (wr.alloc (.cells #[.int .i64 (ca + 1)] 3)) := (Below.refl _ _).alloc (Nat.le_refl _) _
            have HO2 := Lib.hid (ownsRow_below HO.out hlit)
            have HB2 := Lib.hid (HB.out.trans (hlit.mono HB.out.size))
            clear hlit g1 hx HC
            go_wp2_with (at_builtin; refine wpList_append_lies _ rfl (.tmp 46) (.tmp 48) 48 rfl w.heap.size 3 i1 _ 1 8 Tryd.underlying48 hi1 hy0 hy1 hy2 (by rfl) (by decide) _ k _ rfl HO2.out ⟨wr.heap.size, 0, none⟩ 1 1 [.int .i64 (ca + 1)] rfl rfl (cell_one_new _ _ _) (by simp [Value.oneCell']) (by decide) (by unfold maxLen; omega) (by omega) (by simp; omega) (wr.heap.size + 1) (by simp) ?_; intro gb cap2 W2 hown2 hg2 hat2 hlt2; have HB3 := Lib.hid (HB2.out.grown hg2 HB2.out.size (fun r e => (HO2.out.lt r e).1)); have HO3 := Lib.hid hown2; clear hown2 hg2 hat2 hlt2)
            go_roundw
            case rel => exact ⟨k + 1, by omega, by go_num, Lib.hid (by rw [counts_next, tiv_snoc, HN.out]; exact HO3.out), HB3⟩
            case measure => simp [intOf]; omega
      · have HE2 := Lib.hid (show (capC (cntL ns k) : Int) = 1 by rw [cnt_leaf HF.out hx (by omega)]; rfl)
        have h5 : ¬ 5 ≤ x.kind := by omega
        obtain ⟨A6, c6, rfl⟩ := row_is HO.out
        have HN := Lib.hid (show (capC (cntL ns k) : Int) = 1 from HE2.out)
        have hlit : Below wr.heap.size wr (wr.alloc (.cells #[.int .i64 (1)] 3)) := (Below.refl _ _).alloc (Nat.le_refl _) _
        have HO2 := Lib.hid (ownsRow_below HO.out hlit)
        have HB2 := Lib.hid (HB.out.trans (hlit.mono HB.out.size))
        clear hlit g1 hx HC
        go_wp2_with (at_builtin; refine wpList_append_lies _ rfl (.tmp 46) (.tmp 48) 48 rfl w.heap.size 3 i1 _ 1 8 Tryd.underlying48 hi1 hy0 hy1 hy2 (by rfl) (by decide) _ k _ rfl HO2.out ⟨wr.heap.size, 0, none⟩ 1 1 [.int .i64 (1)] rfl rfl (cell_one_new _ _ _) (by simp [Value.oneCell']) (by decide) (by unfold maxLen; omega) (by omega) (by simp; omega) (wr.heap.size + 1) (by simp) ?_; intro gb cap2 W2 hown2 hg2 hat2 hlt2; have HB3 := Lib.hid (HB2.out.grown hg2 HB2.out.size (fun r e => (HO2.out.lt r e).1)); have HO3 := Lib.hid hown2; clear hown2 hg2 hat2 hlt2)
        go_roundw
        case rel => exact ⟨k + 1, by omega, by go_num, Lib.hid (by rw [counts_next, tiv_snoc, HN.out]; exact HO3.out), HB3⟩
        case measure => simp [intOf]; omega
    · obtain rfl : k = n := by omega
      go_wp2_with fail
      go_ret
      exact ⟨⟨_, rfl, HO.out⟩, HB.out⟩
end Go.Proofs.YtchpkdpefpiegaaDoor.Tok
