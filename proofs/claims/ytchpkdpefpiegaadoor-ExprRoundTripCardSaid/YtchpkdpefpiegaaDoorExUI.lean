/- The law ExprTokensMatchesSpec. Conditions: the reading; the table of kinds. -/
import Derived.Test.YtchpkdpefpiegaaDoorExR
import Derived.Test.YtchpkdpefpiegaaDoorExUF
import Derived.Test.YtchpkdpefpiegaaDoorExUG
import Derived.Test.YtchpkdpefpiegaaDoorExUH
namespace Go.Proofs.YtchpkdpefpiegaaDoor.Tok
open Go Go.RowKit

theorem flt_box (W : World) (f1 f2 : Int) : (W.alloc (.cells #[.int .i64 f1, .int .i64 f2] 26)).heap[W.heap.size]? = some (.cells #[.int .i64 f1, .int .i64 f2] 26 (0, 0)) := heap_alloc_new _ _
theorem short_ex {ns : List Nd} (h : shortB ns = false) : ∃ k, k < ns.length ∧ 8000 < cntL ns k := by
  unfold shortB at h
  obtain ⟨k, h1, h2⟩ := List.all_eq_false.1 h
  exact ⟨k, List.mem_range.1 h1, by simpa using h2⟩
theorem cap_big {n : Nat} (h : 8000 < n) : (8000 : Int) < (capC n : Int) := by unfold capC; split <;> omega
theorem cap_small {n : Nat} (h : ¬ (8000 : Int) < (capC n : Int)) : n ≤ 8000 := by unfold capC at h; split at h <;> omega
set_option maxRecDepth 100000 in
set_option maxHeartbeats 4000000 in
theorem tlaw_bad (B : Nat) (v : Value) (ns : List Nd) (w : World) (h : NdsAt B w v ns) (hB : B ≤ w.heap.size) (hK : KindsAt w) (hv : (validL ns).1 ≠ 0) :
    Calls Tryd.prog 5 #[v] w fun e w' => e = .returned (.bool true) ∧ Below w.heap.size w w' := by
  have C0 := Lib.hid (example_any w hK)
  have CF := Lib.hid (fun W (hb : Below w.heap.size w W) => exprFault_any B v ns W (h.below (hb.mono hB)) (Nat.le_trans hB hb.size))
  have CT := Lib.hid (fun W (hb : Below w.heap.size w W) => tokens_bad B v ns W (h.below (hb.mono hB)) (Nat.le_trans hB hb.size) (hK.up hb) hv)
  obtain ⟨A, n, c, rfl, -⟩ := h.opens
  generalize validL ns = f at CF CT hv
  obtain ⟨f1, f2⟩ := f
  have hf1 : (f1 == 0) = false := beq_eq_false_iff_ne.2 hv
  have hf2 : (f1 != 0) = true := by simp [bne, hf1]
  unfold faultV at CF CT
  dsimp only at CF CT
  clear h hK hv hB
  go_enter Tryd.func5, Tryd.ntmps5
  go_wp2_with fail
  refine C0.out.mono ?_
  rintro e W1 ⟨rfl, hb1⟩
  have HB1 := Lib.hid hb1
  clear hb1 C0
  go_wp2_with fail
  refine (CT.out _ HB1.out).mono ?_
  rintro e W2 ⟨rfl, hb2⟩
  have HB2 := Lib.hid (HB1.out.trans (hb2.mono HB1.out.size))
  have hbl : Below W2.heap.size W2 (W2.alloc (.cells #[.int .i64 f1, .int .i64 f2] 26)) := (Below.refl _ _).alloc (Nat.le_refl _) _
  have HB3 := Lib.hid (HB2.out.trans (hbl.mono HB2.out.size))
  clear hb2 CT hbl
  go_wp2_with fail
  refine (CF.out _ HB3.out).mono ?_
  rintro e W4 ⟨rfl, hb4⟩
  have hx := (hb4.block _ (lt_of_block (flt_box W2 f1 f2))).trans (flt_box W2 f1 f2)
  obtain ⟨c1, -, c3⟩ := cells_of hx
  have d0 := c1 0 _ rfl
  have d1 := c1 1 _ rfl
  have HB4 := Lib.hid (HB3.out.trans (hb4.mono HB3.out.size))
  clear hb4 CF hx c1
  go_wp2_with fail
  go_ret
  exact ⟨rfl, HB4.out.alloc HB4.out.size _⟩
set_option maxRecDepth 100000 in
set_option maxHeartbeats 4000000 in
theorem tlaw_long (B : Nat) (v : Value) (ns : List Nd) (w : World) (h : NdsAt B w v ns) (hB : B ≤ w.heap.size) (hK : KindsAt w) (hv : validL ns = (0, 0)) (hs : shortB ns = false) :
    Calls Tryd.prog 5 #[v] w fun e w' => e = .returned (.bool true) ∧ Below w.heap.size w w' := by
  have C0 := Lib.hid (example_any w hK)
  have CF := Lib.hid (fun W (hb : Below w.heap.size w W) => exprFault_any B v ns W (h.below (hb.mono hB)) (Nat.le_trans hB hb.size))
  have CT := Lib.hid (fun W (hb : Below w.heap.size w W) => tokens_long B v ns W (h.below (hb.mono hB)) (Nat.le_trans hB hb.size) (hK.up hb) hv hs)
  have CC := Lib.hid (fun W (hb : Below w.heap.size w W) => tokenCount_any B v ns W (h.below (hb.mono hB)) (Nat.le_trans hB hb.size) (fine_of hv) (validL_all hv).1.2)
  have HEX := Lib.hid (short_ex hs)
  obtain ⟨A, n, c, rfl, Hn, -⟩ := h.opens
  have hn60 : n ≤ 60 := by rw [← Hn.out]; exact (validL_all hv).1.2
  rw [hv] at CF
  rw [Hn.out] at CC HEX
  unfold faultV at CF CT
  dsimp only at CF CT
  clear h hK hv hB hs
  go_enter Tryd.func5, Tryd.ntmps5
  go_wp2_with fail
  refine C0.out.mono ?_
  rintro e W1 ⟨rfl, hb1⟩
  have HB1 := Lib.hid hb1
  clear hb1 C0
  go_wp2_with fail
  refine (CT.out _ HB1.out).mono ?_
  rintro e W2 ⟨rfl, hb2⟩
  have HB2 := Lib.hid (HB1.out.trans (hb2.mono HB1.out.size))
  have hbl : Below W2.heap.size W2 (W2.alloc (.cells #[.int .i64 10, .int .i64 (-3)] 26)) := (Below.refl _ _).alloc (Nat.le_refl _) _
  have HBL := Lib.hid hbl
  have HB3 := Lib.hid (HB2.out.trans (hbl.mono HB2.out.size))
  clear hb2 CT hbl
  go_wp2_with fail
  refine (CF.out _ HB3.out).mono ?_
  rintro e W4 ⟨rfl, hb4⟩
  have hx := (hb4.block _ (lt_of_block (flt_box W2 _ _))).trans (flt_box W2 _ _)
  have hb5 : Below W4.heap.size W4 (W4.alloc (.cells #[.int .i64 0, .int .i64 0] 26)) := (Below.refl _ _).alloc (Nat.le_refl _) _
  have hx5 := (hb5.block _ (lt_of_block hx)).trans hx
  have HB5 := Lib.hid (HB3.out.trans ((hb4.trans (hb5.mono hb4.size)).mono HB3.out.size))
  have H25 := Lib.hid (HBL.out.trans ((hb4.trans (hb5.mono hb4.size)).mono HBL.out.size))
  have HX5 := Lib.hid hx5
  clear hb4 hb5 hx hx5 CF
  go_wp2_with fail
  refine (CC.out _ HB5.out).mono ?_
  rintro e W6 ⟨⟨v6, rfl, hr6⟩, hb6⟩
  have HX6 := Lib.hid ((hb6.block _ (lt_of_block HX5.out)).trans HX5.out)
  have HR6 := Lib.hid hr6
  have HB6 := Lib.hid (HB5.out.trans (hb6.mono HB5.out.size))
  have H26 := Lib.hid (H25.out.trans (hb6.mono H25.out.size))
  obtain ⟨A6, c6, rfl⟩ := row_is hr6
  clear hb6 hr6 CC HX5
  go_wp2_with fail
  go_loop [7] (fun u7 => ∃ k : Nat, k ≤ n ∧ u7 = .int .i64 k ∧ Hid (∀ j, j < k → cntL ns j ≤ 8000)) (fun i => n - (intOf i).toNat)
  case atStart => exact ⟨0, Nat.zero_le _, rfl, Lib.hid (fun j hj => by omega)⟩
  case round =>
    obtain ⟨k, hk, rfl, HQ⟩ := hrel
    have hlt : k < n := by
      obtain ⟨e, he, hc⟩ := HEX.out
      rcases Nat.lt_or_ge k n with h | h
      · exact h
      · have := HQ.out e (by omega); omega
    obtain ⟨g, cap, e, c0⟩ := counts_cell HR6.out hlt
    injection e with e1 _ e2
    subst e1 e2
    have hg6 := block_lt_of_cell c0
    by_cases hbig : (8000 : Int) < (capC (cntL ns k) : Int)
    · generalize (capC (cntL ns k) : Int) = ck at c0 hbig
      obtain ⟨q1, -, q3⟩ := cells_of HX6.out
      have d0 := q1 0 _ rfl
      have d1 := q1 1 _ rfl
      clear q1
      go_wp2_with fail
      have KS := Lib.hid (show ∀ W', Below W6.heap.size W6 W' → (W'.cell? ⟨W2.heap.size, 0, none⟩ = some (.int .i64 10) ∧ W'.cell? ⟨W2.heap.size, 1, none⟩ = some (.int .i64 (-3))) from fun W' hb => by
        obtain ⟨q1, -, -⟩ := cells_of ((hb.block _ (lt_of_block HX6.out)).trans HX6.out)
        exact ⟨q1 0 _ rfl, q1 1 _ rfl⟩)
      have hcur : Below W6.heap.size W6 W6.drew := (Below.refl _ _).drew
      have HCU := Lib.hid hcur
      go_region_held3 (fun W' => W'.cell? ⟨W2.heap.size, 0, none⟩ = some (.int .i64 10) ∧ W'.cell? ⟨W2.heap.size, 1, none⟩ = some (.int .i64 (-3)))
        (first | exact KS.out _ hcur)
        ((go_at_call 12; refine (at_any _ _ _).mono ?_; rintro e W7 ⟨rfl, hb7⟩; have hcur := hcur.trans (hb7.mono hcur.size); have HCU := Lib.hid hcur))
      go_wp2_with fail
      go_ret
      exact ⟨rfl, HB6.out.trans (HCU.out.mono HB6.out.size)⟩
    · have HQ2 := Lib.hid (show ∀ j, j < k + 1 → cntL ns j ≤ 8000 from fun j hj => by
        by_cases e : j = k
        · subst e; exact cap_small hbig
        · exact HQ.out j (by omega))
      generalize (capC (cntL ns k) : Int) = ck at c0 hbig
      go_wp2_with fail
      go_round
      case rel => exact ⟨k + 1, by omega, by go_num, HQ2⟩
      case measure => simp [intOf]; omega
set_option maxRecDepth 100000 in
set_option maxHeartbeats 4000000 in
theorem tlaw_good (B : Nat) (v : Value) (ns : List Nd) (w : World) (h : NdsAt B w v ns) (hB : B ≤ w.heap.size) (hK : KindsAt w) (hv : validL ns = (0, 0)) (hs : shortB ns = true) :
    Calls Tryd.prog 5 #[v] w fun e w' => e = .returned (.bool true) ∧ Below w.heap.size w w' := by
  have C0 := Lib.hid (example_any w hK)
  have CF := Lib.hid (fun W (hb : Below w.heap.size w W) => exprFault_any B v ns W (h.below (hb.mono hB)) (Nat.le_trans hB hb.size))
  have CT := Lib.hid (fun W (hb : Below w.heap.size w W) => tokens_good B v ns W (h.below (hb.mono hB)) (Nat.le_trans hB hb.size) (hK.up hb) hv hs)
  have CC := Lib.hid (fun W (hb : Below w.heap.size w W) => tokenCount_any B v ns W (h.below (hb.mono hB)) (Nat.le_trans hB hb.size) (fine_of hv) (validL_all hv).1.2)
  have HALL := Lib.hid (short_all hs)
  have hnp : 1 ≤ ns.length := (validL_all hv).1.1
  obtain ⟨y, hy⟩ : ∃ y, ns[ns.length - 1]? = some y := ⟨_, List.getElem?_eq_getElem (by omega)⟩
  have hnm0 : ∀ x ∈ ns, x.name.length ≤ 140737488351232 := by obtain ⟨_, _, _, _, _, _, HT, _⟩ := h.opens; exact HT.out
  have CR := Lib.hid (fun W (hb : Below w.heap.size w W) => refToks_any B v ns (fine_of hv) hnm0 (short_all hs) ns.length (ns.length - 1) y (by omega) hy W (h.below (hb.mono hB)) (Nat.le_trans hB hb.size))
  have HLN := Lib.hid (show (toksL ns (ns.length - 1)).length ≤ 8000 from short_all hs _ (by omega))
  have HSH := Lib.hid (tok_short hnm0 (ns.length - 1 + 1) (ns.length - 1))
  obtain ⟨A, n, c, rfl, Hn, -⟩ := h.opens
  have hn60 : n ≤ 60 := by rw [← Hn.out]; exact (validL_all hv).1.2
  have hn1 : 1 ≤ n := by rw [← Hn.out]; exact hnp
  rw [hv] at CF
  rw [Hn.out] at CC HALL CR HLN HSH CT
  unfold faultV at CF CT
  dsimp only at CF CT
  unfold RefPost at CR
  have HSH2 := Lib.hid (show ∀ t ∈ toksL ns (n - 1), t.text.length ≤ 140737488351232 from HSH.out)
  generalize toksL ns (n - 1) = ts at CT CR HLN HSH2
  obtain ⟨m, rfl⟩ : ∃ m, n = m + 1 := ⟨n - 1, by omega⟩
  rw [Nat.add_sub_cancel] at CR
  have hm59 : m ≤ 59 := by omega
  have hwr3 : wrap64 (m : Int) = (m : Int) := IntWalk.wrap64_in (m : Int) ⟨by omega, by omega⟩
  clear h hK hv hB hs hy hnm0 hnp HSH
  go_enter Tryd.func5, Tryd.ntmps5
  go_wp2_with fail
  refine C0.out.mono ?_
  rintro e W1 ⟨rfl, hb1⟩
  have HB1 := Lib.hid hb1
  clear hb1 C0
  go_wp2_with fail
  refine (CT.out _ HB1.out).mono ?_
  rintro e W2 ⟨⟨v2, rfl, hr2⟩, hb2⟩
  have HB2 := Lib.hid (HB1.out.trans (hb2.mono HB1.out.size))
  have hbl : Below W2.heap.size W2 (W2.alloc (.cells #[.int .i64 0, .int .i64 0] 26)) := (Below.refl _ _).alloc (Nat.le_refl _) _
  have HBL := Lib.hid hbl
  have HT2 := Lib.hid (toks_of_rowB hr2 (by have := HLN.out; omega) HSH2.out)
  obtain ⟨A3, c3, rfl⟩ := row_is hr2
  clear hr2
  have HB3 := Lib.hid (HB2.out.trans (hbl.mono HB2.out.size))
  clear CT hbl
  go_wp2_with fail
  refine (CF.out _ HB3.out).mono ?_
  rintro e W4 ⟨rfl, hb4⟩
  have hx := (hb4.block _ (lt_of_block (flt_box W2 _ _))).trans (flt_box W2 _ _)
  have hb5 : Below W4.heap.size W4 (W4.alloc (.cells #[.int .i64 0, .int .i64 0] 26)) := (Below.refl _ _).alloc (Nat.le_refl _) _
  have hx5 := (hb5.block _ (lt_of_block hx)).trans hx
  have HB5 := Lib.hid (HB3.out.trans ((hb4.trans (hb5.mono hb4.size)).mono HB3.out.size))
  have H25 := Lib.hid (HBL.out.trans ((hb4.trans (hb5.mono hb4.size)).mono HBL.out.size))
  have HX5 := Lib.hid hx5
  clear hb4 hb5 hx hx5 CF
  go_wp2_with fail
  refine (CC.out _ HB5.out).mono ?_
  rintro e W6 ⟨⟨v6, rfl, hr6⟩, hb6⟩
  have HX6 := Lib.hid ((hb6.block _ (lt_of_block HX5.out)).trans HX5.out)
  have HR6 := Lib.hid hr6
  have HB6 := Lib.hid (HB5.out.trans (hb6.mono HB5.out.size))
  have H26 := Lib.hid (H25.out.trans (hb6.mono H25.out.size))
  obtain ⟨A6, c6, rfl⟩ := row_is hr6
  clear hb6 hr6 CC HX5
  have HT6 := Lib.hid (HT2.out.below H26.out)
  go_wp2_with fail
  go_loop [7] (fun u7 => ∃ k : Nat, k ≤ m + 1 ∧ u7 = .int .i64 k) (fun i => m + 1 - (intOf i).toNat)
  case atStart => exact ⟨0, Nat.zero_le _, rfl⟩
  case round =>
    obtain ⟨k, hk, rfl⟩ := hrel
    by_cases hlt : k < m + 1
    · obtain ⟨g, cap, e, c0⟩ := counts_cell HR6.out hlt
      injection e with e1 _ e2
      subst e1 e2
      have hg6 := block_lt_of_cell c0
      have hsm : ¬ (8000 : Int) < (capC (cntL ns k) : Int) := by have := HALL.out k hlt; unfold capC; split <;> omega
      generalize (capC (cntL ns k) : Int) = ck at c0 hsm
      go_wp2_with fail
      go_round
      case rel => exact ⟨k + 1, by omega, by go_num⟩
      case measure => simp [intOf]; omega
    · obtain rfl : k = m + 1 := by omega
      obtain ⟨q1, -, q3⟩ := cells_of HX6.out
      have d0 := q1 0 _ rfl
      have d1 := q1 1 _ rfl
      clear q1
      go_wp2_with fail
      refine (CR.out _ HB6.out).mono ?_
      rintro e W7 ⟨⟨v7, rfl, hr7⟩, hb7⟩
      have HB7 := Lib.hid (HB6.out.trans (hb7.mono HB6.out.size))
      have HT7 := Lib.hid (toks_of_rowB hr7 (by have := HLN.out; omega) HSH2.out)
      have HT8 := Lib.hid ((HT6.out.below ((Below.refl _ _ : Below W2.heap.size W6 W6).trans (hb7.mono H26.out.size))).more (Nat.le_trans H26.out.size hb7.size))
      clear hr7 hb7 CR
      go_wp2_with fail
      refine (same_any W7.heap.size _ _ true ts ts W7 HT8.out HT7.out (sameTks_refl _ _)).mono ?_
      rintro e W8 ⟨rfl, q, rfl⟩
      go_wp2_with fail
      go_ret
      exact ⟨rfl, below_drewN HB7.out _⟩
theorem law_tokens (B : Nat) (v : Value) (ns : List Nd) (w : World) (h : NdsAt B w v ns) (hB : B ≤ w.heap.size) (hK : KindsAt w) :
    Calls Tryd.prog 5 #[v] w fun e w' => e = .returned (.bool true) ∧ Below w.heap.size w w' := by
  rcases validL_cases ns with hv | hv
  · cases hs : shortB ns with
    | false => exact tlaw_long B v ns w h hB hK hv hs
    | true => exact tlaw_good B v ns w h hB hK hv hs
  · exact tlaw_bad B v ns w h hB hK hv
end Go.Proofs.YtchpkdpefpiegaaDoor.Tok
