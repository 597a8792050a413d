/- The iterator over the fields of operands: it gives the number of each operand and its field, in the order of the operands. Conditions: the kinds are known ones (1 to 6), at most four; the captured cell holds the slice. -/
import Derived.RangeFuncNested
import Derived.RangeFuncBound
import Derived.RangeFuncCalls
import Derived.RangeFuncLeaves
import Derived.RangeFuncBox
import Derived.RangeFuncKeeps
import Derived.Shelf.RegionOpen
import Derived.OwnWalkIn
import Derived.TacticsInMore
import Derived.LoopNIn
import Derived.LoopIn
import Derived.StillTailTactics
import Derived.Test.YtcngpciblbdgbaaGreatDoorIsaE
import Derived.Test.YtcngpciblbdgbaaGreatDoorEncA
namespace Go.Proofs.YtcngpciblbdgbaaGreatDoor
open Go Go.RowKit Go.Shelf
attribute [local go_sem] Oper.semAt_some

/-! ## small functions -/
set_option maxHeartbeats 400000 in
theorem isRegister_any (k : Int) (w : World) : Calls Tryz.prog 73 #[.int .i64 k] w fun e w' => e = .returned (.bool (isReg k)) ∧ w = w' := by
  by_cases h1 : k = 1
  · have h1' : (k == 1) = true := by simp [h1]
    have e : isReg k = true := by simp [isReg, h1]
    rw [e]
    clear h1 e
    go_enter Tryz.func73, Tryz.ntmps73
    go_wp2
    go_ret
    exact ⟨rfl, rfl⟩
  · have h1' : (k == 1) = false := by simp [h1]
    have e : isReg k = (k == 2) := by simp [isReg, h1']
    rw [e]
    clear h1 e
    cases h2 : (k == 2)
    all_goals
      go_enter Tryz.func73, Tryz.ntmps73
      go_wp2
      go_ret
      exact ⟨rfl, rfl⟩
set_option maxHeartbeats 400000 in
theorem countRegs_any (B : Nat) (v : Value) (ks : List Int) (w : World) (h : KindsAt B w v ks) :
    Calls Tryz.prog 71 #[v] w fun e w' => e = .returned (.int .i64 (regs ks : Nat)) ∧ w = w' := by
  obtain ⟨A, n, c, rfl, hks, hn, hc⟩ := h.opens
  clear h
  go_enter Tryz.func71, Tryz.ntmps71
  go_wp2
  go_loop [3, 8] (fun t i => ∃ k m : Nat, k ≤ n ∧ i = .int .i64 k ∧ t = .int .i64 m ∧ m ≤ k ∧ Hid (m = regs (ks.take k))) (fun _ i => n - (intOf i).toNat)
  case atStart => exact ⟨0, 0, Nat.zero_le _, rfl, rfl, Nat.le_refl _, Lib.hid rfl⟩
  case round =>
    obtain ⟨k, m, hk, rfl, rfl, hm, Hm⟩ := hrel
    by_cases hlt : k < n
    · obtain ⟨b1, o1, rfl, _, g1⟩ := hc (by omega)
      have d1 := g1 k hlt
      have ht := take_at hks hlt
      generalize ks[k]?.getD 0 = x at d1 ht
      have hs := regs_snoc (ks.take k) x
      rw [← ht, ← Hm.out] at hs
      have Hs := Lib.hid hs
      clear hs ht g1 hc
      cases hr : isReg x with
      | true =>
        rw [regsOf_reg hr] at Hs
        have C := Lib.hid (isRegister_any x w)
        rw [hr] at C
        clear hr
        go_wp2_with (go_at_call 73; refine C.out.mono ?_; rintro e w' ⟨rfl, rfl⟩)
        go_round
        case rel => exact ⟨k + 1, m + 1, by omega, by go_num, by go_num, by omega, Lib.hid Hs.out.symm⟩
        case measure => simp [intOf]; omega
      | false =>
        rw [regsOf_num hr] at Hs
        have C := Lib.hid (isRegister_any x w)
        rw [hr] at C
        clear hr
        go_wp2_with (go_at_call 73; refine C.out.mono ?_; rintro e w' ⟨rfl, rfl⟩)
        go_round
        case rel => exact ⟨k + 1, m, by omega, by go_num, rfl, by omega, Lib.hid Hs.out.symm⟩
        case measure => simp [intOf]; omega
    · obtain rfl : k = n := by omega
      go_wp2
      go_ret
      exact ⟨ret_int (by rw [Hm.out, List.take_of_length_le (by rw [hks.out]; omega)]), rfl⟩

/-! ## fields -/
def bitsOf (k : Int) : Nat := if isReg k then 4 else 8 * widthOf k
def fldAt (ks : List Int) (n : Nat) : Nat := if isReg (ks[n]?.getD 0) then 1 + regAt ks n / 2 else numAt ks n
def fldSh (ks : List Int) (n : Nat) : Nat := if isReg (ks[n]?.getD 0) then regAt ks n % 2 * 4 else 0
def fldV (ks : List Int) (n : Nat) : Value := .agg #[.int .i64 (fldAt ks n : Nat), .int .i64 (fldSh ks n : Nat), .int .i64 (bitsOf (ks[n]?.getD 0) : Nat), .int .i64 (lowOf (ks[n]?.getD 0)), .int .i64 (highOf (ks[n]?.getD 0))]
set_option maxHeartbeats 800000 in
theorem spanOf_any (k : Int) (hk : 1 ≤ k ∧ k ≤ 6) (w : World) : Calls Tryz.prog 72 #[.int .i64 k] w fun e w' => e = .returned (.agg #[.int .i64 (bitsOf k : Nat), .int .i64 (lowOf k), .int .i64 (highOf k)]) ∧ Below w.heap.size w w' := by
  rcases known_cases hk with rfl | rfl | rfl | rfl | rfl | rfl
  · go_enter Tryz.func72, Tryz.ntmps72
    go_wp2
    exact bodyPost_ret (v := .agg #[.int .i64 4, .int .i64 0, .int .i64 7]) (by simp [results, Tryz.results72, go_sem]) rfl ⟨rfl, (Below.refl _ _).alloc (Nat.le_refl _) _⟩
  · go_enter Tryz.func72, Tryz.ntmps72
    go_wp2
    exact bodyPost_ret (v := .agg #[.int .i64 4, .int .i64 0, .int .i64 3]) (by simp [results, Tryz.results72, go_sem]) rfl ⟨rfl, (Below.refl _ _).alloc (Nat.le_refl _) _⟩
  · go_enter Tryz.func72, Tryz.ntmps72
    go_wp2
    exact bodyPost_ret (v := .agg #[.int .i64 8, .int .i64 (-128), .int .i64 127]) (by simp [results, Tryz.results72, go_sem]) rfl ⟨rfl, (Below.refl _ _).alloc (Nat.le_refl _) _⟩
  · go_enter Tryz.func72, Tryz.ntmps72
    go_wp2
    exact bodyPost_ret (v := .agg #[.int .i64 32, .int .i64 0, .int .i64 4294967295]) (by simp [results, Tryz.results72, go_sem]) rfl ⟨rfl, (Below.refl _ _).alloc (Nat.le_refl _) _⟩
  · go_enter Tryz.func72, Tryz.ntmps72
    go_wp2
    exact bodyPost_ret (v := .agg #[.int .i64 8, .int .i64 (-128), .int .i64 127]) (by simp [results, Tryz.results72, go_sem]) rfl ⟨rfl, (Below.refl _ _).alloc (Nat.le_refl _) _⟩
  · go_enter Tryz.func72, Tryz.ntmps72
    go_wp2
    exact bodyPost_ret (v := .agg #[.int .i64 16, .int .i64 (-32768), .int .i64 32767]) (by simp [results, Tryz.results72, go_sem]) rfl ⟨rfl, (Below.refl _ _).alloc (Nat.le_refl _) _⟩

/-! ## the iterator -/
/-- below B, and in block b, memory lies as it lay -/
def KB (B b : Nat) (w w' : World) : Prop := (∀ j, j < B → w'.heap[j]? = w.heap[j]?) ∧ w'.heap[b]? = w.heap[b]? ∧ w.heap.size ≤ w'.heap.size
theorem KB.refl (B b : Nat) (w : World) : KB B b w w := ⟨fun _ _ => rfl, rfl, Nat.le_refl _⟩
theorem KB.trans {B b : Nat} {u v w : World} (h : KB B b u v) (k : KB B b v w) : KB B b u w := ⟨fun j hj => (k.1 j hj).trans (h.1 j hj), k.2.1.trans h.2.1, Nat.le_trans h.2.2 k.2.2⟩
theorem KB.below {B b C : Nat} {u v : World} (h : Below C u v) (hB : B ≤ C) (hb : b < C) : KB B b u v := ⟨fun j hj => h.block j (by omega), h.block b hb, h.size⟩
theorem KB.cell {B b : Nat} {u v : World} (h : KB B b u v) (j o : Nat) (hj : j < B ∨ j = b) : v.cell? ⟨j, o, none⟩ = u.cell? ⟨j, o, none⟩ :=
  World.cell?_of_block (a := ⟨j, o, none⟩) (by rcases hj with hj | rfl; exact h.1 j hj; exact h.2.1)
theorem KindsAt.kb {B b : Nat} {w w' : World} {v : Value} {ks : List Int} (h : KindsAt B w v ks) (hk : KB B b w w') : KindsAt B w' v ks := by
  obtain ⟨A, c, h1, h2, h3⟩ := h
  refine ⟨A, c, h1, h2, fun hn => ?_⟩
  obtain ⟨b', off, ha, hlt, hc⟩ := h3 hn
  exact ⟨b', off, ha, hlt, fun j hj => (hk.cell b' (off + j) (.inl hlt)).trans (hc j hj)⟩
theorem kb_b {B b : Nat} {w : World} (hB : B ≤ w.heap.size) (hb : b < w.heap.size) (W : World) (l : Nat) (o o' : Obj) (hl : w.heap.size ≤ l) (_ : W.heap[l]? = some o) (_ : o.isCells = false) (_ : o.isWalk = false) : KB B b W (W.putObj l o') :=
  ⟨fun j hj => World.putObj_heap_other (by omega), World.putObj_heap_other (by omega), by simp [World.putObj]⟩
/-- what is given for an operand: its number and its field -/
abbrev encF (ks : List Int) (i : Fin ks.length) : Array Value := #[.int .i64 (i.val : Int), fldV ks i.val]
def firstN (n k : Nat) : List (Fin n) := (List.finRange n).take k
theorem firstN_succ {n k : Nat} (hk : k < n) : firstN n (k + 1) = firstN n k ++ [⟨k, hk⟩] := by
  unfold firstN
  rw [List.take_succ_eq_append_getElem (by simpa using hk)]
  simp
theorem firstN_length {n k : Nat} (hk : k ≤ n) : (firstN n k).length = k := by simp [firstN]; omega
theorem firstN_all (n : Nat) : firstN n n = List.finRange n := List.take_of_length_le (by simp)
theorem bitsOf_div {k : Int} (h : isReg k = false) : (bitsOf k : Int) / 8 = widthOf k := by
  unfold bitsOf
  rw [if_neg (by rw [h]; simp)]
  omega

theorem regs_le (ks : List Int) : regs ks ≤ ks.length := by
  induction ks with
  | nil => exact Nat.le_refl _
  | cons k ks ih =>
    have h : regs (k :: ks) = regsOf k + regs ks := by simp [regs]
    have := regsOf_le k
    rw [h, List.length_cons]
    omega

set_option maxRecDepth 100000 in
set_option maxHeartbeats 2000000 in
theorem fields1_in (n : Nat) (hn : 2 ≤ n) (l B b : Nat) (v : Value) (ks : List Int) (hks4 : ks.length ≤ 4) (hkn : Hid (Known ks)) (J Jx : List (Fin ks.length) → World → Prop)
    (W : World) (hB : B ≤ W.heap.size) (hJ : AbidesFrom W.heap.size J) (hY : ∀ pre x W1, J pre W1 → pre.length < ks.length → YieldAt Fence.wide (n - 1) Tryz.prog l (encF ks x) W1 fun e W' =>
      (e = .returned (.bool true) ∧ J (pre ++ [x]) W' ∧ KB B b W1 W') ∨ (e = .returned (.bool false) ∧ Jx (pre ++ [x]) W'))
    (h0 : J [] W) (hc : W.cell? ⟨b, 0, none⟩ = some v) (hk : Hid (KindsAt B W v ks)) :
    CallsIn Fence.wide n Tryz.prog 70 #[.func (.yield l) #[] #[], .pointer (some ⟨b, 0, none⟩)] W fun e W' => (∃ v, e = .returned v) ∧
      ((∃ ys, ys = List.finRange ks.length ∧ J ys W') ∨ (∃ pre, pre <+: List.finRange ks.length ∧ Jx pre W')) := by
  refine callsIn_of_wp Tryz.func70 rfl trivial ?_ rfl
  simp only [Tryz.ntmps70, List.size_toArray, List.length_cons, List.length_nil, Nat.reduceAdd, Nat.reduceSub, Array.replicate_succ, Array.replicate_zero, List.push_toArray, List.append_toArray, List.nil_append, List.cons_append]
  have hw : ∀ f, Fence.wide.fn f := fun _ => trivial
  have h1n : 1 ≤ n := by omega
  obtain ⟨A, m, c, rfl, Hl, hm, hcl⟩ := hk.out.opens
  have Hcl := Lib.hid hcl
  have hbW : b < W.heap.size := block_lt_of_cell hc
  have Hc := Lib.hid hc
  clear hc hcl
  have hr4 : regs ks ≤ 4 := Nat.le_trans (regs_le ks) hks4
  have c0 : W.cell? ⟨b, 0, none⟩ = some (.slice A m c) := Hc.out
  gi_wp2_with (gi_at_call 71; refine (callsIn_wide.2 (countRegs_any B _ ks _ hk.out)).mono ?_; rintro e W1 ⟨rfl, rfl⟩)
  clear c0
  obtain ⟨r, hr⟩ : ∃ r, r = regs ks := ⟨_, rfl⟩
  rw [← hr] at hr4 ⊢
  have Hr := Lib.hid hr
  clear hr
  gi_loopw [3, 4, 15] (fun nb nx i wr => ∃ k q x : Nat, k ≤ m ∧ i = .int .i64 (k : Int) ∧ nb = .int .i64 (q : Int) ∧ nx = .int .i64 (x : Int) ∧ q ≤ k ∧ x ≤ 4 + 4 * k ∧ Hid (q = regAt ks k) ∧ Hid (x = numAt ks k) ∧ Hid (J (firstN ks.length k) wr) ∧ Hid (KB B b W wr) ∧ W.heap.size ≤ wr.heap.size) (fun _ _ i _ => m - (intOf i).toNat)
  case atStart => exact ⟨0, 0, 1 + (r + 1) / 2, Nat.zero_le _, rfl, rfl, by go_num, by omega, by omega, Lib.hid rfl, Lib.hid (by rw [Hr.out]; simp [numAt, widths]), Lib.hid h0, Lib.hid (KB.refl _ _ _), Nat.le_refl _⟩
  case round =>
    obtain ⟨k, q, x, hkm, rfl, rfl, rfl, hq, hx, Hq, Hx, HJ, HK, hz⟩ := hrel
    by_cases hlt : k < m
    · obtain ⟨b1, o1, rfl, hb1, g1⟩ := Hcl.out (by omega)
      have d1 : wr.cell? ⟨b1, o1 + k, none⟩ = some (.int .i64 (ks[k]?.getD 0)) := (HK.out.cell b1 _ (.inl hb1)).trans (g1 k hlt)
      have hkl : k < ks.length := by rw [Hl.out]; exact hlt
      have hkk := known_at hkn.out hkl
      obtain ⟨kk, hkk'⟩ : ∃ kk, kk = ks[k]?.getD 0 := ⟨_, rfl⟩
      have HF := Lib.hid (show fldV ks k = .agg #[.int .i64 (fldAt ks k : Nat), .int .i64 (fldSh ks k : Nat), .int .i64 (bitsOf kk : Nat), .int .i64 (lowOf kk), .int .i64 (highOf kk)] by rw [hkk']; rfl)
      rw [← hkk'] at d1 hkk
      have Hkk := Lib.hid hkk'
      clear hkk' g1
      have C := Lib.hid (spanOf_any kk hkk)
      have C2 := Lib.hid (isRegister_any kk)
      cases hrg : isReg kk with
      | true =>
        rw [hrg] at C2
        have Hrg := Lib.hid hrg
        clear hrg hkk
        gi_wp2_with (first | (gi_at_call 72; refine (callsIn_wide.2 (C.out _)).mono ?_; rintro e W2 ⟨rfl, hb2⟩) | (gi_at_call 73; refine (callsIn_wide.2 (C2.out _)).mono ?_; rintro e W3 ⟨rfl, rfl⟩))
        have hargs : (#[.int .i64 (k : Int), .agg #[.int .i64 (1 + (q : Int) / 2), .int .i64 ((q : Int) % 2 * 4), .int .i64 (bitsOf kk : Nat), .int .i64 (lowOf kk), .int .i64 (highOf kk)]] : Array Value) = encF ks ⟨k, hkl⟩ := by
          show _ = #[.int .i64 (k : Int), fldV ks k]
          rw [HF.out]
          have e1 : (fldAt ks k : Int) = (1 + (q : Int) / 2) := by unfold fldAt; rw [← Hkk.out, Hrg.out]; rw [if_pos rfl, ← Hq.out]; omega
          have e2 : (fldSh ks k : Int) = ((q : Int) % 2 * 4) := by unfold fldSh; rw [← Hkk.out, Hrg.out]; rw [if_pos rfl, ← Hq.out]; omega
          rw [e1, e2]
        rw [hargs]
        obtain ⟨V, hV⟩ : ∃ V, V = W2.alloc (.cells #[.int .i64 (1 + (q : Int) / 2), .int .i64 ((q : Int) % 2 * 4), .int .i64 (bitsOf kk : Nat), .int .i64 (lowOf kk), .int .i64 (highOf kk)] 103) := ⟨_, rfl⟩
        have hbV : Below wr.heap.size wr V := by rw [hV]; exact hb2.alloc hb2.size _
        rw [← hV]
        have hJV : J (firstN ks.length k) V := hJ _ _ _ none HJ.out (grown_none hbV) (fun r e => by cases e)
        obtain ⟨f1, t1, a1, b1', hy1, hR1⟩ := hY (firstN ks.length k) ⟨k, hkl⟩ V hJV (by rw [firstN_length (by omega)]; exact hkl)
        have HKV : KB B b W V := HK.out.trans (KB.below hbV (by omega) (by omega))
        have hzV : W.heap.size ≤ V.heap.size := Nat.le_trans hz hbV.size
        have HR1 := Lib.hid hR1
        have HKV' := Lib.hid HKV
        rw [hy1, Oper.uponIn_round]
        refine ⟨fun h => (by cases h), ?_⟩
        refine HR1.out.mono ?_
        clear hy1 hR1 HR1 HKV hV hbV hJV hargs C C2 hb2 d1
        rintro e W4 (⟨rfl, hJ4, hk4⟩ | ⟨rfl, hx4⟩)
        · have hz4 : W.heap.size ≤ W4.heap.size := Nat.le_trans hzV hk4.2.2
          gi_wp2
          go_roundw
          case rel =>
            refine ⟨k + 1, q + 1, x, by omega, by go_num, by go_num, rfl, by omega, by omega, Lib.hid ?_, Lib.hid ?_, Lib.hid ?_, Lib.hid (HKV'.out.trans hk4), hz4⟩
            · unfold regAt; rw [regs_succ hkl, ← Hkk.out, regsOf_reg Hrg.out, Hq.out]; rfl
            · unfold numAt; rw [widths_succ hkl, ← Hkk.out, widthOf_reg Hrg.out, Hx.out]; rfl
            · rw [firstN_succ hkl]; exact hJ4
          case measure => simp [intOf]; omega
        · gi_wp2
          refine bodyPost_ret (results_none rfl _ _ _) rfl ?_
          refine ⟨⟨_, rfl⟩, .inr ⟨firstN ks.length k ++ [⟨k, hkl⟩], ?_, hx4⟩⟩
          rw [← firstN_succ hkl]
          exact List.take_prefix _ _
      | false =>
        rw [hrg] at C2
        have hbd : (bitsOf kk : Int) / 8 = (widthOf kk : Int) := bitsOf_div hrg
        have hw4 : widthOf kk ≤ 4 := widthOf_le kk
        have hw32 : bitsOf kk ≤ 39 := by omega
        have Hrg := Lib.hid hrg
        clear hrg hkk
        gi_wp2_with (first | (gi_at_call 72; refine (callsIn_wide.2 (C.out _)).mono ?_; rintro e W2 ⟨rfl, hb2⟩) | (gi_at_call 73; refine (callsIn_wide.2 (C2.out _)).mono ?_; rintro e W3 ⟨rfl, rfl⟩))
        have hargs : (#[.int .i64 (k : Int), .agg #[.int .i64 (x : Int), .int .i64 0, .int .i64 (bitsOf kk : Nat), .int .i64 (lowOf kk), .int .i64 (highOf kk)]] : Array Value) = encF ks ⟨k, hkl⟩ := by
          show _ = #[.int .i64 (k : Int), fldV ks k]
          rw [HF.out]
          have e1 : (fldAt ks k : Int) = (x : Int) := by unfold fldAt; rw [← Hkk.out, Hrg.out]; rw [if_neg (by simp), ← Hx.out]
          have e2 : (fldSh ks k : Int) = 0 := by unfold fldSh; rw [← Hkk.out, Hrg.out]; rw [if_neg (by simp)]; rfl
          rw [e1, e2]
        rw [hargs]
        obtain ⟨V, hV⟩ : ∃ V, V = W2.alloc (.cells #[.int .i64 (x : Int), .int .i64 0, .int .i64 (bitsOf kk : Nat), .int .i64 (lowOf kk), .int .i64 (highOf kk)] 103) := ⟨_, rfl⟩
        have hbV : Below wr.heap.size wr V := by rw [hV]; exact hb2.alloc hb2.size _
        rw [← hV]
        have hJV : J (firstN ks.length k) V := hJ _ _ _ none HJ.out (grown_none hbV) (fun r e => by cases e)
        obtain ⟨f1, t1, a1, b1', hy1, hR1⟩ := hY (firstN ks.length k) ⟨k, hkl⟩ V hJV (by rw [firstN_length (by omega)]; exact hkl)
        have HKV : KB B b W V := HK.out.trans (KB.below hbV (by omega) (by omega))
        have hzV : W.heap.size ≤ V.heap.size := Nat.le_trans hz hbV.size
        have HR1 := Lib.hid hR1
        have HKV' := Lib.hid HKV
        rw [hy1, Oper.uponIn_round]
        refine ⟨fun h => (by cases h), ?_⟩
        refine HR1.out.mono ?_
        clear hy1 hR1 HR1 HKV hV hbV hJV hargs C C2 hb2 d1
        rintro e W4 (⟨rfl, hJ4, hk4⟩ | ⟨rfl, hx4⟩)
        · have hz4 : W.heap.size ≤ W4.heap.size := Nat.le_trans hzV hk4.2.2
          gi_wp2
          go_roundw
          case rel =>
            refine ⟨k + 1, q, x + widthOf kk, by omega, by go_num, rfl, by go_num, by omega, by omega, Lib.hid ?_, Lib.hid ?_, Lib.hid ?_, Lib.hid (HKV'.out.trans hk4), hz4⟩
            · unfold regAt; rw [regs_succ hkl, ← Hkk.out, regsOf_num Hrg.out, Hq.out]; rfl
            · unfold numAt; rw [widths_succ hkl, ← Hkk.out, Hx.out]; unfold numAt; omega
            · rw [firstN_succ hkl]; exact hJ4
          case measure => simp [intOf]; omega
        · gi_wp2
          refine bodyPost_ret (results_none rfl _ _ _) rfl ?_
          refine ⟨⟨_, rfl⟩, .inr ⟨firstN ks.length k ++ [⟨k, hkl⟩], ?_, hx4⟩⟩
          rw [← firstN_succ hkl]
          exact List.take_prefix _ _
    · obtain rfl : k = m := by omega
      have hfd : firstN ks.length k = List.finRange ks.length := by rw [← Hl.out]; exact firstN_all _
      have Hfd := Lib.hid hfd
      clear hfd
      gi_wp2
      go_end0
      exact ⟨⟨_, rfl⟩, .inl ⟨_, Hfd.out, HJ.out⟩⟩
theorem fields_stops (n : Nat) (hn : 2 ≤ n) (B b : Nat) (v : Value) (ks : List Int) (hks4 : ks.length ≤ 4) (hkn : Known ks) (w : World) (hB : B ≤ w.heap.size)
    (hc : w.cell? ⟨b, 0, none⟩ = some v) (hk : KindsAt B w v ks) :
    SeqStopsK Fence.wide n Tryz.prog 70 #[.pointer (some ⟨b, 0, none⟩)] (encF ks) (KB B b) (fun xs => xs = List.finRange ks.length) (fun pre => pre <+: List.finRange ks.length) ks.length w := fun l J Jx W hW hJ _ hY h0 =>
  fields1_in n hn l B b v ks hks4 (Lib.hid hkn) J Jx W (Nat.le_trans hB hW.size) hJ hY h0 ((hW.cell (p := ⟨b, 0, none⟩) (block_lt_of_cell hc)).trans hc) (Lib.hid (hk.below (hW.mono hB)))
set_option maxHeartbeats 400000 in
theorem fields_any (A : Option Addr) (n c : Nat) (w : World) : Calls Tryz.prog 49 #[.slice A n c] w fun e w' => e = .returned (.func (.func 70) #[] #[.pointer (some ⟨w.heap.size, 0, none⟩)]) ∧ w' = w.alloc (.cells #[.slice A n c] 32) := by
  go_enter Tryz.func49, Tryz.ntmps49
  go_wp2
  go_ret
  exact ⟨rfl, rfl⟩
end Go.Proofs.YtcngpciblbdgbaaGreatDoor
