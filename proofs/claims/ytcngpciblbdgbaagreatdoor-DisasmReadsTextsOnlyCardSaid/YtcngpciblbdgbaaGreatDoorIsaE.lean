/- The iterator over the checks of a form: it gives six pairs, each an error code and whether the check is broken, in the document's order, and stops where a round says no more. Conditions: the captured cells hold the form and the earlier forms. -/
import Derived.RangeFuncNested
import Derived.RangeFuncBound
import Derived.RangeFuncCalls
import Derived.RangeFuncLeaves
import Derived.RangeFuncBox
import Derived.Shelf.RegionOpen
import Derived.OwnWalkIn
import Derived.TacticsInMore
import Derived.LoopNIn
import Derived.LoopIn
import Derived.Test.YtcngpciblbdgbaaGreatDoorIsaD
namespace Go.Proofs.YtcngpciblbdgbaaGreatDoor
open Go Go.RowKit Go.Shelf
attribute [local go_sem] Oper.semAt_some

/-- the six checks of a form behind the earlier ones es -/
def checkList (f : Frm) (es : List Frm) : List (Int × Bool) :=
  [(12, !nameOk f.name), (3, decide (f.code < 0) || decide (f.code > 255)), (2, decide (f.kinds.length > 4)), (4, f.kinds.any unknownB), (5, decide ((distances f.kinds : Int) > 1)), (7, es.any (clashB f))]

theorem grown_none {A B : World} (h : Below A.heap.size A B) : A.grownBy B none := ⟨h.os, h.tape, h.output, h.size, fun i hi _ => h.block i hi⟩
theorem AbidesFrom.below {β : Type} {B : Nat} {J : β → World → Prop} (h : AbidesFrom B J) {s : β} {W W' : World} (hs : J s W) (hb : Below W.heap.size W W') : J s W' :=
  h s W W' none hs (grown_none hb) (fun r e => by cases e)

theorem FormsAt.kinds {B : Nat} {w : World} {v : Value} {fs : List Frm} (h : FormsAt B w v fs) {f : Frm} (hf : f ∈ fs) : KindsAt B w f.kv f.kinds := by
  obtain ⟨_, _, _, _, h3, _⟩ := h
  exact (h3 f hf).1

abbrev encP (x : Int × Bool) : Array Value := #[.int .i64 x.1, .bool x.2]

set_option maxRecDepth 100000 in
set_option maxHeartbeats 4000000 in
theorem checks1_in (n : Nat) (hn : 2 ≤ n) (l B b c n₀ : Nat) (nm : ByteArray) (q : Int) (A : Option Addr) (m cap : Nat) (ks : List Int) (ev : Value) (es : List Frm) (hB : B ≤ n₀) (hb : b < n₀) (hc : c < n₀) (hs : nm.size ≤ maxLen)
    (hkl : Hid (ks.length = m)) (hm : m ≤ 17592186044416) (J Jx : List (Int × Bool) → World → Prop)
    (W : World) (hJ : AbidesFrom W.heap.size J)
    (hY : ∀ pre x W1, J pre W1 → pre.length < 6 → YieldAt Fence.wide (n - 1) Tryz.prog l (encP x) W1 fun e W' =>
      (e = .returned (.bool true) ∧ J (pre ++ [x]) W' ∧ Below n₀ W1 W') ∨ (e = .returned (.bool false) ∧ Jx (pre ++ [x]) W'))
    (h0 : J [] W) (hn0 : n₀ ≤ W.heap.size)
    (Hf : Hid (FrmCells W b 0 ⟨nm, q, .slice A m cap, ks⟩)) (Hk : Hid (KindsAt B W (.slice A m cap) ks)) (He : Hid (W.cell? ⟨c, 0, none⟩ = some ev)) (Hes : Hid (FormsAt B W ev es)) :
    CallsIn Fence.wide n Tryz.prog 52 #[.func (.yield l) #[] #[], .pointer (some ⟨b, 0, none⟩), .pointer (some ⟨c, 0, none⟩)] W fun e W' => (∃ v, e = .returned v) ∧
      ((∃ ys, ys = checkList ⟨nm, q, .slice A m cap, ks⟩ es ∧ J ys W') ∨ (∃ pre, pre <+: checkList ⟨nm, q, .slice A m cap, ks⟩ es ∧ Jx pre W')) := by
  refine callsIn_of_wp Tryz.func52 rfl trivial ?_ rfl
  simp only [Tryz.ntmps52, List.size_toArray, List.length_cons, List.length_nil, Nat.reduceAdd, Nat.reduceSub, Array.replicate_succ, Array.replicate_zero, List.push_toArray, List.append_toArray, List.nil_append, List.cons_append]
  have hw : ∀ f, Fence.wide.fn f := fun _ => trivial
  have h1n : 1 ≤ n := by omega
  have c1 : W.cell? ⟨b, 0, none⟩ = some (.string nm) := Hf.out.1
  gi_wp2_with (gi_at_call 53; refine (callsIn_wide.2 (formName_any _ _ hs)).mono ?_; rintro e W1 ⟨rfl, hb1⟩)
  clear c1
  have hB1 : Below n₀ W W1 := hb1.mono hn0
  obtain ⟨f1, t1, a1, b1, hy1, hR1⟩ := hY [] (12, !nameOk nm) W1 (AbidesFrom.below hJ h0 hb1) (by simp)
  dsimp only [encP] at hy1
  gi_wp2
  rw [hy1, Oper.uponIn_round]
  clear hy1
  refine ⟨fun h => (by cases h), ?_⟩
  refine hR1.mono ?_
  clear hR1 h0 hb1
  rintro e W2 (⟨rfl, hJ2, hk2⟩ | ⟨rfl, hx1⟩)
  · replace hk2 := hB1.trans hk2
    have c2 : W2.cell? ⟨b, 1, none⟩ = some (.int .i64 q) := (hk2.cell (p := ⟨b, 1, none⟩) hb).trans Hf.out.2.1
    by_cases hq : q < 0
    all_goals
      obtain ⟨v2, hv2, hv2'⟩ : ∃ v2, (decide (q < 0) || decide (q > 255)) = v2 ∧ v2 = (if q < 0 then true else (decide (q < 0) || decide (255 < q))) := ⟨_, rfl, by by_cases h : q < 0 <;> simp [h]⟩
      first | rw [if_pos hq] at hv2' | rw [if_neg hq] at hv2'
      obtain ⟨f2, t2, a2, b2, hy2, hR2⟩ := hY _ (3, decide (q < 0) || decide (q > 255)) W2 hJ2 (by simp)
      dsimp only [encP] at hy2
      rw [hv2, hv2'] at hy2
      have Hr2 := Lib.hid hR2
      have Hy2 := Lib.hid hy2
      clear hR2 hv2 hv2' hJ2 hy2
      gi_wp2
      rw [Hy2.out, Oper.uponIn_round]
      refine ⟨fun h => (by cases h), ?_⟩
      refine Hr2.out.mono ?_
      clear Hr2 Hy2
      rintro e W3 (⟨rfl, hJ3, hk3⟩ | ⟨rfl, hx2⟩)
      · replace hk3 := hk2.trans hk3
        clear hk2 c2
        have c3 : W3.cell? ⟨b, 2, none⟩ = some (.slice A m cap) := (hk3.cell (p := ⟨b, 2, none⟩) hb).trans Hf.out.2.2
        obtain ⟨f3, t3, a3, b3, hy3, hR3⟩ := hY _ (2, decide (ks.length > 4)) W3 hJ3 (by simp)
        dsimp only [encP] at hy3
        have hv3 : decide (ks.length > 4) = decide (4 < (m : Int)) := decide_eq_decide.2 (by rw [hkl.out]; omega)
        rw [hv3] at hy3
        have Hr3 := Lib.hid hR3
        have Hy3 := Lib.hid hy3
        clear hR3 hv3 hJ3 hy3
        gi_wp2
        rw [Hy3.out, Oper.uponIn_round]
        refine ⟨fun h => (by cases h), ?_⟩
        refine Hr3.out.mono ?_
        clear Hr3 Hy3
        rintro e W4 (⟨rfl, hJ4, hk4⟩ | ⟨rfl, hx3⟩)
        · replace hk4 := hk3.trans hk4
          clear hk3 c3
          have c4 : W4.cell? ⟨b, 2, none⟩ = some (.slice A m cap) := (hk4.cell (p := ⟨b, 2, none⟩) hb).trans Hf.out.2.2
          have hk4' := Lib.hid (Hk.out.below (hk4.mono hB))
          gi_wp2_with (gi_at_call 54; refine (callsIn_wide.2 (contains_kinds B _ ks _ hk4'.out)).mono ?_; rintro e W5 ⟨rfl, rfl⟩)
          clear c4
          obtain ⟨f4, t4, a4, b4, hy4, hR4⟩ := hY _ (4, ks.any unknownB) W4 hJ4 (by simp)
          dsimp only [encP] at hy4
          have Hr4 := Lib.hid hR4
          have Hy4 := Lib.hid hy4
          clear hR4 hJ4 hy4
          rw [Hy4.out, Oper.uponIn_round]
          refine ⟨fun h => (by cases h), ?_⟩
          refine Hr4.out.mono ?_
          clear Hr4 Hy4 hk4'
          rintro e W5 (⟨rfl, hJ5, hk5⟩ | ⟨rfl, hx4⟩)
          · replace hk5 := hk4.trans hk5
            clear hk4
            have c5 : W5.cell? ⟨b, 2, none⟩ = some (.slice A m cap) := (hk5.cell (p := ⟨b, 2, none⟩) hb).trans Hf.out.2.2
            have hk5' := Lib.hid (Hk.out.below (hk5.mono hB))
            have hd := distances_le ks
            gi_wp2_with (gi_at_call 56; refine (callsIn_wide.2 (count_any B _ ks _ hk5'.out)).mono ?_; rintro e W6 ⟨rfl, rfl⟩)
            clear c5
            obtain ⟨f5, t5, a5, b5, hy5, hR5⟩ := hY _ (5, decide ((distances ks : Int) > 1)) W5 hJ5 (by simp)
            dsimp only [encP] at hy5
            have Hr5 := Lib.hid hR5
            have Hy5 : Hid (_ = _) := Lib.hid hy5
            clear hR5 hJ5 hy5
            rw [Hy5.out, Oper.uponIn_round]
            refine ⟨fun h => (by cases h), ?_⟩
            refine Hr5.out.mono ?_
            clear Hr5 Hy5 hk5'
            rintro e W6 (⟨rfl, hJ6, hk6⟩ | ⟨rfl, hx5⟩)
            · replace hk6 := hk5.trans hk6
              clear hk5
              have c6 : W6.cell? ⟨c, 0, none⟩ = some ev := (hk6.cell (p := ⟨c, 0, none⟩) hc).trans He.out
              have hes6 := Hes.out.below (hk6.mono hB)
              have hf6 := Hf.out.below hk6 hb
              have hkb6 := Hk.out.below (hk6.mono hB)
              have hB6 : B ≤ W6.heap.size := Nat.le_trans hB (Nat.le_trans hn0 hk6.size)
              have hans : Answers 58 #[.pointer (some ⟨b, 0, none⟩)] (clashB ⟨nm, q, .slice A m cap, ks⟩) es W6 := fun W' g hg hW' =>
                clashes_any B b ⟨nm, q, .slice A m cap, ks⟩ g W' (hkb6.below (hW'.mono hB6)) ((Hes.out.below (hk6.mono hB)).below (hW'.mono hB6) |>.kinds hg) (Nat.le_trans hB6 hW'.size) (hf6.below hW' (Nat.lt_of_lt_of_le hb (Nat.le_trans hn0 hk6.size)))
              have C := Lib.hid (contains_forms B 58 #[.pointer (some ⟨b, 0, none⟩)] _ ev es W6 hes6 hB6 hans (enters_of Tryz.func58 (by kernel_rfl) rfl))
              have HB6 := Lib.hid hB6
              obtain ⟨eA, em, ec, rfl, _⟩ := hes6.opens
              clear hes6 hf6 hkb6 hans hB6
              gi_wp2_with (gi_at_call 57; refine (callsIn_wide.2 C.out).mono ?_; rintro e W7 ⟨rfl, hb7⟩)
              clear c6 C
              have hB7 : Below n₀ W W7 := hk6.trans (hb7.mono (Nat.le_trans hn0 hk6.size))
              obtain ⟨f6, t6, a6, b6, hy6, hR6⟩ := hY _ (7, es.any (clashB ⟨nm, q, .slice A m cap, ks⟩)) W7 (AbidesFrom.below hJ hJ6 hb7) (by simp)
              dsimp only [encP] at hy6
              have Hr6 := Lib.hid hR6
              have Hy6 := Lib.hid hy6
              clear hR6 hJ6 hy6 hb7 HB6
              rw [Hy6.out, Oper.uponIn_round]
              refine ⟨fun h => (by cases h), ?_⟩
              refine Hr6.out.mono ?_
              clear Hr6 Hy6
              rintro e W8 (⟨rfl, hJ8, hk8⟩ | ⟨rfl, hx8⟩)
              · gi_wp2
                go_end0
                exact ⟨⟨_, rfl⟩, .inl ⟨_, rfl, hJ8⟩⟩
              · gi_wp2
                go_end0
                exact ⟨⟨_, rfl⟩, .inr ⟨_, ⟨_, rfl⟩, hx8⟩⟩
            · gi_wp2
              go_end0
              exact ⟨⟨_, rfl⟩, .inr ⟨_, ⟨_, rfl⟩, hx5⟩⟩
          · gi_wp2
            go_end0
            exact ⟨⟨_, rfl⟩, .inr ⟨_, ⟨_, rfl⟩, hx4⟩⟩
        · gi_wp2
          go_end0
          exact ⟨⟨_, rfl⟩, .inr ⟨_, ⟨_, rfl⟩, hx3⟩⟩
      · gi_wp2
        go_end0
        exact ⟨⟨_, rfl⟩, .inr ⟨_, ⟨_, rfl⟩, hx2⟩⟩
  · gi_wp2
    go_end0
    exact ⟨⟨_, rfl⟩, .inr ⟨_, ⟨_, rfl⟩, hx1⟩⟩
end Go.Proofs.YtcngpciblbdgbaaGreatDoor
