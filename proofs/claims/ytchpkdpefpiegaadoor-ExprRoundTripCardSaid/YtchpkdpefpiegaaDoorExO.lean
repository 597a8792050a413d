/- Contracts of checkSymbol and validateSymbols. Conditions: the reading. -/
import Derived.Test.YtchpkdpefpiegaaDoorExN
import Derived.Test.YtchpkdpefpiegaaDoorExK
namespace Go.Proofs.YtchpkdpefpiegaaDoor.Tok
open Go Go.RowKit

def wrongB (s : List UInt8) : Bool := !s.isEmpty && !isName s
set_option maxHeartbeats 1000000 in
theorem wrong_any (s : List UInt8) (w : World) (hs : s.length ≤ 140737488351232) : Calls Tryd.prog 78 #[strV s] w fun e w' => e = .returned (.bool (wrongB s)) ∧ w = w' := by
  have C := Lib.hid (fun W => isName_any s W (by omega))
  have E0 := Lib.hid (show wrongB s = (!s.isEmpty && !isName s) from rfl)
  clear hs
  cases he : s.isEmpty with
  | true =>
    rw [he] at E0
    go_enter Tryd.func78, Tryd.ntmps78
    go_wp2_with fail
    go_ret
    exact ⟨ret_bool (by rw [E0.out]; rfl), rfl⟩
  | false =>
    rw [he] at E0
    generalize isName s = b at C E0
    go_enter Tryd.func78, Tryd.ntmps78
    go_wp2_with fail
    refine (C.out _).mono ?_
    rintro e w' ⟨rfl, rfl⟩
    go_wp2_with fail
    go_ret
    exact ⟨ret_bool (by rw [E0.out]; simp), rfl⟩
/-- the error code of a symbol -/
def chkS (m : Nm) (_ : Nat) : Int :=
  if (!isName m.name || wrongB m.lin.sym || wrongB m.lin.minus) = true then 12 else if (isOutL m.lin.num || (m.lin.sym == m.lin.minus && !m.lin.sym.isEmpty)) = true then 3 else 0
def csW (w : World) (m : Nm) : World := (w.alloc (.cells #[strV m.name, strV m.lin.sym, strV m.lin.minus, .int .i64 m.lin.num] 54)).alloc (.cells #[strV m.lin.sym, strV m.lin.minus, .int .i64 m.lin.num] 40)
theorem csW_below (w : World) (m : Nm) : Below w.heap.size w (csW w m) := ((Below.refl _ _).alloc (Nat.le_refl _) _).alloc (by simp) _
set_option maxRecDepth 100000 in
set_option maxHeartbeats 4000000 in
theorem checkSymbol_any (m : Nm) (i : Nat) (w : World) (hs : m.Short) : Calls Tryd.prog 54 #[m.v] w fun e w' => e = .returned (.int .i64 (chkS m i)) ∧ Below w.heap.size w w' := by
  obtain ⟨h1, h2, h3⟩ := hs
  have E0 := Lib.hid (show chkS m i = if (!isName m.name || wrongB m.lin.sym || wrongB m.lin.minus) = true then 12 else if (isOutL m.lin.num || (m.lin.sym == m.lin.minus && !m.lin.sym.isEmpty)) = true then 3 else 0 from rfl)
  have C1 := Lib.hid (fun W => isName_any m.name W (by omega))
  have C2 := Lib.hid (fun W => wrong_any m.lin.sym W h2)
  have C3 := Lib.hid (fun W => wrong_any m.lin.minus W h3)
  have C4 := Lib.hid (fun W => out_any m.lin.num W)
  have HB0 := Lib.hid (csW_below w m)
  obtain ⟨nm, sy, mi, n⟩ := m
  unfold csW at HB0
  unfold Nm.v
  dsimp only at E0 C1 C2 C3 C4 HB0 ⊢
  clear h1 h2 h3
  generalize isName nm = b1 at C1 E0
  generalize wrongB sy = b2 at C2 E0
  generalize wrongB mi = b3 at C3 E0
  generalize isOutL n = b4 at C4 E0
  cases b1 with
  | false =>
    have E := Lib.hid (E0.out.trans (if_pos (by simp)))
    clear E0 C2 C3 C4
    go_enter Tryd.func54, Tryd.ntmps54
    go_wp2_with fail
    refine (C1.out _).mono ?_
    rintro e w' ⟨rfl, rfl⟩
    go_wp2_with fail
    go_ret
    exact ⟨by rw [E.out]; rfl, HB0.out⟩
  | true =>
    cases b2 with
    | true =>
      have E := Lib.hid (E0.out.trans (if_pos (by simp)))
      clear E0 C3 C4
      go_enter Tryd.func54, Tryd.ntmps54
      go_wp2_with fail
      refine (C1.out _).mono ?_
      rintro e w' ⟨rfl, rfl⟩
      go_wp2_with fail
      refine (C2.out _).mono ?_
      rintro e w' ⟨rfl, rfl⟩
      go_wp2_with fail
      go_ret
      exact ⟨by rw [E.out]; rfl, HB0.out⟩
    | false =>
      cases b3 with
      | true =>
        have E := Lib.hid (E0.out.trans (if_pos (by simp)))
        clear E0 C4
        go_enter Tryd.func54, Tryd.ntmps54
        go_wp2_with fail
        refine (C1.out _).mono ?_
        rintro e w' ⟨rfl, rfl⟩
        go_wp2_with fail
        refine (C2.out _).mono ?_
        rintro e w' ⟨rfl, rfl⟩
        go_wp2_with fail
        refine (C3.out _).mono ?_
        rintro e w' ⟨rfl, rfl⟩
        go_wp2_with fail
        go_ret
        exact ⟨by rw [E.out]; rfl, HB0.out⟩
      | false =>
        have E1 := Lib.hid (E0.out.trans (if_neg (by simp)))
        clear E0
        cases b4 with
        | true =>
          have E := Lib.hid (E1.out.trans (if_pos (by simp)))
          clear E1
          go_enter Tryd.func54, Tryd.ntmps54
          go_wp2_with fail
          refine (C1.out _).mono ?_
          rintro e w' ⟨rfl, rfl⟩
          go_wp2_with fail
          refine (C2.out _).mono ?_
          rintro e w' ⟨rfl, rfl⟩
          go_wp2_with fail
          refine (C3.out _).mono ?_
          rintro e w' ⟨rfl, rfl⟩
          go_wp2_with fail
          refine (C4.out _).mono ?_
          rintro e w' ⟨rfl, rfl⟩
          go_wp2_with fail
          go_ret
          exact ⟨by rw [E.out]; rfl, HB0.out⟩
        | false =>
          cases he : (sy == mi) <;> cases hz : sy.isEmpty
          all_goals
            rw [he, hz] at E1
            have E := Lib.hid (E1.out)
            clear E1
            go_enter Tryd.func54, Tryd.ntmps54
            go_wp2_with fail
            refine (C1.out _).mono ?_
            rintro e w' ⟨rfl, rfl⟩
            go_wp2_with fail
            refine (C2.out _).mono ?_
            rintro e w' ⟨rfl, rfl⟩
            go_wp2_with fail
            refine (C3.out _).mono ?_
            rintro e w' ⟨rfl, rfl⟩
            go_wp2_with fail
            refine (C4.out _).mono ?_
            rintro e w' ⟨rfl, rfl⟩
            go_wp2_with fail
            go_ret
            exact ⟨by rw [E.out]; rfl, HB0.out⟩
/-- the fault of symbols -/
def validSymL (l : List Nm) : Int × Int := if 8000 < l.length then (2, -2) else if (scanL chkS 0 l).1 = 0 then (0, 0) else ((scanL chkS 0 l).1, -10 - ((scanL chkS 0 l).2 : Int))
set_option maxRecDepth 100000 in
set_option maxHeartbeats 4000000 in
theorem validSym_any (B : Nat) (v : Value) (l : List Nm) (w : World) (h : NmsAt B w v l) (hB : B ≤ w.heap.size) :
    Calls Tryd.prog 35 #[v] w fun e w' => e = .returned (faultV (validSymL l)) ∧ Below w.heap.size w w' := by
  obtain ⟨A, n, c, rfl, Hn, ⟨hl, -⟩, HT, HC⟩ := h.opens
  have E0 := Lib.hid (show validSymL l = if 8000 < l.length then (2, -2) else if (scanL chkS 0 l).1 = 0 then (0, 0) else ((scanL chkS 0 l).1, -10 - ((scanL chkS 0 l).2 : Int)) from rfl)
  rw [Hn.out] at E0
  have HF0 := Lib.hid (fltW_below w)
  have HFB := Lib.hid (fun W (hb : Below (fltW w).heap.size (fltW w) W) => fault_cells (w := w) (W := W) hb)
  clear h
  by_cases h8 : 8000 < n
  · have E := Lib.hid (E0.out.trans (if_pos h8))
    obtain ⟨z0, z1⟩ := flt_lit w 2 (-2)
    go_enter Tryd.func35, Tryd.ntmps35
    go_wp2_with fail
    refine bodyPost_ret (v := faultV (2, -2)) (by unfold faultV; simp [results, Tryd.results35, go_sem, z0, z1]) rfl ⟨by rw [E.out], flt_low _ _ _⟩
  · have E1 := Lib.hid (E0.out.trans (if_neg h8))
    have h8' : n ≤ 8000 := by omega
    clear h8 E0
    go_enter Tryd.func35, Tryd.ntmps35
    go_wp2_with fail
    have HBS := Lib.hid (show Below (fltW w).heap.size (fltW w) (fltW w) from Below.refl _ _)
    unfold fltW at HBS
    go_loopw [12] (fun i wr => ∃ k : Nat, k ≤ n ∧ i = .int .i64 k ∧ Hid (fineYet chkS l k) ∧ Hid (Below (fltW w).heap.size (fltW w) wr)) (fun i _ => n - (intOf i).toNat)
    case atStart => exact ⟨0, Nat.zero_le _, rfl, Lib.hid (fineYet_zero _ _), HBS⟩
    case round =>
      obtain ⟨k, hk, rfl, HN, HB⟩ := hrel
      have hbw := HF0.out.trans (HB.out.mono HF0.out.size)
      by_cases hlt : k < n
      · obtain ⟨b1, o1, rfl, hb1, g1⟩ := HC.out (by omega)
        obtain ⟨x, hx⟩ := getElem?_of_lt Hn.out hlt
        have HX := Lib.hid hx
        obtain ⟨p0, p1, p2, p3⟩ := (g1 k x hx).below (hbw.mono hB) hb1
        have hb2 : Below wr.heap.size wr (wr.alloc (.cells #[strV x.name, strV x.lin.sym, strV x.lin.minus, .int .i64 x.lin.num] 54)) := (Below.refl _ _).alloc (Nat.le_refl _) _
        have C := Lib.hid (checkSymbol_any x k (wr.alloc (.cells #[strV x.name, strV x.lin.sym, strV x.lin.minus, .int .i64 x.lin.num] 54)) (HT.out x (List.mem_of_getElem? hx)))
        have HB1 := Lib.hid (HB.out.trans (hb2.mono HB.out.size))
        unfold Nm.v at C
        clear HC g1 hx hbw hb2
        by_cases hm : chkS x k = 0
        · have HM := Lib.hid (fineYet_succ HN.out HX.out hm)
          rw [hm] at C
          clear hm
          go_wp2_with fail
          refine C.out.mono ?_
          rintro e W ⟨rfl, hb⟩
          have HB2 := Lib.hid (HB1.out.trans (hb.mono HB1.out.size))
          clear hb C
          go_wp2_with fail
          go_roundw
          case rel => exact ⟨k + 1, by omega, by go_num, HM, HB2⟩
          case measure => simp [intOf]; omega
        · have HM := Lib.hid (scan_hit HN.out HX.out hm)
          generalize chkS x k = cd at C HM hm
          have hm1 : (cd == 0) = false := beq_eq_false_iff_ne.2 hm
          have hm2 : (cd != 0) = true := by simp [bne, hm1]
          have E2 := Lib.hid (E1.out.trans (if_neg (by rw [HM.out]; exact hm)))
          clear hm
          go_wp2_with fail
          refine C.out.mono ?_
          rintro e W ⟨rfl, hb⟩
          have HB2 := Lib.hid (HB1.out.trans (hb.mono HB1.out.size))
          obtain ⟨c0, c1, f0, f1, hsz⟩ := HFB.out W HB2.out
          clear hb C
          go_wp2_with fail
          refine bodyPost_ret (v := faultV (cd, -10 - (k : Int))) (by unfold faultV; simp [results, Tryd.results35, go_sem, c0, c1]) rfl ⟨by rw [E2.out, HM.out], flt_sets HB2.out _ _⟩
      · obtain rfl : k = n := by omega
        obtain ⟨c0, c1, f0, f1, hsz⟩ := HFB.out wr HB.out
        have HM := Lib.hid (scan_none (by rw [Hn.out]; exact Nat.le_refl _) HN.out)
        have E2 := Lib.hid (E1.out.trans (if_pos (by rw [HM.out])))
        clear hbw
        go_wp2_with fail
        refine bodyPost_ret (v := faultV (0, 0)) (by unfold faultV; simp [results, Tryd.results35, go_sem, c0, c1]) rfl ⟨by rw [E2.out], flt_sets HB.out _ _⟩
end Go.Proofs.YtchpkdpefpiegaaDoor.Tok
