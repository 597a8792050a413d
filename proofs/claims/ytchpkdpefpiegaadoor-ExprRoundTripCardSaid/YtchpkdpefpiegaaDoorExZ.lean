/- The reference's fault of an expression is validL. -/
import Derived.Test.YtchpkdpefpiegaaDoorExN
import Derived.Test.YtchpkdpefpiegaaDoorTokD
namespace Go.Proofs.YtchpkdpefpiegaaDoor.Tok
open Go Go.RowKit

theorem knownB_in (k : Int) : knownB k = inB k 1 14 := by
  unfold knownB inB
  rw [Bool.eq_iff_iff]
  simp
  omega
theorem chk_kind {x : Nd} {k : Nat} (h : inB x.kind 1 14 = false) : chkL x k = 4 := by
  unfold chkL
  rw [knownB_in, h, if_pos rfl]
theorem chk_form {x : Nd} {k : Nat} (h : inB x.kind 1 14 = true) : chkL x k = if x.kind = 1 ∧ (x.val < 0 ∨ 4294967295 < x.val) then 3 else if x.kind = 2 ∧ isName x.name = false then 12 else if (chN x).any (lateB k) = true then 5 else 0 := by
  unfold chkL
  rw [knownB_in, h, if_neg (by decide)]
theorem late_in (k : Nat) (x : Int) : lateB k x = !(inB x 0 ((k : Int) - 1)) := by
  unfold lateB inB
  rw [Bool.eq_iff_iff]
  simp
  omega
theorem chk_one {x : Nd} {k : Nat} (h : x.kind = 1) : chkL x k = if inB x.val 0 4294967295 = true then 0 else 3 := by
  rw [chk_form (by rw [h]; decide)]
  have e : chN x = [] := by unfold chN; rw [h]; rfl
  rw [e, h]
  unfold inB
  by_cases h1 : 0 ≤ x.val ∧ x.val ≤ 4294967295
  · rw [if_neg (by omega), if_neg (by simp), if_neg (by simp), if_pos (by simp [h1.1, h1.2])]
  · rw [if_pos (by constructor; rfl; omega), if_neg (by simp; omega)]
theorem chk_two {x : Nd} {k : Nat} (h : x.kind = 2) : chkL x k = if isName x.name = true then 0 else 12 := by
  rw [chk_form (by rw [h]; decide)]
  have e : chN x = [] := by unfold chN; rw [h]; rfl
  rw [e, h, if_neg (by simp)]
  cases isName x.name <;> simp
theorem chN_three {x : Nd} (h : 3 ≤ x.kind) (h5 : ¬ 5 ≤ x.kind) : chN x = [x.left] := by
  have : x.kind = 3 ∨ x.kind = 4 := by omega
  unfold chN
  rcases this with h | h <;> rw [h] <;> rfl
theorem chN_five {x : Nd} (h : 5 ≤ x.kind) (h14 : x.kind ≤ 14) : chN x = [x.left, x.right] := by
  have : x.kind = 5 ∨ x.kind = 6 ∨ x.kind = 7 ∨ x.kind = 8 ∨ x.kind = 9 ∨ x.kind = 10 ∨ x.kind = 11 ∨ x.kind = 12 ∨ x.kind = 13 ∨ x.kind = 14 := by omega
  unfold chN
  rcases this with h | h | h | h | h | h | h | h | h | h <;> rw [h] <;> rfl
theorem chk_three {x : Nd} {k : Nat} (h : 3 ≤ x.kind) (h5 : ¬ 5 ≤ x.kind) : chkL x k = if inB x.left 0 ((k : Int) - 1) = true then 0 else 5 := by
  rw [chk_form (by unfold inB; simp; omega), if_neg (by omega), if_neg (by omega), chN_three h h5]
  simp only [List.any_cons, List.any_nil, Bool.or_false, late_in]
  cases inB x.left 0 ((k : Int) - 1) <;> simp
theorem chk_five {x : Nd} {k : Nat} (h : 5 ≤ x.kind) (h14 : x.kind ≤ 14) : chkL x k = if inB x.left 0 ((k : Int) - 1) = true ∧ inB x.right 0 ((k : Int) - 1) = true then 0 else 5 := by
  rw [chk_form (by unfold inB; simp; omega), if_neg (by omega), if_neg (by omega), chN_five h h14]
  simp only [List.any_cons, List.any_nil, Bool.or_false, late_in]
  cases inB x.left 0 ((k : Int) - 1) <;> cases inB x.right 0 ((k : Int) - 1) <;> simp
theorem in_is {n a b : Int} {r : Bool} (h : inB n a b = r) (w : World) : Calls Tryd.prog 14 #[.int .i64 n, .int .i64 a, .int .i64 b] w fun e w' => e = .returned (.bool r) ∧ w = w' := by
  subst h
  exact in_any n a b w
theorem name_is {s : List UInt8} {r : Bool} (hs : s.length ≤ 140737488351232) (h : isName s = r) (w : World) : Calls Tryd.prog 39 #[strV s] w fun e w' => e = .returned (.bool r) ∧ w = w' := by
  subst h
  have := rname_any ⟨s.toArray⟩ w (by show s.toArray.size ≤ _; rw [List.size_toArray]; omega)
  simpa using this
set_option maxRecDepth 100000 in
set_option maxHeartbeats 8000000 in
theorem exprFault_any (B : Nat) (v : Value) (ns : List Nd) (w : World) (h : NdsAt B w v ns) (hB : B ≤ w.heap.size) :
    Calls Tryd.prog 17 #[v] w fun e w' => e = .returned (faultV (validL ns)) ∧ Below w.heap.size w w' := by
  obtain ⟨A, n, c, rfl, Hn, ⟨hl, -⟩, HT, HC⟩ := h.opens
  have E0 := Lib.hid (show validL ns = if ns.length = 0 ∨ 60 < ns.length then (2, -1) else ((scanL chkL 0 ns).1, ((scanL chkL 0 ns).2 : Int)) from rfl)
  rw [Hn.out] at E0
  have HF0 := Lib.hid (fltW_below w)
  have HFB := Lib.hid (fun W (hb : Below (fltW w).heap.size (fltW w) W) => fault_cells (w := w) (W := W) hb)
  clear h
  cases h0 : inB n 1 60 with
  | false =>
    have E := Lib.hid (E0.out.trans (if_pos (by unfold inB at h0; simp at h0; omega)))
    have CI := Lib.hid (in_is h0)
    clear h0 E0
    go_enter Tryd.func17, Tryd.ntmps17
    go_wp2_with fail
    refine (CI.out _).mono ?_
    rintro e W ⟨rfl, rfl⟩
    go_wp2_with fail
    refine (at_any 2 (-1) _).mono ?_
    rintro e W ⟨rfl, hb⟩
    have HB2 := Lib.hid hb
    obtain ⟨c0, c1, f0, f1, hsz⟩ := HFB.out W (show Below (fltW w).heap.size (fltW w) W from hb)
    clear hb CI
    go_wp2_with fail
    refine bodyPost_ret (v := faultV (2, -1)) (by unfold faultV; simp [results, Tryd.results17, go_sem, c0, c1]) rfl ⟨by rw [E.out], flt_sets HB2.out _ _⟩
  | true =>
    have hn : 1 ≤ n ∧ n ≤ 60 := by unfold inB at h0; simp at h0; omega
    obtain ⟨hn1, hn60⟩ := hn
    have E1 := Lib.hid (E0.out.trans (if_neg (by omega)))
    have CI := Lib.hid (in_is h0)
    clear h0 E0
    go_enter Tryd.func17, Tryd.ntmps17
    go_wp2_with fail
    refine (CI.out _).mono ?_
    rintro e W ⟨rfl, rfl⟩
    go_wp2_with fail
    have HBS := Lib.hid (show Below (fltW w).heap.size (fltW w) (fltW w) from Below.refl _ _)
    unfold fltW at HBS
    go_loopw [3] (fun i wr => ∃ k : Nat, k ≤ n ∧ i = .int .i64 k ∧ Hid (fineYet chkL ns k) ∧ Hid (Below (fltW w).heap.size (fltW w) wr)) (fun i _ => n - (intOf i).toNat)
    case atStart => exact ⟨0, Nat.zero_le _, rfl, Lib.hid (fineYet_zero _ _), HBS⟩
    case round =>
      obtain ⟨k, hk, rfl, HN, HB⟩ := hrel
      have hbw := HF0.out.trans (HB.out.mono HF0.out.size)
      by_cases hlt : k < n
      · obtain ⟨b1, o1, rfl, hb1, g1⟩ := HC.out (by omega)
        obtain ⟨x, hx⟩ := getElem?_of_lt Hn.out hlt
        have HX := Lib.hid hx
        obtain ⟨p0, p1, p2, p3, p4⟩ := (g1 k x hx).below (hbw.mono hB) hb1
        have HB1 := Lib.hid (HB.out.trans ((ndW_below wr x).mono HB.out.size))
        have hsh := HT.out x (List.mem_of_getElem? hx)
        unfold ndW at HB1
        clear HC g1 hx hbw HT
        cases hin : inB x.kind 1 14 with
        | false =>
          have hc := chk_kind (k := k) hin
          have I1 := Lib.hid (in_is hin)
          obtain ⟨xk, xv, xn, xl, xr⟩ := x
          clear hin hsh
          have HM := Lib.hid ((scan_hit HN.out HX.out (by rw [hc]; decide)).trans (by rw [hc]) : scanL chkL 0 ns = (4, k))
          clear hc
          go_wp2_with fail
          refine (I1.out _).mono ?_
          rintro e W ⟨rfl, rfl⟩
          go_wp2_with fail
          refine (at_any 4 k _).mono ?_
          rintro e W ⟨rfl, hb⟩
          have HB2 := Lib.hid (HB1.out.trans (hb.mono HB1.out.size))
          obtain ⟨c0, c1, f0, f1, hsz⟩ := HFB.out W HB2.out
          clear hb
          go_wp2_with fail
          refine bodyPost_ret (v := faultV (4, (k : Int))) (by unfold faultV; simp [results, Tryd.results17, go_sem, c0, c1]) rfl ⟨by rw [E1.out, HM.out], flt_sets HB2.out _ _⟩
        | true =>
          have I1 := Lib.hid (in_is hin)
          have hr : 1 ≤ x.kind ∧ x.kind ≤ 14 := by unfold inB at hin; simp at hin; omega
          obtain ⟨hr1, hr2⟩ := hr
          clear hin
          by_cases k1 : x.kind = 1
          · have hc0 := chk_one (k := k) k1
            obtain ⟨xk, xv, xn, xl, xr⟩ := x
            dsimp only at k1 hc0 I1 hr1 hr2 p0 p1 p2 p3 p4 hsh
            subst k1
            cases hv : inB xv 0 4294967295 with
            | false =>
              have hc := hc0.trans (if_neg (by rw [hv]; decide))
              have I2 := Lib.hid (in_is hv)
              clear hv hc0 hsh
              have HM := Lib.hid ((scan_hit HN.out HX.out (by rw [hc]; decide)).trans (by rw [hc]) : scanL chkL 0 ns = (3, k))
              clear hc
              go_wp2_with fail
              refine (I1.out _).mono ?_
              rintro e W ⟨rfl, rfl⟩
              go_wp2_with fail
              refine (I2.out _).mono ?_
              rintro e W ⟨rfl, rfl⟩
              go_wp2_with fail
              refine (at_any 3 k _).mono ?_
              rintro e W ⟨rfl, hb⟩
              have HB2 := Lib.hid (HB1.out.trans (hb.mono HB1.out.size))
              obtain ⟨c0, c1, f0, f1, hsz⟩ := HFB.out W HB2.out
              clear hb
              go_wp2_with fail
              refine bodyPost_ret (v := faultV (3, (k : Int))) (by unfold faultV; simp [results, Tryd.results17, go_sem, c0, c1]) rfl ⟨by rw [E1.out, HM.out], flt_sets HB2.out _ _⟩
            | true =>
              have hc := hc0.trans (if_pos hv)
              have I2 := Lib.hid (in_is hv)
              clear hv hc0 hsh
              have HM := Lib.hid (fineYet_succ HN.out HX.out hc)
              clear hc
              go_wp2_with fail
              refine (I1.out _).mono ?_
              rintro e W ⟨rfl, rfl⟩
              go_wp2_with fail
              refine (I2.out _).mono ?_
              rintro e W ⟨rfl, rfl⟩
              go_wp2_with fail
              go_roundw
              case rel => exact ⟨k + 1, by omega, by go_num, HM, HB1⟩
              case measure => simp [intOf]; omega
          · by_cases k2 : x.kind = 2
            · have hc0 := chk_two (k := k) k2
              obtain ⟨xk, xv, xn, xl, xr⟩ := x
              dsimp only at k2 hc0 I1 hr1 hr2 p0 p1 p2 p3 p4 hsh
              subst k2
              clear k1
              cases hv : isName xn with
              | false =>
                have hc := hc0.trans (if_neg (by rw [hv]; decide))
                have I2 := Lib.hid (name_is hsh hv)
                clear hv hc0 hsh
                have HM := Lib.hid ((scan_hit HN.out HX.out (by rw [hc]; decide)).trans (by rw [hc]) : scanL chkL 0 ns = (12, k))
                clear hc
                go_wp2_with fail
                refine (I1.out _).mono ?_
                rintro e W ⟨rfl, rfl⟩
                go_wp2_with fail
                refine (I2.out _).mono ?_
                rintro e W ⟨rfl, rfl⟩
                go_wp2_with fail
                refine (at_any 12 k _).mono ?_
                rintro e W ⟨rfl, hb⟩
                have HB2 := Lib.hid (HB1.out.trans (hb.mono HB1.out.size))
                obtain ⟨c0, c1, f0, f1, hsz⟩ := HFB.out W HB2.out
                clear hb
                go_wp2_with fail
                refine bodyPost_ret (v := faultV (12, (k : Int))) (by unfold faultV; simp [results, Tryd.results17, go_sem, c0, c1]) rfl ⟨by rw [E1.out, HM.out], flt_sets HB2.out _ _⟩
              | true =>
                have hc := hc0.trans (if_pos hv)
                have I2 := Lib.hid (name_is hsh hv)
                clear hv hc0 hsh
                have HM := Lib.hid (fineYet_succ HN.out HX.out hc)
                clear hc
                go_wp2_with fail
                refine (I1.out _).mono ?_
                rintro e W ⟨rfl, rfl⟩
                go_wp2_with fail
                refine (I2.out _).mono ?_
                rintro e W ⟨rfl, rfl⟩
                go_wp2_with fail
                go_roundw
                case rel => exact ⟨k + 1, by omega, by go_num, HM, HB1⟩
                case measure => simp [intOf]; omega
            · have n1 : (x.kind == 1) = false := beq_eq_false_iff_ne.2 k1
              have n2 : (x.kind == 2) = false := beq_eq_false_iff_ne.2 k2
              have k3 : 3 ≤ x.kind := by omega
              clear k1 k2 hsh
              by_cases k5 : 5 ≤ x.kind
              · have hc0 := chk_five (k := k) k5 hr2
                obtain ⟨xk, xv, xn, xl, xr⟩ := x
                dsimp only at k3 k5 hc0 I1 hr1 hr2 p0 p1 p2 p3 p4 n1 n2
                cases hv : inB xl 0 ((k : Int) - 1) with
                | false =>
                  have hc := hc0.trans (if_neg (by rw [hv]; simp))
                  have I2 := Lib.hid (in_is hv)
                  clear hv hc0
                  have HM := Lib.hid ((scan_hit HN.out HX.out (by rw [hc]; decide)).trans (by rw [hc]) : scanL chkL 0 ns = (5, k))
                  clear hc
                  go_wp2_with fail
                  refine (I1.out _).mono ?_
                  rintro e W ⟨rfl, rfl⟩
                  go_wp2_with fail
                  refine (I2.out _).mono ?_
                  rintro e W ⟨rfl, rfl⟩
                  go_wp2_with fail
                  refine (at_any 5 k _).mono ?_
                  rintro e W ⟨rfl, hb⟩
                  have HB2 := Lib.hid (HB1.out.trans (hb.mono HB1.out.size))
                  obtain ⟨c0, c1, f0, f1, hsz⟩ := HFB.out W HB2.out
                  clear hb
                  go_wp2_with fail
                  refine bodyPost_ret (v := faultV (5, (k : Int))) (by unfold faultV; simp [results, Tryd.results17, go_sem, c0, c1]) rfl ⟨by rw [E1.out, HM.out], flt_sets HB2.out _ _⟩
                | true =>
                  have I2 := Lib.hid (in_is hv)
                  cases hu : inB xr 0 ((k : Int) - 1) with
                  | false =>
                    have hc := hc0.trans (if_neg (by rw [hu]; simp))
                    have I3 := Lib.hid (in_is hu)
                    clear hv hu hc0
                    have HM := Lib.hid ((scan_hit HN.out HX.out (by rw [hc]; decide)).trans (by rw [hc]) : scanL chkL 0 ns = (5, k))
                    clear hc
                    go_wp2_with fail
                    refine (I1.out _).mono ?_
                    rintro e W ⟨rfl, rfl⟩
                    go_wp2_with fail
                    refine (I2.out _).mono ?_
                    rintro e W ⟨rfl, rfl⟩
                    go_wp2_with fail
                    refine (I3.out _).mono ?_
                    rintro e W ⟨rfl, rfl⟩
                    go_wp2_with fail
                    refine (at_any 5 k _).mono ?_
                    rintro e W ⟨rfl, hb⟩
                    have HB2 := Lib.hid (HB1.out.trans (hb.mono HB1.out.size))
                    obtain ⟨c0, c1, f0, f1, hsz⟩ := HFB.out W HB2.out
                    clear hb
                    go_wp2_with fail
                    refine bodyPost_ret (v := faultV (5, (k : Int))) (by unfold faultV; simp [results, Tryd.results17, go_sem, c0, c1]) rfl ⟨by rw [E1.out, HM.out], flt_sets HB2.out _ _⟩
                  | true =>
                    have hc := hc0.trans (if_pos ⟨hv, hu⟩)
                    have I3 := Lib.hid (in_is hu)
                    clear hv hu hc0
                    have HM := Lib.hid (fineYet_succ HN.out HX.out hc)
                    clear hc
                    go_wp2_with fail
                    refine (I1.out _).mono ?_
                    rintro e W ⟨rfl, rfl⟩
                    go_wp2_with fail
                    refine (I2.out _).mono ?_
                    rintro e W ⟨rfl, rfl⟩
                    go_wp2_with fail
                    refine (I3.out _).mono ?_
                    rintro e W ⟨rfl, rfl⟩
                    go_wp2_with fail
                    go_roundw
                    case rel => exact ⟨k + 1, by omega, by go_num, HM, HB1⟩
                    case measure => simp [intOf]; omega
              · have hc0 := chk_three (k := k) k3 k5
                obtain ⟨xk, xv, xn, xl, xr⟩ := x
                dsimp only at k3 k5 hc0 I1 hr1 hr2 p0 p1 p2 p3 p4 n1 n2
                cases hv : inB xl 0 ((k : Int) - 1) with
                | false =>
                  have hc := hc0.trans (if_neg (by rw [hv]; decide))
                  have I2 := Lib.hid (in_is hv)
                  clear hv hc0
                  have HM := Lib.hid ((scan_hit HN.out HX.out (by rw [hc]; decide)).trans (by rw [hc]) : scanL chkL 0 ns = (5, k))
                  clear hc
                  go_wp2_with fail
                  refine (I1.out _).mono ?_
                  rintro e W ⟨rfl, rfl⟩
                  go_wp2_with fail
                  refine (I2.out _).mono ?_
                  rintro e W ⟨rfl, rfl⟩
                  go_wp2_with fail
                  refine (at_any 5 k _).mono ?_
                  rintro e W ⟨rfl, hb⟩
                  have HB2 := Lib.hid (HB1.out.trans (hb.mono HB1.out.size))
                  obtain ⟨c0, c1, f0, f1, hsz⟩ := HFB.out W HB2.out
                  clear hb
                  go_wp2_with fail
                  refine bodyPost_ret (v := faultV (5, (k : Int))) (by unfold faultV; simp [results, Tryd.results17, go_sem, c0, c1]) rfl ⟨by rw [E1.out, HM.out], flt_sets HB2.out _ _⟩
                | true =>
                  have hc := hc0.trans (if_pos hv)
                  have I2 := Lib.hid (in_is hv)
                  clear hv hc0
                  have HM := Lib.hid (fineYet_succ HN.out HX.out hc)
                  clear hc
                  go_wp2_with fail
                  refine (I1.out _).mono ?_
                  rintro e W ⟨rfl, rfl⟩
                  go_wp2_with fail
                  refine (I2.out _).mono ?_
                  rintro e W ⟨rfl, rfl⟩
                  go_wp2_with fail
                  go_roundw
                  case rel => exact ⟨k + 1, by omega, by go_num, HM, HB1⟩
                  case measure => simp [intOf]; omega
      · obtain rfl : k = n := by omega
        obtain ⟨c0, c1, f0, f1, hsz⟩ := HFB.out wr HB.out
        have HM := Lib.hid (scan_none (by rw [Hn.out]; exact Nat.le_refl _) HN.out)
        clear hbw
        go_wp2_with fail
        refine bodyPost_ret (v := faultV (0, 0)) (by unfold faultV; simp [results, Tryd.results17, go_sem, c0, c1]) rfl ⟨by rw [E1.out, HM.out]; rfl, flt_sets HB.out _ _⟩
end Go.Proofs.YtchpkdpefpiegaaDoor.Tok
