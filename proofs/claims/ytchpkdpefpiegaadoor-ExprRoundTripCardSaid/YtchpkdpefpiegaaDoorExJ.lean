/- Contract of operate: an operation on linear values. Conditions: numbers within the range of values. -/
import Derived.Test.YtchpkdpefpiegaaDoorExI
namespace Go.Proofs.YtchpkdpefpiegaaDoor.Tok
open Go Go.RowKit

def operL (k : Int) (a b : Ln) : Ln × Int :=
  if k = 3 then (negL a, 0) else if k = 5 then sumL a b else if k = 6 then sumL a (negL b)
  else if (isNumL a && isNumL b) = true then (⟨[], [], (calcL k a.num b.num).1⟩, (calcL k a.num b.num).2) else (zeroL, 8)
theorem negL_ok {a : Ln} (h : a.Ok) : (negL a).Ok := ⟨by have := h.1; unfold InR at *; show -1099511627776 ≤ -a.num ∧ -a.num ≤ 1099511627776; omega, h.2.2, h.2.1⟩
/-- the world of operate: the boxes of both arguments and the result's -/
def opW (w : World) (a b : Ln) : World := ((w.alloc (.cells #[strV a.sym, strV a.minus, .int .i64 a.num] 40)).alloc (.cells #[strV b.sym, strV b.minus, .int .i64 b.num] 40)).alloc (.cells #[strV [], strV [], .int .i64 0] 40)
theorem opW_box (w : World) (a b : Ln) : Bx w.heap.size (w.heap.size + 1) (w.heap.size + 1 + 1) a b (opW w a b) := by
  refine ⟨heap_allocL _ (heap_allocL _ (heap_alloc_new _ _)), heap_allocL _ ?_, ?_⟩
  · have := heap_alloc_new (w.alloc (.cells #[strV a.sym, strV a.minus, .int .i64 a.num] 40)) (.cells #[strV b.sym, strV b.minus, .int .i64 b.num] 40)
    rw [World.size_alloc] at this
    exact this
  · have := heap_alloc_new ((w.alloc (.cells #[strV a.sym, strV a.minus, .int .i64 a.num] 40)).alloc (.cells #[strV b.sym, strV b.minus, .int .i64 b.num] 40)) (.cells #[strV [], strV [], .int .i64 0] 40)
    rw [World.size_alloc, World.size_alloc] at this
    exact this
theorem opW_below (w : World) (a b : Ln) : Below w.heap.size w (opW w a b) :=
  (((Below.refl w.heap.size w).alloc (Nat.le_refl _) (.cells #[strV a.sym, strV a.minus, .int .i64 a.num] 40)).alloc (by simp) (.cells #[strV b.sym, strV b.minus, .int .i64 b.num] 40)).alloc (by simp; omega) (.cells #[strV [], strV [], .int .i64 0] 40)
theorem Bx.up {A B R : Nat} {a b : Ln} {w w' : World} (h : Bx A B R a b w) (hb : Below w.heap.size w w') : Bx A B R a b w' :=
  ⟨(hb.block _ (lt_of_block h.1)).trans h.1, (hb.block _ (lt_of_block h.2.1)).trans h.2.1, (hb.block _ (lt_of_block h.2.2)).trans h.2.2⟩
/-- what a box gives a walk -/
theorem Bx.opens {A B R : Nat} {a b : Ln} {w : World} (h : Bx A B R a b w) :
    (w.cell? ⟨A, 0, none⟩ = some (strV a.sym) ∧ w.cell? ⟨A, 1, none⟩ = some (strV a.minus) ∧ w.cell? ⟨A, 2, none⟩ = some (.int .i64 a.num)) ∧
    (w.cell? ⟨B, 0, none⟩ = some (strV b.sym) ∧ w.cell? ⟨B, 1, none⟩ = some (strV b.minus) ∧ w.cell? ⟨B, 2, none⟩ = some (.int .i64 b.num)) ∧
    (w.cell? ⟨R, 0, none⟩ = some (strV []) ∧ w.cell? ⟨R, 1, none⟩ = some (strV []) ∧ w.cell? ⟨R, 2, none⟩ = some (.int .i64 0)) ∧
    (w.frozen? ⟨R, 0, none⟩ = false ∧ w.frozen? ⟨R, 1, none⟩ = false ∧ w.frozen? ⟨R, 2, none⟩ = false) ∧ A < w.heap.size ∧ B < w.heap.size ∧ R < w.heap.size := by
  obtain ⟨h1, h2, h3⟩ := h
  obtain ⟨p1, p2, p3⟩ := cells_of h1
  obtain ⟨q1, q2, q3⟩ := cells_of h2
  obtain ⟨r1, r2, r3⟩ := cells_of h3
  exact ⟨⟨p1 0 _ rfl, p1 1 _ rfl, p1 2 _ rfl⟩, ⟨q1 0 _ rfl, q1 1 _ rfl, q1 2 _ rfl⟩, ⟨r1 0 _ rfl, r1 1 _ rfl, r1 2 _ rfl⟩, ⟨r2 0, r2 1, r2 2⟩, p3, q3, r3⟩
/-- the result's box behind its store -/
theorem three_set {w W : World} {R K : Nat} (hb : Below K w W) (hR : K ≤ R) (x y z : Value) : Below K w (((W.setCell ⟨R, 0, none⟩ x).setCell ⟨R, 1, none⟩ y).setCell ⟨R, 2, none⟩ z) :=
  ((hb.setCell (p := ⟨R, 0, none⟩) hR _).setCell (p := ⟨R, 1, none⟩) hR _).setCell (p := ⟨R, 2, none⟩) hR _
set_option maxRecDepth 100000 in
set_option maxHeartbeats 4000000 in
theorem operate_any (k : Int) (a b : Ln) (w : World) (hk : 3 ≤ k ∧ k ≤ 14) (ha : a.Ok) (hb : b.Ok) : Calls Tryd.prog 56 #[.int .i64 k, a.v, b.v] w fun e w' => e = .returned (.tuple #[(operL k a b).1.v, .int .i64 (operL k a b).2]) ∧ Below w.heap.size w w' := by
  have E0 := Lib.hid (show operL k a b = if k = 3 then (negL a, 0) else if k = 5 then sumL a b else if k = 6 then sumL a (negL b)
    else if (isNumL a && isNumL b) = true then (⟨[], [], (calcL k a.num b.num).1⟩, (calcL k a.num b.num).2) else (zeroL, 8) from rfl)
  have HBX := Lib.hid (opW_box w a b)
  have HB0 := Lib.hid (opW_below w a b)
  unfold opW at HBX HB0
  by_cases h3 : k = 3
  · subst h3
    have E := Lib.hid (E0.out.trans (if_pos rfl))
    have C := Lib.hid (fun W => neg_any a W ha.1)
    generalize negL a = r at C E
    unfold Ln.v at C ⊢
    clear E0 ha hb hk
    go_enter Tryd.func56, Tryd.ntmps56
    go_wp2_with fail
    refine (C.out _).mono ?_
    rintro e W1 ⟨rfl, hb1⟩
    obtain ⟨-, -, ⟨z0, z1, z2⟩, ⟨f0, f1, f2⟩, -, -, hR⟩ := (HBX.out.up hb1).opens
    have HB1 := Lib.hid (HB0.out.trans (hb1.mono HB0.out.size))
    clear hb1 C
    go_wp2_with fail
    refine bodyPost_ret (v := .tuple #[r.v, .int .i64 0]) (by unfold Ln.v; simp [results, Tryd.results56, go_sem, z0, z1, z2]) rfl ⟨?_, ?_⟩
    · rw [E.out]; rfl
    · exact three_set HB1.out (by omega) _ _ _
  · have n3 : (k == 3) = false := beq_eq_false_iff_ne.2 h3
    by_cases h5 : k = 5
    · subst h5
      have E := Lib.hid (E0.out.trans ((if_neg h3).trans (if_pos rfl)))
      have C := Lib.hid (fun W => sum_any a b W ha hb)
      generalize sumL a b = r at C E
      obtain ⟨r, c⟩ := r
      unfold Ln.v at C ⊢
      clear E0 ha hb hk
      go_enter Tryd.func56, Tryd.ntmps56
      go_wp2_with fail
      refine (C.out _).mono ?_
      rintro e W1 ⟨rfl, hb1⟩
      obtain ⟨-, -, ⟨z0, z1, z2⟩, ⟨f0, f1, f2⟩, -, -, hR⟩ := (HBX.out.up hb1).opens
      have HB1 := Lib.hid (HB0.out.trans (hb1.mono HB0.out.size))
      clear hb1 C
      go_wp2_with fail
      refine bodyPost_ret (v := .tuple #[r.v, .int .i64 c]) (by unfold Ln.v; simp [results, Tryd.results56, go_sem, z0, z1, z2]) rfl ⟨?_, ?_⟩
      · rw [E.out]; rfl
      · exact three_set HB1.out (by omega) _ _ _
    · have n5 : (k == 5) = false := beq_eq_false_iff_ne.2 h5
      by_cases h6 : k = 6
      · subst h6
        have E := Lib.hid (E0.out.trans ((if_neg h3).trans ((if_neg h5).trans (if_pos rfl))))
        have C1 := Lib.hid (fun W => neg_any b W hb.1)
        have C2 := Lib.hid (fun W => sum_any a (negL b) W ha (negL_ok hb))
        generalize negL b = nb at C1 C2 E
        generalize sumL a nb = r at C2 E
        obtain ⟨r, c⟩ := r
        unfold Ln.v at C1 C2 ⊢
        clear E0 ha hb hk
        go_enter Tryd.func56, Tryd.ntmps56
        go_wp2_with fail
        obtain ⟨V, hV⟩ : ∃ V, V = (((w.alloc (.cells #[strV a.sym, strV a.minus, .int .i64 a.num] 40)).alloc (.cells #[strV b.sym, strV b.minus, .int .i64 b.num] 40)).alloc (.cells #[strV [], strV [], .int .i64 0] 40)) := ⟨_, rfl⟩
        rw [← hV] at HBX HB0
        rw [show (((w.alloc (.cells #[strV a.sym, strV a.minus, .int .i64 a.num] 40)).alloc (.cells #[strV b.sym, strV b.minus, .int .i64 b.num] 40)).alloc (.cells #[.string { data := #[] }, .string { data := #[] }, .int .i64 0] 40)) = V from hV.symm]
        clear hV
        have KS := Lib.hid (show ∀ W', Below V.heap.size V W' → ((W'.cell? ⟨w.heap.size, 0, none⟩ = some (strV a.sym) ∧ W'.cell? ⟨w.heap.size, 1, none⟩ = some (strV a.minus) ∧ W'.cell? ⟨w.heap.size, 2, none⟩ = some (.int .i64 a.num)) ∧ (W'.cell? ⟨w.heap.size + 1, 0, none⟩ = some (strV b.sym) ∧ W'.cell? ⟨w.heap.size + 1, 1, none⟩ = some (strV b.minus) ∧ W'.cell? ⟨w.heap.size + 1, 2, none⟩ = some (.int .i64 b.num)) ∧ (W'.cell? ⟨w.heap.size + 1 + 1, 0, none⟩ = some (strV []) ∧ W'.cell? ⟨w.heap.size + 1 + 1, 1, none⟩ = some (strV []) ∧ W'.cell? ⟨w.heap.size + 1 + 1, 2, none⟩ = some (.int .i64 0)) ∧ (W'.frozen? ⟨w.heap.size + 1 + 1, 0, none⟩ = false ∧ W'.frozen? ⟨w.heap.size + 1 + 1, 1, none⟩ = false ∧ W'.frozen? ⟨w.heap.size + 1 + 1, 2, none⟩ = false)) from fun W' hb => by
          obtain ⟨i1, i2, i3, i4, -⟩ := (HBX.out.up hb).opens
          exact ⟨i1, i2, i3, i4⟩)
        obtain ⟨-, -, -, -, hA, hB, hR⟩ := HBX.out.opens
        have hcur : Below V.heap.size V V.drew := (Below.refl _ _).drew
        have KT := Lib.hid (show ∀ W' x y z, Below V.heap.size V W' → (((((W'.setCell ⟨w.heap.size + 1 + 1, 0, none⟩ x).setCell ⟨w.heap.size + 1 + 1, 1, none⟩ y).setCell ⟨w.heap.size + 1 + 1, 2, none⟩ z).cell? ⟨w.heap.size, 0, none⟩ = some (strV a.sym) ∧ (((W'.setCell ⟨w.heap.size + 1 + 1, 0, none⟩ x).setCell ⟨w.heap.size + 1 + 1, 1, none⟩ y).setCell ⟨w.heap.size + 1 + 1, 2, none⟩ z).cell? ⟨w.heap.size, 1, none⟩ = some (strV a.minus) ∧ (((W'.setCell ⟨w.heap.size + 1 + 1, 0, none⟩ x).setCell ⟨w.heap.size + 1 + 1, 1, none⟩ y).setCell ⟨w.heap.size + 1 + 1, 2, none⟩ z).cell? ⟨w.heap.size, 2, none⟩ = some (.int .i64 a.num)) ∧ ((((W'.setCell ⟨w.heap.size + 1 + 1, 0, none⟩ x).setCell ⟨w.heap.size + 1 + 1, 1, none⟩ y).setCell ⟨w.heap.size + 1 + 1, 2, none⟩ z).cell? ⟨w.heap.size + 1, 0, none⟩ = some (strV b.sym) ∧ (((W'.setCell ⟨w.heap.size + 1 + 1, 0, none⟩ x).setCell ⟨w.heap.size + 1 + 1, 1, none⟩ y).setCell ⟨w.heap.size + 1 + 1, 2, none⟩ z).cell? ⟨w.heap.size + 1, 1, none⟩ = some (strV b.minus) ∧ (((W'.setCell ⟨w.heap.size + 1 + 1, 0, none⟩ x).setCell ⟨w.heap.size + 1 + 1, 1, none⟩ y).setCell ⟨w.heap.size + 1 + 1, 2, none⟩ z).cell? ⟨w.heap.size + 1, 2, none⟩ = some (.int .i64 b.num))) from fun W' x y z hb => by
          obtain ⟨⟨i1, i2, i3⟩, ⟨i4, i5, i6⟩, -⟩ := (HBX.out.up hb).opens
          refine ⟨⟨?_, ?_, ?_⟩, ?_, ?_, ?_⟩
          all_goals
            rw [World.cell?_setCell_other _ _ _ _ (by simp), World.cell?_setCell_other _ _ _ _ (by simp), World.cell?_setCell_other _ _ _ _ (by simp)]
            assumption)
        go_region_held3 (fun W' => (W'.cell? ⟨w.heap.size, 0, none⟩ = some (strV a.sym) ∧ W'.cell? ⟨w.heap.size, 1, none⟩ = some (strV a.minus) ∧ W'.cell? ⟨w.heap.size, 2, none⟩ = some (.int .i64 a.num)) ∧ (W'.cell? ⟨w.heap.size + 1, 0, none⟩ = some (strV b.sym) ∧ W'.cell? ⟨w.heap.size + 1, 1, none⟩ = some (strV b.minus) ∧ W'.cell? ⟨w.heap.size + 1, 2, none⟩ = some (.int .i64 b.num)))
          (first | exact ⟨(KS.out _ hcur).1, (KS.out _ hcur).2.1⟩ | exact KT.out _ _ _ _ hcur)
          (first | (go_at_call 81; refine (C1.out _).mono ?_; rintro e W1 ⟨rfl, hb1⟩; have hcur := hcur.trans (hb1.mono hcur.size)) | (go_at_call 82; refine (C2.out _).mono ?_; rintro e W2 ⟨rfl, hb2⟩; have hcur := hcur.trans (hb2.mono hcur.size); obtain ⟨-, -, ⟨z0, z1, z2⟩, ⟨f0, f1, f2⟩⟩ := KS.out _ hcur; have HCU := Lib.hid hcur))
        go_wp2_with fail
        refine bodyPost_ret (v := .tuple #[r.v, .int .i64 c]) (by unfold Ln.v; simp [results, Tryd.results56, go_sem, z0, z1, z2]) rfl ⟨?_, ?_⟩
        · rw [E.out]; rfl
        · exact three_set (HB0.out.trans (HCU.out.mono HB0.out.size)) (by omega) _ _ _
      · have n6 : (k == 6) = false := beq_eq_false_iff_ne.2 h6
        have E1 := Lib.hid (E0.out.trans ((if_neg h3).trans ((if_neg h5).trans (if_neg h6))))
        have C1 := Lib.hid (fun W => isNum_any a W)
        have C2 := Lib.hid (fun W => isNum_any b W)
        have C3 := Lib.hid (fun W => calc_any k a.num b.num W (by omega) ha.1 hb.1)
        clear E0 ha hb hk h3 h5 h6
        generalize calcL k a.num b.num = r at C3 E1
        obtain ⟨n, c⟩ := r
        cases hna : isNumL a with
        | false =>
          rw [hna] at C1 E1
          have E := Lib.hid (E1.out.trans (if_neg (by simp)))
          unfold Ln.v at C1 C2 ⊢
          clear E1 hna C2 C3
          go_enter Tryd.func56, Tryd.ntmps56
          go_wp2_with fail
          refine (C1.out _).mono ?_
          rintro e W1 ⟨rfl, hb1⟩
          obtain ⟨-, -, ⟨z0, z1, z2⟩, ⟨f0, f1, f2⟩, -, -, hR⟩ := (HBX.out.up hb1).opens
          have HB1 := Lib.hid (HB0.out.trans (hb1.mono HB0.out.size))
          clear hb1 C1
          go_wp2_with fail
          refine bodyPost_ret (v := .tuple #[zeroL.v, .int .i64 8]) (by unfold Ln.v zeroL; simp [results, Tryd.results56, go_sem, z0, z1, z2]) rfl ⟨?_, ?_⟩
          · rw [E.out]; rfl
          · exact three_set HB1.out (by omega) _ _ _
        | true =>
          cases hnb : isNumL b with
          | false =>
            rw [hna, hnb] at E1
            rw [hna] at C1
            rw [hnb] at C2
            have E := Lib.hid (E1.out.trans (if_neg (by simp)))
            unfold Ln.v at C1 C2 ⊢
            clear E1 hna hnb C3
            go_enter Tryd.func56, Tryd.ntmps56
            go_wp2_with fail
            refine (C1.out _).mono ?_
            rintro e W1 ⟨rfl, hb1⟩
            obtain ⟨-, ⟨b0, b1, b2⟩, -, -, -, hR2, -⟩ := (HBX.out.up hb1).opens
            have HX1 := Lib.hid (HBX.out.up hb1)
            have HB1 := Lib.hid (HB0.out.trans (hb1.mono HB0.out.size))
            clear hb1 C1
            go_wp2_with fail
            refine (C2.out _).mono ?_
            rintro e W2 ⟨rfl, hb2⟩
            obtain ⟨-, -, ⟨z0, z1, z2⟩, ⟨f0, f1, f2⟩, -, -, hR⟩ := (HX1.out.up hb2).opens
            have HB2 := Lib.hid (HB1.out.trans (hb2.mono HB1.out.size))
            clear hb2 C2 b0 b1 b2 hR2
            go_wp2_with fail
            refine bodyPost_ret (v := .tuple #[zeroL.v, .int .i64 8]) (by unfold Ln.v zeroL; simp [results, Tryd.results56, go_sem, z0, z1, z2]) rfl ⟨?_, ?_⟩
            · rw [E.out]; rfl
            · exact three_set HB2.out (by omega) _ _ _
          | true =>
            rw [hna, hnb] at E1
            rw [hna] at C1
            rw [hnb] at C2
            have E := Lib.hid (E1.out.trans (if_pos (by simp)))
            unfold Ln.v at C1 C2 ⊢
            clear E1 hna hnb
            go_enter Tryd.func56, Tryd.ntmps56
            go_wp2_with fail
            refine (C1.out _).mono ?_
            rintro e W1 ⟨rfl, hb1⟩
            obtain ⟨-, ⟨b0, b1, b2⟩, -, -, -, hR2, -⟩ := (HBX.out.up hb1).opens
            have HX1 := Lib.hid (HBX.out.up hb1)
            have HB1 := Lib.hid (HB0.out.trans (hb1.mono HB0.out.size))
            clear hb1 C1
            go_wp2_with fail
            refine (C2.out _).mono ?_
            rintro e W2 ⟨rfl, hb2⟩
            obtain ⟨⟨a0, a1, a2⟩, ⟨d0, d1, d2⟩, ⟨z0, z1, z2⟩, ⟨f0, f1, f2⟩, hA, hB, hR⟩ := (HX1.out.up hb2).opens
            have HB2 := Lib.hid (HB1.out.trans (hb2.mono HB1.out.size))
            clear hb2 C2 b0 b1 b2 hR2
            go_wp2_with fail
            refine (C3.out _).mono ?_
            rintro e w' ⟨rfl, rfl⟩
            go_wp2_with fail
            refine bodyPost_ret (v := .tuple #[.agg #[strV [], strV [], .int .i64 n], .int .i64 c]) (by simp [results, Tryd.results56, go_sem, z0, z1, z2]) rfl ⟨?_, ?_⟩
            · rw [E.out]
            · exact three_set HB2.out (by omega) _ _ _
end Go.Proofs.YtchpkdpefpiegaaDoor.Tok
