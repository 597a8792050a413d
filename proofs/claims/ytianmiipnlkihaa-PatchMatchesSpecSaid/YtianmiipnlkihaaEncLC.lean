/- Patch answers as the reference says (the law PatchMatchesSpec). Conditions: the arguments read as forms and bytes. -/
import Derived.Deep.RegionHeld3
import Derived.Test.YtianmiipnlkihaaEncLB
namespace Go.Proofs.Ytianmiipnlkihaa
open Go Go.RowKit Go.Shelf
theorem len_wrap {m : Nat} (h : m ≤ 4) : wrap64 ((m : Int) - 1) = (m : Int) - 1 := by rw [IntWalk.wrap64_in _ (by omega)]
theorem kinds_cell_at {B : Nat} {w : World} {v : Value} {ks : List Int} {j : Nat} (h : KindsAt B w v ks) (hj : j < ks.length) : ∃ b o, ∃ c, v = .slice (some ⟨b, o, none⟩) ks.length c ∧ w.cell? ⟨b, o + j, none⟩ = some (.int .i64 (ks[j]?.getD 0)) := by
  obtain ⟨A, c, e, _, h3⟩ := h
  obtain ⟨b, off, ha, _, hc⟩ := h3 (by omega)
  exact ⟨b, off, c, by rw [e, ha], hc j hj⟩
theorem pat_keep5 {W W' : World} {b o r : Nat} {x y z u v : Value} (hb : Below W.heap.size W W') (d1 : W.cell? ⟨b, o, none⟩ = some x) (d2 : W.cell? ⟨b, o + 1, none⟩ = some y) (d3 : W.cell? ⟨b, o + 2, none⟩ = some z) (r0 : W.cell? ⟨r, 0, none⟩ = some u) (r1 : W.cell? ⟨r, 1, none⟩ = some v) :
    (W'.cell? ⟨b, o, none⟩ = some x ∧ W'.cell? ⟨b, o + 1, none⟩ = some y ∧ W'.cell? ⟨b, o + 2, none⟩ = some z) ∧ W'.cell? ⟨r, 0, none⟩ = some u ∧ W'.cell? ⟨r, 1, none⟩ = some v :=
  ⟨⟨cell_below d1 hb, cell_below d2 hb, cell_below d3 hb⟩, cell_below r0 hb, cell_below r1 hb⟩
theorem size_pos (ks : List Int) : 0 < sizeOf ks := by unfold sizeOf; omega
/-- the code when t bytes of the new encoding have been laid -/
def patchK (l : List UInt8) (a : Nat) (e : List UInt8) (t : Nat) : List UInt8 := l.take a ++ e.take t ++ l.drop (a + t)
theorem patchK_zero (l : List UInt8) (a : Nat) (e : List UInt8) : patchK l a e 0 = l := by
  unfold patchK
  rw [List.take_zero, List.append_nil, Nat.add_zero, List.take_append_drop]
theorem patchK_length {l : List UInt8} {a : Nat} {e : List UInt8} {t : Nat} (h : a + e.length ≤ l.length) (ht : t ≤ e.length) : (patchK l a e t).length = l.length := by
  unfold patchK
  rw [List.length_append, List.length_append, List.length_take, List.length_take, List.length_drop]
  omega
theorem patchK_next {l : List UInt8} {a : Nat} {e : List UInt8} {t : Nat} {y : UInt8} (h : a + e.length ≤ l.length) (ht : t < e.length) (hy : y = e[t]?.getD 0) : (patchK l a e t).set (a + t) y = patchK l a e (t + 1) := by
  unfold patchK
  have h1 : (l.take a ++ e.take t).length = a + t := by rw [List.length_append, List.length_take, List.length_take]; omega
  have h2 : l.drop (a + t) = l[a + t] :: l.drop (a + (t + 1)) := by rw [← Nat.add_assoc]; exact List.drop_eq_getElem_cons (by omega)
  rw [List.set_append_right _ _ (by omega), h1, Nat.sub_self, h2]
  show _ ++ y :: l.drop (a + (t + 1)) = _
  have h3 : e.take (t + 1) = e.take t ++ [e[t]] := (List.take_append_getElem ht).symm
  rw [hy, List.getElem?_eq_getElem ht, h3]
  simp only [List.append_assoc, List.cons_append, List.nil_append, Option.getD_some]
theorem pat_sum {a t n : Nat} (h : a + t < n) (hn : n ≤ 1500) : wrap64 ((a : Int) + (t : Int)) = ((a + t : Nat) : Int) ∧ ((a + t : Nat) : Int) < (n : Int) ∧ (0 : Int) ≤ ((a + t : Nat) : Int) ∧ IntKind.i64.wrap ((a : Int) + (t : Int)) = ((a + t : Nat) : Int) := by
  refine ⟨by rw [IntWalk.wrap64_in _ (by omega)]; omega, by omega, by omega, ?_⟩
  rw [IntWalk.i64_in _ (by omega)]
  omega
theorem out_here {ks xs : List Int} {j : Nat} {val : Int} (hl : xs.length = ks.length) (h : outIdx ks xs = -1) (hj : j < ks.length) : (0 ≤ outIdx ks (xs.set j val) → outB (ks[j]?.getD 0) val = true) ∧ (outIdx ks (xs.set j val) = -1 → outB (ks[j]?.getD 0) val = false) := by
  have hin := inside_of_idx hl h
  have hl2 : (xs.set j val).length = ks.length := by rw [List.length_set]; exact hl
  have hat : ∀ t, t ≠ j → (xs.set j val)[t]?.getD 0 = xs[t]?.getD 0 := fun t ht => by rw [List.getElem?_set_ne (Ne.symm ht)]
  have hj2 : (xs.set j val)[j]?.getD 0 = val := by rw [List.getElem?_set_self (by omega)]; rfl
  refine ⟨fun h0 => ?_, fun h1 => ?_⟩
  · cases ho : outB (ks[j]?.getD 0) val with
    | true => rfl
    | false =>
      exfalso
      have : outIdx ks (xs.set j val) = -1 := outIdx_none hl2 fun t _ => by
        by_cases ht : t.val = j
        · rw [ht, hj2]; exact ho
        · rw [hat t.val ht]; exact hin t.val t.isLt
      omega
  · have := inside_of_idx hl2 h1 j hj
    rwa [hj2] at this
set_option maxRecDepth 100000 in
set_option maxHeartbeats 4000000 in
theorem law_pat (B : Nat) (v cv : Value) (fs : List Frm) (l : List UInt8) (at_ arg val : Int) (w : World) (h : FormsAt B w v fs) (hl : BytesAt B w cv l) (hB : B ≤ w.heap.size) :
    Calls Try.prog 5 #[v, cv, .int .i64 at_, .int .i64 arg, .int .i64 val] w fun e w' => e = .returned (.bool true) ∧ Below w.heap.size w w' := by
  obtain ⟨A, n, c, rfl, hfs, -, -, hop⟩ := h.opens
  obtain ⟨A2, n2, c2, rfl, hl2, ⟨hm2, hc2⟩, hop2⟩ := hl.opens
  have HOP := Lib.hid (And.intro hfs.out hop)
  have HOP2 := Lib.hid (And.intro hl2.out (And.intro hc2 hop2))
  clear hop hfs hop2 hc2 hm2 hl2
  go_enter Try.func5, Try.ntmps5
  go_wp2_with fail
  refine (encExample_any _).mono ?_
  rintro e W1 ⟨rfl, hb1⟩
  have FA := Lib.hid (h.below (hb1.mono hB))
  have LA := Lib.hid (hl.below (hb1.mono hB))
  have hB1 : B ≤ W1.heap.size := Nat.le_trans hB hb1.size
  have HW1 := Lib.hid hb1
  clear h hl hb1
  rcases dec_cases fs l at_ with ⟨p, i, hp, hdf, E1⟩ | ⟨a, rfl, hdf, ht, hal, hno, E1⟩ | ⟨a, k, f, xs, rfl, hdf, o1⟩
  · have Y1 := Lib.hid (pat_bad hp E1 arg val)
    have hpz : (p == 0) = false := by simpa using hp
    have hpn : (p != 0) = true := by simpa using hp
    have HDF := Lib.hid hdf
    clear E1 hdf
    go_wp2_with fail
    refine (Y1.out _ _ _ _ FA.out LA.out hB1).mono ?_
    rintro e W2 ⟨rfl, hb2⟩
    have a2 := one_more W2 (.cells #[.int .i64 p, .int .i64 i] 29)
    have g2 := hb2.trans (a2.mono hb2.size)
    have D := decodeFault_any B _ _ fs l at_ _ (FA.out.below (g2.mono hB1)) (LA.out.below (g2.mono hB1)) (Nat.le_trans hB1 g2.size)
    rw [HDF.out] at D
    have HD := Lib.hid D
    have HB2 := Lib.hid hb2
    clear D a2 g2 hb2
    go_wp2_with fail
    refine HD.out.mono ?_
    rintro e W3 ⟨rfl, hb3⟩
    have t1 := (Two.new W2 (.int .i64 p) (.int .i64 i) 29).below hb3
    have a2 := one_more W2 (.cells #[.int .i64 p, .int .i64 i] 29)
    have g3 := a2.trans (hb3.mono a2.size)
    have w3 := HW1.out.trans ((HB2.out.trans (g3.mono HB2.out.size)).mono HW1.out.size)
    have z1 := t1.lt
    obtain ⟨r0, r1, r2, r3⟩ := t1
    have HW3 := Lib.hid (w3.alloc w3.size (.cells #[.int .i64 p, .int .i64 i] 29))
    clear hb3 g3 w3 a2
    go_wp2_with fail
    refine bodyPost_ret (v := .bool true) (by simp [results, Try.results5, go_sem]) rfl ⟨rfl, HW3.out⟩
  · have Y1 := Lib.hid (pat_bad (by decide) E1 arg val)
    have HDF := Lib.hid hdf
    obtain ⟨hn2, hc2, hop2⟩ := HOP2.out
    rw [hn2] at hal
    obtain ⟨b2, o2, hA2, -, -⟩ := hop2 (Nat.lt_of_le_of_lt (Nat.zero_le _) hal)
    subst hA2
    obtain ⟨f1, f2, f3, f4, f5, f6⟩ := tail_facts hal hc2
    have F4 := Lib.hid f4
    have HT := Lib.hid ht
    have HNO := Lib.hid hno
    have HDL := Lib.hid (show 0 < (l.drop a).length by rw [List.length_drop, hn2]; omega)
    clear E1 hdf ht hno hop2 hal HOP2 hn2 hc2
    go_wp2_with fail
    refine (Y1.out _ _ _ _ FA.out LA.out hB1).mono ?_
    rintro e W2 ⟨rfl, hb2⟩
    have a2 := one_more W2 (.cells #[.int .i64 17, .int .i64 (a : Int)] 29)
    have g2 := hb2.trans (a2.mono hb2.size)
    have D := decodeFault_any B _ _ fs l (a : Int) _ (FA.out.below (g2.mono hB1)) (LA.out.below (g2.mono hB1)) (Nat.le_trans hB1 g2.size)
    rw [HDF.out] at D
    have HD := Lib.hid D
    have HB2 := Lib.hid hb2
    clear D a2 g2 hb2
    go_wp2_with fail
    refine HD.out.mono ?_
    rintro e W3 ⟨rfl, hb3⟩
    have t1 := (Two.new W2 (.int .i64 17) (.int .i64 (a : Int)) 29).below hb3
    have a2 := one_more W2 (.cells #[.int .i64 17, .int .i64 (a : Int)] 29)
    have g3 := a2.trans (hb3.mono a2.size)
    have g13 := HB2.out.trans (g3.mono HB2.out.size)
    have T1 := Lib.hid t1
    have G13 := Lib.hid g13
    have z1 := t1.lt
    obtain ⟨r0, r1, r2, r3⟩ := t1
    have a3 := one_more W3 (.cells #[.int .i64 0, .int .i64 0] 29)
    have g4 := g13.trans (a3.mono g13.size)
    have E := decoded_any B _ _ fs (l.drop a) (W3.alloc (.cells #[.int .i64 0, .int .i64 0] 29)) (FA.out.below (g4.mono hB1)) ((LA.out.below (g4.mono hB1)).drop F4.out) (Nat.le_trans hB1 g4.size) HT.out HDL.out
    have HE := Lib.hid E
    clear E g4 hb3 g3 g13 a3 a2
    go_wp2_with fail
    refine HE.out.mono ?_
    rintro e W4 ⟨hcase, hb4⟩
    rcases hcase with ⟨k', f', xs', av', hgood, -, -⟩ | ⟨-, rfl⟩
    · exact absurd ⟨k', f', xs', hgood⟩ HNO.out
    have a3 := one_more W3 (.cells #[.int .i64 0, .int .i64 0] 29)
    have g34 := a3.trans (hb4.mono a3.size)
    have u1 := T1.out.below g34
    have w4 := HW1.out.trans ((G13.out.trans (g34.mono G13.out.size)).mono HW1.out.size)
    have HW4 := Lib.hid w4
    obtain ⟨q0, q1, q2, q3⟩ := u1
    have y1 := block_lt_of_cell q0
    clear hb4 a3 g34 w4 r0 r1 r2 r3
    go_wp2_with fail
    have a5 := one_more W4 (.cells #[.int .i64 0, .slice none 0 0] 25)
    have e0 := cell_below q0 a5
    have e1 := cell_below q1 a5
    obtain ⟨W5, hW5⟩ : ∃ W5, W5 = W4.alloc (.cells #[.int .i64 0, .slice none 0 0] 25) := ⟨_, rfl⟩
    rw [← hW5] at a5 e0 e1 ⊢
    have HFN := Lib.hid (HW4.out.trans (a5.mono HW4.out.size))
    have KS : Hid (∀ W', Below W5.heap.size W5 W' → _) := Lib.hid (fun W' hb' => And.intro (cell_below e0 hb') (cell_below e1 hb'))
    have hcur : Below W5.heap.size W5 W5.drew := (Below.refl _ _).drew
    clear hW5 a5 q0 q1 q2 q3
    go_region_held3 (fun W' => W'.cell? ⟨W2.heap.size, 0, none⟩ = some (.int .i64 17) ∧ W'.cell? ⟨W2.heap.size, 1, none⟩ = some (.int .i64 (a : Int)))
      (first | exact KS.out _ hcur)
      (first
        | (go_at_call 16; refine (at_any _ _ _).mono ?_; rintro e W7 ⟨rfl, hb7⟩; have hcur := hcur.trans (hb7.mono hcur.size)))
    go_wp2_with fail
    refine bodyPost_ret (v := .bool true) (by simp [results, Try.results5, go_sem]) rfl ⟨rfl, HFN.out.trans (hcur.mono HFN.out.size)⟩
  · have O := Lib.hid o1
    have HDF := Lib.hid hdf
    obtain ⟨hn2, hc2, hop2⟩ := HOP2.out
    have hal := o1.2.2.1
    rw [hn2] at hal
    obtain ⟨b2, o2, hA2, -, -⟩ := hop2 (Nat.lt_of_le_of_lt (Nat.zero_le _) hal)
    subst hA2
    obtain ⟨f1, f2, f3, f4, f5, f6⟩ := tail_facts hal hc2
    have F4 := Lib.hid f4
    have HDL := Lib.hid (show 0 < (l.drop a).length by rw [List.length_drop, hn2]; omega)
    obtain ⟨hfs, hop⟩ := HOP.out
    have hx := o1.enc.2.1
    have hkn : k < n := by rw [← hfs]; exact (List.getElem?_eq_some_iff.1 hx).1
    obtain ⟨b1, p1, hA1, hb1, hg⟩ := hop (Nat.lt_of_le_of_lt (Nat.zero_le _) hkn)
    subst hA1
    have HG := Lib.hid (hg k f hx)
    have HB1 := Lib.hid hb1
    have hki : (k : Int) < (n : Int) := small_int hkn
    have hk0 : (0 : Int) ≤ (k : Int) := Int.natCast_nonneg _
    have HX := Lib.hid hx
    have HSH := Lib.hid (valid_form o1.1 (List.mem_of_getElem? hx)).short
    have HKN := Lib.hid (valid_form o1.1 (List.mem_of_getElem? hx)).known
    have HXL := Lib.hid o1.enc.2.2.1
    have HLN := Lib.hid hn2
    have hpc := pat_cases o1 arg val
    clear o1 hdf hop2 hal HOP2 hn2 hc2 hfs hop hg hb1 hx HOP hkn
    have bad : (∃ p i, p ≠ 0 ∧ PatBad fs l a arg val p i ∧ ((p, i) = (3, -6) ∧ (arg < 0 ∨ (f.kinds.length : Int) ≤ arg) ∨ (p, i) = (16, -7) ∧ ∃ j : Nat, arg = (j : Int) ∧ j < f.kinds.length ∧ 0 ≤ outIdx f.kinds (xs.set j val))) ∨ ∃ j : Nat, arg = (j : Int) ∧ ArgOk f xs j val := by
      rcases hpc with ⟨h1, h2⟩ | ⟨j, h1, h2, h3, h4⟩ | h
      · exact .inl ⟨3, -6, by decide, h2, .inl ⟨rfl, h1⟩⟩
      · exact .inl ⟨16, -7, by decide, h4, .inr ⟨rfl, j, h1, h2, h3⟩⟩
      · exact .inr h
    clear hpc
    rcases bad with ⟨p, i, hp, E1, hw⟩ | ⟨j, rfl, hj⟩
    · have Y1 := Lib.hid E1
      have HPW := Lib.hid hw
      clear E1 hw
      go_wp2_with fail
      refine (Y1.out _ _ _ _ FA.out LA.out hB1).mono ?_
      rintro e W2 ⟨rfl, hb2⟩
      have a2 := one_more W2 (.cells #[.int .i64 p, .int .i64 i] 29)
      have g2 := hb2.trans (a2.mono hb2.size)
      have D := decodeFault_any B _ _ fs l (a : Int) _ (FA.out.below (g2.mono hB1)) (LA.out.below (g2.mono hB1)) (Nat.le_trans hB1 g2.size)
      rw [HDF.out] at D
      have HD := Lib.hid D
      have HB2 := Lib.hid hb2
      clear D a2 g2 hb2
      go_wp2_with fail
      refine HD.out.mono ?_
      rintro e W3 ⟨rfl, hb3⟩
      have t1 := (Two.new W2 (.int .i64 p) (.int .i64 i) 29).below hb3
      have a2 := one_more W2 (.cells #[.int .i64 p, .int .i64 i] 29)
      have g3 := a2.trans (hb3.mono a2.size)
      have g13 := HB2.out.trans (g3.mono HB2.out.size)
      skip
      have T1 := Lib.hid t1
      have G13 := Lib.hid g13
      have z1 := t1.lt
      obtain ⟨r0, r1, r2, r3⟩ := t1
      have a3 := one_more W3 (.cells #[.int .i64 0, .int .i64 0] 29)
      have g4 := g13.trans (a3.mono g13.size)
      have E := decoded_any B _ _ fs (l.drop a) (W3.alloc (.cells #[.int .i64 0, .int .i64 0] 29)) (FA.out.below (g4.mono hB1)) ((LA.out.below (g4.mono hB1)).drop F4.out) (Nat.le_trans hB1 g4.size) O.out.1 HDL.out
      have HE := Lib.hid E
      clear E g4 hb3 g3 g13 a3 a2
      go_wp2_with fail
      refine HE.out.mono ?_
      rintro e W4 ⟨hcase, hb4⟩
      rcases hcase with ⟨k', f', xs', av', hgood, rfl, hrow⟩ | ⟨hno, -⟩
      rotate_left
      · exact absurd ⟨k, f, xs, O.out.2.2.2⟩ hno
      obtain ⟨rfl, rfl, rfl⟩ := good_same O.out.2.2.2 hgood
      obtain ⟨A5, c5, rfl⟩ := row_is hrow
      have a3 := one_more W3 (.cells #[.int .i64 0, .int .i64 0] 29)
      have g34 := a3.trans (hb4.mono a3.size)
      have u1 := T1.out.below g34
      have g14 := G13.out.trans (g34.mono G13.out.size)
      have w4 := HW1.out.trans (g14.mono HW1.out.size)
      skip
      have HW4 := Lib.hid w4
      have HG14 := Lib.hid g14
      have HROW := Lib.hid hrow
      obtain ⟨q0, q1, q2, q3⟩ := u1
      have y1 := block_lt_of_cell q0
      obtain ⟨m, hm⟩ : ∃ m, m = xs'.length := ⟨_, rfl⟩
      have hmk : m = f'.kinds.length := by rw [hm]; exact HXL.out
      rw [← hm] at HROW ⊢
      have HMK := Lib.hid hmk
      have HM := Lib.hid hm
      have hwr := len_wrap (m := m) (by rw [hmk]; exact HSH.out)
      have d := HG.out.below (w4.mono hB) HB1.out
      have hkf := (FA.out.below (g14.mono hB1)).kinds (List.mem_of_getElem? HX.out)
      have HKF := Lib.hid hkf
      have HB4 := Lib.hid (Nat.le_trans hB w4.size)
      clear hb4 a3 g34 w4 r0 r1 r2 r3 g14 hrow hgood hmk hm
      rcases HPW.out with ⟨hpi, hout⟩ | ⟨hpi, j, rfl, hj, hfar⟩
      · injection hpi with h1 h2
        subst h1
        subst h2
        have I1 := Lib.hid (in_out (n := m) (by rw [HMK.out]; exact hout))
        clear d hout
        go_wp2_with fail
        refine (in_any _ _ _ _).mono ?_
        rintro e w' ⟨rfl, rfl⟩
        rw [I1.out]
        go_wp2_with fail
        have a5 := one_more W4 (.cells #[.int .i64 (k' : Int), .slice A5 m c5] 25)
        have e0 := cell_below q0 a5
        have e1 := cell_below q1 a5
        obtain ⟨W5, hW5⟩ : ∃ W5, W5 = W4.alloc (.cells #[.int .i64 (k' : Int), .slice A5 m c5] 25) := ⟨_, rfl⟩
        rw [← hW5] at a5 e0 e1 ⊢
        have HFN := Lib.hid (HW4.out.trans (a5.mono HW4.out.size))
        have KS : Hid (∀ W', Below W5.heap.size W5 W' → _) := Lib.hid (fun W' hb' => And.intro (cell_below e0 hb') (cell_below e1 hb'))
        have hcur : Below W5.heap.size W5 W5.drew := (Below.refl _ _).drew
        clear hW5 a5 q0 q1 q2 q3
        go_region_held3 (fun W' => W'.cell? ⟨W2.heap.size, 0, none⟩ = some (.int .i64 3) ∧ W'.cell? ⟨W2.heap.size, 1, none⟩ = some (.int .i64 (-6)))
          (first | exact KS.out _ hcur)
          (first
            | (go_at_call 16; refine (at_any _ _ _).mono ?_; rintro e W7 ⟨rfl, hb7⟩; have hcur := hcur.trans (hb7.mono hcur.size)))
        go_wp2_with fail
        refine bodyPost_ret (v := .bool true) (by simp [results, Try.results5, go_sem]) rfl ⟨rfl, HFN.out.trans (hcur.mono HFN.out.size)⟩
      · injection hpi with h1 h2
        subst h1
        subst h2
        have ho := (out_here HXL.out O.out.enc.2.2.2 hj).1 hfar
        have hjm : j < m := by rw [HMK.out]; exact hj
        have I1 := Lib.hid (in_in (n := m) (k := j) hjm)
        obtain ⟨b3, p3, c3, e3, g3⟩ := kinds_cell_at hkf hj
        obtain ⟨nm, q, kv, ks⟩ := f'
        obtain ⟨d0, d1, d2⟩ := d
        dsimp only at e3 d0 d1 d2 g3 ho HKF hj
        obtain ⟨kj, hkj⟩ : ∃ kj, kj = ks[j]?.getD 0 := ⟨_, rfl⟩
        rw [← hkj] at g3 ho
        subst e3
        have I2 := Lib.hid (in_lim kj val)
        have HOJ := Lib.hid ho
        have a5 := one_more W4 (.cells #[.int .i64 (k' : Int), .slice A5 m c5] 25)
        have d2' := cell_below d2 a5
        have g3' := cell_below g3 a5
        have hb1L := block_lt_of_cell d2'
        have hb3L := block_lt_of_cell g3'
        have hji : (j : Int) < ((ks.length : Nat) : Int) := small_int hj
        have hj0 : (0 : Int) ≤ (j : Int) := Int.natCast_nonneg _
        clear hfar hkj a5 d0 d1 d2 g3 ho hkf
        go_wp2_with fail
        refine (in_any _ _ _ _).mono ?_
        rintro e w' ⟨rfl, rfl⟩
        rw [I1.out]
        go_wp2_with fail
        refine (limits_any _ _).mono ?_
        rintro e w' ⟨rfl, rfl⟩
        go_wp2_with fail
        refine (in_any _ _ _ _).mono ?_
        rintro e w' ⟨rfl, rfl⟩
        rw [I2.out, HOJ.out]
        go_wp2_with fail
        have a5 := one_more W4 (.cells #[.int .i64 (k' : Int), .slice A5 m c5] 25)
        have e0 := cell_below q0 a5
        have e1 := cell_below q1 a5
        obtain ⟨W5, hW5⟩ : ∃ W5, W5 = W4.alloc (.cells #[.int .i64 (k' : Int), .slice A5 m c5] 25) := ⟨_, rfl⟩
        rw [← hW5] at a5 e0 e1 ⊢
        have HFN := Lib.hid (HW4.out.trans (a5.mono HW4.out.size))
        have KS : Hid (∀ W', Below W5.heap.size W5 W' → _) := Lib.hid (fun W' hb' => And.intro (cell_below e0 hb') (cell_below e1 hb'))
        have hcur : Below W5.heap.size W5 W5.drew := (Below.refl _ _).drew
        clear hW5 a5 q0 q1 q2 q3
        go_region_held3 (fun W' => W'.cell? ⟨W2.heap.size, 0, none⟩ = some (.int .i64 16) ∧ W'.cell? ⟨W2.heap.size, 1, none⟩ = some (.int .i64 (-7)))
          (first | exact KS.out _ hcur)
          (first
            | (go_at_call 16; refine (at_any _ _ _).mono ?_; rintro e W7 ⟨rfl, hb7⟩; have hcur := hcur.trans (hb7.mono hcur.size)))
        go_wp2_with fail
        refine bodyPost_ret (v := .bool true) (by simp [results, Try.results5, go_sem]) rfl ⟨rfl, HFN.out.trans (hcur.mono HFN.out.size)⟩
    · have hj1 := hj.1
      go_wp2_with fail
      refine (pat_calls O.out hj _ _ _ _ FA.out LA.out hB1).mono ?_
      rintro e W2 ⟨G, cG, rfl, hPB, hb2⟩
      have a2 := one_more W2 (.cells #[.int .i64 0, .int .i64 0] 29)
      have g2 := hb2.trans (a2.mono hb2.size)
      have D := decodeFault_any B _ _ fs l (a : Int) _ (FA.out.below (g2.mono hB1)) (LA.out.below (g2.mono hB1)) (Nat.le_trans hB1 g2.size)
      rw [HDF.out] at D
      have HD := Lib.hid D
      have HB2 := Lib.hid hb2
      have PB := Lib.hid hPB
      clear D a2 g2 hb2
      go_wp2_with fail
      refine HD.out.mono ?_
      rintro e W3 ⟨rfl, hb3⟩
      have t1 := (Two.new W2 (.int .i64 0) (.int .i64 0) 29).below hb3
      have a2 := one_more W2 (.cells #[.int .i64 0, .int .i64 0] 29)
      have g3 := a2.trans (hb3.mono a2.size)
      have g13 := HB2.out.trans (g3.mono HB2.out.size)
      have PB3 := Lib.hid ((PB.out.below g3).more g3.size)
      have T1 := Lib.hid t1
      have G13 := Lib.hid g13
      have z1 := t1.lt
      obtain ⟨r0, r1, r2, r3⟩ := t1
      have a3 := one_more W3 (.cells #[.int .i64 0, .int .i64 0] 29)
      have g4 := g13.trans (a3.mono g13.size)
      have E := decoded_any B _ _ fs (l.drop a) (W3.alloc (.cells #[.int .i64 0, .int .i64 0] 29)) (FA.out.below (g4.mono hB1)) ((LA.out.below (g4.mono hB1)).drop F4.out) (Nat.le_trans hB1 g4.size) O.out.1 HDL.out
      have HE := Lib.hid E
      clear E g4 hb3 g3 g13 a3 a2
      go_wp2_with fail
      refine HE.out.mono ?_
      rintro e W4 ⟨hcase, hb4⟩
      rcases hcase with ⟨k', f', xs', av', hgood, rfl, hrow⟩ | ⟨hno, -⟩
      rotate_left
      · exact absurd ⟨k, f, xs, O.out.2.2.2⟩ hno
      obtain ⟨rfl, rfl, rfl⟩ := good_same O.out.2.2.2 hgood
      obtain ⟨A5, c5, rfl⟩ := row_is hrow
      have a3 := one_more W3 (.cells #[.int .i64 0, .int .i64 0] 29)
      have g34 := a3.trans (hb4.mono a3.size)
      have u1 := T1.out.below g34
      have g14 := G13.out.trans (g34.mono G13.out.size)
      have w4 := HW1.out.trans (g14.mono HW1.out.size)
      have HW4 := Lib.hid w4
      have HSB := Lib.hid (show W3.heap.size ≤ (W3.alloc (.cells #[.int .i64 0, .int .i64 0] 29)).heap.size from a3.size)
      have G34 := Lib.hid g34
      have HG14 := Lib.hid g14
      have HROW := Lib.hid hrow
      obtain ⟨q0, q1, q2, q3⟩ := u1
      have y1 := block_lt_of_cell q0
      obtain ⟨m, hm⟩ : ∃ m, m = xs'.length := ⟨_, rfl⟩
      have hmk : m = f'.kinds.length := by rw [hm]; exact HXL.out
      rw [← hm] at HROW ⊢
      have HMK := Lib.hid hmk
      have HM := Lib.hid hm
      have hwr := len_wrap (m := m) (by rw [hmk]; exact HSH.out)
      have d := HG.out.below (w4.mono hB) HB1.out
      have hkf := (FA.out.below (g14.mono hB1)).kinds (List.mem_of_getElem? HX.out)
      have HKF := Lib.hid hkf
      have HB4 := Lib.hid (Nat.le_trans hB w4.size)
      clear hb4 a3 g34 w4 r0 r1 r2 r3 g14 hrow hgood hmk hm
      have ho := (out_here HXL.out O.out.enc.2.2.2 hj1).2 hj.2
      have hjm : j < m := by rw [HMK.out]; exact hj1
      have I1 := Lib.hid (in_in (n := m) (k := j) hjm)
      obtain ⟨b3, p3, c3, e3, g3⟩ := kinds_cell_at hkf hj1
      obtain ⟨g5, c9, e5, -⟩ := row_some HROW.out (Nat.lt_of_le_of_lt (Nat.zero_le _) hjm)
      injection e5 with e5a e5b e5c
      subst e5a
      subst e5c
      have hfit := O.out.fits
      have hin := inside_of_idx (by rw [List.length_set]; exact HXL.out) hj.2
      obtain ⟨nm, q, kv, ks⟩ := f'
      obtain ⟨d0, d1, d2⟩ := d
      dsimp only at e3 d0 d1 d2 g3 ho HKF hj1 hfit hin
      obtain ⟨kj, hkj⟩ : ∃ kj, kj = ks[j]?.getD 0 := ⟨_, rfl⟩
      rw [← hkj] at g3 ho
      subst e3
      have I2 := Lib.hid (in_lim kj val)
      have HOJ := Lib.hid ho
      have HIN := Lib.hid hin
      have HFIT := Lib.hid hfit
      have a5 := one_more W4 (.cells #[.int .i64 (k' : Int), .slice (some ⟨g5, 0, none⟩) m c5] 25)
      have d2' := cell_below d2 a5
      have g3' := cell_below g3 a5
      have hb1L := block_lt_of_cell d2'
      have hb3L := block_lt_of_cell g3'
      have hji : (j : Int) < ((ks.length : Nat) : Int) := small_int hj1
      have hjmi : (j : Int) < (m : Int) := small_int hjm
      have hj0 : (0 : Int) ≤ (j : Int) := Int.natCast_nonneg _
      have hro := HROW.out.alloc (.cells #[.int .i64 (k' : Int), .slice (some ⟨g5, 0, none⟩) m c5] 25)
      have hm5 : xs'.length = m := HM.out.symm
      have gj := iv_cell hro j (by rw [hm5]; exact hjm)
      have gf : (W4.alloc (.cells #[.int .i64 (k' : Int), .slice (some ⟨g5, 0, none⟩) m c5] 25)).frozen? ⟨g5, j, none⟩ = false := hro.frozenAt j
      have hst := hro.stored j (.int .i64 val)
      rw [iv_set] at hst
      have h5L := (HROW.out.lt g5 rfl)
      have hx4 := (Two.new W4 (.int .i64 (k' : Int)) (.slice (some ⟨g5, 0, none⟩) m c5) 25).grown (grown_set _ g5 j (.int .i64 val)) (Nat.ne_of_gt h5L.2)
      have g36 := (G34.out.trans (a5.mono G34.out.size)).setCell (p := ⟨g5, j, none⟩) (Nat.le_trans HSB.out h5L.1) (.int .i64 val)
      have G36 := Lib.hid g36
      have HX4 := Lib.hid hx4
      have HST := Lib.hid hst.1
      clear hkj a5 d0 d1 d2 g3 ho hkf hin hfit hro hm5 hst h5L hx4 g36 hj
      go_wp2_with fail
      refine (in_any _ _ _ _).mono ?_
      rintro e w' ⟨rfl, rfl⟩
      rw [I1.out]
      go_wp2_with fail
      refine (limits_any _ _).mono ?_
      rintro e w' ⟨rfl, rfl⟩
      go_wp2_with fail
      refine (in_any _ _ _ _).mono ?_
      rintro e w' ⟨rfl, rfl⟩
      rw [I2.out, HOJ.out]
      go_wp2_with fail
      obtain ⟨W6, hW6⟩ : ∃ W6, W6 = (W4.alloc (.cells #[.int .i64 (k' : Int), .slice (some ⟨g5, 0, none⟩) m c5] 25)).setCell ⟨g5, j, none⟩ (.int .i64 val) := ⟨_, rfl⟩
      rw [← hW6] at G36 HX4 HST ⊢
      have g16 := G13.out.trans (G36.out.mono G13.out.size)
      have hB6 := Nat.le_trans hB1 g16.size
      have G16 := Lib.hid g16
      have C := copy_any B _ l W6 (LA.out.below (g16.mono hB1)) O.out.2.1
      have HC := Lib.hid C
      have HB6 := Lib.hid hB6
      clear C hW6 g16 hB6 q0 q1 q2 q3 y1 z1 d2' g3' gj gf hb1L hb3L
      refine HC.out.mono ?_
      rintro e W7 ⟨v7, rfl, hr7, hb7⟩
      have hl0 : 0 < l.length := Nat.lt_of_le_of_lt (Nat.zero_le _) O.out.2.2.1
      obtain ⟨g7, c7, rfl, hc7⟩ := row_some hr7 hl0
      have hx7 := HX4.out.below hb7
      have g17 := G16.out.trans (hb7.mono G16.out.size)
      have d := HG.out.below ((HW1.out.trans (g17.mono HW1.out.size)).mono hB) HB1.out
      have hkf := (FA.out.below (g17.mono hB1)).kinds (List.mem_of_getElem? HX.out)
      have hB7 := Nat.le_trans hB1 g17.size
      have hxl : (xs'.set j val).length = ks.length := by rw [List.length_set]; exact HXL.out
      have hm4 : m ≤ 4 := by rw [HMK.out]; exact HSH.out
      have hka := kinds_of_row (row_below HST.out hb7) (Nat.le_trans hm4 (by decide))
      obtain ⟨d0, d1, d2⟩ := d
      dsimp only at d0 d1 d2 hkf
      have hz1 := block_lt_of_cell d0
      have hz2 := hx7.lt
      obtain ⟨x0, x1, -, -⟩ := hx7
      have KS : Hid (∀ W', Below W7.heap.size W7 W' → _) := Lib.hid (fun W' hb' => pat_keep5 hb' d0 d1 d2 x0 x1)
      have CC : Hid (∀ W', Below W7.heap.size W7 W' → _) := Lib.hid (fun W' hb' => code_any W7.heap.size nm q _ _ ks (xs'.set j val) W' ((hkf.more hB7).below hb') (hka.below hb') hb'.size hxl HSH.out HKN.out HIN.out)
      have HR7 := Lib.hid hr7
      have HB7 := Lib.hid hb7
      have HXL2 := Lib.hid hxl
      have hcur : Below W7.heap.size W7 W7.drew := (Below.refl _ _).drew
      clear hb7 g17 hkf hB7 hxl hm4 hka hr7
      go_wp2_with fail
      go_region_held3 (fun W' => (W'.cell? ⟨b1, p1 + k' * 3, none⟩ = some (.string nm) ∧ W'.cell? ⟨b1, p1 + k' * 3 + 1, none⟩ = some (.int .i64 q) ∧ W'.cell? ⟨b1, p1 + k' * 3 + 2, none⟩ = some (.slice (some ⟨b3, p3, none⟩) ks.length c3)) ∧ W'.cell? ⟨W4.heap.size, 0, none⟩ = some (.int .i64 (k' : Int)) ∧ W'.cell? ⟨W4.heap.size, 1, none⟩ = some (.slice (some ⟨g5, 0, none⟩) m c5))
        (first | exact KS.out _ hcur)
        (first
          | (go_at_call 11; refine (CC.out _ hcur).mono ?_; rintro e W8 ⟨v8, rfl, hr8, hb8⟩; have hcur2 := hcur; obtain ⟨g8, c8, rfl, hc8⟩ := row_some hr8 (size_pos ks); have hcur := hcur.trans (hb8.mono hcur.size)))
      go_wp2_with fail
      have hel : (encL q (ks.zip (xs'.set j val))).length = sizeOf ks := encL_length HXL2.out
      obtain ⟨ec, hec⟩ : ∃ ec, ec = encL q (ks.zip (xs'.set j val)) := ⟨_, rfl⟩
      rw [← hec] at hel hr8
      have hg7 : g7 < g8 := Nat.lt_of_lt_of_le (HR7.out.lt g7 rfl).2 (hr8.lt g8 rfl).1
      have HEC := Lib.hid hec
      have HEL := Lib.hid hel
      have HG7 := Lib.hid hg7
      have R8 := Lib.hid (row_base hr8 (Nat.le_refl W7.heap.size))
      have R7 := Lib.hid (row_below HR7.out hcur)
      have B68 := Lib.hid (HB7.out.trans (hcur.mono HB7.out.size))
      have HFT := Lib.hid (show a + ec.length ≤ l.length by rw [hel]; exact HFIT.out)
      have HSZ := Lib.hid (sizeOf_le HSH.out)
      have HL15 := Lib.hid O.out.2.1
      clear hec hel hg7 hcur hcur2 hr8 hb8 x0 x1 d0 d1 d2 hz1 hz2
      go_loopw [20] (fun i w9 => ∃ t : Nat, t ≤ sizeOf ks ∧ i = .int .i64 (t : Int) ∧ Hid (w9.ownsRow W6.heap.size 5 1 (.slice (some ⟨g7, 0, none⟩) l.length c7) l.length (bv (patchK l a ec t))) ∧ Hid (w9.ownsRow W7.heap.size 5 1 (.slice (some ⟨g8, 0, none⟩) (sizeOf ks) c8) (sizeOf ks) (bv ec)) ∧ Hid (Below W6.heap.size W6 w9)) (fun i _ => sizeOf ks - (intOf i).toNat)
      case atStart =>
        refine ⟨0, Nat.zero_le _, rfl, Lib.hid ?_, R8, B68⟩
        rw [patchK_zero]
        exact R7.out
      case round =>
        obtain ⟨t, ht, rfl, HW, HN, HBW⟩ := hrel
        by_cases hlt : t < sizeOf ks
        · have hte : t < ec.length := by rw [HEL.out]; exact hlt
          have gn := bv_cell HN.out t hte
          have hpl := patchK_length (t := t) HFT.out (Nat.le_of_lt hte)
          have hst : a + t < l.length := Nat.lt_of_lt_of_le (Nat.add_lt_add_left hte a) HFT.out
          have gw := bv_cell HW.out (a + t) (by rw [hpl]; exact hst)
          have gz : wr.frozen? ⟨g7, a + t, none⟩ = false := HW.out.frozenAt (a + t)
          obtain ⟨hw1, hw2, hw3, hw4⟩ := pat_sum hst HL15.out
          obtain ⟨y, hy⟩ : ∃ y, y = ec[t]?.getD 0 := ⟨_, rfl⟩
          obtain ⟨z, hz⟩ : ∃ z, z = (patchK l a ec t)[a + t]?.getD 0 := ⟨_, rfl⟩
          rw [← hy] at gn
          rw [← hz] at gw
          have HNX := Lib.hid (patchK_next HFT.out hte hy)
          have HRR := Lib.hid (dec_round hlt (Nat.le_trans HSZ.out (by decide)))
          obtain ⟨sI, hs⟩ : ∃ sI, sI = a + t := ⟨_, rfl⟩
          rw [← hs] at gw gz hw1 hw2 hw3 hw4
          have hb7L := block_lt_of_cell gw
          have hb8L := block_lt_of_cell gn
          have hst2 := HW.out.stored sI (.int .u8 (y.toNat : Int))
          have hn2 := HN.out.kept hst2.2 (.inr (by have := HG7.out; simp [Value.ownBlock]; omega))
          rw [bv_set, hs, HNX.out] at hst2
          have hbb := HBW.out.setCell (p := ⟨g7, sI, none⟩) (HW.out.lt g7 rfl).1 (.int .u8 (y.toNat : Int))
          have HQ1 := Lib.hid hst2.1
          have HQ2 := Lib.hid hn2
          have HQ3 := Lib.hid hbb
          have hti : (t : Int) < ((sizeOf ks : Nat) : Int) := small_int hlt
          rw [← hs] at HQ1
          clear hst2 hn2 hbb hy hz hs hpl hst hte ht
          go_wp2_with fail
          first | rw [HRR.out.1] | rw [show (t : Int) + 1 = ((t + 1 : Nat) : Int) from rfl]
          exact ⟨⟨t + 1, hlt, rfl, HQ1, HQ2, HQ3⟩, HRR.out.2⟩
        · have hts : t = sizeOf ks := Nat.le_antisymm ht (Nat.not_lt.1 hlt)
          have hti : ¬ (t : Int) < ((sizeOf ks : Nat) : Int) := by omega
          have t9 := (T1.out.below G36.out).below (HBW.out.mono (Nat.le_refl _))
          have hz9 := t9.lt
          obtain ⟨s0, s1, -, -⟩ := t9
          have PB9 := (PB3.out.below G36.out).below (HBW.out.mono G36.out.size)
          have WB9 := bytes_of_row2 HW.out (Nat.le_trans HL15.out (by decide))
          have heq : patched l a ⟨nm, q, .slice (some ⟨b3, p3, none⟩) ks.length c3, ks⟩ (xs'.set j val) = patchK l a ec t := by
            have h8 : ec.take t = ec := List.take_of_length_le (by rw [HEL.out, hts]; exact Nat.le_refl _)
            unfold patched patchK
            rw [h8, HEC.out, hts]
          have BC := bytes_any wr.heap.size _ _ _ _ wr (PB9.more (Nat.le_trans G36.out.size HBW.out.size)) WB9
          rw [decide_eq_true heq] at BC
          have HBC := Lib.hid BC
          have HFN := Lib.hid ((HW1.out.trans (G16.out.mono HW1.out.size)).trans (HBW.out.mono (Nat.le_trans HW1.out.size G16.out.size)))
          clear PB9 WB9 heq BC ht hts hlt
          go_wp2_with fail
          refine HBC.out.mono ?_
          rintro e W9 ⟨rfl, rfl⟩
          go_wp2_with fail
          refine bodyPost_ret (v := .bool true) (by simp [results, Try.results5, go_sem]) rfl ⟨rfl, HFN.out⟩
end Go.Proofs.Ytianmiipnlkihaa
