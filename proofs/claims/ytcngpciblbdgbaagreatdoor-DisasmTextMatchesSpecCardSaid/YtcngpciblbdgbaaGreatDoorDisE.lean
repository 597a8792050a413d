/- Contract of Text: the text of an instruction. Conditions: what the listed variables of the library hold; the table reads as forms, the instruction as numbers, which are ints. -/
import Derived.Test.YtcngpciblbdgbaaGreatDoorDisD
namespace Go.Proofs.YtcngpciblbdgbaaGreatDoor
open Go Go.RowKit Go.Shelf
/-! ## the text, operand by operand -/
theorem join_snoc : ∀ (l : List (List UInt8)) (x : List UInt8), l ≠ [] → joinS (l ++ [x]) = joinS l ++ 44 :: 32 :: x
  | [], _, h => absurd rfl h
  | [a], x, _ => rfl
  | a :: b :: r, x, _ => by
    have ih := join_snoc (b :: r) x (by simp)
    rw [List.cons_append, join_cons a (by simp), ih, join_cons a (by simp)]
    simp
def sepT (j : Nat) : List UInt8 := if j = 0 then [32] else [44, 32]
theorem insT_next {nm : List UInt8} {ops : List (List UInt8)} {j : Nat} (hj : j < ops.length) : insT nm (ops.take (j + 1)) = insT nm (ops.take j) ++ (sepT j ++ ops[j]) := by
  rw [← List.take_append_getElem hj]
  unfold insT sepT
  rw [if_neg (by intro h; have := congrArg List.length h; rw [List.length_append] at this; simp at this)]
  by_cases h0 : j = 0
  · subst h0
    simp [joinS]
  · have hne : ops.take j ≠ [] := by
      intro h
      have := congrArg List.length h
      rw [List.length_take, List.length_nil] at this
      omega
    rw [if_neg hne, join_snoc _ _ hne, if_neg h0]
    simp
def opsT (ks xs : List Int) : List (List UInt8) := List.zipWith opT ks xs
theorem opsT_length {ks xs : List Int} (h : xs.length = ks.length) : (opsT ks xs).length = ks.length := by unfold opsT; rw [List.length_zipWith]; omega
theorem opsT_at {ks xs : List Int} (h : xs.length = ks.length) {j : Nat} (hj : j < (opsT ks xs).length) : (opsT ks xs)[j] = opT (ks[j]?.getD 0) (xs[j]?.getD 0) := by
  have h1 : j < ks.length := by rw [← opsT_length h]; exact hj
  rw [List.getElem?_eq_getElem h1, List.getElem?_eq_getElem (show j < xs.length by omega)]
  simp only [opsT, List.getElem_zipWith, Option.getD_some]
theorem opT_len {k a : Int} (h0 : -9223372036854775808 ≤ a) (h1 : a ≤ 9223372036854775807) : (opT k a).length ≤ 28 := by
  have h2 := lead_len k
  have h3 := Lib.itoa_length_le a h0 h1
  unfold opT numT
  rw [List.length_append]
  split <;> simp <;> omega
theorem sep_len (j : Nat) : (sepT j).length ≤ 2 := by unfold sepT; split <;> simp
theorem FormOk.name {f : Frm} (h : FormOk f) : nameOk f.name = true := by
  unfold FormOk at h
  rw [formFault_eq] at h
  cases hu : nameOk f.name with
  | true => rfl
  | false =>
    exfalso
    rw [hu] at h
    revert h
    repeat' split
    all_goals (first | (simp; done) | simp_all)
def textT (nl : List UInt8) (ks xs : List Int) (j : Nat) : List UInt8 := insT nl ((opsT ks xs).take j)
theorem textT_next {nl : List UInt8} {ks xs : List Int} {j : Nat} (hl : xs.length = ks.length) (hj : j < ks.length) : textT nl ks xs (j + 1) = textT nl ks xs j ++ (sepT j ++ opT (ks[j]?.getD 0) (xs[j]?.getD 0)) := by
  have h1 : j < (opsT ks xs).length := by rw [opsT_length hl]; exact hj
  unfold textT
  rw [insT_next h1, opsT_at hl h1]
theorem textT_all {nl : List UInt8} {ks xs : List Int} (hl : xs.length = ks.length) : textT nl ks xs ks.length = insT nl (opsT ks xs) := by
  unfold textT
  rw [List.take_of_length_le (by rw [opsT_length hl]; exact Nat.le_refl _)]
theorem arg_range {ks xs : List Int} (hi : insideAll ks xs) {j : Nat} (hj : j < ks.length) : -9223372036854775808 ≤ xs[j]?.getD 0 ∧ xs[j]?.getD 0 ≤ 9223372036854775807 := by
  have := in_range (hi j hj)
  omega
theorem textT_len {nl : List UInt8} {ks xs : List Int} (hl : xs.length = ks.length) (hi : insideAll ks xs) (hn : nl.length ≤ 16) : ∀ j, j ≤ ks.length → (textT nl ks xs j).length ≤ 16 + 30 * j
  | 0, _ => by simpa [textT, insT] using hn
  | j + 1, h => by
    have ih := textT_len hl hi hn j (by omega)
    have hr := arg_range hi (show j < ks.length by omega)
    have h2 := opT_len (k := ks[j]?.getD 0) hr.1 hr.2
    have h3 := sep_len j
    rw [textT_next hl (by omega), List.length_append, List.length_append]
    omega
theorem text_fit {nl : List UInt8} {ks xs : List Int} (hl : xs.length = ks.length) (hi : insideAll ks xs) (hn : nl.length ≤ 16) (h4 : ks.length ≤ 4) {j : Nat} (hj : j < ks.length) :
    (sepT j).length + (opT (ks[j]?.getD 0) (xs[j]?.getD 0)).length ≤ 9223372036854775807 ∧ (textT nl ks xs j).length + ((sepT j).length + (opT (ks[j]?.getD 0) (xs[j]?.getD 0)).length) ≤ 9223372036854775807 := by
  have h1 := textT_len hl hi hn j (by omega)
  have hr := arg_range hi hj
  have h2 := opT_len (k := ks[j]?.getD 0) hr.1 hr.2
  have h3 := sep_len j
  omega
set_option maxRecDepth 100000 in
set_option maxHeartbeats 1000000 in
theorem text_bad (B : Nat) (v av : Value) (fs : List Frm) (form : Int) (xs : List Int) (p i : Int) (w : World) (h : FormsAt B w v fs) (ha : KindsAt B w av xs) (hB : B ≤ w.heap.size) (hp : p ≠ 0) (E : EncBad fs form xs p i) :
    Calls Tryz.prog 15 #[v, .agg #[.int .i64 form, av]] w fun e w' => e = .returned (.tuple #[strV [], faultV (p, i)]) ∧ Below w.heap.size w w' := by
  have bx := two_more w (.cells #[.int .i64 form, av] 34) (.cells #[.int .i64 0, .int .i64 0] 27)
  have t1 := (Two.new w (.int .i64 form) av 34).below (one_more _ (.cells #[.int .i64 0, .int .i64 0] 27))
  have t2 := Two.new (w.alloc (.cells #[.int .i64 form, av] 34)) (.int .i64 0) (.int .i64 0) 27
  rw [World.size_alloc] at t2
  have C := E B v av _ (h.below (bx.mono hB)) (ha.below (bx.mono hB)) (Nat.le_trans hB bx.size)
  obtain ⟨A, n, c, rfl, -⟩ := h.opens
  obtain ⟨A1, n1, c1, rfl, -⟩ := ha.opens
  have HC := Lib.hid C
  have HT1 := Lib.hid t1
  have HT2 := Lib.hid t2
  have HBX := Lib.hid bx
  have hpz : (p == 0) = false := by simpa using hp
  have hpn : (p != 0) = true := by simpa using hp
  clear C t1 t2 bx h ha
  go_enter Tryz.func15, Tryz.ntmps15
  go_wp2_with fail
  refine HC.out.mono ?_
  rintro e W1 ⟨rfl, hb1⟩
  have a3 := one_more W1 (.cells #[.int .i64 p, .int .i64 i] 27)
  have g := hb1.trans (a3.mono hb1.size)
  have q2 := HT2.out.below g
  have u := Two.new W1 (.int .i64 p) (.int .i64 i) 27
  have hz := q2.lt
  have hz2 := u.lt
  have HFN := Lib.hid (HBX.out.trans (g.mono HBX.out.size))
  have hne : ¬ w.heap.size + 1 = W1.heap.size := by have := (HT2.out.below hb1).lt; omega
  have hne' : ¬ W1.heap.size = w.heap.size + 1 := fun h => hne h.symm
  obtain ⟨q0, q1, q2', q3⟩ := q2
  obtain ⟨u0, u1, u2, u3⟩ := u
  clear a3 g hb1
  go_wp2_with fail
  obtain ⟨W2, hW2⟩ : ∃ W2, W2 = W1.alloc (.cells #[.int .i64 p, .int .i64 i] 27) := ⟨_, rfl⟩
  rw [← hW2] at q0 q1 q2' q3 u0 u1 u2 u3 hz hz2 HFN ⊢
  clear hW2
  go_region
  all_goals go_wp2
  refine bodyPost_ret (v := .tuple #[strV [], faultV (p, i)]) ?_ rfl ⟨rfl, ?_⟩
  · simp [results, Tryz.results15, go_sem, q0, q1]
  · exact ((HFN.out.setCell (p := ⟨w.heap.size + 1, 0, none⟩) (Nat.le_succ _) _).setCell (p := ⟨w.heap.size + 1, 1, none⟩) (Nat.le_succ _) _).drew
set_option maxRecDepth 100000 in
set_option maxHeartbeats 2000000 in
theorem text_ok (B : Nat) (v av : Value) (fs : List Frm) (k : Nat) (f : Frm) (xs : List Int) (w : World) (h : FormsAt B w v fs) (ha : KindsAt B w av xs) (hB : B ≤ w.heap.size) (hV : VarsAt B w) (o : EncOk fs k xs f) :
    Calls Tryz.prog 15 #[v, .agg #[.int .i64 (k : Int), av]] w fun e w' => e = .returned (.tuple #[strV (insT f.name.data.toList (opsT f.kinds xs)), faultV (0, 0)]) ∧ Below w.heap.size w w' := by
  have bx := two_more w (.cells #[.int .i64 (k : Int), av] 34) (.cells #[.int .i64 0, .int .i64 0] 27)
  have t1 := (Two.new w (.int .i64 (k : Int)) av 34).below (one_more _ (.cells #[.int .i64 0, .int .i64 0] 27))
  have t2 := Two.new (w.alloc (.cells #[.int .i64 (k : Int), av] 34)) (.int .i64 0) (.int .i64 0) 27
  rw [World.size_alloc] at t2
  have C := o.calls B v av _ (h.below (bx.mono hB)) (ha.below (bx.mono hB)) (Nat.le_trans hB bx.size)
  have hx := o.2.1
  have hok := valid_form o.1 (List.mem_of_getElem? hx)
  obtain ⟨A, n, c, rfl, hfs, -, -, hop⟩ := h.opens
  obtain ⟨A1, n1, c1, rfl, hl1, -, -⟩ := ha.opens
  have hkn : k < n := by rw [← hfs.out]; exact (List.getElem?_eq_some_iff.1 hx).1
  obtain ⟨b1, p1, rfl, hb1, hg⟩ := hop (Nat.lt_of_le_of_lt (Nat.zero_le _) hkn)
  have HG := Lib.hid (hg k f hx)
  have HB1 := Lib.hid hb1
  have HC := Lib.hid C
  have HT1 := Lib.hid t1
  have HT2 := Lib.hid t2
  have HBX := Lib.hid bx
  have HF := Lib.hid h
  have HA := Lib.hid ha
  have HV := Lib.hid hV
  have HX := Lib.hid hx
  have HO := Lib.hid o
  have HSH := Lib.hid hok.short
  have HNM := Lib.hid hok.name
  have HLL := Lib.hid o.2.2.1
  have HIN := Lib.hid (inside_of_idx o.2.2.1 o.2.2.2)
  have hki : (k : Int) < (n : Int) := small_int hkn
  have hk0 : (0 : Int) ≤ (k : Int) := Int.natCast_nonneg _
  clear C t1 t2 bx h ha hV hx o hok hop hg hb1 hkn
  go_enter Tryz.func15, Tryz.ntmps15
  go_wp2_with fail
  refine HC.out.mono ?_
  rintro e W1 ⟨R, rfl, -, hb1⟩
  have a3 := one_more W1 (.cells #[.int .i64 0, .int .i64 0] 27)
  have g := hb1.trans (a3.mono hb1.size)
  have w1 := HBX.out.trans (g.mono HBX.out.size)
  have x := HT1.out.below g
  have q2 := HT2.out.below g
  have d := HG.out.below (w1.mono hB) HB1.out
  have hkf := (HF.out.below (w1.mono hB)).kinds (List.mem_of_getElem? HX.out)
  have ha1 := HA.out.below (w1.mono hB)
  have hv1 := HV.out.below (w1.mono hB)
  obtain ⟨nm, q, kv, ks⟩ := f
  obtain ⟨A3, n3, c3, e3, hl3, -, -⟩ := hkf.opens
  dsimp only at e3
  subst e3
  obtain ⟨nl, rfl⟩ : ∃ nl : List UInt8, nm = ⟨nl.toArray⟩ := ⟨nm.data.toList, by simp⟩
  have hnl : nl.length ≤ 16 := by
    have := HNM.out
    simp [nameOk] at this
    have h2 := this.2.2
    exact h2
  have HNL := Lib.hid hnl
  obtain ⟨d0, d1, d2⟩ := d
  dsimp only at d0 d1 d2 hkf hl3 HSH HLL HIN ⊢
  have bf := one_more (W1.alloc (.cells #[.int .i64 0, .int .i64 0] 27)) (.cells #[strV nl, .int .i64 q, .slice A3 n3 c3] 39)
  have hz1 := block_lt_of_cell d0
  have hz2 := x.lt
  have hB2 : B ≤ (W1.alloc (.cells #[.int .i64 0, .int .i64 0] 27)).heap.size := Nat.le_trans hB w1.size
  have HX2 := Lib.hid (x.below bf)
  have HQ2 := Lib.hid (q2.below bf)
  have HKF := Lib.hid (hkf.below (bf.mono hB2))
  have HA1 := Lib.hid (ha1.below (bf.mono hB2))
  have HV1 := Lib.hid (hv1.below (bf.mono hB2))
  have HW2 := Lib.hid (w1.trans (bf.mono w1.size))
  have HB2 := Lib.hid (Nat.le_trans hB2 bf.size)
  obtain ⟨x0, x1, -, -⟩ := x
  clear a3 g hb1 q2 w1 hkf ha1 hv1 bf hnl hB2
  go_wp2_with fail
  obtain ⟨W2, hW2⟩ : ∃ W2, W2 = (W1.alloc (.cells #[.int .i64 0, .int .i64 0] 27)).alloc (.cells #[strV nl, .int .i64 q, .slice A3 n3 c3] 39) := ⟨_, rfl⟩
  rw [← hW2] at HX2 HQ2 HKF HA1 HV1 HW2 HB2 ⊢
  clear hW2 d0 d1 d2 x0 x1 hz1 hz2 HC HT1 HT2 HBX HG
  go_loopw [9, 10, 33] (fun tx sp i wr => ∃ j : Nat, j ≤ n3 ∧ i = .int .i64 (j : Int) ∧ tx = strV (textT nl ks xs j) ∧ sp = strV (sepT j) ∧ Below W2.heap.size W2 wr) (fun _ _ i _ => n3 - (intOf i).toNat)
  case atStart => exact ⟨0, Nat.zero_le _, rfl, rfl, rfl, Below.refl _ _⟩
  case round =>
    obtain ⟨j, hj, rfl, rfl, rfl, hbr⟩ := hrel
    obtain ⟨x0, x1, -, -⟩ := HX2.out.below hbr
    have hz := block_lt_of_cell x0
    by_cases hlt : j < n3
    · have hjk : j < ks.length := by rw [hl3.out]; exact hlt
      obtain ⟨b3, o3, hA3, -, g3⟩ := kinds_at_cell (HKF.out.below (hbr.mono HB2.out)) hlt
      obtain ⟨b2, o2, hA2, -, g2⟩ := kinds_at_cell (HA1.out.below (hbr.mono HB2.out)) (show j < n1 by rw [← hl1.out, HLL.out]; exact hjk)
      subst hA3
      subst hA2
      have hz2 := block_lt_of_cell g2
      have hz3 := block_lt_of_cell g3
      have hr := arg_range HIN.out hjk
      have C := Lib.hid (operand_any B (ks[j]?.getD 0) (xs[j]?.getD 0) hr.1 hr.2 wr (HV1.out.below (hbr.mono HB2.out)))
      have hjb : j < 4 := Nat.lt_of_lt_of_le hjk HSH.out
      obtain ⟨l1, l2⟩ := text_fit HLL.out HIN.out HNL.out HSH.out hjk
      have HN := Lib.hid (textT_next (nl := nl) HLL.out hjk)
      have hjn1 : (j : Int) < (n1 : Int) := by rw [← hl1.out, HLL.out]; exact Int.ofNat_lt.2 hjk
      have Hbr := Lib.hid hbr
      generalize ks[j]?.getD 0 = kj at *
      generalize xs[j]?.getD 0 = xj at *
      clear hr hbr hjk
      go_wp2_with fail
      refine C.out.mono ?_
      rintro e W4 ⟨rfl, hb4⟩
      go_wp2_with fail
      go_round
      case rel =>
        refine ⟨j + 1, hlt, by go_num, ?_, rfl, Hbr.out.trans (hb4.mono Hbr.out.size)⟩
        rw [HN.out]
        simp [← ba_append]
      case measure => simp [intOf]; omega
    · obtain rfl : j = n3 := Nat.le_antisymm hj (Nat.not_lt.1 hlt)
      have q2 := HQ2.out.below hbr
      have HFN := Lib.hid (HW2.out.trans (hbr.mono HW2.out.size))
      have hzq := q2.lt
      have HT := Lib.hid (textT_all (nl := nl) HLL.out)
      obtain ⟨q0, q1, q2', q3⟩ := q2
      clear hbr
      go_wp2_with fail
      have hj3 : ks.length = j := hl3.out
      refine bodyPost_ret (v := .tuple #[strV (insT nl (opsT ks xs)), faultV (0, 0)]) ?_ rfl ⟨rfl, ?_⟩
      · rw [← HT.out, hj3]
        simp [results, Tryz.results15, go_sem, q0, q1]
      · exact (HFN.out.setCell (p := ⟨w.heap.size + 1, 0, none⟩) (Nat.le_succ _) _).setCell (p := ⟨w.heap.size + 1, 1, none⟩) (Nat.le_succ _) _
end Go.Proofs.YtcngpciblbdgbaaGreatDoor
