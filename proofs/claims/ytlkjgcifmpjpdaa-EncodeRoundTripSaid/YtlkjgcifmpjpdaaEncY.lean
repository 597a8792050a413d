/- An encoded instruction is decoded again, whatever surrounds it (the law EncodeRoundTrip). Conditions: the arguments read as forms, an instruction and bytes. -/
import Derived.Test.YtlkjgcifmpjpdaaEncU
import Derived.Test.YtlkjgcifmpjpdaaEncX
namespace Go.Proofs.Ytlkjgcifmpjpdaa
open Go Go.RowKit Go.Shelf

theorem three_sums {a b c : Nat} (ha : a ≤ 140737488351232) (hb : b ≤ 20) (hc : c ≤ 140737488351232) : wrap64 ((a : Int) + (b : Int)) = (a : Int) + (b : Int) ∧ wrap64 ((a : Int) + (b : Int) + (c : Int)) = (a : Int) + (b : Int) + (c : Int) :=
  ⟨by rw [IntWalk.wrap64_in _ (by omega)], by rw [IntWalk.wrap64_in _ (by omega)]⟩
theorem EncOk.around {fs : List Frm} {k : Nat} {xs : List Int} {f : Frm} (o : EncOk fs k xs f) (l1 l2 : List UInt8) (h : l1.length + sizeOf f.kinds + l2.length ≤ 1500) : DecOk fs (l1 ++ encL f.code (f.kinds.zip xs) ++ l2) l1.length k f xs := by
  have hl := encL_length (code := f.code) o.2.2.1
  have hz : 1 ≤ sizeOf f.kinds := by unfold sizeOf; omega
  refine ⟨o.1, by rw [List.length_append, List.length_append, hl]; omega, by rw [List.length_append, List.length_append, hl]; omega, ?_⟩
  rw [List.append_assoc, List.drop_left']
  · exact good_enc o l2
  · rfl
theorem own_below {B n : Nat} {W W' : World} {v : Value} {xs : List Value} {a : World} (h : Below B a W) (hB : B ≤ W.heap.size) (hr : W.ownsRow B 5 1 v n xs) (hg : W.grownBy W' v.ownBlock) : Below B a W' := h.grown hg hB fun r e => (hr.lt r e).1
theorem one_box (w : World) (x y : Value) (t : TypeId) : (w.alloc (.cells #[x, y] t)).cell? ⟨w.heap.size, 0, none⟩ = some x ∧ (w.alloc (.cells #[x, y] t)).cell? ⟨w.heap.size, 1, none⟩ = some y := ⟨by simp, by simp⟩

set_option maxRecDepth 100000 in
set_option maxHeartbeats 2000000 in
theorem law_round (B : Nat) (v av cv1 cv2 : Value) (fs : List Frm) (form : Int) (xs : List Int) (l1 l2 : List UInt8) (w : World) (h : FormsAt B w v fs) (ha : KindsAt B w av xs) (hc1 : BytesAt B w cv1 l1) (hc2 : BytesAt B w cv2 l2) (hB : B ≤ w.heap.size) :
    Calls Try.prog 6 #[v, .agg #[.int .i64 form, av], cv1, cv2] w fun e w' => e = .returned (.bool true) ∧ Below w.heap.size w w' := by
  obtain ⟨A, n, c, rfl, -⟩ := h.opens
  obtain ⟨A0, n0, c0, rfl, -⟩ := ha.opens
  obtain ⟨A1, n1, c1, rfl, hn1, ⟨hm1, -⟩, -⟩ := hc1.opens
  obtain ⟨A2, n2, c2, rfl, hn2, ⟨hm2, -⟩, -⟩ := hc2.opens
  have HM1 := Lib.hid hm1
  have HM2 := Lib.hid hm2
  clear hm1 hm2
  have bx := one_more w (.cells #[.int .i64 form, .slice A0 n0 c0] 25)
  obtain ⟨p1, p2⟩ := one_box w (.int .i64 form) (.slice A0 n0 c0) 25
  rcases enc_cases fs form xs with ⟨p, i, hp, _, E1⟩ | ⟨k, f, rfl, o, _⟩
  · have X1 := Lib.hid E1
    clear E1
    go_enter Try.func6, Try.ntmps6
    go_wp2_with fail
    refine (encExample_any _).mono ?_
    rintro e W1 ⟨rfl, hb1⟩
    have x1 := cell_below p1 hb1
    have x2 := cell_below p2 hb1
    have z1 := block_lt_of_cell x1
    have w1 := bx.trans (hb1.mono bx.size)
    have FA := Lib.hid (h.below (w1.mono hB))
    have KA := Lib.hid (ha.below (w1.mono hB))
    have hB1 := Lib.hid (Nat.le_trans hB w1.size)
    clear h ha hc1 hc2 p1 p2 bx hb1
    go_wp2_with fail
    refine (X1.out _ _ _ _ FA.out KA.out hB1.out).mono ?_
    rintro e W2 ⟨rfl, hb2⟩
    have w2 := Lib.hid (w1.trans (hb2.mono w1.size))
    clear hb2 w1
    go_wp2_with fail
    refine bodyPost_ret (v := .bool true) (by simp [results, Try.results6, go_sem]) rfl ⟨rfl, ?_⟩
    exact w2.out.trans ((one_more W2 _).mono w2.out.size)
  · have h20 := sizeOf_le (valid_form o.1 (List.mem_of_getElem? o.2.1)).short
    obtain ⟨hw1, hw2⟩ := three_sums HM1.out h20 HM2.out
    by_cases hbig : 1500 < n1 + sizeOf f.kinds + n2
    · have hbig' : (1500 : Int) < (n1 : Int) + (sizeOf f.kinds : Nat) + (n2 : Int) := by omega
      have O := Lib.hid o
      clear o h20 hbig
      go_enter Try.func6, Try.ntmps6
      go_wp2_with fail
      refine (encExample_any _).mono ?_
      rintro e W1 ⟨rfl, hb1⟩
      have x1 := cell_below p1 hb1
      have x2 := cell_below p2 hb1
      have z1 := block_lt_of_cell x1
      have w1 := bx.trans (hb1.mono bx.size)
      have FA := Lib.hid (h.below (w1.mono hB))
      have KA := Lib.hid (ha.below (w1.mono hB))
      have hB1 := Lib.hid (Nat.le_trans hB w1.size)
      clear h ha hc1 hc2 p1 p2 bx hb1
      go_wp2_with fail
      refine (O.out.calls _ _ _ _ FA.out KA.out hB1.out).mono ?_
      rintro e W2 ⟨R2, rfl, -, hb2⟩
      have w2 := Lib.hid (w1.trans (hb2.mono w1.size))
      clear hb2 w1
      go_wp2_with fail
      refine bodyPost_ret (v := .bool true) (by simp [results, Try.results6, go_sem]) rfl ⟨rfl, ?_⟩
      exact w2.out.trans ((one_more W2 _).mono w2.out.size)
    · have hsm : ¬ (1500 : Int) < (n1 : Int) + (sizeOf f.kinds : Nat) + (n2 : Int) := by omega
      have e1 : l1.length = n1 := hn1.out
      have e2 : l2.length = n2 := hn2.out
      have hs1 : l1.length ≤ 1500 := by omega
      have hs2 : l1.length + (encL f.code (f.kinds.zip xs)).length ≤ 2000 := by rw [encL_length o.2.2.1]; omega
      have hs3 : l1.length + (encL f.code (f.kinds.zip xs)).length + l2.length ≤ 2000 := by rw [encL_length o.2.2.1]; omega
      have hpos : 0 < l1.length + (encL f.code (f.kinds.zip xs)).length + l2.length := by have : 1 ≤ sizeOf f.kinds := by (unfold sizeOf; omega)
                                                                                          rw [encL_length o.2.2.1]; omega
      have hD := o.around l1 l2 (by omega)
      rw [e1] at hD
      have HD := Lib.hid hD
      have S1 := Lib.hid hs1
      have S2 := Lib.hid hs2
      have S3 := Lib.hid hs3
      have S4 := Lib.hid hpos
      have O := Lib.hid o
      clear o h20 hbig hs1 hs2 hs3 hpos hD e1 e2
      go_enter Try.func6, Try.ntmps6
      go_wp2_with fail
      refine (encExample_any _).mono ?_
      rintro e W1 ⟨rfl, hb1⟩
      have x1 := cell_below p1 hb1
      have x2 := cell_below p2 hb1
      have z1 := block_lt_of_cell x1
      have w1 := bx.trans (hb1.mono bx.size)
      have FA := Lib.hid (h.below (w1.mono hB))
      have KA := Lib.hid (ha.below (w1.mono hB))
      have LA1 := Lib.hid (hc1.below (w1.mono hB))
      have LA2 := Lib.hid (hc2.below (w1.mono hB))
      have hB1 := Lib.hid (Nat.le_trans hB w1.size)
      have X1 := Lib.hid (And.intro x1 x2)
      clear h ha hc1 hc2 p1 p2 bx hb1
      go_wp2_with fail
      refine (O.out.calls _ _ _ _ FA.out KA.out hB1.out).mono ?_
      rintro e W2 ⟨R2, rfl, hby2, hb2⟩
      have v2 := one_more W2 (.cells #[.int .i64 0, .int .i64 0] 29)
      have b2 := Lib.hid (hb2.trans (v2.mono hb2.size))
      have BY2 := Lib.hid ((hby2.below v2).more v2.size)
      clear hb2 v2 hby2 x1 x2 z1
      go_wp2_with fail
      obtain ⟨V, hV⟩ : ∃ V, V = W2.alloc (.cells #[.int .i64 0, .int .i64 0] 29) := ⟨_, rfl⟩
      rw [← hV] at b2 BY2 ⊢
      clear hV
      have LB1 := Lib.hid (LA1.out.below (b2.out.mono hB1.out))
      have LB2 := Lib.hid (LA2.out.below (b2.out.mono hB1.out))
      have FB := Lib.hid (FA.out.below (b2.out.mono hB1.out))
      have KB' := Lib.hid (KA.out.below (b2.out.mono hB1.out))
      have hBV := Lib.hid (Nat.le_trans hB1.out b2.out.size)
      refine (copy_any B _ l1 _ LB1.out S1.out).mono ?_
      rintro e W3 ⟨v3, rfl, hr3, hb3⟩
      have R3 := Lib.hid hr3
      have b3 := Lib.hid hb3
      have BY3 := Lib.hid (BY2.out.below hb3)
      clear hr3 hb3
      go_wp2_with (first
        | (at_builtin; refine wp_append_bytes rfl (.tmp 46) (.tmp 47) rfl V.heap.size v3 l1.length l1 rfl R3.out _ _ _ rfl BY3.out S2.out b3.out.size ?_; intro v4 W4 hr4 hg4; have b4 := Lib.hid (own_below b3.out b3.out.size R3.out hg4); have R4 := Lib.hid hr4; clear hr4 hg4)
        | (at_builtin; refine wp_append_bytes rfl (.tmp 48) (.tmp 49) rfl V.heap.size v4 _ _ rfl R4.out _ _ l2 rfl (LB2.out.below (b4.out.mono hBV.out)) S3.out b4.out.size ?_; intro v5 W5 hr5 hg5; have b5 := Lib.hid (own_below b4.out b4.out.size R4.out hg5); obtain ⟨G, cg, rfl, hcg⟩ := row_some hr5 S4.out; have R5 := Lib.hid hr5; clear hr5 hg5))
      have C5 := Lib.hid (bytes_of_row R5.out (Nat.le_trans S3.out (by decide)) hcg)
      have B5 := Lib.hid (b2.out.trans (b5.out.mono b2.out.size))
      refine (HD.out.calls W5.heap.size _ _ _ ((FB.out.below (b5.out.mono hBV.out)).more (Nat.le_trans hBV.out b5.out.size)) C5.out (Nat.le_refl _)).mono ?_
      rintro e W6 ⟨R6, rfl, hk6, hb6⟩
      have x1 := cell_below X1.out.1 (B5.out.trans (hb6.mono B5.out.size))
      have x2 := cell_below X1.out.2 (B5.out.trans (hb6.mono B5.out.size))
      have z1 := block_lt_of_cell x1
      have b56 := b5.out.trans (hb6.mono b5.out.size)
      have v6 := two_more W6 (.cells #[.int .i64 (k : Int), .slice (some ⟨R6, 0, none⟩) f.kinds.length f.kinds.length] 25) (.cells #[.int .i64 0, .int .i64 0] 29)
      have K6 := Lib.hid ((hk6.below v6).more v6.size)
      have b66 := b56.trans (v6.mono b56.size)
      have KB6 := Lib.hid ((KB'.out.below (b66.mono hBV.out)).more (Nat.le_trans hBV.out b66.size))
      have w6 := Lib.hid ((w1.trans (b2.out.mono w1.size)).trans (b66.mono (w1.trans (b2.out.mono w1.size)).size))
      have eb := Lib.hid (encL_length (code := f.code) O.out.2.2.1)
      clear hk6 hb6 b56 v6 b66 w1
      go_wp2_with fail
      refine (sameIns_any _ _ _ _ _ _ _ _ K6.out KB6.out (Nat.le_refl _)).mono ?_
      rintro e W7 ⟨rfl, hb7⟩
      rw [decide_eq_true rfl, decide_eq_true rfl]
      go_wp2_with fail
      refine bodyPost_ret (v := .bool true) (by simp [results, Try.results6, go_sem]) rfl ⟨rfl, ?_⟩
      exact w6.out.trans (hb7.mono w6.out.size)
end Go.Proofs.Ytlkjgcifmpjpdaa
