/- The reference's NumbersCode, TextCode, TextsCode. Conditions: what is made stays within the reach. -/
import Derived.Test.YtldepghojmkohaaCodH
namespace Go.Proofs.Ytldepghojmkohaa.Cod
open Go Go.RowKit Go.Lib

theorem ownsRow_below {w w' : World} {B : Nat} {e : TypeId} {size n : Nat} {v : Value} {xs : List Value} (h : w.ownsRow B e size v n xs) (hb : Below w.heap.size w w') : w'.ownsRow B e size v n xs := by
  refine ⟨h.1, ?_⟩
  rcases h.2 with h2 | ⟨g, cap, cur, h3, h4, h5, r⟩
  · exact .inl h2
  · exact .inr ⟨g, cap, cur, h3, h4, (hb.block g (lt_of_block h5)).trans h5, r⟩

set_option maxRecDepth 100000 in
set_option maxHeartbeats 1000000 in
theorem textCode_any (s : List UInt8) (w : World) (hs : s.length ≤ 140737488350000) :
    Calls Try.prog 26 #[strV s] w fun e w' => ∃ v', e = .returned v' ∧ w'.ownsRow w.heap.size 5 1 v' (textL s).length (bv (textL s)) ∧ Below w.heap.size w w' := by
  obtain ⟨i0, hi, hz0, hz1, hz2⟩ := info_parts infoByte
  have hs64 : I64 (s.length : Int) := ⟨by omega, by omega⟩
  have C := Lib.hid (numberCode_any (s.length : Int) w hs64)
  have HL := Lib.hid (show (numL (s.length : Int)).length + s.length ≤ 140737488355328 by have := numL_ten hs64; omega)
  have HS := Lib.hid (size_strV s)
  have HSC := Lib.hid (strCells_bv s)
  obtain ⟨sv, hsv⟩ : ∃ sv : ByteArray, sv = ⟨s.toArray⟩ := ⟨_, rfl⟩
  unfold strV textL
  rw [← hsv] at HS HSC ⊢
  obtain ⟨m, hm⟩ : ∃ m, m = s.length := ⟨_, rfl⟩
  rw [← hm] at C HL HS ⊢
  obtain ⟨q, hq⟩ : ∃ q, q = numL (m : Int) := ⟨_, rfl⟩
  rw [← hq] at C HL ⊢
  have HM := Lib.hid hm
  have hms : sv.size = m := HS.out
  clear hs hs64 hsv hm hq
  go_enter Try.func26, Try.ntmps26
  go_wp2_with fail
  refine C.out.mono ?_
  rintro e W ⟨v, rfl, hown, hb⟩
  have HOW := Lib.hid hown
  have HBU := Lib.hid hb
  clear hown hb
  go_wp2_with (at_builtin; (refine wpList_append_own_string _ rfl (.tmp 5) (.tmp 6) 25 9 rfl w.heap.size 5 i0 Try.underlying25 Try.underlying9 hi hz0 hz1 hz2 v q.length _ rfl HOW.out sv rfl (by have := HL.out; have := HS.out; unfold maxLen; omega) (by have := HL.out; have := HS.out; omega) HBU.out.size ?_); intro v' w1 hown1 hgrow hnil; clear hnil; rw [HSC.out] at hown1; have HQ := Lib.hid (row_step (ys := s) HOW.out HBU.out (Below.refl _ _) hgrow hown1 HBU.out.size); clear hown1 hgrow)
  go_ret
  have h := HQ.out
  rw [HS.out, HM.out] at h
  rw [List.length_append]
  exact ⟨_, rfl, h⟩

set_option maxRecDepth 100000 in
set_option maxHeartbeats 1000000 in
theorem numbersCode_any (B0 : Nat) (v : Value) (xs : List Int) (w : World) (hv : IntsAt B0 w v xs) (h0 : B0 ≤ w.heap.size) (hn : xs.length ≤ 1000000) :
    Calls Try.prog 13 #[v] w fun e w' => ∃ v', e = .returned v' ∧ w'.ownsRow w.heap.size 5 1 v' (numsL xs).length (bv (numsL xs)) ∧ Below w.heap.size w w' := by
  obtain ⟨A, n, c, rfl, Hn, hn0, Hr, Hc⟩ := hv.opens
  have hn' : n ≤ 1000000 := by rw [← Hn.out]; exact hn
  have hn64 : I64 (n : Int) := ⟨by omega, by omega⟩
  have C := Lib.hid (numberCode_any (n : Int) w hn64)
  have HT := Lib.hid (numL_ten hn64)
  have HV := Lib.hid hv
  clear hv hn hn64 hn0
  go_enter Try.func13, Try.ntmps13
  go_wp2_with fail
  refine C.out.mono ?_
  rintro e W ⟨v1, rfl, hown, hb⟩
  have HOW := Lib.hid hown
  have HBU := Lib.hid hb
  clear hown hb C
  go_wp2_with fail
  go_loopw [3, 4] (fun ov i wr => ∃ (k : Nat) (q : List UInt8), i = .int .i64 (k : Int) ∧ k ≤ n ∧ Hid (q = numL (n : Int) ++ flat (xs.take k)) ∧ Hid (wr.ownsRow w.heap.size 5 1 ov q.length (bv q) ∧ Below w.heap.size w wr)) (fun _ i _ => n - (intOf i).toNat)
  case atStart => exact ⟨0, _, rfl, Nat.zero_le _, Lib.hid rfl, Lib.hid ⟨by rw [List.take_zero, flat_nil, List.append_nil]; exact HOW.out, HBU.out⟩⟩
  case round =>
    obtain ⟨k, q, rfl, hk, HQ, H⟩ := hrel
    by_cases hlt : k < n
    · obtain ⟨b1, o1, rfl, hb1, g1⟩ := Hc.out (by omega)
      have hd : wr.cell? ⟨b1, o1 + k, none⟩ = some (.int .i64 (xs[k]?.getD 0)) := ((H.out.2.mono h0).cell (p := ⟨b1, o1 + k, none⟩) hb1).trans (g1 k hlt)
      have hkl : k < xs.length := by rw [Hn.out]; exact hlt
      obtain ⟨x, hx⟩ : ∃ x, x = xs[k]?.getD 0 := ⟨_, rfl⟩
      have HX := Lib.hid (take_flat hkl)
      have HI := Lib.hid (at_in Hr.out k hkl)
      have HF := Lib.hid (show q.length + (numL (xs[k]?.getD 0)).length ≤ 140737488355328 by have h1 := flat_take_le Hr.out k; have h2 := HT.out; have h3 := numL_ten HI.out; rw [Hn.out] at h1; rw [HQ.out, List.length_append]; omega)
      rw [← hx] at HF
      rw [← hx] at hd HX HI
      clear g1 hb1 hkl hx
      have C2 := Lib.hid (numberCode_any x wr HI.out)
      go_wp2_with (first | (go_at_call 25; refine C2.out.mono ?_; rintro e W2 ⟨v2, rfl, hown2, hb2⟩; have HO2 := Lib.hid hown2; have HB2 := Lib.hid hb2; clear hown2 hb2) | (at_builtin; refine wp_append_bytes rfl (.tmp 14) (.tmp 19) rfl w.heap.size u3 q.length q rfl (ownsRow_below H.out.1 HB2.out) _ v2 (numL x) rfl (bytes_of_row HO2.out (Nat.le_trans (Nat.le_add_left _ _) HF.out)) HF.out (Nat.le_trans H.out.2.size HB2.out.size) ?_; intro v' w1 hown1 hgrow; have HR := Lib.hid (row_step (ys := numL x) H.out.1 H.out.2 HB2.out hgrow hown1 H.out.2.size); clear hown1 hgrow))
      go_roundw
      case rel => exact ⟨k + 1, q ++ numL x, by go_num, by omega, Lib.hid (by rw [HX.out, HQ.out, List.append_assoc]), by rw [List.length_append]; exact HR⟩
      case measure => simp [intOf]; omega
    · obtain rfl : k = n := by omega
      go_wp2_with fail
      go_ret
      have e : numsL xs = q := by rw [HQ.out, List.take_of_length_le (by rw [Hn.out]; omega), ← Hn.out]; rfl
      rw [e]
      exact ⟨_, rfl, H.out⟩

theorem flatT_next' {ss : List (List UInt8)} {k : Nat} (h : k < ss.length) : (flatT (ss.take k)).length + (textL (ss[k]?.getD [])).length ≤ (flatT ss).length := by
  have h1 : flatT ss = flatT (ss.take (k + 1)) ++ flatT (ss.drop (k + 1)) := by
    unfold flatT
    rw [← List.flatMap_append, List.take_append_drop]
  rw [h1, take_flatT h]
  simp only [List.length_append]
  omega

set_option maxRecDepth 100000 in
set_option maxHeartbeats 1000000 in
theorem textsCode_any (B0 : Nat) (v : Value) (xs : List (List UInt8)) (w : World) (hv : StrsAt B0 w v xs) (h0 : B0 ≤ w.heap.size) (hn : xs.length ≤ 1000000) (hsum : (flatT xs).length ≤ 140737488300000) :
    Calls Try.prog 14 #[v] w fun e w' => ∃ v', e = .returned v' ∧ w'.ownsRow w.heap.size 5 1 v' (textsL xs).length (bv (textsL xs)) ∧ Below w.heap.size w w' := by
  obtain ⟨A, n, c, rfl, Hn, hn0, Hr, Hc⟩ := hv.opens
  have hn' : n ≤ 1000000 := by rw [← Hn.out]; exact hn
  have hn64 : I64 (n : Int) := ⟨by omega, by omega⟩
  have C := Lib.hid (numberCode_any (n : Int) w hn64)
  have HT := Lib.hid (numL_ten hn64)
  have HV := Lib.hid hv
  have HSM := Lib.hid hsum
  clear hv hn hn64 hn0 hsum
  go_enter Try.func14, Try.ntmps14
  go_wp2_with fail
  refine C.out.mono ?_
  rintro e W ⟨v1, rfl, hown, hb⟩
  have HOW := Lib.hid hown
  have HBU := Lib.hid hb
  clear hown hb C
  go_wp2_with fail
  go_loopw [3, 4] (fun ov i wr => ∃ (k : Nat) (q : List UInt8), i = .int .i64 (k : Int) ∧ k ≤ n ∧ Hid (q = numL (n : Int) ++ flatT (xs.take k)) ∧ Hid (wr.ownsRow w.heap.size 5 1 ov q.length (bv q) ∧ Below w.heap.size w wr)) (fun _ i _ => n - (intOf i).toNat)
  case atStart => exact ⟨0, _, rfl, Nat.zero_le _, Lib.hid rfl, Lib.hid ⟨by rw [List.take_zero, flatT_nil, List.append_nil]; exact HOW.out, HBU.out⟩⟩
  case round =>
    obtain ⟨k, q, rfl, hk, HQ, H⟩ := hrel
    by_cases hlt : k < n
    · obtain ⟨b1, o1, rfl, hb1, g1⟩ := Hc.out (by omega)
      have hd : wr.cell? ⟨b1, o1 + k, none⟩ = some (strV (xs[k]?.getD [])) := ((H.out.2.mono h0).cell (p := ⟨b1, o1 + k, none⟩) hb1).trans (g1 k hlt)
      have hkl : k < xs.length := by rw [Hn.out]; exact hlt
      obtain ⟨x, hx⟩ : ∃ x, x = xs[k]?.getD [] := ⟨_, rfl⟩
      have HX := Lib.hid (take_flatT hkl)
      have HI := Lib.hid (flatT_next' (k := k) hkl)
      have HF := Lib.hid (show q.length + (textL (xs[k]?.getD [])).length ≤ 140737488355328 by have h1 := HI.out; have h2 := HT.out; have h3 := HSM.out; rw [HQ.out, List.length_append]; omega)
      have HF2 := Lib.hid (show (xs[k]?.getD []).length ≤ 140737488350000 by have h1 := flatT_next (k := k) hkl; have h3 := HSM.out; omega)
      rw [← hx] at HF HF2
      rw [← hx] at hd HX HI
      clear g1 hb1 hkl hx
      have C2 := Lib.hid (textCode_any x wr HF2.out)
      go_wp2_with (first | (go_at_call 26; refine C2.out.mono ?_; rintro e W2 ⟨v2, rfl, hown2, hb2⟩; have HO2 := Lib.hid hown2; have HB2 := Lib.hid hb2; clear hown2 hb2) | (at_builtin; refine wp_append_bytes rfl (.tmp 14) (.tmp 19) rfl w.heap.size u3 q.length q rfl (ownsRow_below H.out.1 HB2.out) _ v2 (textL x) rfl (bytes_of_row HO2.out (Nat.le_trans (Nat.le_add_left _ _) HF.out)) HF.out (Nat.le_trans H.out.2.size HB2.out.size) ?_; intro v' w1 hown1 hgrow; have HR := Lib.hid (row_step (ys := textL x) H.out.1 H.out.2 HB2.out hgrow hown1 H.out.2.size); clear hown1 hgrow))
      go_roundw
      case rel => exact ⟨k + 1, q ++ textL x, by go_num, by omega, Lib.hid (by rw [HX.out, HQ.out, List.append_assoc]), by rw [List.length_append]; exact HR⟩
      case measure => simp [intOf]; omega
    · obtain rfl : k = n := by omega
      go_wp2_with fail
      go_ret
      have e : textsL xs = q := by rw [HQ.out, List.take_of_length_le (by rw [Hn.out]; omega), ← Hn.out]; rfl
      rw [e]
      exact ⟨_, rfl, H.out⟩
end Go.Proofs.Ytldepghojmkohaa.Cod
