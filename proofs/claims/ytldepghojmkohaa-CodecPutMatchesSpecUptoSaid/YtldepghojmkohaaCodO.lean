/- The reference's Taken and NumbersOf; lists of numbers and of strings compared. Conditions: the bytes are at most 200000. -/
import Derived.Deep.RegionHeld3
import Derived.Test.YtldepghojmkohaaCodN
namespace Go.Proofs.Ytldepghojmkohaa.Cod
open Go Go.RowKit Go.Lib

theorem sum_wrap {x b k : Nat} : IntKind.u64.wrap ((x : Int) + IntKind.u64.wrap ((b : Int) * 2 ^ (7 * k))) = (((x + b * 128 ^ k) % 18446744073709551616 : Nat) : Int) := by
  have e : (b : Int) * 2 ^ (7 * k) = ((b * 128 ^ k : Nat) : Int) := by rw [← pow128]; simp
  rw [e]
  simp [IntKind.wrap, IntKind.bits, IntKind.signed]
theorem take_next {l : List UInt8} {k : Nat} (h : k < l.length) : l.take (k + 1) = l.take k ++ [l[k]?.getD 0] := by
  rw [List.take_succ_eq_append_getElem h, List.getElem?_eq_getElem h]
  rfl
set_option maxRecDepth 100000 in
set_option maxHeartbeats 1000000 in
theorem taken_any (B0 : Nat) (v : Value) (l : List UInt8) (w : World) (hB : B0 ≤ w.heap.size) (h : BytesAt B0 w v l) (hl : l.length ≤ 200000) :
    Calls Try.prog 29 #[v] w fun e w' => ((tk l = none ∧ e = .returned (.tuple #[.int .i64 0, .int .i64 0])) ∨ ∃ n r, tk l = some (n, r) ∧ e = .returned (.tuple #[.int .i64 n, .int .i64 ((l.length - r.length : Nat) : Int)])) ∧ Below w.heap.size w w' := by
  obtain ⟨A, n, c, rfl, Hn, ⟨hn, hnc⟩, Hc⟩ := h.opens
  have H := Lib.hid h
  have hn2 : n ≤ 200000 := by rw [← Hn.out]; exact hl
  clear h hl hn
  go_enter Try.func29, Try.ntmps29
  go_wp2_with fail
  go_loop [4, 5] (fun u i => ∃ k x : Nat, i = .int .i64 (k : Int) ∧ u = .int .u64 (x : Int) ∧ k ≤ n ∧ k ≤ 10 ∧ x < 18446744073709551616 ∧ Hid (x = valL 0 (l.take k) % 18446744073709551616 ∧ ∀ g ∈ l.take k, 128 ≤ g.toNat)) (fun _ i => n - (intOf i).toNat)
  case atStart => exact ⟨0, 0, rfl, rfl, Nat.zero_le _, by omega, by omega, Lib.hid ⟨by simp [valL], by simp⟩⟩
  case round =>
    obtain ⟨k, x, rfl, rfl, hk, hk10, hx, HX⟩ := hrel
    by_cases hlt : k < n
    · by_cases hlt10 : k < 10
      · obtain ⟨b1, o1, rfl, hb1, g1⟩ := Hc.out (by omega)
        have hd := g1 k hlt
        obtain ⟨g, hg⟩ : ∃ g : Nat, g = (l[k]?.getD 0).toNat := ⟨_, rfl⟩
        have hg8 : g < 256 := by rw [hg]; exact UInt8.toNat_lt _
        rw [← hg] at hd
        have HG := Lib.hid hg
        clear g1 hg
        have h7 : (0 : Int) ≤ 7 * (k : Int) := by omega
        have hs := sum_wrap (x := x) (b := g % 128) (k := k)
        rw [show ((g % 128 : Nat) : Int) = (g : Int) % 128 by omega] at hs
        obtain ⟨y, hy⟩ : ∃ y : Nat, y = (x + g % 128 * 128 ^ k) % 18446744073709551616 := ⟨_, rfl⟩
        rw [← hy] at hs
        have hyl : y < 18446744073709551616 := by rw [hy]; exact Nat.mod_lt _ (by decide)
        have HY : Hid (y = valL 0 (l.take (k + 1)) % 18446744073709551616) := Lib.hid (by
          rw [hy, HX.out.1, take_next (by rw [Hn.out]; exact hlt), valL_append, List.length_take, Nat.min_eq_left (by rw [Hn.out]; omega), Nat.zero_add, HG.out]
          simp [valL])
        clear hy
        by_cases hg7 : g < 128
        · have hkn : k + 1 ≤ n := hlt
          have hkc : k + 1 ≤ c := by omega
          have hw1 : IntKind.i64.wrap ((k : Int) + 1) = (k : Int) + 1 := IntWalk.i64_in _ (by omega)
          have hw2 : (0 : Int) ≤ (k : Int) + 1 := by omega
          have hw3 : ((k : Int) + 1).toNat = k + 1 := by omega
          have hw4 : (k : Int) + 1 ≤ (c : Int) := by omega
          have hw5 : (k : Int) + 1 ≤ (n : Int) := by omega
          have HI := Lib.hid (unzz_in hyl)
          have HTN := Lib.hid (show (numL (unzz y)).length ≤ 140737488355328 by have := numL_ten HI.out; omega)
          have HTK := Lib.hid (H.out.take hkn)
          have HV := Lib.hid (show valL 0 (l.take k ++ [l[k]?.getD 0]) % 18446744073709551616 = y ∧ l.take k ++ [l[k]?.getD 0] = l.take (k + 1) by have h1 := take_next (l := l) (k := k) (by rw [Hn.out]; exact hlt); rw [← h1]; exact ⟨HY.out.symm, rfl⟩)
          have HFO : Hid (tk l = if groups y = l.take (k + 1) then some (unzz y, l.drop (k + 1)) else none) := Lib.hid (by
            have h1 := tk_found (r := l.drop (k + 1)) HX.out.2 (t := l[k]?.getD 0) (by rw [← HG.out]; exact hg7)
            rw [HV.out.1, HV.out.2, ← drop_at (by rw [Hn.out]; exact hlt), List.take_append_drop] at h1
            exact h1)
          rcases Nat.mod_two_eq_zero_or_one y with hpar | hpar
          · have hd2 : ((y : Int) % 2 == 1) = false := by simp; omega
            by_cases heq : groups y = l.take (k + 1)
            · have HEQ := Lib.hid (show decide (numL (unzz y) = l.take (k + 1)) = true by unfold numL; rw [zz_unzz]; exact decide_eq_true heq)
              have HF := Lib.hid (HFO.out.trans (if_pos heq))
              clear heq
              go_wp2_with fail
              rw [show (y : Int) / 2 = unzz y by unfold unzz; rw [if_neg (by omega)]; omega]
              go_region_held3 (fun _ => True) (exact trivial) (first | (go_at_call 25; refine (numberCode_any _ _ HI.out).mono ?_; rintro e W2 ⟨v2, rfl, hrow, hb2⟩; have HR2 := Lib.hid hrow; have HB2 := Lib.hid ((Below.refl _ w).drew.trans hb2); clear hrow hb2) | (go_at_call 12; refine (bytes_any W2.heap.size _ _ (numL (unzz y)) (l.take (k + 1)) _ (bytes_of_row HR2.out HTN.out) ((HTK.out.below (HB2.out.mono hB)).more (Nat.le_trans hB HB2.out.size))).mono ?_; rintro e W3 ⟨rfl, rfl⟩; rw [HEQ.out]))
              go_wp2_with fail
              go_ret2
              refine ⟨.inr ⟨_, _, HF.out, ?_⟩, HB2.out⟩
              rw [List.length_drop, show l.length - (l.length - (k + 1)) = k + 1 by have := Hn.out; omega]
              rfl
            · have HEQ := Lib.hid (show decide (numL (unzz y) = l.take (k + 1)) = false by unfold numL; rw [zz_unzz]; exact decide_eq_false heq)
              have HF := Lib.hid (HFO.out.trans (if_neg heq))
              clear heq
              go_wp2_with fail
              rw [show (y : Int) / 2 = unzz y by unfold unzz; rw [if_neg (by omega)]; omega]
              go_region_held3 (fun _ => True) (exact trivial) (first | (go_at_call 25; refine (numberCode_any _ _ HI.out).mono ?_; rintro e W2 ⟨v2, rfl, hrow, hb2⟩; have HR2 := Lib.hid hrow; have HB2 := Lib.hid ((Below.refl _ w).drew.trans hb2); clear hrow hb2) | (go_at_call 12; refine (bytes_any W2.heap.size _ _ (numL (unzz y)) (l.take (k + 1)) _ (bytes_of_row HR2.out HTN.out) ((HTK.out.below (HB2.out.mono hB)).more (Nat.le_trans hB HB2.out.size))).mono ?_; rintro e W3 ⟨rfl, rfl⟩; rw [HEQ.out]))
              go_wp2_with fail
              go_ret2
              exact ⟨.inl ⟨HF.out, rfl⟩, HB2.out⟩
          · have hd2 : ((y : Int) % 2 == 1) = true := by simp; omega
            by_cases heq : groups y = l.take (k + 1)
            · have HEQ := Lib.hid (show decide (numL (unzz y) = l.take (k + 1)) = true by unfold numL; rw [zz_unzz]; exact decide_eq_true heq)
              have HF := Lib.hid (HFO.out.trans (if_pos heq))
              clear heq
              go_wp2_with fail
              rw [show -((y : Int) / 2) - 1 = unzz y by unfold unzz; rw [if_pos hpar]; omega]
              go_region_held3 (fun _ => True) (exact trivial) (first | (go_at_call 25; refine (numberCode_any _ _ HI.out).mono ?_; rintro e W2 ⟨v2, rfl, hrow, hb2⟩; have HR2 := Lib.hid hrow; have HB2 := Lib.hid ((Below.refl _ w).drew.trans hb2); clear hrow hb2) | (go_at_call 12; refine (bytes_any W2.heap.size _ _ (numL (unzz y)) (l.take (k + 1)) _ (bytes_of_row HR2.out HTN.out) ((HTK.out.below (HB2.out.mono hB)).more (Nat.le_trans hB HB2.out.size))).mono ?_; rintro e W3 ⟨rfl, rfl⟩; rw [HEQ.out]))
              go_wp2_with fail
              go_ret2
              refine ⟨.inr ⟨_, _, HF.out, ?_⟩, HB2.out⟩
              rw [List.length_drop, show l.length - (l.length - (k + 1)) = k + 1 by have := Hn.out; omega]
              rfl
            · have HEQ := Lib.hid (show decide (numL (unzz y) = l.take (k + 1)) = false by unfold numL; rw [zz_unzz]; exact decide_eq_false heq)
              have HF := Lib.hid (HFO.out.trans (if_neg heq))
              clear heq
              go_wp2_with fail
              rw [show -((y : Int) / 2) - 1 = unzz y by unfold unzz; rw [if_pos hpar]; omega]
              go_region_held3 (fun _ => True) (exact trivial) (first | (go_at_call 25; refine (numberCode_any _ _ HI.out).mono ?_; rintro e W2 ⟨v2, rfl, hrow, hb2⟩; have HR2 := Lib.hid hrow; have HB2 := Lib.hid ((Below.refl _ w).drew.trans hb2); clear hrow hb2) | (go_at_call 12; refine (bytes_any W2.heap.size _ _ (numL (unzz y)) (l.take (k + 1)) _ (bytes_of_row HR2.out HTN.out) ((HTK.out.below (HB2.out.mono hB)).more (Nat.le_trans hB HB2.out.size))).mono ?_; rintro e W3 ⟨rfl, rfl⟩; rw [HEQ.out]))
              go_wp2_with fail
              go_ret2
              exact ⟨.inl ⟨HF.out, rfl⟩, HB2.out⟩
        · go_wp2_with fail
          go_round
          case rel => exact ⟨k + 1, y, by go_num, rfl, by omega, by omega, hyl, Lib.hid ⟨HY.out, by
            intro z hz
            rw [take_next (by rw [Hn.out]; exact hlt)] at hz
            rcases List.mem_append.1 hz with h1 | h1
            · exact HX.out.2 z h1
            · simp at h1
              rw [h1, ← HG.out]
              omega⟩⟩
          case measure => simp [intOf]; omega
      · obtain rfl : k = 10 := by omega
        have HN : Hid (tk l = none) := Lib.hid (by rw [← List.take_append_drop 10 l]; exact tk_lost HX.out.2 (.inr (by rw [List.length_take, Hn.out]; omega)))
        go_wp2_with fail
        go_ret2
        exact ⟨.inl ⟨HN.out, rfl⟩, Below.refl _ _⟩
    · obtain rfl : k = n := by omega
      have HN : Hid (tk l = none) := Lib.hid (by have h1 := tk_lost (r := []) HX.out.2 (.inl rfl); rw [List.append_nil, List.take_of_length_le (by rw [Hn.out]; omega)] at h1; exact h1)
      go_wp2_with fail
      go_ret2
      exact ⟨.inl ⟨HN.out, rfl⟩, Below.refl _ _⟩
end Go.Proofs.Ytldepghojmkohaa.Cod
