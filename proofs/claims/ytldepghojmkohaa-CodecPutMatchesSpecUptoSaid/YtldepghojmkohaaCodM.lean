/- A list of strings read. Conditions: the bytes are at most 200000. -/
import Derived.Test.YtldepghojmkohaaCodL
namespace Go.Proofs.Ytldepghojmkohaa.Cod
open Go Go.RowKit Go.Lib

theorem flatT_pre {xs ys : List (List UInt8)} {r t : List UInt8} (hx : ∀ x ∈ xs, Short x) (hy : ∀ y ∈ ys, Short y) (h : xs.length < ys.length) (he : flatT xs ++ r = flatT ys ++ t) : ∃ y q, tkT r = some (y, q) := by
  have e1 : ys = ys.take xs.length ++ (ys[xs.length] :: ys.drop (xs.length + 1)) := by
    rw [← List.drop_eq_getElem_cons h, List.take_append_drop]
  have e2 : flatT ys = flatT (ys.take xs.length) ++ (textL ys[xs.length] ++ flatT (ys.drop (xs.length + 1))) := (congrArg flatT e1).trans (by unfold flatT; rw [List.flatMap_append]; rfl)
  rw [e2, List.append_assoc] at he
  obtain ⟨-, e3⟩ := flatT_inj hx (fun y hy2 => hy y (List.mem_of_mem_take hy2)) (by rw [List.length_take]; omega) he
  rw [e3, List.append_assoc]
  exact ⟨_, _, tkT_text (hy _ (List.getElem_mem h)) _⟩
theorem ln_textsL {xs : List (List UInt8)} {l r : List UInt8} (h : l = textsL xs ++ r) (hl : l.length ≤ 200000) : ln l = some (xs.length, flatT xs ++ r) := by
  have h1 := flatT_len xs
  have h2 : l.length = (numL (xs.length : Int)).length + (flatT xs).length + r.length := by rw [h]; unfold textsL; simp only [List.length_append]
  have h3 : tk l = some ((xs.length : Int), flatT xs ++ r) := by
    rw [h]
    unfold textsL
    rw [List.append_assoc]
    exact tk_num ⟨by omega, by omega⟩ _
  rw [ln_some h3 (by rw [List.length_append]; omega), Int.toNat_natCast]
theorem textsL_of_ln {xs : List (List UInt8)} {l r t : List UInt8} {n : Nat} (h : ln l = some (n, t)) (hn : xs.length = n) (he : t = flatT xs ++ r) : l = textsL xs ++ r := by
  unfold ln at h
  cases ht : tk l with
  | none => rw [ht] at h; simp at h
  | some x =>
    obtain ⟨z, q⟩ := x
    rw [ht] at h
    dsimp only at h
    split at h
    · rename_i hz
      injection h with h
      injection h with h1 h2
      obtain ⟨e, -⟩ := tk_sound ht
      rw [e, h2, he]
      unfold textsL
      rw [List.append_assoc]
      congr 2
      omega
    · simp at h

/-- what the reading of a list answers, and leaves -/
def RdListS (B0 X : Nat) (w : World) (l : List UInt8) (e : Ending) (w' : World) : Prop :=
  But w.heap.size X w w' ∧ (((¬ ∃ xs r, (∀ x ∈ xs, Short x) ∧ l = textsL xs ++ r) ∧ e = .returned (.tuple #[.slice none 0 0, .bool false])) ∨
    ∃ xs r v', (∀ x ∈ xs, Short x) ∧ l = textsL xs ++ r ∧ e = .returned (.tuple #[v', .bool true]) ∧ w'.ownsRow w.heap.size 9 1 v' xs.length (sv xs) ∧ RdAt B0 X w' r)
set_option maxRecDepth 100000 in
set_option maxHeartbeats 1000000 in
theorem getListS_any (B0 X : Nat) (l : List UInt8) (w : World) (hX : B0 ≤ X) (h : RdAt B0 X w l) (hl : l.length ≤ 200000) :
    Calls Try.prog 37 #[.pointer (some ⟨X, 0, none⟩), .func (.func 31) #[.pointer (some ⟨X, 0, none⟩)] #[]] w (RdListS B0 X w l) := by
  have C := Lib.hid (length_any B0 X l w hX h hl)
  have HL := Lib.hid hl
  have hXw := h.lt
  obtain ⟨i0, hi, hz0, hz1, hz2⟩ := info_parts infoStr
  obtain ⟨N, hN⟩ : ∃ N, N = w.heap.size := ⟨_, rfl⟩
  have HN := Lib.hid hN
  rw [← hN] at hXw
  clear h hl hN
  go_enter Try.func37, Try.ntmps37
  go_wp2_with fail
  refine C.out.mono ?_
  rintro e W ⟨hbut, ⟨ht, z, rfl⟩ | ⟨n, r1, ht, rfl, hrd⟩⟩
  · have HT := Lib.hid (show ¬ ∃ xs r, (∀ x ∈ xs, Short x) ∧ l = textsL xs ++ r from fun ⟨xs, r, h1, h2⟩ => by rw [ln_textsL h2 HL.out] at ht; cases ht)
    have HB := Lib.hid hbut
    clear ht hbut C
    go_wp2_with fail
    go_ret2
    exact ⟨HB.out, .inl ⟨HT.out, rfl⟩⟩
  · have hle := ln_le ht
    have hn2 : n ≤ 200000 := by have := HL.out; omega
    rw [← HN.out] at hbut
    obtain ⟨w2, hmk, hown, hgr⟩ := run_make_full (P := Try.prog) W N 23 9 i0 _ 1 Try.underlying23 hi hz0 hz1 .i64 .i64 n (by rw [hz2]; omega) (by unfold maxLen; omega) (by have := hbut.size; rw [← HN.out] at this; exact this)
    obtain ⟨R, hR⟩ : ∃ R, R = W.heap.size := ⟨_, rfl⟩
    rw [← hR] at hmk hown
    rw [made_of strV ([] : List UInt8) rfl] at hown
    have hb2 : Below W.heap.size W w2 := (Below.refl _ _).grown hgr (Nat.le_refl _) (fun k e => by cases e)
    have hNR : N ≤ R := by have := hbut.size; rw [← HN.out, ← hR] at this; exact this
    have H0 : Hid (RdAt B0 X w2 r1 ∧ w2.ownsRow N 9 1 (.slice (some ⟨R, 0, none⟩) n n) n (([] ++ List.replicate (n - 0) ([] : List UInt8)).map strV) ∧ But N X w w2) := Lib.hid ⟨hrd.grow hX hb2, hown, hbut.trans (But.of_below (hb2.mono (by rw [← hR]; exact hNR)))⟩
    have HT := Lib.hid ht
    have HLE := Lib.hid (show r1.length ≤ 200000 by have := HL.out; omega)
    clear ht hbut hrd hown hgr hb2 hR hle C
    go_wp2_with fail
    go_loopw [21] (fun i wr => ∃ (k : Nat), i = .int .i64 (k : Int) ∧ k ≤ n ∧ ∃ (xs : List (List UInt8)) (r : List UInt8), Hid (xs.length = k) ∧ Hid (∀ x ∈ xs, Short x) ∧ Hid (r1 = flatT xs ++ r) ∧ Hid (RdAt B0 X wr r ∧ wr.ownsRow N 9 1 (.slice (some ⟨R, 0, none⟩) n n) n ((xs ++ List.replicate (n - k) ([] : List UInt8)).map strV) ∧ But N X w wr)) (fun i _ => n - (intOf i).toNat)
    case atStart => exact ⟨0, rfl, Nat.zero_le _, [], r1, Lib.hid rfl, Lib.hid (by simp), Lib.hid rfl, H0⟩
    case round =>
      obtain ⟨k, rfl, hk, xs, r, HK, HI, HE, H⟩ := hrel
      by_cases hlt : k < n
      · have HR2 := Lib.hid (show r.length ≤ 200000 by have h1 := HLE.out; rw [HE.out, List.length_append] at h1; omega)
        have C2 := Lib.hid (rtext_any B0 X r wr hX H.out.1 HR2.out)
        go_wp2_with fail
        refine C2.out.mono ?_
        rintro e W2 ⟨hbut2, hcase⟩
        have hrow := ownsRow_but H.out.2.1 hbut2 hXw
        have hc := (hrow.cellAt k (by omega)).trans (at_next strV ([] : List UInt8) HK.out hlt)
        have hf := hrow.frozenAt k
        have hRW := block_lt_of_cell hc
        have hB2 : But N X w W2 := H.out.2.2.trans (hbut2.mono (by have := H.out.2.2.size; rw [← HN.out] at this; exact this))
        have HB2 := Lib.hid hB2
        have HRO := Lib.hid hrow
        clear hbut2 hrow hB2
        rcases hcase with ⟨ht, z, rfl⟩ | ⟨x, r', ht, rfl, hrd'⟩
        · have HNO := Lib.hid (show ¬ ∃ xs r, (∀ x ∈ xs, Short x) ∧ l = textsL xs ++ r from fun ⟨ys, t, h1, h2⟩ => by
            have h3 := (ln_textsL h2 HL.out).symm.trans HT.out
            injection h3 with h3
            injection h3 with h4 h5
            obtain ⟨y, q, h6⟩ := flatT_pre HI.out h1 (by rw [HK.out, h4]; exact hlt) (HE.out.symm.trans h5.symm)
            rw [ht] at h6
            cases h6)
          clear ht
          go_wp2_with fail
          go_ret2
          refine ⟨by rw [← HN.out]; exact HB2.out.setCell hNR _ _, .inl ⟨HNO.out, rfl⟩⟩
        · have HTK := Lib.hid ht
          have HRD := Lib.hid hrd'
          dsimp only [strV]
          clear ht hrd'
          go_wp2_with fail
          go_roundw
          case rel =>
            refine ⟨k + 1, by go_num, by omega, xs ++ [x], r', Lib.hid (by rw [List.length_append, HK.out]; rfl), Lib.hid ?_, Lib.hid ?_, Lib.hid ⟨HRD.out.set hX (by omega), ?_, HB2.out.setCell hNR _ _⟩⟩
            · intro y hy
              rcases List.mem_append.1 hy with h1 | h1
              · exact HI.out y h1
              · simp at h1
                rw [h1]
                exact (tkT_sound HTK.out).2
            · rw [HE.out, flatT_snoc, List.append_assoc, ← (tkT_sound HTK.out).1]
            · rw [← set_next strV ([] : List UInt8) x HK.out hlt]
              exact (HRO.out.stored k _).1
          case measure => simp [intOf]; omega
      · obtain rfl : k = n := by omega
        go_wp2_with fail
        go_ret2
        refine ⟨by rw [← HN.out]; exact H.out.2.2, .inr ⟨xs, r, _, HI.out, textsL_of_ln HT.out HK.out HE.out, rfl, ?_, H.out.1⟩⟩
        have h1 := H.out.2.1
        rw [Nat.sub_self, List.replicate_zero, List.append_nil] at h1
        rw [HK.out, ← HN.out]
        exact h1
end Go.Proofs.Ytldepghojmkohaa.Cod
