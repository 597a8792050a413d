/- Contract of the reference's Tokens: the tokens of a line. Condition: the line is at most 8000 bytes long. -/
import Derived.Test.YtccnaoabmgkblaaDoorTokJ
import Derived.Test.YtccnaoabmgkblaaDoorTokP
namespace Go.Proofs.YtccnaoabmgkblaaDoor.Tok
open Go Go.RowKit

/-- what Tokens answers -/
def ToksPost (l : List UInt8) (w : World) (e : Ending) (w' : World) : Prop :=
  ((0 ≤ (lex 0 (body l)).2 ∧ e = .returned (.tuple #[.slice none 0 0, .int .i64 (lex 0 (body l)).2])) ∨
   ((lex 0 (body l)).2 = -1 ∧ ∃ v, e = .returned (.tuple #[v, .int .i64 (-1)]) ∧ w'.ownsRow w.heap.size 37 4 v (lex 0 (body l)).1.length (tkv (lex 0 (body l)).1))) ∧ Below w.heap.size w w'
theorem byte_bne {c : UInt8} {n : Nat} (h : c ≠ UInt8.ofNat n) : (((c).toNat : Int) != (n : Int)) = true := by
  have := byte_ne h
  unfold bne
  rw [this]
  rfl
theorem ba_mid (l : List UInt8) (a b : Nat) : Value.string ((⟨l.toArray⟩ : ByteArray).extract a b) = strV ((l.drop a).take (b - a)) := by
  rw [Lib.extract_eq]
theorem word_all_take {l : List UInt8} {k j : Nat} (hk : k ≤ j) (h : ((l.drop k).take (j - k)).all nameB = true) (hj : j < l.length) (hn : nameB l[j] = true) : ((l.drop k).take (j + 1 - k)).all nameB = true := by
  have h2 : j - k < (l.drop k).length := by rw [List.length_drop]; omega
  rw [show j + 1 - k = (j - k) + 1 by omega]
  refine all_next h h2 ?_
  rw [List.getElem_drop]
  simpa [show k + (j - k) = j by omega] using hn
theorem word_end {l : List UInt8} {k j : Nat} (hk : k ≤ j) (h : ((l.drop k).take (j - k)).all nameB = true) (hj : l.length ≤ j ∨ ∃ h : j < l.length, nameB l[j] = false) (hjl : j ≤ l.length) : j = k + (word (l.drop k)).length := by
  rcases hj with hj | ⟨hj, hn⟩
  · have : (l.drop k).take (j - k) = l.drop k := List.take_of_length_le (by rw [List.length_drop]; omega)
    rw [this] at h
    rw [word_word h, List.length_drop]
    omega
  · have h2 : j - k < (l.drop k).length := by rw [List.length_drop]; omega
    have h3 := word_stop (l := l.drop k) h h2 (by rw [List.getElem_drop]; simpa [show k + (j - k) = j by omega] using hn)
    omega
theorem step_facts {l t : List UInt8} {k : Nat} (h : body (l.drop k) = t.drop k) (hk : k < t.length) :
    1 ≤ stepSz (l.drop k) ∧ stepSz (l.drop k) ≤ (l.drop k).length ∧ tokOf ((l.drop k).take (stepSz (l.drop k))) = (first (t.drop k)).map (·.1) ∧ ∀ x z, first (t.drop k) = some (x, z) → z = stepSz (l.drop k) := by
  have h1 := tok_step (l := l.drop k) (c := t[k]) (r := t.drop (k + 1)) (h.trans (drop_at hk))
  rw [h] at h1
  exact h1
theorem step_some {l t : List UInt8} {k z : Nat} {x : Tk} (h : 1 ≤ stepSz (l.drop k) ∧ stepSz (l.drop k) ≤ (l.drop k).length ∧ tokOf ((l.drop k).take (stepSz (l.drop k))) = (first (t.drop k)).map (·.1) ∧ ∀ x z, first (t.drop k) = some (x, z) → z = stepSz (l.drop k))
    (hz : z = stepSz (l.drop k)) (hx : tokOf ((l.drop k).take z) = some x) : first (t.drop k) = some (x, z) := by
  obtain ⟨-, -, h3, h4⟩ := h
  rw [hz, h3] at hx
  cases hf : first (t.drop k) with
  | none => rw [hf] at hx; cases hx
  | some p =>
    obtain ⟨y, q⟩ := p
    rw [hf] at hx
    have := h4 y q hf
    rw [hz, ← this]
    have hy : y = x := by simpa using hx
    rw [hy]
theorem step_none {l t : List UInt8} {k z : Nat} (h : 1 ≤ stepSz (l.drop k) ∧ stepSz (l.drop k) ≤ (l.drop k).length ∧ tokOf ((l.drop k).take (stepSz (l.drop k))) = (first (t.drop k)).map (·.1) ∧ ∀ x z, first (t.drop k) = some (x, z) → z = stepSz (l.drop k))
    (hz : z = stepSz (l.drop k)) (hx : tokOf ((l.drop k).take z) = none) : first (t.drop k) = none := by
  obtain ⟨-, -, h3, h4⟩ := h
  rw [hz, h3] at hx
  cases hf : first (t.drop k) with
  | none => rfl
  | some p => rw [hf] at hx; cases hx
set_option maxRecDepth 100000 in
set_option maxHeartbeats 8000000 in
theorem tokens_any (l : List UInt8) (w : World) (h : l.length ≤ 8000) : Calls Tryd.prog 11 #[strV l] w (ToksPost l w) := by
  have hbl := body_le l
  obtain ⟨i0, hi, hz0, hz1', hz2'⟩ := info_parts infoTok
  obtain ⟨t, ht⟩ : ∃ t, t = body l := ⟨_, rfl⟩
  have HT := Lib.hid ht
  obtain ⟨s, hs⟩ : ∃ s : ByteArray, s = ⟨l.toArray⟩ := ⟨_, rfl⟩
  have hsd : s.data.toList = l := by rw [hs]
  have hsz : s.size = l.length := by rw [← len_data, hsd]
  rw [show strV l = .string s from by rw [hs]]
  have hs8 : s.size ≤ 8000 := by omega
  have hts : t.length ≤ s.size := by rw [ht, hsz]; exact hbl
  have HSZ := Lib.hid hsz
  have HS := Lib.hid hs
  clear hs hsd hsz ht hbl h
  go_enter Tryd.func11, Tryd.ntmps11
  go_wp2_with fail
  go_loopw [4, 5] (fun u4 u5 wr => ∃ (k : Nat) (ts : List Tk), u5 = .int .i64 (k : Int) ∧ k ≤ t.length ∧ Hid (At t k ts ∧ ts.length ≤ k) ∧ Hid (wr.ownsRow w.heap.size 37 4 u4 ts.length (tkv ts)) ∧ Hid (Below w.heap.size w wr)) (fun _ i _ => t.length - (intOf i).toNat)
  case atStart => exact ⟨0, [], rfl, Nat.zero_le _, Lib.hid ⟨at_start t, Nat.le_refl _⟩, Lib.hid (World.ownsRow_nil _ _ _ _), Lib.hid (Below.refl _ _)⟩
  case round =>
    obtain ⟨k, ts, rfl, hk, HA, HO, HB⟩ := hrel
    by_cases hlt : k < t.length
    · have hks : k < s.size := by omega
      have hg : s[k] = t[k] ∧ s[k] ≠ 59 := by
        have h1 := HS.out
        have h2 := HT.out
        subst h1 h2
        obtain ⟨h3, h4, h5⟩ := body_at hlt
        exact ⟨h4, h5⟩
      have hne : (((s[k]).toNat : Int) != 59) = true := byte_bne (n := 59) hg.2
      cases hsp : spB t[k] with
      | true =>
        have HN := Lib.hid (at_sp HA.out.1 hlt hsp)
        have HL := Lib.hid HA.out.2
        rcases sp_two hsp with hc | hc
        all_goals
          rw [← hg.1] at hc
          clear hsp hg HA hne
          go_wp2_with fail
          go_roundw
          case rel => exact ⟨k + 1, ts, by go_num, by omega, Lib.hid ⟨HN.out, by have := HL.out; omega⟩, HO, HB⟩
          case measure => simp [intOf]; omega
      | false =>
        -- GEN
        obtain ⟨n1, n2⟩ := sp_not hsp
        rw [← hg.1] at n1 n2
        have HSP := Lib.hid hsp
        have HBD := Lib.hid (show body (l.drop k) = t.drop k by have h2 := HT.out; subst h2; exact body_append k (Nat.le_of_lt hlt))
        have HST := Lib.hid (step_facts HBD.out hlt)
        clear hg hsp
        go_wp2_with fail
        go_loop [6] (fun u6 => ∃ j : Nat, u6 = .int .i64 (j : Int) ∧ k ≤ j ∧ j ≤ s.size ∧ Hid (((l.drop k).take (j - k)).all nameB = true)) (fun u6 => s.size - (intOf u6).toNat)
        case atStart => exact ⟨k, rfl, Nat.le_refl _, by omega, Lib.hid (by simp)⟩
        case round =>
          obtain ⟨j, rfl, hkj, hjs, HJ⟩ := hrel
          by_cases hc : ∃ h : j < s.size, nameB s[j] = true
          · obtain ⟨hj, hn⟩ := hc
            have HN := Lib.hid (word_all_take (l := l) (j := j) hkj HJ.out (by rw [← HSZ.out]; exact hj) (by have h1 := HS.out; subst h1; exact hn))
            go_wp2_with (go_at_call 18; refine (rnameByte_any _ _).mono ?_; rintro e w' ⟨rfl, rfl⟩; rw [hn])
            go_round
            case rel => exact ⟨j + 1, by go_num, by omega, by omega, HN⟩
            case measure => simp [intOf]; omega
          · have HE := Lib.hid (word_end (l := l) (k := k) (j := j) hkj HJ.out (by
              rcases Nat.lt_or_ge j s.size with hj | hj
              · refine .inr ⟨by rw [← HSZ.out]; exact hj, ?_⟩
                have h3 : nameB s[j] = false := by
                  cases hn : nameB s[j] with
                  | true => exact absurd ⟨hj, hn⟩ hc
                  | false => rfl
                have h1 := HS.out
                subst h1
                exact h3
              · exact .inl (by rw [← HSZ.out]; exact hj)) (by rw [← HSZ.out]; exact hjs))
            have hx : (∃ h : j < s.size, nameB s[j] = false) ∨ ¬ j < s.size := by
              rcases Nat.lt_or_ge j s.size with hj | hj
              · refine .inl ⟨hj, ?_⟩
                cases hn : nameB s[j] with
                | true => exact absurd ⟨hj, hn⟩ hc
                | false => rfl
              · exact .inr (by omega)
            clear hc HJ
            rcases hx with ⟨hj, hn⟩ | hj
            · by_cases hz : word (l.drop k) = []
              · obtain rfl : k = j := by have := HE.out; rw [hz] at this; simpa using this.symm
                have HZ := Lib.hid hz
                clear hz hkj
                by_cases h2 : k + 2 ≤ s.size
                · have C := Lib.hid (rsign_any ((l.drop k).take 2) wr)
                  cases hsg : isSign ((l.drop k).take 2) with
                  | true =>
                    rw [hsg] at C
                    have HSZE := Lib.hid (show 2 = stepSz (l.drop k) by unfold stepSz; rw [if_pos HZ.out, if_pos ⟨by rw [List.length_drop, ← HSZ.out]; omega, hsg⟩])
                    clear hsg
                    go_wp2_with (first | (go_at_call 18; refine (rnameByte_any _ _).mono ?_; rintro e w' ⟨rfl, rfl⟩; rw [hn]) | fail)
                    rw [show Value.string (s.extract k (k + 2)) = strV ((l.drop k).take 2) from by rw [HS.out, ba_mid, Nat.add_sub_cancel_left]]
                    refine C.out.mono ?_
                    rintro e W0 ⟨rfl, hb0⟩
                    have HB0 := Lib.hid (HB.out.trans (hb0.mono HB.out.size))
                    have HO0 := Lib.hid (ownsRow_below HO.out hb0)
                    clear hb0 C
                    have HT2 := Lib.hid (tokenOf_any ((l.drop k).take (2)) W0 (by rw [List.length_take, List.length_drop, ← HSZ.out]; omega))
                    go_wp2_with fail
                    rw [show Value.string (s.extract k (k + (2))) = strV ((l.drop k).take (2)) from by rw [HS.out, ba_mid, Nat.add_sub_cancel_left]]
                    refine HT2.out.mono ?_
                    rintro e W1 ⟨⟨x, hx, rfl⟩ | ⟨hx, rfl⟩, hb1⟩
                    · have hf := step_some HST.out HSZE.out hx
                      have hzs : k + (2) ≤ t.length := by have h5 := (first_size hf).2; rw [List.length_drop] at h5; omega
                      have HN := Lib.hid (at_tok HA.out.1 hlt HSP.out hf)
                      have HLS := Lib.hid (show ts.length + 1 ≤ 8000 by have := HA.out.2; omega)
                      have HB1 := Lib.hid (HB0.out.trans (hb1.mono HB0.out.size))
                      have HO1 := Lib.hid (ownsRow_below HO0.out hb1)
                      have HSZ1 := Lib.hid HB1.out.size
                      obtain ⟨xk, xt, xv, xp⟩ := x
                      obtain ⟨A, c, rfl⟩ := row_is HO1.out
                      clear hf hb1 hx HT2
                      unfold Tk.v
                      go_wp2_with (at_builtin; refine wpList_append_own _ rfl (.tmp 77) (.tmp 79) 23 rfl w.heap.size 37 i0 _ 4 40 Tryd.underlying23 hi hz0 hz1' hz2' (by rfl) (by decide) (.slice A ts.length c) ts.length _ rfl ((HO1.out.alloc _).alloc _) ⟨W1.heap.size + 1, 0, none⟩ 1 1 (tkC ⟨xk, xt, xv, (k : Int)⟩) rfl rfl (tok_news2 _ _ _ _ _ _ _) (tkC_one _) (by have := HLS.out; unfold maxLen; omega) (by have := HLS.out; omega) (by have := HSZ1.out; simp; omega) ?_; intro v' w1 hown1 hgrow hnil; clear hnil; have HO2 := Lib.hid hown1; have HG := Lib.hid hgrow; clear hown1 hgrow)
                      go_roundw
                      case rel =>
                        refine ⟨k + (2), ts ++ [⟨xk, xt, xv, (k : Int)⟩], by go_num, hzs, Lib.hid ⟨HN.out, ?_⟩, Lib.hid ?_, Lib.hid ?_⟩
                        · have := HA.out.2
                          rw [List.length_append]
                          simp
                          omega
                        · rw [List.length_append, tkv_snoc]
                          exact HO2.out
                        · have h3 : Below w.heap.size w ((W1.alloc (.cells #[.int .i64 xk, strV xt, .int .i64 xv, .int .i64 (k : Int)] 37)).alloc (.cells #[.int .i64 xk, strV xt, .int .i64 xv, .int .i64 (k : Int)] 37)) :=
                            ((HB1.out.alloc (HB1.out.size) _).alloc (by rw [World.size_alloc]; have := HB1.out.size; omega) _)
                          exact h3.grown HG.out (by rw [World.size_alloc, World.size_alloc]; have := HB1.out.size; omega) (fun q e => (HO1.out.lt q e).1)
                      case measure => simp [intOf]; omega
                    · have hf := step_none HST.out HSZE.out hx
                      have HN := Lib.hid (at_bad HA.out.1 hlt HSP.out hf)
                      have HB1 := Lib.hid (HB0.out.trans (hb1.mono HB0.out.size))
                      clear hf hb1 hx HT2
                      unfold zeroTk Tk.v
                      go_wp2_with fail
                      go_ret2
                      exact ⟨.inl ⟨by rw [← HT.out, HN.out]; omega, by rw [← HT.out, HN.out]; rfl⟩, HB1.out.alloc HB1.out.size _⟩
                  | false =>
                    rw [hsg] at C
                    have HSZE := Lib.hid (show 1 = stepSz (l.drop k) by unfold stepSz; rw [if_pos HZ.out, if_neg (by rintro ⟨-, h⟩; rw [hsg] at h; cases h)])
                    clear hsg
                    go_wp2_with (first | (go_at_call 18; refine (rnameByte_any _ _).mono ?_; rintro e w' ⟨rfl, rfl⟩; rw [hn]) | fail)
                    rw [show Value.string (s.extract k (k + 2)) = strV ((l.drop k).take 2) from by rw [HS.out, ba_mid, Nat.add_sub_cancel_left]]
                    refine C.out.mono ?_
                    rintro e W0 ⟨rfl, hb0⟩
                    have HB0 := Lib.hid (HB.out.trans (hb0.mono HB.out.size))
                    have HO0 := Lib.hid (ownsRow_below HO.out hb0)
                    clear hb0 C
                    have HT2 := Lib.hid (tokenOf_any ((l.drop k).take (1)) W0 (by rw [List.length_take, List.length_drop, ← HSZ.out]; omega))
                    go_wp2_with fail
                    rw [show Value.string (s.extract k (k + (1))) = strV ((l.drop k).take (1)) from by rw [HS.out, ba_mid, Nat.add_sub_cancel_left]]
                    refine HT2.out.mono ?_
                    rintro e W1 ⟨⟨x, hx, rfl⟩ | ⟨hx, rfl⟩, hb1⟩
                    · have hf := step_some HST.out HSZE.out hx
                      have hzs : k + (1) ≤ t.length := by have h5 := (first_size hf).2; rw [List.length_drop] at h5; omega
                      have HN := Lib.hid (at_tok HA.out.1 hlt HSP.out hf)
                      have HLS := Lib.hid (show ts.length + 1 ≤ 8000 by have := HA.out.2; omega)
                      have HB1 := Lib.hid (HB0.out.trans (hb1.mono HB0.out.size))
                      have HO1 := Lib.hid (ownsRow_below HO0.out hb1)
                      have HSZ1 := Lib.hid HB1.out.size
                      obtain ⟨xk, xt, xv, xp⟩ := x
                      obtain ⟨A, c, rfl⟩ := row_is HO1.out
                      clear hf hb1 hx HT2
                      unfold Tk.v
                      go_wp2_with (at_builtin; refine wpList_append_own _ rfl (.tmp 77) (.tmp 79) 23 rfl w.heap.size 37 i0 _ 4 40 Tryd.underlying23 hi hz0 hz1' hz2' (by rfl) (by decide) (.slice A ts.length c) ts.length _ rfl ((HO1.out.alloc _).alloc _) ⟨W1.heap.size + 1, 0, none⟩ 1 1 (tkC ⟨xk, xt, xv, (k : Int)⟩) rfl rfl (tok_news2 _ _ _ _ _ _ _) (tkC_one _) (by have := HLS.out; unfold maxLen; omega) (by have := HLS.out; omega) (by have := HSZ1.out; simp; omega) ?_; intro v' w1 hown1 hgrow hnil; clear hnil; have HO2 := Lib.hid hown1; have HG := Lib.hid hgrow; clear hown1 hgrow)
                      go_roundw
                      case rel =>
                        refine ⟨k + (1), ts ++ [⟨xk, xt, xv, (k : Int)⟩], by go_num, hzs, Lib.hid ⟨HN.out, ?_⟩, Lib.hid ?_, Lib.hid ?_⟩
                        · have := HA.out.2
                          rw [List.length_append]
                          simp
                          omega
                        · rw [List.length_append, tkv_snoc]
                          exact HO2.out
                        · have h3 : Below w.heap.size w ((W1.alloc (.cells #[.int .i64 xk, strV xt, .int .i64 xv, .int .i64 (k : Int)] 37)).alloc (.cells #[.int .i64 xk, strV xt, .int .i64 xv, .int .i64 (k : Int)] 37)) :=
                            ((HB1.out.alloc (HB1.out.size) _).alloc (by rw [World.size_alloc]; have := HB1.out.size; omega) _)
                          exact h3.grown HG.out (by rw [World.size_alloc, World.size_alloc]; have := HB1.out.size; omega) (fun q e => (HO1.out.lt q e).1)
                      case measure => simp [intOf]; omega
                    · have hf := step_none HST.out HSZE.out hx
                      have HN := Lib.hid (at_bad HA.out.1 hlt HSP.out hf)
                      have HB1 := Lib.hid (HB0.out.trans (hb1.mono HB0.out.size))
                      clear hf hb1 hx HT2
                      unfold zeroTk Tk.v
                      go_wp2_with fail
                      go_ret2
                      exact ⟨.inl ⟨by rw [← HT.out, HN.out]; omega, by rw [← HT.out, HN.out]; rfl⟩, HB1.out.alloc HB1.out.size _⟩
                · have HSZE := Lib.hid (show 1 = stepSz (l.drop k) by unfold stepSz; rw [if_pos HZ.out, if_neg (by rintro ⟨h, -⟩; rw [List.length_drop, ← HSZ.out] at h; omega)])
                  have h2' : s.size < k + 2 := by omega
                  clear h2
                  go_wp2_with (first | (go_at_call 18; refine (rnameByte_any _ _).mono ?_; rintro e w' ⟨rfl, rfl⟩; rw [hn]) | fail)
                  have HT2 := Lib.hid (tokenOf_any ((l.drop k).take (1)) wr (by rw [List.length_take, List.length_drop, ← HSZ.out]; omega))
                  rw [show Value.string (s.extract k (k + (1))) = strV ((l.drop k).take (1)) from by rw [HS.out, ba_mid, Nat.add_sub_cancel_left]]
                  refine HT2.out.mono ?_
                  rintro e W1 ⟨⟨x, hx, rfl⟩ | ⟨hx, rfl⟩, hb1⟩
                  · have hf := step_some HST.out HSZE.out hx
                    have hzs : k + (1) ≤ t.length := by have h5 := (first_size hf).2; rw [List.length_drop] at h5; omega
                    have HN := Lib.hid (at_tok HA.out.1 hlt HSP.out hf)
                    have HLS := Lib.hid (show ts.length + 1 ≤ 8000 by have := HA.out.2; omega)
                    have HB1 := Lib.hid (HB.out.trans (hb1.mono HB.out.size))
                    have HO1 := Lib.hid (ownsRow_below HO.out hb1)
                    have HSZ1 := Lib.hid HB1.out.size
                    obtain ⟨xk, xt, xv, xp⟩ := x
                    obtain ⟨A, c, rfl⟩ := row_is HO1.out
                    clear hf hb1 hx HT2
                    unfold Tk.v
                    go_wp2_with (at_builtin; refine wpList_append_own _ rfl (.tmp 77) (.tmp 79) 23 rfl w.heap.size 37 i0 _ 4 40 Tryd.underlying23 hi hz0 hz1' hz2' (by rfl) (by decide) (.slice A ts.length c) ts.length _ rfl ((HO1.out.alloc _).alloc _) ⟨W1.heap.size + 1, 0, none⟩ 1 1 (tkC ⟨xk, xt, xv, (k : Int)⟩) rfl rfl (tok_news2 _ _ _ _ _ _ _) (tkC_one _) (by have := HLS.out; unfold maxLen; omega) (by have := HLS.out; omega) (by have := HSZ1.out; simp; omega) ?_; intro v' w1 hown1 hgrow hnil; clear hnil; have HO2 := Lib.hid hown1; have HG := Lib.hid hgrow; clear hown1 hgrow)
                    go_roundw
                    case rel =>
                      refine ⟨k + (1), ts ++ [⟨xk, xt, xv, (k : Int)⟩], by go_num, hzs, Lib.hid ⟨HN.out, ?_⟩, Lib.hid ?_, Lib.hid ?_⟩
                      · have := HA.out.2
                        rw [List.length_append]
                        simp
                        omega
                      · rw [List.length_append, tkv_snoc]
                        exact HO2.out
                      · have h3 : Below w.heap.size w ((W1.alloc (.cells #[.int .i64 xk, strV xt, .int .i64 xv, .int .i64 (k : Int)] 37)).alloc (.cells #[.int .i64 xk, strV xt, .int .i64 xv, .int .i64 (k : Int)] 37)) :=
                          ((HB1.out.alloc (HB1.out.size) _).alloc (by rw [World.size_alloc]; have := HB1.out.size; omega) _)
                        exact h3.grown HG.out (by rw [World.size_alloc, World.size_alloc]; have := HB1.out.size; omega) (fun q e => (HO1.out.lt q e).1)
                    case measure => simp [intOf]; omega
                  · have hf := step_none HST.out HSZE.out hx
                    have HN := Lib.hid (at_bad HA.out.1 hlt HSP.out hf)
                    have HB1 := Lib.hid (HB.out.trans (hb1.mono HB.out.size))
                    clear hf hb1 hx HT2
                    unfold zeroTk Tk.v
                    go_wp2_with fail
                    go_ret2
                    exact ⟨.inl ⟨by rw [← HT.out, HN.out]; omega, by rw [← HT.out, HN.out]; rfl⟩, HB1.out.alloc HB1.out.size _⟩
              · have HSZE0 := Lib.hid (show (word (l.drop k)).length = stepSz (l.drop k) by unfold stepSz; rw [if_neg hz])
                obtain ⟨z, hzz⟩ : ∃ z, z = (word (l.drop k)).length := ⟨_, rfl⟩
                have hz1 : 1 ≤ z := by
                  rcases hzl : word (l.drop k) with - | ⟨c0, r0⟩
                  · exact absurd hzl hz
                  · rw [hzz, hzl]; simp
                rw [← hzz] at HE HSZE0
                have HSZE := HSZE0
                obtain rfl : j = k + z := HE.out
                have hjk : (((k + z : Nat) : Int) == (k : Int)) = false := beq_eq_false_iff_ne.2 (by omega)
                have hjk2 : (((k : Int) + (z : Int)) == (k : Int)) = false := beq_eq_false_iff_ne.2 (by omega)
                clear hz hzz HE
                go_wp2_with (first | (go_at_call 18; refine (rnameByte_any _ _).mono ?_; rintro e w' ⟨rfl, rfl⟩; rw [hn]) | fail)
                have HT2 := Lib.hid (tokenOf_any ((l.drop k).take (z)) wr (by rw [List.length_take, List.length_drop, ← HSZ.out]; omega))
                rw [show Value.string (s.extract k (k + (z))) = strV ((l.drop k).take (z)) from by rw [HS.out, ba_mid, Nat.add_sub_cancel_left]]
                refine HT2.out.mono ?_
                rintro e W1 ⟨⟨x, hx, rfl⟩ | ⟨hx, rfl⟩, hb1⟩
                · have hf := step_some HST.out HSZE.out hx
                  have hzs : k + (z) ≤ t.length := by have h5 := (first_size hf).2; rw [List.length_drop] at h5; omega
                  have HN := Lib.hid (at_tok HA.out.1 hlt HSP.out hf)
                  have HLS := Lib.hid (show ts.length + 1 ≤ 8000 by have := HA.out.2; omega)
                  have HB1 := Lib.hid (HB.out.trans (hb1.mono HB.out.size))
                  have HO1 := Lib.hid (ownsRow_below HO.out hb1)
                  have HSZ1 := Lib.hid HB1.out.size
                  obtain ⟨xk, xt, xv, xp⟩ := x
                  obtain ⟨A, c, rfl⟩ := row_is HO1.out
                  clear hf hb1 hx HT2
                  unfold Tk.v
                  go_wp2_with (at_builtin; refine wpList_append_own _ rfl (.tmp 77) (.tmp 79) 23 rfl w.heap.size 37 i0 _ 4 40 Tryd.underlying23 hi hz0 hz1' hz2' (by rfl) (by decide) (.slice A ts.length c) ts.length _ rfl ((HO1.out.alloc _).alloc _) ⟨W1.heap.size + 1, 0, none⟩ 1 1 (tkC ⟨xk, xt, xv, (k : Int)⟩) rfl rfl (tok_news2 _ _ _ _ _ _ _) (tkC_one _) (by have := HLS.out; unfold maxLen; omega) (by have := HLS.out; omega) (by have := HSZ1.out; simp; omega) ?_; intro v' w1 hown1 hgrow hnil; clear hnil; have HO2 := Lib.hid hown1; have HG := Lib.hid hgrow; clear hown1 hgrow)
                  go_roundw
                  case rel =>
                    refine ⟨k + (z), ts ++ [⟨xk, xt, xv, (k : Int)⟩], by go_num, hzs, Lib.hid ⟨HN.out, ?_⟩, Lib.hid ?_, Lib.hid ?_⟩
                    · have := HA.out.2
                      rw [List.length_append]
                      simp
                      omega
                    · rw [List.length_append, tkv_snoc]
                      exact HO2.out
                    · have h3 : Below w.heap.size w ((W1.alloc (.cells #[.int .i64 xk, strV xt, .int .i64 xv, .int .i64 (k : Int)] 37)).alloc (.cells #[.int .i64 xk, strV xt, .int .i64 xv, .int .i64 (k : Int)] 37)) :=
                        ((HB1.out.alloc (HB1.out.size) _).alloc (by rw [World.size_alloc]; have := HB1.out.size; omega) _)
                      exact h3.grown HG.out (by rw [World.size_alloc, World.size_alloc]; have := HB1.out.size; omega) (fun q e => (HO1.out.lt q e).1)
                  case measure => simp [intOf]; omega
                · have hf := step_none HST.out HSZE.out hx
                  have HN := Lib.hid (at_bad HA.out.1 hlt HSP.out hf)
                  have HB1 := Lib.hid (HB.out.trans (hb1.mono HB.out.size))
                  clear hf hb1 hx HT2
                  unfold zeroTk Tk.v
                  go_wp2_with fail
                  go_ret2
                  exact ⟨.inl ⟨by rw [← HT.out, HN.out]; omega, by rw [← HT.out, HN.out]; rfl⟩, HB1.out.alloc HB1.out.size _⟩
            · by_cases hz : word (l.drop k) = []
              · obtain rfl : k = j := by have := HE.out; rw [hz] at this; simpa using this.symm
                exact absurd hks hj
              · have HSZE0 := Lib.hid (show (word (l.drop k)).length = stepSz (l.drop k) by unfold stepSz; rw [if_neg hz])
                obtain ⟨z, hzz⟩ : ∃ z, z = (word (l.drop k)).length := ⟨_, rfl⟩
                have hz1 : 1 ≤ z := by
                  rcases hzl : word (l.drop k) with - | ⟨c0, r0⟩
                  · exact absurd hzl hz
                  · rw [hzz, hzl]; simp
                rw [← hzz] at HE HSZE0
                have HSZE := HSZE0
                obtain rfl : j = k + z := HE.out
                have hjk : (((k + z : Nat) : Int) == (k : Int)) = false := beq_eq_false_iff_ne.2 (by omega)
                have hjk2 : (((k : Int) + (z : Int)) == (k : Int)) = false := beq_eq_false_iff_ne.2 (by omega)
                clear hz hzz HE
                go_wp2_with (first | (go_at_call 18; refine (rnameByte_any _ _).mono ?_; rintro e w' ⟨rfl, rfl⟩; rw [hn]) | fail)
                have HT2 := Lib.hid (tokenOf_any ((l.drop k).take (z)) wr (by rw [List.length_take, List.length_drop, ← HSZ.out]; omega))
                rw [show Value.string (s.extract k (k + (z))) = strV ((l.drop k).take (z)) from by rw [HS.out, ba_mid, Nat.add_sub_cancel_left]]
                refine HT2.out.mono ?_
                rintro e W1 ⟨⟨x, hx, rfl⟩ | ⟨hx, rfl⟩, hb1⟩
                · have hf := step_some HST.out HSZE.out hx
                  have hzs : k + (z) ≤ t.length := by have h5 := (first_size hf).2; rw [List.length_drop] at h5; omega
                  have HN := Lib.hid (at_tok HA.out.1 hlt HSP.out hf)
                  have HLS := Lib.hid (show ts.length + 1 ≤ 8000 by have := HA.out.2; omega)
                  have HB1 := Lib.hid (HB.out.trans (hb1.mono HB.out.size))
                  have HO1 := Lib.hid (ownsRow_below HO.out hb1)
                  have HSZ1 := Lib.hid HB1.out.size
                  obtain ⟨xk, xt, xv, xp⟩ := x
                  obtain ⟨A, c, rfl⟩ := row_is HO1.out
                  clear hf hb1 hx HT2
                  unfold Tk.v
                  go_wp2_with (at_builtin; refine wpList_append_own _ rfl (.tmp 77) (.tmp 79) 23 rfl w.heap.size 37 i0 _ 4 40 Tryd.underlying23 hi hz0 hz1' hz2' (by rfl) (by decide) (.slice A ts.length c) ts.length _ rfl ((HO1.out.alloc _).alloc _) ⟨W1.heap.size + 1, 0, none⟩ 1 1 (tkC ⟨xk, xt, xv, (k : Int)⟩) rfl rfl (tok_news2 _ _ _ _ _ _ _) (tkC_one _) (by have := HLS.out; unfold maxLen; omega) (by have := HLS.out; omega) (by have := HSZ1.out; simp; omega) ?_; intro v' w1 hown1 hgrow hnil; clear hnil; have HO2 := Lib.hid hown1; have HG := Lib.hid hgrow; clear hown1 hgrow)
                  go_roundw
                  case rel =>
                    refine ⟨k + (z), ts ++ [⟨xk, xt, xv, (k : Int)⟩], by go_num, hzs, Lib.hid ⟨HN.out, ?_⟩, Lib.hid ?_, Lib.hid ?_⟩
                    · have := HA.out.2
                      rw [List.length_append]
                      simp
                      omega
                    · rw [List.length_append, tkv_snoc]
                      exact HO2.out
                    · have h3 : Below w.heap.size w ((W1.alloc (.cells #[.int .i64 xk, strV xt, .int .i64 xv, .int .i64 (k : Int)] 37)).alloc (.cells #[.int .i64 xk, strV xt, .int .i64 xv, .int .i64 (k : Int)] 37)) :=
                        ((HB1.out.alloc (HB1.out.size) _).alloc (by rw [World.size_alloc]; have := HB1.out.size; omega) _)
                      exact h3.grown HG.out (by rw [World.size_alloc, World.size_alloc]; have := HB1.out.size; omega) (fun q e => (HO1.out.lt q e).1)
                  case measure => simp [intOf]; omega
                · have hf := step_none HST.out HSZE.out hx
                  have HN := Lib.hid (at_bad HA.out.1 hlt HSP.out hf)
                  have HB1 := Lib.hid (HB.out.trans (hb1.mono HB.out.size))
                  clear hf hb1 hx HT2
                  unfold zeroTk Tk.v
                  go_wp2_with fail
                  go_ret2
                  exact ⟨.inl ⟨by rw [← HT.out, HN.out]; omega, by rw [← HT.out, HN.out]; rfl⟩, HB1.out.alloc HB1.out.size _⟩
    · obtain rfl : k = t.length := by omega
      have HN := Lib.hid (at_end HA.out.1 (Nat.le_refl _))
      obtain ⟨A, c, rfl⟩ := row_is HO.out
      rcases Nat.lt_or_ge t.length s.size with hls | hls
      · have h59 : s[t.length] = 59 := by
          have h1 := HS.out
          have h2 := HT.out
          subst h1 h2
          have h3 := body_stop (l := l) hls
          rw [List.getElem?_eq_getElem hls] at h3
          exact Option.some.inj h3
        go_wp2_with fail
        go_ret2
        refine ⟨.inr ⟨by rw [← HT.out]; exact HN.out.2, _, rfl, ?_⟩, HB.out⟩
        rw [← HT.out, HN.out.1]
        exact HO.out
      · have hls2 : ¬ t.length < s.size := by omega
        go_wp2_with fail
        go_ret2
        refine ⟨.inr ⟨by rw [← HT.out]; exact HN.out.2, _, rfl, ?_⟩, HB.out⟩
        rw [← HT.out, HN.out.1]
        exact HO.out
end Go.Proofs.YtccnaoabmgkblaaDoor.Tok
