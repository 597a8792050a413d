/- The law TokenParts: true for every two strings. Conditions: the library's listed variables. -/
import Derived.Deep.Upon
import Derived.Test.YtccnaoabmgkblaaDoorTokLC
namespace Go.Proofs.YtccnaoabmgkblaaDoor.Tok
open Go Go.RowKit

/-! ## a space between two texts -/
theorem word_space : ∀ (l r : List UInt8), word (l ++ 32 :: r) = word l
  | [], r => by rw [List.nil_append, word_cons, if_neg (by decide)]; rfl
  | c :: l, r => by rw [List.cons_append, word_cons, word_cons, word_space l r]
theorem signSz_space {l : List UInt8} (h : l ≠ []) (r : List UInt8) : signSz (l ++ 32 :: r) = signSz l := by
  cases l with
  | nil => exact absurd rfl h
  | cons c l =>
    cases l with
    | nil =>
      rw [signSz_one]
      have h1 : Lib.hasPrefix (c :: 32 :: r) [60, 60] = false := by simp [Lib.hasPrefix, List.isPrefixOf]
      have h2 : Lib.hasPrefix (c :: 32 :: r) [62, 62] = false := by simp [Lib.hasPrefix, List.isPrefixOf]
      show signSz (c :: 32 :: r) = _
      unfold signSz
      rw [if_neg (by rw [h1, h2]; simp)]
    | cons d l => unfold signSz; simp [Lib.hasPrefix]
theorem first_space {l : List UInt8} (h : l ≠ []) (r : List UInt8) : first (l ++ 32 :: r) = first l := by
  unfold first
  rw [signSz_space h, word_space, List.take_append_of_le_length (signSz_le l).2]
theorem lex_space : ∀ (n : Nat) (l : List UInt8) (a : Nat) (r : List UInt8), l.length ≤ n → (lex a l).2 = -1 → lex a (l ++ 32 :: r) = ((lex a l).1 ++ (lex (a + l.length + 1) r).1, (lex (a + l.length + 1) r).2)
  | _, [], a, r, _, _ => by
    rw [List.nil_append, lex_sp (by decide), lex_nil]
    simp
  | 0, c :: l, _, _, h, _ => by simp at h
  | n + 1, c :: l, a, r, h, he => by
    cases hs : spB c with
    | true =>
      rw [lex_sp hs] at he
      rw [List.cons_append, lex_sp hs, lex_sp hs, lex_space n l (a + 1) r (by simpa using h) he]
      rw [show a + 1 + l.length + 1 = a + (c :: l).length + 1 by simp only [List.length_cons]; omega]
    | false =>
      cases hf : first (c :: l) with
      | none =>
        rw [lex_bad hs hf] at he
        have : (a : Int) = -1 := he
        omega
      | some p =>
        obtain ⟨t, k⟩ := p
        have hk := first_size hf
        have hf2 : first (c :: l ++ 32 :: r) = some (t, k) := by rw [first_space (by simp), hf]
        rw [List.cons_append] at hf2 ⊢
        rw [lex_tok hs hf] at he ⊢
        rw [lex_tok hs hf2]
        have hd : (c :: (l ++ 32 :: r)).drop k = (c :: l).drop k ++ 32 :: r := by
          rw [← List.cons_append, List.drop_append_of_le_length hk.2]
        rw [hd, lex_space n ((c :: l).drop k) (a + k) r (by rw [List.length_drop]; simp only [List.length_cons] at h ⊢; omega) he]
        rw [show a + k + ((c :: l).drop k).length + 1 = a + (c :: l).length + 1 by rw [List.length_drop]; omega]
        rfl
theorem body_space : ∀ (l r : List UInt8), (∀ x ∈ l, x ≠ 59) → body (l ++ 32 :: r) = l ++ 32 :: body r
  | [], r, _ => by rw [List.nil_append, body_cons, if_neg (by decide)]; rfl
  | c :: l, r, h => by
    rw [List.cons_append, body_cons, if_neg (h c List.mem_cons_self), body_space l r (fun x hx => h x (List.mem_cons_of_mem _ hx))]
    rfl
theorem sameTks_append {b : Bool} {xs ys us vs : List Tk} (h1 : SameTks b xs us) (h2 : SameTks b ys vs) : SameTks b (xs ++ ys) (us ++ vs) := by
  refine ⟨by rw [List.length_append, List.length_append, h1.1, h2.1], fun j x y hx hy => ?_⟩
  by_cases hj : j < xs.length
  · rw [List.getElem?_append_left hj] at hx
    rw [List.getElem?_append_left (by rw [← h1.1]; exact hj)] at hy
    exact h1.2 j x y hx hy
  · rw [List.getElem?_append_right (by omega)] at hx
    rw [List.getElem?_append_right (by rw [← h1.1]; omega), ← h1.1] at hy
    exact h2.2 _ x y hx hy
/-! ## append of tokens -/
theorem tkv_append (xs ys : List Tk) : tkv (xs ++ ys) = tkv xs ++ tkv ys := by simp [tkv]
theorem tkv_one (ts : List Tk) : ∀ u ∈ tkv ts, u.oneCell' = true := by
  intro u hu
  simp only [tkv, List.mem_flatMap] at hu
  obtain ⟨t, -, hu⟩ := hu
  exact tkC_one t u hu
theorem tkv_cells {B : Nat} {w : World} {ts : List Tk} {b off : Nat} {n c : Nat} (_ : TksAt B w (.slice (some ⟨b, off, none⟩) n c) ts) (hc : ∀ j t, ts[j]? = some t → TkCells w b (off + j * 4) t) :
    ∀ j u, (tkv ts)[j]? = some u → w.cell? ((⟨b, off, none⟩ : Addr).add j) = some u := by
  intro j u hu
  have hj : j < ts.length * 4 := by have := (List.getElem?_eq_some_iff.1 hu).1; rwa [tkv_length] at this
  have hq : j / 4 < ts.length := by omega
  have ht : ts[j / 4]? = some ts[j / 4] := List.getElem?_eq_getElem hq
  obtain ⟨c0, c1, c2, c3⟩ := hc _ _ ht
  have ha := tkv_at ht (j % 4) (Nat.mod_lt _ (by decide))
  rw [show j / 4 * 4 + j % 4 = j by omega, hu] at ha
  have ea : (⟨b, off, none⟩ : Addr).add j = ⟨b, off + j, none⟩ := by
    unfold Addr.add
    split
    · rename_i h0; rw [h0]; rfl
    · rfl
  rw [ea, ha]
  have hm : j % 4 = 0 ∨ j % 4 = 1 ∨ j % 4 = 2 ∨ j % 4 = 3 := by omega
  rcases hm with h | h | h | h
  · rw [show off + j = off + j / 4 * 4 by omega, c0, h]; rfl
  · rw [show off + j = off + j / 4 * 4 + 1 by omega, c1, h]; rfl
  · rw [show off + j = off + j / 4 * 4 + 2 by omega, c2, h]; rfl
  · rw [show off + j = off + j / 4 * 4 + 3 by omega, c3, h]; rfl
set_option maxRecDepth 100000 in
theorem wp_append_toks {ops : Array Oper} {rest : List Oper} {o : Oper} {a : Act} {Q : Exit → Act → World → Prop} {w : World} (hgd : o.guard = none) (s x : Operand) (ho : o.op = .call { callee := .builtin .append, args := #[s, x], argTypes := #[23, 23] })
    (base : Nat) (v : Value) (xs : List Tk) (hs : a.eval s = v) (hown : w.ownsRow base 37 4 v xs.length (tkv xs)) (B : Nat) (xv : Value) (ts : List Tk) (hx : a.eval x = xv) (hl : TksAt B w xv ts) (hn : xs.length + ts.length ≤ 1000000) (hbase : base ≤ w.heap.size)
    (h : ∀ v' w', w'.ownsRow base 37 4 v' (xs ++ ts).length (tkv (xs ++ ts)) → w.grownBy w' v.ownBlock → wpList Tryd.prog ops Q rest (a.put o.dst v') w') : wpList Tryd.prog ops Q (o :: rest) a w := by
  obtain ⟨i0, hi, hz0, hz1, hz2⟩ := info_parts infoTok
  obtain ⟨A, m, c, rfl, Hl, ⟨hm, hc⟩, -, hcc⟩ := hl.opens
  have hlm : ts.length = m := Hl.out
  cases A with
  | none =>
    have hl0 : ts = [] := by
      cases ts with
      | nil => rfl
      | cons y ys =>
        obtain ⟨b, off, e, _⟩ := hcc.out (by rw [← hlm]; simp)
        simp at e
    subst hl0
    obtain rfl : m = 0 := by simpa using hlm.symm
    obtain ⟨base', sLen, sCap, rfl, hle⟩ : ∃ base' sLen sCap, v = .slice base' sLen sCap ∧ sLen ≤ sCap := by
      rcases hown.2 with ⟨h1, h2⟩ | ⟨g, cap, cur, h1, _, _, h4, _⟩
      · exact ⟨_, _, _, h1, by omega⟩
      · exact ⟨_, _, _, h1, h4⟩
    refine wpList_plain hgd fun K hK => ?_
    have hr := run_append_nothing (P := Tryd.prog) w 23 23 o.type 37 i0 Tryd.underlying23 hi base' sLen sCap hle (.slice none 0 c) (Src.ofNil w Tryd.underlying23 c)
    unfold Oper.wp execOp
    simp only [ho, resolve, invoke, builtin, Sem.run_bind, Sem.run_pure, Result.andThen_ok, List.map_toArray, List.map_cons, List.map_nil, hs, hx, hr]
    exact hK _ _ (h _ _ (by simpa using hown) ((⟨rfl, rfl, rfl, Nat.le_refl _, fun _ _ _ => rfl⟩ : w.grownBy w _)))
  | some ad =>
    refine wpList_append_own _ hgd s x 23 ho base 37 i0 _ 4 40 Tryd.underlying23 hi hz0 hz1 hz2 (by rfl) (by decide) v xs.length (tkv xs) hs hown ad m c (tkv ts) hx (by rw [tkv_length]; omega) ?_ (tkv_one ts) (by unfold maxLen; omega) (by omega) hbase ?_
    · intro j u hu
      have hj : j < ts.length * 4 := by have := (List.getElem?_eq_some_iff.1 hu).1; rwa [tkv_length] at this
      obtain ⟨b, off, e, _, hcs⟩ := hcc.out (by omega)
      injection e with e
      subst e
      exact tkv_cells hl hcs j u hu
    · intro v' w' h1 h2 _
      exact h v' w' (by rw [List.length_append, tkv_append, hlm]; exact h1) h2
/-- an operation behind a guard that holds -/
theorem wpList_behind {P : Program} {ops : Array Oper} {rest : List Oper} {o : Oper} {a : Act} {Q : Exit → Act → World → Prop} {w : World} (hw : Region.wanted o (yielded ops a.tmps) = true) (h : wpList P ops Q ({ o with guard := none } :: rest) a w) : wpList P ops Q (o :: rest) a w := by
  unfold wpList at h ⊢
  rw [if_pos hw]
  rw [if_pos (by rfl)] at h
  exact h
/-- what Split answers, for any line -/
theorem SplitPost.full {l : List UInt8} {w : World} {e : Ending} {w' : World} (h : SplitPost l w e w') :
    ∃ (n : Nat) (A : Option Addr) (c : Nat) (ts : List Tk) (k i : Int), e = .returned (.tuple #[.slice A n c, .agg #[.int .i64 k, .int .i64 i]]) ∧ TksAt w'.heap.size w' (.slice A n c) ts ∧ Below w.heap.size w w' ∧
      ((l.length ≤ 8000 ∧ (lex 0 (body l)).2 = -1 ∧ k = 0 ∧ ts = (lex 0 (body l)).1) ∨ (k ≠ 0 ∧ n = 0 ∧ (8000 < l.length ∨ 0 ≤ (lex 0 (body l)).2))) := by
  have hnil : ∀ W : World, TksAt W.heap.size W (.slice none 0 0) [] := fun W => ⟨none, 0, rfl, by simp, by simp, fun h => absurd h (by simp)⟩
  obtain ⟨⟨h1, rfl⟩ | ⟨h0, h1, rfl⟩ | ⟨h0, h1, v, rfl, hrow⟩, hb⟩ := h
  · exact ⟨_, _, _, [], _, _, rfl, hnil _, hb, .inr ⟨by decide, rfl, .inl h1⟩⟩
  · exact ⟨_, _, _, [], _, _, rfl, hnil _, hb, .inr ⟨by decide, rfl, .inr h1⟩⟩
  · have hrd := split_read h0 hrow
    obtain ⟨A, c, rfl⟩ := row_is hrow
    exact ⟨_, _, _, _, _, _, rfl, hrd, hb, .inl ⟨h0, h1, rfl, rfl⟩⟩
theorem box_cell (W : World) (k i : Int) : (W.alloc (.cells #[.int .i64 k, .int .i64 i] 25)).cell? ⟨W.heap.size, 0, none⟩ = some (.int .i64 k) := cells_new (xs := [.int .i64 k, .int .i64 i]) 0 _ rfl
set_option maxRecDepth 100000 in
set_option maxHeartbeats 8000000 in
theorem law_parts (s r : ByteArray) (w : World) (hs : s.size ≤ 140737488351232) (hr : r.size ≤ 140737488351232) (hV : VarsAt w.heap.size w) :
    Calls Tryd.prog 7 #[.string s, .string r] w fun e w' => e = .returned (.bool true) ∧ Below w.heap.size w w' := by
  have HV := Lib.hid hV
  obtain ⟨l, hl⟩ : ∃ l, l = s.data.toList := ⟨_, rfl⟩
  obtain ⟨q, hq⟩ : ∃ q, q = r.data.toList := ⟨_, rfl⟩
  have HLS := Lib.hid (show Value.string s = strV l by rw [hl])
  have HQS := Lib.hid (show Value.string r = strV q by rw [hq])
  have HL := Lib.hid hl
  have HLEN := Lib.hid (show l.length = s.size by rw [hl]; simp)
  have HQL := Lib.hid (show q.length = r.size by rw [hq]; simp)
  have HCAT := Lib.hid (show Value.string (s ++ ⟨#[32]⟩ ++ r) = strV (l ++ 32 :: q) by
    rw [hl, hq, show s.data.toList ++ 32 :: r.data.toList = s.data.toList ++ [32] ++ r.data.toList by simp]
    congr 1)
  have C0 := Lib.hid (example_any w hV)
  clear hV hl hq
  go_enter Tryd.func7, Tryd.ntmps7
  go_wp2_with fail
  refine C0.out.mono ?_
  rintro e W1 ⟨rfl, hb1⟩
  have HB1 := Lib.hid hb1
  clear hb1 C0
  go_wp2_with fail
  go_loop [5] (fun i => ∃ k : Nat, k ≤ s.size ∧ i = .int .i64 k ∧ Hid (∀ x ∈ s.data.toList.take k, x ≠ 59)) (fun i => s.size - (intOf i).toNat)
  case atStart => exact ⟨0, Nat.zero_le _, rfl, Lib.hid (by simp)⟩
  case round =>
    obtain ⟨k, hk, rfl, HA⟩ := hrel
    by_cases hlt : k < s.size
    · by_cases h59 : s[k] = 59
      · go_wp2
        go_ret
        exact ⟨rfl, HB1.out⟩
      · have hne := byte_ne (n := 59) h59
        have hne2 : (((s[k]).toNat : Int) == 59) = false := hne
        have HN := Lib.hid (show ∀ x ∈ s.data.toList.take (k + 1), x ≠ 59 by
          rw [List.take_succ_eq_append_getElem (by simpa using hlt)]
          intro x hx
          rcases List.mem_append.1 hx with hx | hx
          · exact HA.out x hx
          · rw [List.mem_singleton] at hx
            rw [hx]
            exact h59)
        clear h59 hne
        go_wp2
        go_round
        case rel => exact ⟨k + 1, by omega, by go_num, HN⟩
        case measure => simp [intOf]; omega
    · obtain rfl : k = s.size := by omega
      have HNO := Lib.hid (show ∀ x ∈ l, x ≠ 59 by
        have := HA.out
        rw [List.take_of_length_le (by simp), ← HL.out] at this
        exact this)
      clear HA
      have C1 := Lib.hid (split_any l W1 (by have := HLEN.out; omega) (HV.out.up HB1.out))
      rw [← HLS.out] at C1
      go_wp2_with fail
      refine (C1.out.mono fun e w' h => h.full).mono ?_
      rintro e W2 ⟨n1, A1, c1, ts1, k1, i1, rfl, hrd1, hb2, hcs1⟩
      have HB2 := Lib.hid (HB1.out.trans (hb2.mono HB1.out.size))
      have HB3 := Lib.hid (HB2.out.alloc HB2.out.size (.cells #[.int .i64 k1, .int .i64 i1] 25))
      have hlow2 := lit_below W2 (.cells #[.int .i64 k1, .int .i64 i1] 25)
      have hR := (hrd1.below hlow2).more hlow2.size
      have hX := box_cell W2 k1 i1
      obtain ⟨W3, hW3⟩ : ∃ W3, W3 = W2.alloc (.cells #[.int .i64 k1, .int .i64 i1] 25) := ⟨_, rfl⟩
      rw [← hW3] at HB3 hR hX
      have HW3 := Lib.hid hW3
      have HR1 := Lib.hid hR
      have HX1 := Lib.hid hX
      have HC1 := Lib.hid hcs1
      have C2 := Lib.hid (split_any q W3 (by have := HQL.out; omega) (HV.out.up HB3.out))
      rw [← HQS.out] at C2
      clear hb2 hlow2 hR hX hrd1 hcs1 hW3 C1
      go_wp2_with fail
      rw [← HW3.out]
      refine (C2.out.mono fun e w' h => h.full).mono ?_
      rintro e W4 ⟨n2, A2, c2, ts2, k2, i2, rfl, hrd2, hb4, hcs2⟩
      have HB4 := Lib.hid (HB3.out.trans (hb4.mono HB3.out.size))
      have HB5 := Lib.hid (HB4.out.alloc HB4.out.size (.cells #[.int .i64 k2, .int .i64 i2] 25))
      have hlow4 := lit_below W4 (.cells #[.int .i64 k2, .int .i64 i2] 25)
      have hbb := hb4.trans (hlow4.mono hb4.size)
      have hR1 := (HR1.out.below hbb).more hbb.size
      have hR2 := (hrd2.below hlow4).more hlow4.size
      have hX1 := (hbb.cell (p := ⟨W2.heap.size, 0, none⟩) (block_lt_of_cell HX1.out)).trans HX1.out
      have hX2 := box_cell W4 k2 i2
      obtain ⟨W5, hW5⟩ : ∃ W5, W5 = W4.alloc (.cells #[.int .i64 k2, .int .i64 i2] 25) := ⟨_, rfl⟩
      rw [← hW5] at HB5 hR1 hR2 hX1 hX2
      have HW5 := Lib.hid hW5
      have HR1' := Lib.hid hR1
      have HR2' := Lib.hid hR2
      have HX1' := Lib.hid hX1
      have HX2' := Lib.hid hX2
      have HC2 := Lib.hid hcs2
      have C3 := Lib.hid (split_any (l ++ 32 :: q) W5 (by have := HLEN.out; have := HQL.out; simp only [List.length_append, List.length_cons]; omega) (HV.out.up HB5.out))
      rw [← HCAT.out] at C3
      clear hb4 hlow4 hbb hR1 hR2 hX1 hX2 hrd2 hcs2 hW5 C2 HR1 HX1 HW3
      go_wp2_with fail
      rw [← HW5.out]
      refine (C3.out.mono fun e w' h => h.full).mono ?_
      rintro e W6 ⟨n3, A3, c3, ts3, k3, i3, rfl, hrd3, hb6, hcs3⟩
      have HB6 := Lib.hid (HB5.out.trans (hb6.mono HB5.out.size))
      have hlow6 := lit_below W6 (.cells #[.int .i64 k3, .int .i64 i3] 25)
      have HB7 := Lib.hid (HB6.out.trans (hlow6.mono HB6.out.size))
      have hbb := hb6.trans (hlow6.mono hb6.size)
      have HR1 := Lib.hid ((HR1'.out.below hbb).more hbb.size)
      have HR2 := Lib.hid ((HR2'.out.below hbb).more hbb.size)
      have HR3 := Lib.hid ((hrd3.below hlow6).more hlow6.size)
      have x1 := (hb6.cell (p := ⟨W2.heap.size, 0, none⟩) (block_lt_of_cell HX1'.out)).trans HX1'.out
      have x2 := (hb6.cell (p := ⟨W4.heap.size, 0, none⟩) (block_lt_of_cell HX2'.out)).trans HX2'.out
      have z1 := block_lt_of_cell x1
      have z2 := block_lt_of_cell x2
      have HC3 := Lib.hid hcs3
      clear hb6 hlow6 hbb hrd3 hcs3 C3 HR1' HR2' HX1' HX2' HW5
      by_cases a1 : k1 = 0
      · subst a1
        by_cases a2 : k2 = 0
        · subst a2
          by_cases ht : 7000 < s.size + r.size
          · have ht2 : (7000 : Int) < (s.size : Int) + (r.size : Int) := by omega
            go_wp2_with fail
            go_ret
            exact ⟨rfl, HB7.out⟩
          · have ht2 : ¬ (7000 : Int) < (s.size : Int) + (r.size : Int) := by omega
            have hkk : k3 = 0 ∧ SameTks false ts3 (ts1 ++ ts2) := by
              rcases HC1.out with ⟨-, g1, -, g2⟩ | ⟨g1, -⟩
              · rcases HC2.out with ⟨-, f1, -, f2⟩ | ⟨f1, -⟩
                · have hbd : body l = l := body_id HNO.out
                  have hb3 : body (l ++ 32 :: q) = l ++ 32 :: body q := body_space l q HNO.out
                  rw [hbd] at g1 g2
                  have hlx := lex_space _ l 0 (body q) (Nat.le_refl _) g1
                  obtain ⟨e1, e2⟩ := lex_shift _ (body q) (0 + l.length + 1) 0 (Nat.le_refl _)
                  have e3 : (lex (0 + l.length + 1) (body q)).2 = -1 := by
                    rcases e2 with ⟨e2, -⟩ | ⟨-, e2⟩
                    · exact e2
                    · rw [f1] at e2; exact absurd e2 (by decide)
                  rcases HC3.out with ⟨-, -, d2, d3⟩ | ⟨-, -, d1⟩
                  · refine ⟨d2, ?_⟩
                    rw [d3, g2, f2, hb3, hlx]
                    exact sameTks_append (sameTks_refl _ _) e1
                  · rcases d1 with d1 | d1
                    · have h1 := HLEN.out
                      have h2 := HQL.out
                      simp only [List.length_append, List.length_cons] at d1
                      omega
                    · rw [hb3, hlx] at d1
                      have d1' : 0 ≤ (lex (0 + l.length + 1) (body q)).2 := d1
                      rw [e3] at d1'
                      exact absurd d1' (by decide)
                · exact absurd rfl f1
              · exact absurd rfl g1
            obtain ⟨rfl, hsame⟩ := hkk
            have HS := Lib.hid hsame
            have HT1 := Lib.hid (show ∀ t ∈ ts1, t.text.length ≤ 140737488351232 from by obtain ⟨_, _, _, _, _, _, T, _⟩ := HR1.out.opens; exact T.out)
            have HT2 := Lib.hid (show ∀ t ∈ ts2, t.text.length ≤ 140737488351232 from by obtain ⟨_, _, _, _, _, _, T, _⟩ := HR2.out.opens; exact T.out)
            have HLN := Lib.hid (show ts1.length + ts2.length ≤ 16000 by
              have b1 := (lex_bounds _ (body l) 0 (Nat.le_refl _)).1
              have b2 := (lex_bounds _ (body q) 0 (Nat.le_refl _)).1
              have b3 := body_le l
              have b4 := body_le q
              have b5 := HLEN.out
              have b6 := HQL.out
              rcases HC1.out with ⟨-, -, -, g2⟩ | ⟨g1, -⟩
              · rcases HC2.out with ⟨-, -, -, f2⟩ | ⟨f1, -⟩
                · rw [g2, f2]; omega
                · exact absurd rfl f1
              · exact absurd rfl g1)
            obtain ⟨U, hU⟩ : ∃ U, U = W6.alloc (.cells #[.int .i64 0, .int .i64 i3] 25) := ⟨_, rfl⟩
            have HUS := Lib.hid (show U.heap.size = W6.heap.size + 1 by rw [hU]; simp)
            have HU := Lib.hid hU
            rw [← hU] at HR1 HR2 HR3 HB7
            clear hU hsame
            have key1 := Lib.hid (show ∀ (ops : Array Oper) (rest : List Oper) (o : Oper) (a : Act) (Q : Exit → Act → World → Prop), o.guard = none → o.op = .call { callee := .builtin .append, args := #[.const (.slice none 0 0), .tmp 71], argTypes := #[23, 23] } → a.eval (.tmp 71) = .slice A1 n1 c1 →
                (∀ v' w', w'.ownsRow U.heap.size 37 4 v' ([] ++ ts1).length (tkv ([] ++ ts1)) → Below U.heap.size U w' → wpList Tryd.prog ops Q rest (a.put o.dst v') w') → wpList Tryd.prog ops Q (o :: rest) a (W6.alloc (.cells #[.int .i64 0, .int .i64 i3] 25)) from fun ops rest o a Q h1 h2 h3 h4 => by
              rw [← HU.out]
              exact wp_append_toks h1 (.const (.slice none 0 0)) (.tmp 71) h2 U.heap.size (.slice none 0 0) [] rfl (World.ownsRow_nil _ _ _ _) _ _ ts1 h3 HR1.out (by have := HLN.out; show 0 + _ ≤ _; omega) (Nat.le_refl _) (fun v' w' h5 h6 => h4 v' w' h5 ((Below.refl _ _).grown h6 (Nat.le_refl _) (fun k e => by cases e))))
            have key2 := Lib.hid (show ∀ (v1 : Value) (w1 : World), w1.ownsRow U.heap.size 37 4 v1 ([] ++ ts1).length (tkv ([] ++ ts1)) → Below U.heap.size U w1 → ∀ (ops : Array Oper) (rest : List Oper) (o : Oper) (a : Act) (Q : Exit → Act → World → Prop), o.guard = none → o.op = .call { callee := .builtin .append, args := #[.tmp 72, .tmp 73], argTypes := #[23, 23] } → a.eval (.tmp 72) = v1 → a.eval (.tmp 73) = .slice A2 n2 c2 →
                (∀ v' w', w'.ownsRow U.heap.size 37 4 v' ([] ++ ts1 ++ ts2).length (tkv ([] ++ ts1 ++ ts2)) → Below U.heap.size U w' → wpList Tryd.prog ops Q rest (a.put o.dst v') w') → wpList Tryd.prog ops Q (o :: rest) a w1 from fun v1 w1 hO hB ops rest o a Q h1 h2 h3 h3' h4 => by
              exact wp_append_toks h1 (.tmp 72) (.tmp 73) h2 U.heap.size v1 ([] ++ ts1) h3 hO _ _ ts2 h3' ((HR2.out.below hB).more hB.size) (by have := HLN.out; rw [List.nil_append]; omega) hB.size (fun v' w' h5 h6 => h4 v' w' h5 (hB.grown h6 hB.size (fun k e => (hO.lt k e).1))))
            go_wp2_with (at_builtin; (first
              | (refine wpList_behind (by rfl) (key1.out _ _ _ _ _ rfl rfl rfl ?_); intro v1 w1 hown1 hb1; have HO1 := Lib.hid hown1; have HB1u := Lib.hid hb1; clear hown1 hb1)
              | (refine wpList_behind (by rfl) (key2.out _ _ HO1.out HB1u.out _ _ _ _ _ rfl rfl rfl rfl ?_); intro v2 w2 hown2 hb2; have HO2 := Lib.hid hown2; have HB2u := Lib.hid hb2; clear hown2 hb2)))
            have hrd := toks_of_row HO2.out (by rw [List.nil_append, List.length_append]; have := HLN.out; omega) (fun t ht => by
              rw [List.nil_append] at ht
              rcases List.mem_append.1 ht with ht | ht
              · exact HT1.out t ht
              · exact HT2.out t ht)
            have C4 := Lib.hid (same_any _ _ _ false ts3 _ w2 ((HR3.out.below HB2u.out).more HB2u.out.size) hrd (by rw [List.nil_append]; exact HS.out))
            clear hrd
            refine C4.out.mono ?_
            rintro e w' ⟨rfl, q', rfl⟩
            go_wp2_with fail
            go_ret
            exact ⟨rfl, below_drewN (HB7.out.trans (HB2u.out.mono HB7.out.size)) q'⟩
        · have a2' : (k2 != 0) = true := bne_iff_ne.2 a2
          go_wp2_with fail
          go_ret
          exact ⟨rfl, HB7.out⟩
      · have a1' : (k1 != 0) = true := bne_iff_ne.2 a1
        have a1'' : (k1 == 0) = false := beq_eq_false_iff_ne.2 a1
        obtain rfl : n1 = 0 := by
          rcases HC1.out with ⟨-, -, g, -⟩ | ⟨-, g, -⟩
          · exact absurd g a1
          · exact g
        clear a1
        go_wp2_with fail
        go_ret
        exact ⟨rfl, HB7.out⟩
end Go.Proofs.YtccnaoabmgkblaaDoor.Tok
