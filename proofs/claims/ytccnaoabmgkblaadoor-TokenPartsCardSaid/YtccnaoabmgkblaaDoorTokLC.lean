/- The law TokenComments: true for every two strings. Conditions: the library's listed variables. -/
import Derived.Test.YtccnaoabmgkblaaDoorTokT
namespace Go.Proofs.YtccnaoabmgkblaaDoor.Tok
open Go Go.RowKit

/-- the tokens from another offset on -/
theorem lex_shift : ∀ (n : Nat) (l : List UInt8) (a b : Nat), l.length ≤ n → SameTks false (lex a l).1 (lex b l).1 ∧ (((lex a l).2 = -1 ∧ (lex b l).2 = -1) ∨ (0 ≤ (lex a l).2 ∧ 0 ≤ (lex b l).2))
  | _, [], a, b, _ => by rw [lex_nil, lex_nil]; exact ⟨sameTks_refl _ _, .inl ⟨rfl, rfl⟩⟩
  | 0, c :: r, _, _, h => by simp at h
  | n + 1, c :: r, a, b, h => by
    cases hs : spB c with
    | true =>
      rw [lex_sp hs, lex_sp hs]
      exact lex_shift n r (a + 1) (b + 1) (by simpa using h)
    | false =>
      cases hf : first (c :: r) with
      | none =>
        rw [lex_bad hs hf, lex_bad hs hf]
        exact ⟨sameTks_refl _ _, .inr ⟨by show (0 : Int) ≤ (a : Int); omega, by show (0 : Int) ≤ (b : Int); omega⟩⟩
      | some p =>
        obtain ⟨t, k⟩ := p
        have hk := first_size hf
        rw [lex_tok hs hf, lex_tok hs hf]
        obtain ⟨h1, h2⟩ := lex_shift n ((c :: r).drop k) (a + k) (b + k) (by rw [List.length_drop]; simp only [List.length_cons] at h ⊢; omega)
        refine ⟨⟨by simp [h1.1], ?_⟩, h2⟩
        intro j x y hx hy
        cases j with
        | zero =>
          simp only [List.getElem?_cons_zero, Option.some.injEq] at hx hy
          subst hx hy
          exact ⟨rfl, rfl, rfl, fun e => by cases e⟩
        | succ j =>
          simp only [List.getElem?_cons_succ] at hx hy
          exact h1.2 j x y hx hy
theorem body_semi : ∀ (l r : List UInt8), body (l ++ 59 :: r) = body l
  | [], r => by rw [List.nil_append, body_cons, if_pos rfl]; rfl
  | c :: l, r => by
    rw [List.cons_append, body_cons, body_cons, body_semi l r]
theorem lex_padded (l r : List UInt8) : body ([32, 32] ++ l ++ [59] ++ r) = 32 :: 32 :: body l := by
  rw [List.append_assoc, List.append_assoc]
  show body (32 :: 32 :: (l ++ 59 :: r)) = _
  rw [body_cons, if_neg (by decide), body_cons, if_neg (by decide), body_semi]
theorem lex_spaces (l : List UInt8) : lex 0 (32 :: 32 :: l) = lex 2 l := by rw [lex_sp (by decide), lex_sp (by decide)]
/-- what Split answers, roughly -/
theorem SplitPost.weak {l : List UInt8} {w : World} {e : Ending} {w' : World} (h : SplitPost l w e w') : (∃ (A : Option Addr) (n c : Nat) (k i : Int), e = .returned (.tuple #[.slice A n c, .agg #[.int .i64 k, .int .i64 i]])) ∧ Below w.heap.size w w' := by
  obtain ⟨⟨-, rfl⟩ | ⟨-, -, rfl⟩ | ⟨-, -, v, rfl, hrow⟩, hb⟩ := h
  · exact ⟨⟨_, _, _, _, _, rfl⟩, hb⟩
  · exact ⟨⟨_, _, _, _, _, rfl⟩, hb⟩
  · obtain ⟨A, c, rfl⟩ := row_is hrow
    exact ⟨⟨_, _, _, _, _, rfl⟩, hb⟩
theorem ba_append (x y : List UInt8) : (⟨x.toArray⟩ : ByteArray) ++ ⟨y.toArray⟩ = ⟨(x ++ y).toArray⟩ := by
  apply ByteArray.ext
  simp
/-- the fault and the tokens that Split hands back, for a line that is not too long -/
theorem SplitPost.read {l : List UInt8} {w : World} {e : Ending} {w' : World} (hl : l.length ≤ 8000) (h : SplitPost l w e w') :
    ∃ (v : Value) (n : Nat) (A : Option Addr) (c : Nat) (ts : List Tk) (k i : Int), v = .slice A n c ∧ e = .returned (.tuple #[v, .agg #[.int .i64 k, .int .i64 i]]) ∧ TksAt w'.heap.size w' v ts ∧ Below w.heap.size w w' ∧
      (((lex 0 (body l)).2 = -1 ∧ k = 0 ∧ ts = (lex 0 (body l)).1) ∨ (0 ≤ (lex 0 (body l)).2 ∧ k = 1 ∧ ts = [])) := by
  obtain ⟨⟨h1, -⟩ | ⟨-, h1, rfl⟩ | ⟨-, h1, v, rfl, hrow⟩, hb⟩ := h
  · omega
  · exact ⟨_, _, _, _, [], _, _, rfl, rfl, ⟨none, 0, rfl, by simp, by simp, fun h => absurd h (by simp)⟩, hb, .inr ⟨h1, rfl, rfl⟩⟩
  · have hrd := split_read hl hrow
    obtain ⟨A, c, rfl⟩ := row_is hrow
    exact ⟨_, _, _, _, _, _, _, rfl, rfl, hrd, hb, .inl ⟨h1, rfl, rfl⟩⟩
set_option maxRecDepth 100000 in
set_option maxHeartbeats 4000000 in
theorem law_comments (s r : ByteArray) (w : World) (hs : s.size ≤ 140737488351232) (hr : r.size ≤ 140737488351232) (hV : VarsAt w.heap.size w) :
    Calls Tryd.prog 6 #[.string s, .string r] w fun e w' => e = .returned (.bool true) ∧ Below w.heap.size w w' := by
  have HV := Lib.hid hV
  obtain ⟨l, hl⟩ : ∃ l, l = s.data.toList := ⟨_, rfl⟩
  obtain ⟨q, hq⟩ : ∃ q, q = r.data.toList := ⟨_, rfl⟩
  have HLS := Lib.hid (show Value.string s = strV l by rw [hl])
  have HLEN := Lib.hid (show l.length = s.size by rw [hl]; simp)
  have HQL := Lib.hid (show q.length = r.size by rw [hq]; simp)
  have HCAT := Lib.hid (show Value.string ((⟨#[32, 32]⟩ : ByteArray) ++ s ++ ⟨#[59]⟩ ++ r) = strV ([32, 32] ++ l ++ [59] ++ q) by
    rw [hl, hq]
    congr 1)
  have C0 := Lib.hid (example_any w hV)
  clear hV hl hq
  go_enter Tryd.func6, Tryd.ntmps6
  go_wp2_with fail
  refine C0.out.mono ?_
  rintro e W1 ⟨rfl, hb1⟩
  have HB1 := Lib.hid hb1
  have hsplit := split_any l W1 (by have := HLEN.out; omega) (HV.out.up hb1)
  rw [← HLS.out] at hsplit
  have C1 := Lib.hid hsplit
  clear hb1 C0 hsplit
  by_cases ht : 7000 < s.size + r.size
  · have ht2 : (7000 : Int) < (s.size : Int) + (r.size : Int) := by omega
    go_wp2_with fail
    refine (C1.out.mono fun e w' h => h.weak).mono ?_
    rintro e W2 ⟨⟨A, n, c, k, i, rfl⟩, hb2⟩
    have HB2 := Lib.hid (HB1.out.trans (hb2.mono HB1.out.size))
    have HB3 := Lib.hid (HB2.out.alloc HB2.out.size (.cells #[.int .i64 k, .int .i64 i] 25))
    obtain ⟨W3, hW3⟩ : ∃ W3, W3 = W2.alloc (.cells #[.int .i64 k, .int .i64 i] 25) := ⟨_, rfl⟩
    rw [← hW3] at HB3
    have HW3 := Lib.hid hW3
    have C2 := Lib.hid (split_any ([32, 32] ++ l ++ [59] ++ q) W3 (by have := HLEN.out; have := HQL.out; simp only [List.length_append, List.length_cons, List.length_nil]; omega) (HV.out.up HB3.out))
    clear hb2 hW3 C1
    go_wp2_with fail
    rw [← HW3.out, HCAT.out]
    refine (C2.out.mono fun e w' h => h.weak).mono ?_
    rintro e W4 ⟨⟨A', n', c', k', i', rfl⟩, hb4⟩
    have HB4 := Lib.hid (HB3.out.trans (hb4.mono HB3.out.size))
    clear hb4 C2
    go_wp2_with fail
    go_ret
    exact ⟨rfl, HB4.out.alloc HB4.out.size _⟩
  · have ht2 : ¬ (7000 : Int) < (s.size : Int) + (r.size : Int) := by omega
    have hl8 : l.length ≤ 8000 := by have := HLEN.out; omega
    have hc8 : ([32, 32] ++ l ++ [59] ++ q).length ≤ 8000 := by have := HLEN.out; have := HQL.out; simp only [List.length_append, List.length_cons, List.length_nil]; omega
    have HC8 := Lib.hid hc8
    have HL8 := Lib.hid hl8
    clear hl8 hc8
    go_wp2_with fail
    refine (C1.out.mono fun e w' h => h.read HL8.out).mono ?_
    rintro e W2 ⟨v, n, A, c, ts, k, i, rfl, rfl, hrd, hb2, hcase⟩
    have HB2 := Lib.hid (HB1.out.trans (hb2.mono HB1.out.size))
    have HB3 := Lib.hid (HB2.out.alloc HB2.out.size (.cells #[.int .i64 k, .int .i64 i] 25))
    have hR3 := hrd.below (lit_below W2 (.cells #[.int .i64 k, .int .i64 i] 25))
    have hR3' := hR3.more (lit_below W2 (.cells #[.int .i64 k, .int .i64 i] 25)).size
    have hc0 : (W2.alloc (.cells #[.int .i64 k, .int .i64 i] 25)).cell? ⟨W2.heap.size, 0, none⟩ = some (.int .i64 k) := cells_new (xs := [.int .i64 k, .int .i64 i]) 0 _ rfl
    obtain ⟨W3, hW3⟩ : ∃ W3, W3 = W2.alloc (.cells #[.int .i64 k, .int .i64 i] 25) := ⟨_, rfl⟩
    rw [← hW3] at HB3 hR3' hc0
    have HW3 := Lib.hid hW3
    have HR3 := Lib.hid hR3'
    have HC0 := Lib.hid hc0
    have HCS := Lib.hid hcase
    have C2 := Lib.hid (split_any ([32, 32] ++ l ++ [59] ++ q) W3 (by have := HC8.out; omega) (HV.out.up HB3.out))
    clear hb2 hW3 C1 hrd hR3 hR3' hc0 hcase
    go_wp2_with fail
    rw [← HW3.out, HCAT.out]
    refine (C2.out.mono fun e w' h => h.read HC8.out).mono ?_
    rintro e W4 ⟨v', n', A', c', ts', k', i', rfl, rfl, hrd4, hb4, hcase4⟩
    rw [lex_padded, lex_spaces] at hcase4
    obtain ⟨hs1, hs2⟩ := lex_shift _ (body l) 0 2 (Nat.le_refl _)
    have hkk : k = k' ∧ SameTks false ts ts' := by
      rcases HCS.out with ⟨g1, g2, g3⟩ | ⟨g1, g2, g3⟩ <;> rcases hcase4 with ⟨f1, f2, f3⟩ | ⟨f1, f2, f3⟩
      · exact ⟨by rw [g2, f2], by rw [g3, f3]; exact hs1⟩
      · rcases hs2 with ⟨e1, e2⟩ | ⟨e1, e2⟩
        · rw [e2] at f1; exact absurd f1 (by decide)
        · rw [g1] at e1; exact absurd e1 (by decide)
      · rcases hs2 with ⟨e1, e2⟩ | ⟨e1, e2⟩
        · rw [e1] at g1; exact absurd g1 (by decide)
        · rw [f1] at e2; exact absurd e2 (by decide)
      · exact ⟨by rw [g2, f2], by rw [g3, f3]; exact sameTks_refl _ _⟩
    obtain ⟨rfl, hsame⟩ := hkk
    have HB4 := Lib.hid (HB3.out.trans (hb4.mono HB3.out.size))
    have HB5 := Lib.hid (HB4.out.alloc HB4.out.size (.cells #[.int .i64 k, .int .i64 i'] 25))
    have hlow := lit_below W4 (.cells #[.int .i64 k, .int .i64 i'] 25)
    have hA := (((HR3.out.below hb4).more hb4.size).below hlow).more hlow.size
    have hB := (hrd4.below hlow).more hlow.size
    have C3 := Lib.hid (same_any _ _ _ false _ _ _ hA hB hsame)
    have d0 : W4.cell? ⟨W2.heap.size, 0, none⟩ = some (.int .i64 k) := (hb4.cell (p := ⟨W2.heap.size, 0, none⟩) (block_lt_of_cell HC0.out)).trans HC0.out
    have hz4 := block_lt_of_cell d0
    clear hb4 hrd4 hcase4 hs1 hs2 hsame hA hB C2 hlow
    go_wp2_with fail
    refine C3.out.mono ?_
    rintro e w' ⟨rfl, q', rfl⟩
    go_wp2_with fail
    go_ret
    exact ⟨rfl, below_drewN HB5.out q'⟩
end Go.Proofs.YtccnaoabmgkblaaDoor.Tok
