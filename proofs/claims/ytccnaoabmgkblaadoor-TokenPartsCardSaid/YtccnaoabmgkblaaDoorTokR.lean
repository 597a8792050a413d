/- Contract of tokenExample: the examples of the document hold. Conditions: the library's listed variables. -/
import Derived.Test.YtccnaoabmgkblaaDoorTokQ
namespace Go.Proofs.YtccnaoabmgkblaaDoor.Tok
open Go Go.RowKit

def exLine : List UInt8 := [97, 44, 32, 48, 120, 49, 48]
def exToks : List Tk := [⟨1, [97], 0, 0⟩, ⟨3, [44], 0, 1⟩, ⟨2, [], 16, 3⟩]
def exJoin : List Tk := [⟨1, [97], 0, 0⟩, ⟨3, [44], 0, 0⟩, ⟨2, [], 16, 0⟩]
theorem ex_lex : lex 0 (body exLine) = (exToks, -1) := by
  have hb : body exLine = exLine := by rfl
  rw [hb]
  unfold exLine
  rw [lex_tok (k := 1) (t := ⟨1, [97], 0, 0⟩) (by decide) (by rfl)]
  simp only [List.drop_succ_cons, List.drop_zero]
  rw [lex_tok (k := 1) (t := ⟨3, [44], 0, 0⟩) (by decide) (by rfl)]
  simp only [List.drop_succ_cons, List.drop_zero]
  rw [lex_sp (by decide)]
  rw [lex_tok (k := 4) (t := ⟨2, [], 16, 0⟩) (by decide) (by rfl)]
  simp only [List.drop_succ_cons, List.drop_zero]
  rw [lex_nil]
  rfl
theorem itoa16 : Lib.itoa 16 = [49, 54] := by
  unfold Lib.itoa
  rw [if_neg (by decide)]
  show Lib.decDigits 16 = _
  rw [Lib.decDigits, dif_neg (by decide), show 16 / 10 = 1 from rfl, Lib.decDigits, dif_pos (by decide)]
  rfl
theorem ex_join : joinL exJoin = [97, 32, 44, 32, 49, 54] := by
  have h1 : textL ⟨1, [97], 0, 0⟩ = [97] := by unfold textL; rw [if_neg (by show ¬ (1 : Int) = 2; decide)]
  have h2 : textL ⟨3, [44], 0, 0⟩ = [44] := by unfold textL; rw [if_neg (by show ¬ (3 : Int) = 2; decide)]
  have h3 : textL ⟨2, [], 16, 0⟩ = [49, 54] := by unfold textL; rw [if_pos rfl]; exact itoa16
  unfold joinL preL exJoin
  simp [h1, h2, h3]
theorem ex_ok : noneYet malT exJoin exJoin.length := by
  intro j x hj hx
  match j, hx with
  | 0, hx => cases hx; decide
  | 1, hx => cases hx; decide
  | 2, hx => cases hx; decide
  | j + 3, hx => simp [exJoin] at hx
theorem toks_new (w : World) (ts : List Tk) (hn : ts.length ≤ 1000) (hr : ∀ t ∈ ts, t.text.length ≤ 140737488351232) : TksAt (w.heap.size + 1) (w.alloc (.cells (tkv ts).toArray 37)) (.slice (some ⟨w.heap.size, 0, none⟩) ts.length ts.length) ts :=
  ⟨_, _, rfl, ⟨by omega, Nat.le_refl _⟩, hr, fun _ => ⟨_, 0, rfl, Nat.lt_succ_self _, fun j t hj => by
    have hat := tkv_at hj
    rw [Nat.zero_add]
    exact ⟨cells_new (j * 4) _ (hat 0 (by decide)), cells_new (j * 4 + 1) _ (hat 1 (by decide)), cells_new (j * 4 + 2) _ (hat 2 (by decide)), cells_new (j * 4 + 3) _ (hat 3 (by decide))⟩⟩⟩
set_option maxHeartbeats 4000000 in
set_option maxRecDepth 100000 in
theorem example_any (w : World) (hV : VarsAt w.heap.size w) : Calls Tryd.prog 8 #[] w fun e w' => e = .returned (.bool true) ∧ Below w.heap.size w w' := by
  have HV := Lib.hid hV
  have C1 := Lib.hid (split_any exLine w (by decide) hV)
  unfold exLine at C1
  clear hV
  go_enter Tryd.func8, Tryd.ntmps8
  go_wp2_with fail
  refine C1.out.mono ?_
  rintro e W1 ⟨⟨h1, -⟩ | ⟨-, h1, -⟩ | ⟨-, -, v, rfl, hrow⟩, hb1⟩
  · exact absurd h1 (by decide)
  · rw [show ([97, 44, 32, 48, 120, 49, 48] : List UInt8) = exLine from rfl, ex_lex] at h1
    exact absurd h1 (by decide)
  · rw [show ([97, 44, 32, 48, 120, 49, 48] : List UInt8) = exLine from rfl, ex_lex] at hrow
    have hrow2 : W1.ownsRow w.heap.size 37 4 v 3 (tkv exToks) := hrow
    have HRW := Lib.hid hrow2
    have HB1 := Lib.hid hb1
    obtain ⟨A, c, rfl⟩ := row_is hrow2
    clear hrow hrow2 hb1 C1
    go_wp2_with fail
    have hrow3 := toks_new (W1.alloc (.cells #[.int .i64 0, .int .i64 0] 25)) exJoin (by decide) (by intro t ht; simp only [exJoin, List.mem_cons, List.not_mem_nil, or_false] at ht; rcases ht with rfl | rfl | rfl <;> decide)
    have hfb : (W1.alloc (.cells #[.int .i64 0, .int .i64 0] 25)).cell? ⟨W1.heap.size, 0, none⟩ = some (.int .i64 0) := cells_new (xs := [.int .i64 0, .int .i64 0]) 0 _ rfl
    have hb2 : Below W1.heap.size W1 ((W1.alloc (.cells #[.int .i64 0, .int .i64 0] 25)).alloc (.cells (tkv exJoin).toArray 37)) := ((Below.refl _ _).alloc (Nat.le_refl _) _).alloc (by simp) _
    have hfb2 := cell_alloc_l (.cells (tkv exJoin).toArray 37) hfb
    rw [World.size_alloc] at hrow3
    obtain ⟨V, hV⟩ : ∃ V, V = (W1.alloc (.cells #[.int .i64 0, .int .i64 0] 25)).alloc (.cells (tkv exJoin).toArray 37) := ⟨_, rfl⟩
    rw [← hV] at hrow3 hb2 hfb2
    have hV2 := hV
    unfold exJoin tkv tkC at hV2
    simp only [List.flatMap_cons, List.flatMap_nil, List.append_nil, List.cons_append, List.nil_append] at hV2
    rw [← hV2]
    have HB2 := Lib.hid (HB1.out.trans (hb2.mono HB1.out.size))
    have HR2 := Lib.hid (ownsRow_below HRW.out hb2)
    have HF2 := Lib.hid hfb2
    have hvs : W1.heap.size + 1 + 1 ≤ V.heap.size := by rw [hV]; simp
    have C2 := Lib.hid (join_any _ _ exJoin V hrow3 (by omega) (HV.out.up HB2.out))
    clear hrow3 hb2 hfb hfb2 hV hV2
    refine C2.out.mono ?_
    rintro e W2 ⟨⟨h1, -⟩ | ⟨-, k, t, hk, hm, -, -⟩ | ⟨-, -, h1, -⟩ | ⟨-, -, -, rfl⟩, hb3⟩
    · exact absurd h1 (by decide)
    · have := ex_ok k t (List.getElem?_eq_some_iff.1 hk).1 hk
      rw [hm] at this
      cases this
    · rw [ex_join] at h1
      exact absurd h1 (by decide)
    · rw [ex_join]
      have HB3 := Lib.hid (HB2.out.trans (hb3.mono HB2.out.size))
      have hR3 := ownsRow_below HR2.out hb3
      have d0 : W2.cell? ⟨W1.heap.size, 0, none⟩ = some (.int .i64 0) := (hb3.cell (p := ⟨W1.heap.size, 0, none⟩) (by show W1.heap.size < V.heap.size; omega)).trans HF2.out
      obtain ⟨g, rfl⟩ : ∃ g, A = some ⟨g, 0, none⟩ := by
        rcases hR3.2 with ⟨h4, h5⟩ | ⟨g, cap, cur, h4, -⟩
        · cases h5
        · injection h4 with h4; exact ⟨g, h4⟩
      have e1 : W2.cell? ⟨g, 1, none⟩ = some (strV [97]) := hR3.cellAt 1 (by decide)
      have e2 : W2.cell? ⟨g, 10, none⟩ = some (.int .i64 16) := hR3.cellAt 10 (by decide)
      have e3 : W2.cell? ⟨g, 11, none⟩ = some (.int .i64 3) := hR3.cellAt 11 (by decide)
      have hg := block_lt_of_cell e1
      have hw1 := block_lt_of_cell d0
      have hsz := Lib.hid HB3.out.size
      clear hR3 hb3 C2
      go_wp2_with fail
      go_ret
      exact ⟨rfl, HB3.out.alloc hsz.out _⟩
end Go.Proofs.YtccnaoabmgkblaaDoor.Tok
