/- Contract of exprExample: the examples of the document hold. Conditions: the table of kinds reads as its text lays it. -/
import Derived.Test.YtchpkdpefpiegaaDoorExQ
import Derived.Test.YtchpkdpefpiegaaDoorExG
namespace Go.Proofs.YtchpkdpefpiegaaDoor.Tok
open Go Go.RowKit

def exTk : List Tk := [⟨1, [97], 0, 0⟩, ⟨3, [43], 0, 0⟩, ⟨2, [], 1, 0⟩, ⟨3, [42], 0, 0⟩, ⟨2, [], 2, 0⟩]
def exNd : List Nd := [nameN [97], numN 1, numN 2, binN 7 1 2, binN 5 0 3]
theorem ex_parsed : parsed exTk = some exNd := by rfl
theorem ex_value : valueL exNd [] = (⟨[97], [], 2⟩, (0, 0)) := by rfl
theorem ex_fine : noneYet malT exTk exTk.length := by
  intro j x hj hx
  match j, hx with
  | 0, hx => cases hx; decide
  | 1, hx => cases hx; decide
  | 2, hx => cases hx; decide
  | 3, hx => cases hx; decide
  | 4, hx => cases hx; decide
  | j + 5, hx => simp [exTk] at hx
theorem tks_new (w : World) (ts : List Tk) (hn : ts.length ≤ 1000) (hr : ∀ t ∈ ts, t.text.length ≤ 140737488351232) : TksAt (w.heap.size + 1) (w.alloc (.cells (tkv ts).toArray 31)) (.slice (some ⟨w.heap.size, 0, none⟩) ts.length ts.length) ts :=
  ⟨_, _, rfl, ⟨by omega, Nat.le_refl _⟩, hr, fun _ => ⟨_, 0, rfl, Nat.lt_succ_self _, fun j t hj => by
    have hat := tkv_at hj
    rw [Nat.zero_add]
    exact ⟨cells_new (j * 4) _ (hat 0 (by decide)), cells_new (j * 4 + 1) _ (hat 1 (by decide)), cells_new (j * 4 + 2) _ (hat 2 (by decide)), cells_new (j * 4 + 3) _ (hat 3 (by decide))⟩⟩⟩
set_option maxHeartbeats 1000000 in
set_option maxRecDepth 100000 in
theorem func3_any (w : World) : Calls Tryd.prog 26 #[] w fun e w' => e = .returned (.slice (some ⟨w.heap.size, 0, none⟩) 5 5) ∧ TksAt (w.heap.size + 1) w' (.slice (some ⟨w.heap.size, 0, none⟩) 5 5) exTk ∧ w'.heap.size = w.heap.size + 1 ∧ Below w.heap.size w w' := by
  have HT := Lib.hid (tks_new w exTk (by decide) (by intro t ht; simp only [exTk, List.mem_cons, List.not_mem_nil, or_false] at ht; rcases ht with rfl | rfl | rfl | rfl | rfl <;> decide))
  unfold exTk tkv tkC at HT
  simp only [List.flatMap_cons, List.flatMap_nil, List.append_nil, List.cons_append, List.nil_append] at HT
  go_enter Tryd.func26, Tryd.ntmps26
  go_wp2_with fail
  go_ret
  exact ⟨rfl, HT.out, by simp, (Below.refl _ _).alloc (Nat.le_refl _) _⟩

set_option maxHeartbeats 4000000 in
set_option maxRecDepth 100000 in
theorem example_any (w : World) (hK : KindsAt w) : Calls Tryd.prog 9 #[] w fun e w' => e = .returned (.bool true) ∧ Below w.heap.size w w' := by
  have HK := Lib.hid hK
  clear hK
  go_enter Tryd.func9, Tryd.ntmps9
  go_wp2_with fail
  refine (func3_any w).mono ?_
  rintro e W1 ⟨rfl, hT, hz, hb1⟩
  have C1 := Lib.hid (parse_any _ _ exTk W1 hT (by omega) (HK.out.up hb1))
  have HB1 := Lib.hid hb1
  clear hT hz hb1
  go_wp2_with fail
  refine C1.out.mono ?_
  rintro e W2 ⟨⟨k, t, hk, hm, -, -⟩ | ⟨-, hn, -⟩ | ⟨-, v, ns, hp, -, -, rfl, hrow⟩, hb2⟩
  · have := ex_fine k t (List.getElem?_eq_some_iff.1 hk).1 hk
    rw [hm] at this
    cases this
  · rw [ex_parsed] at hn; cases hn
  · rw [ex_parsed] at hp
    injection hp with hp
    subst hp
    have hrow2 : W2.ownsRow W1.heap.size 59 5 v 5 (ndv exNd) := hrow
    have HB2 := Lib.hid (HB1.out.trans (hb2.mono HB1.out.size))
    have hb3 := flt_low W2 0 0
    have hrow3 := ownsRow_below hrow2 hb3
    have HB3 := Lib.hid (HB2.out.trans (hb3.mono HB2.out.size))
    have hN := nds_of_row hrow3 (by decide) (by intro t ht; simp only [exNd, List.mem_cons, List.not_mem_nil, or_false] at ht; rcases ht with rfl | rfl | rfl | rfl | rfl <;> decide)
    have C2 := Lib.hid (value_any _ _ _ exNd [] _ hN ((NmsAt.nil _).more (Nat.zero_le _)) (Nat.le_refl _) (HK.out.up HB3.out))
    rw [ex_value] at C2
    have HR := Lib.hid hrow3
    obtain ⟨z0, z1⟩ := flt_lit W2 0 0
    obtain ⟨A, c, rfl⟩ := row_is hrow2
    unfold faultV Ln.v at C2
    dsimp only at C2
    have HZ := Lib.hid (And.intro z0 z1)
    clear C1 hrow hrow2 hrow3 hN hb2 hb3 z0 z1
    go_wp2_with fail
    refine C2.out.mono ?_
    rintro e W3 ⟨rfl, hb4⟩
    have HB4 := Lib.hid (HB3.out.trans (hb4.mono HB3.out.size))
    have hR4 := ownsRow_below HR.out hb4
    have d0 : W3.cell? ⟨W2.heap.size, 0, none⟩ = some (.int .i64 0) := (hb4.cell (p := ⟨W2.heap.size, 0, none⟩) (by simp)).trans HZ.out.1
    have hdl := block_lt_of_cell d0
    obtain ⟨g, rfl⟩ : ∃ g, A = some ⟨g, 0, none⟩ := by
      rcases hR4.2 with ⟨h4, h5⟩ | ⟨g, cap, cur, h4, -⟩
      · cases h5
      · injection h4 with h4; exact ⟨g, h4⟩
    have e1 : W3.cell? ⟨g, 20, none⟩ = some (.int .i64 5) := hR4.cellAt 20 (by decide)
    have hg := block_lt_of_cell e1
    have hsz := Lib.hid HB4.out.size
    clear hR4 hb4 C2
    go_wp2_with fail
    go_ret
    exact ⟨rfl, (HB4.out.alloc hsz.out _).alloc (by rw [World.size_alloc]; have := hsz.out; omega) _⟩
end Go.Proofs.YtchpkdpefpiegaaDoor.Tok
