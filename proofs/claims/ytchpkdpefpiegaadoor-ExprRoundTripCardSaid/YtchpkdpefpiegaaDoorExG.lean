/- Contract of Parse. Conditions: the reading of the tokens; the table of kinds reads as its text lays it. -/
import Derived.Test.YtchpkdpefpiegaaDoorExF
namespace Go.Proofs.YtchpkdpefpiegaaDoor.Tok
open Go Go.RowKit

def parseS (ts : List Tk) : Int × St := exS ts (2 * ts.length + 2) ⟨0, 0, []⟩ 1
/-- the nodes of a row of tokens, if it is an expression -/
def parsed (ts : List Tk) : Option (List Nd) := if (parseS ts).1 = 0 ∧ (parseS ts).2.pos = ts.length then some (parseS ts).2.nodes else none
theorem parse_ok (ts : List Tk) : Ok ts ⟨0, 0, []⟩ (parseS ts) ∧ Read ⟨0, 0, []⟩ (parseS ts) := ex_ok _ ⟨Nat.zero_le _, Nat.zero_le _, Nat.zero_le _⟩ (Nat.le_refl 1)
/-- what Parse answers -/
def ParsePost (ts : List Tk) (w : World) (e : Ending) (w' : World) : Prop :=
  ((∃ (k : Nat) (t : Tk), ts[k]? = some t ∧ malT t = true ∧ noneYet malT ts k ∧ e = .returned (.tuple #[.slice none 0 0, .agg #[.int .i64 5, .int .i64 (k : Int)]])) ∨
   (noneYet malT ts ts.length ∧ parsed ts = none ∧ ∃ (c : Int) (j : Nat), 0 < c ∧ c ≤ 10 ∧ j ≤ ts.length ∧ e = .returned (.tuple #[.slice none 0 0, .agg #[.int .i64 c, .int .i64 (j : Int)]])) ∨
   (noneYet malT ts ts.length ∧ ∃ v ns, parsed ts = some ns ∧ ns.length ≤ 60 ∧ 1 ≤ ns.length ∧ e = .returned (.tuple #[v, .agg #[.int .i64 0, .int .i64 0]]) ∧ w'.ownsRow w.heap.size 59 5 v ns.length (ndv ns))) ∧ Below w.heap.size w w'
def prsW (W : World) (tv : Value) : World := W.alloc (.cells #[tv, .int .i64 0, .int .i64 0, .slice none 0 0] 62)
theorem PSt.new (W : World) (tv : Value) : PSt W.heap.size tv ⟨0, 0, []⟩ (prsW W tv) := ⟨.slice none 0 0, heap_alloc_new W _, World.ownsRow_nil _ _ _ _, by simp [Value.ownBlock]⟩
theorem flt_sets {w W : World} (hb : Below (fltW w).heap.size (fltW w) W) (a b : Value) : Below w.heap.size w ((W.setCell ⟨w.heap.size, 0, none⟩ a).setCell ⟨w.heap.size, 1, none⟩ b) :=
  (((fltW_below w).trans (hb.mono (fltW_below w).size)).setCell (p := ⟨w.heap.size, 0, none⟩) (Nat.le_refl _) _).setCell (p := ⟨w.heap.size, 1, none⟩) (Nat.le_refl _) _
set_option maxRecDepth 100000 in
set_option maxHeartbeats 4000000 in
theorem parse_any (B : Nat) (v : Value) (ts : List Tk) (w : World) (h : TksAt B w v ts) (hB : B ≤ w.heap.size) (hK : KindsAt w) : Calls Tryd.prog 10 #[v] w (ParsePost ts w) := by
  have C1 := Lib.hid (idx_parse B v ts (fltW w) (h.below ((fltW_below w).mono hB)) (Nat.le_trans hB (fltW_below w).size))
  have H := Lib.hid h
  have HKD := Lib.hid hK
  obtain ⟨A, n, c, rfl, Hn, ⟨hn, -⟩, HT, HC⟩ := h.opens
  unfold fltW at C1
  clear h hK
  go_enter Tryd.func10, Tryd.ntmps10
  go_wp2_with fail
  refine C1.out.mono ?_
  rintro e W0 ⟨⟨k, t, rfl, hk, hm, hnn⟩ | ⟨rfl, hnn⟩, hb0⟩
  · obtain ⟨hc0, hc1, hf0, hf1, hlt⟩ := fault_cells hb0
    have HB0 := Lib.hid hb0
    have HKK := Lib.hid (And.intro hk (And.intro hm hnn))
    clear hb0 hk hm hnn C1
    go_wp2_with fail
    refine bodyPost_ret (v := .tuple #[.slice none 0 0, .agg #[.int .i64 5, .int .i64 (k : Int)]]) (by simp [results, Tryd.results10, go_sem, hc0, hc1]) rfl ?_
    exact ⟨.inl ⟨k, t, HKK.out.1, HKK.out.2.1, HKK.out.2.2, rfl⟩, flt_sets HB0.out _ _⟩
  · have HB0 := Lib.hid hb0
    have HNN := Lib.hid hnn
    have hW0 : w.heap.size < W0.heap.size := by have := hb0.size; rw [World.size_alloc] at this; omega
    have hbw := (fltW_below w).trans (hb0.mono (fltW_below w).size)
    have hbp : Below W0.heap.size W0 (prsW W0 (.slice A n c)) := (Below.refl _ _).alloc (Nat.le_refl _) _
    have hbw2 := hbw.trans (hbp.mono hbw.size)
    have hInv : Inv W0.heap.size (.slice A n c) ts (prsW W0 (.slice A n c)) := ⟨(H.out.below (hbw2.mono hB)).more (by omega), HKD.out.up hbw2, by have := HKD.out.lt; omega⟩
    have hlen : ts.length ≤ 9223372036854775800 := by have := Hn.out; omega
    have C2 := Lib.hid ((parser_any (X := W0.heap.size) (tv := .slice A n c) hlen (2 * ts.length + 2)).2 ⟨0, 0, []⟩ 1 (prsW W0 (.slice A n c)) hInv (PSt.new W0 _) ⟨Nat.zero_le _, Nat.zero_le _, Nat.zero_le _⟩ (Nat.le_refl 1) (by decide) (Nat.le_refl _))
    have EP := Lib.hid (show exS ts (2 * ts.length + 2) ⟨0, 0, []⟩ 1 = parseS ts from rfl)
    rw [EP.out, show ((1 : Nat) : Int) = 1 from rfl] at C2
    have hok := parse_ok ts
    have EQ := Lib.hid (show parsed ts = if (parseS ts).1 = 0 ∧ (parseS ts).2.pos = ts.length then some (parseS ts).2.nodes else none from rfl)
    generalize parseS ts = r at C2 hok EQ
    obtain ⟨cd, q⟩ := r
    have HOK := Lib.hid hok
    have HBP := Lib.hid (hb0.trans (hbp.mono hb0.size))
    unfold prsW at C2 HBP
    clear hb0 hnn hbw hbp hbw2 hInv hlen EP hok C1
    go_wp2_with fail
    refine C2.out.mono ?_
    rintro e W1 ⟨rfl, hS1, hF1⟩
    have hfb : Below (fltW w).heap.size (fltW w) W1 := HBP.out.trans (hF1.1.mono (by simp; omega))
    obtain ⟨hc0, hc1, hf0, hf1, hlt⟩ := fault_cells hfb
    obtain ⟨nv, -, c1, -, c3, -, -, -, hX, -, hown, hne⟩ := hS1.opens
    have HFB := Lib.hid hfb
    have HOW := Lib.hid hown
    have hpl : q.pos ≤ ts.length := HOK.out.1.1
    have hnl := Hn.out
    clear hfb hown hS1 hF1 C2
    by_cases h0 : cd = 0
    · by_cases hp : q.pos = ts.length
      · have hpn : ¬ (q.pos : Int) < (n : Int) := by omega
        have E := Lib.hid (EQ.out.trans (if_pos ⟨h0, hp⟩))
        subst h0
        clear hnl hpl hp EQ
        go_wp2_with fail
        refine bodyPost_ret (v := .tuple #[nv, .agg #[.int .i64 0, .int .i64 0]]) (by simp [results, Tryd.results10, go_sem, hc0, hc1]) rfl ?_
        refine ⟨.inr (.inr ⟨HNN.out, nv, q.nodes, E.out, HOK.out.1.2.2.2.2.1, ?_, rfl, ?_⟩), flt_sets HFB.out _ _⟩
        · have := (HOK.out.2 (by first | rfl | trivial)).2
          exact Nat.succ_le_of_lt (Nat.lt_of_le_of_lt (Nat.zero_le _) this)
        · exact ownsRow_base (ownsRow_sets HOW.out hW0 _ _) (Nat.le_of_lt hW0)
      · have hpn : (q.pos : Int) < (n : Int) := by omega
        have E := Lib.hid (EQ.out.trans (if_neg (fun h => hp h.2)))
        subst h0
        have HPL := Lib.hid hpl
        clear hnl hpl hp EQ
        go_wp2_with fail
        go_region
        all_goals
          go_wp2_with fail
          refine bodyPost_ret (v := .tuple #[.slice none 0 0, .agg #[.int .i64 1, .int .i64 (q.pos : Int)]]) (by simp [results, Tryd.results10, go_sem, hc0, hc1]) rfl ?_
          exact ⟨.inr (.inl ⟨HNN.out, E.out, _, q.pos, by decide, by decide, HPL.out, rfl⟩), flt_sets HFB.out.drew _ _⟩
    · have E := Lib.hid (EQ.out.trans (if_neg (fun h => h0 h.1)))
      have h1 : (cd == 0) = false := beq_eq_false_iff_ne.2 h0
      have h2 : (cd != 0) = true := by simp [bne, h1]
      clear h0 hnl EQ
      have HPL := Lib.hid hpl
      have HCD := Lib.hid (show 0 < cd ∧ cd ≤ 10 by
        have h3 : 0 ≤ cd := HOK.out.1.2.2.2.2.2.1
        have h4 : cd ≤ 10 := HOK.out.1.2.2.2.2.2.2
        have h5 : cd ≠ 0 := by simpa using h1
        omega)
      go_wp2_with fail
      go_region
      all_goals
        go_wp2_with fail
        refine bodyPost_ret (v := .tuple #[.slice none 0 0, .agg #[.int .i64 cd, .int .i64 (q.pos : Int)]]) (by simp [results, Tryd.results10, go_sem, hc0, hc1]) rfl ?_
        exact ⟨.inr (.inl ⟨HNN.out, E.out, _, q.pos, HCD.out.1, HCD.out.2, HPL.out, rfl⟩), flt_sets HFB.out.drew _ _⟩
end Go.Proofs.YtchpkdpefpiegaaDoor.Tok
