/- The law ExprRoundTrip. Conditions: the readings; the table of kinds. -/
import Derived.Test.YtchpkdpefpiegaaDoorExRC
import Derived.Test.YtchpkdpefpiegaaDoorExR
import Derived.Test.YtchpkdpefpiegaaDoorExUF
import Derived.Test.YtchpkdpefpiegaaDoorExUI
namespace Go.Proofs.YtchpkdpefpiegaaDoor.Tok
open Go Go.RowKit

/-- what Tokens answers, in one form -/
def TokG (ns : List Nd) (w : World) (e : Ending) (W : World) : Prop :=
  (∃ v' f1 f2 ts, e = .returned (.tuple #[v', .agg #[.int .i64 f1, .int .i64 f2]]) ∧ TksAt W.heap.size W v' ts ∧ (f1 = 0 → ts = toksL ns (ns.length - 1))) ∧ Below w.heap.size w W
theorem tks_nil (W : World) : TksAt W.heap.size W (.slice none 0 0) [] := ⟨none, 0, rfl, by simp, by simp, fun h => absurd h (by simp)⟩
theorem tokens_gen (B : Nat) (v : Value) (ns : List Nd) (w : World) (h : NdsAt B w v ns) (hB : B ≤ w.heap.size) (hK : KindsAt w) : Calls Tryd.prog 21 #[v] w (TokG ns w) := by
  rcases validL_cases ns with hv | hv
  · cases hs : shortB ns with
    | false =>
      refine (tokens_long B v ns w h hB hK hv hs).mono ?_
      rintro e W ⟨rfl, hb⟩
      exact ⟨⟨_, 10, -3, [], rfl, tks_nil W, fun h => by cases h⟩, hb⟩
    | true =>
      have hn : 1 ≤ ns.length := (validL_all hv).1.1
      have hnm : ∀ x ∈ ns, x.name.length ≤ 140737488351232 := by obtain ⟨_, _, _, _, _, _, HT, _⟩ := h.opens; exact HT.out
      refine (tokens_good B v ns w h hB hK hv hs).mono ?_
      rintro e W ⟨⟨v', rfl, hr⟩, hb⟩
      have hl : (toksL ns (ns.length - 1)).length ≤ 8000 := short_all hs _ (by omega)
      exact ⟨⟨_, 0, 0, _, rfl, toks_of_rowB hr (by omega) (tok_short hnm _ _), fun _ => rfl⟩, hb⟩
  · refine (tokens_bad B v ns w h hB hK hv).mono ?_
    rintro e W ⟨rfl, hb⟩
    exact ⟨⟨_, (validL ns).1, (validL ns).2, [], rfl, tks_nil W, fun h => absurd h hv⟩, hb⟩
theorem lin_two (W : World) (x y z p q : Value) : ((W.alloc (.cells #[x, y, z] 40)).alloc (.cells #[p, q] 26)).heap[W.heap.size]? = some (.cells #[x, y, z] 40 (0, 0)) ∧ ((W.alloc (.cells #[x, y, z] 40)).alloc (.cells #[p, q] 26)).heap[W.heap.size + 1]? = some (.cells #[p, q] 26 (0, 0)) :=
  ⟨heap_allocL _ (heap_alloc_new _ _), heap_newM _ _ _⟩
set_option maxRecDepth 100000 in
set_option maxHeartbeats 4000000 in
theorem law_trip (B : Nat) (v u : Value) (ns : List Nd) (l : List Nm) (w : World) (h : NdsAt B w v ns) (hu : NmsAt B w u l) (hB : B ≤ w.heap.size) (hK : KindsAt w) :
    Calls Tryd.prog 6 #[v, u] w fun e w' => e = .returned (.bool true) ∧ Below w.heap.size w w' := by
  have C0 := Lib.hid (example_any w hK)
  have CT := Lib.hid (fun W (hb : Below w.heap.size w W) => tokens_gen B v ns W (h.below (hb.mono hB)) (Nat.le_trans hB hb.size) (hK.up hb))
  have CV := Lib.hid (fun W (hb : Below w.heap.size w W) => value_any B v u ns l W (h.below (hb.mono hB)) (hu.below (hb.mono hB)) (Nat.le_trans hB hb.size) (hK.up hb))
  have CP := Lib.hid (fun W D x ts (hb : Below w.heap.size w W) (ht : TksAt D W x ts) (hD : D ≤ W.heap.size) => parse_gen D x ts W ht hD (hK.up hb))
  have CB := Lib.hid (fun W x back (hb : Below w.heap.size w W) (hx : NdsAt W.heap.size W x back) => value_any W.heap.size x u back l W hx ((hu.below (hb.mono hB)).more (Nat.le_trans hB hb.size)) (Nat.le_refl _) (hK.up hb))
  have hz := value_zero (ns := ns) (l := l)
  have hbk := fun back (h1 : (valueL ns l).2.1 = 0) h2 h3 => value_back (ns := ns) (back := back) (l := l) h1 h2 h3
  obtain ⟨A, n, c, rfl, -⟩ := h.opens
  obtain ⟨A2, n2, c2, rfl, -⟩ := hu.opens
  clear h hu hK hB
  generalize valueL ns l = r at CV hz hbk
  obtain ⟨a, g1, g2⟩ := r
  have HZ := Lib.hid hz
  have HBK := Lib.hid hbk
  unfold faultV at CV CB
  dsimp only at CV HZ HBK
  clear hz hbk
  go_enter Tryd.func6, Tryd.ntmps6
  go_wp2_with fail
  refine C0.out.mono ?_
  rintro e W1 ⟨rfl, hb1⟩
  have HB1 := Lib.hid hb1
  clear hb1 C0
  go_wp2_with fail
  refine (CT.out _ HB1.out).mono ?_
  rintro e W2 ⟨⟨v2, f1, f2, ts, rfl, ht2, hts⟩, hb2⟩
  have HTS := Lib.hid hts
  have HB2 := Lib.hid (HB1.out.trans (hb2.mono HB1.out.size))
  have hbl : Below W2.heap.size W2 (W2.alloc (.cells #[.int .i64 f1, .int .i64 f2] 26)) := (Below.refl _ _).alloc (Nat.le_refl _) _
  have HBL := Lib.hid hbl
  have HT2 := Lib.hid ht2
  have HB3 := Lib.hid (HB2.out.trans (hbl.mono HB2.out.size))
  obtain ⟨A3, n3, c3, rfl, -⟩ := ht2.opens
  clear hb2 hbl ht2 hts CT
  go_wp2_with fail
  refine (CV.out _ HB3.out).mono ?_
  rintro e W4 ⟨rfl, hb4⟩
  have HX4 := Lib.hid ((hb4.block _ (lt_of_block (flt_box W2 f1 f2))).trans (flt_box W2 f1 f2))
  have H24 := Lib.hid (HBL.out.trans (hb4.mono HBL.out.size))
  have HB4 := Lib.hid (HB3.out.trans (hb4.mono HB3.out.size))
  have hb5 : Below W4.heap.size W4 ((W4.alloc (.cells #[strV a.sym, strV a.minus, .int .i64 a.num] 40)).alloc (.cells #[.int .i64 g1, .int .i64 g2] 26)) := ((Below.refl _ _).alloc (Nat.le_refl _) _).alloc (by simp) _
  have HB5 := Lib.hid (HB4.out.trans (hb5.mono HB4.out.size))
  have H25 := Lib.hid (H24.out.trans (hb5.mono H24.out.size))
  have HX5 := Lib.hid ((hb5.block _ (lt_of_block HX4.out)).trans HX4.out)
  have HL5 := Lib.hid (lin_two W4 (strV a.sym) (strV a.minus) (.int .i64 a.num) (.int .i64 g1) (.int .i64 g2))
  have hsz5 := hb5.size
  clear hb4 hb5 CV
  unfold Ln.v
  go_wp2_with fail
  refine (CP.out _ W2.heap.size _ ts HB5.out (HT2.out.below H25.out) H25.out.size).mono ?_
  rintro e W6 ⟨⟨v6, c, j, back, rfl, hn6, hnil, hpar⟩, hb6⟩
  have HX6 := Lib.hid ((hb6.block _ (lt_of_block HX5.out)).trans HX5.out)
  have HL6 := Lib.hid (And.intro ((hb6.block _ (lt_of_block HL5.out.1)).trans HL5.out.1) ((hb6.block _ (lt_of_block HL5.out.2)).trans HL5.out.2))
  have HB6 := Lib.hid (HB5.out.trans (hb6.mono HB5.out.size))
  have HN6 := Lib.hid hn6
  have HPR := Lib.hid hpar
  obtain ⟨A6, n6, c6, rfl, -⟩ := hn6.opens
  clear hb6 hn6 hnil hpar CP HL5 HX5 H24 H25 HBL
  obtain ⟨x1, -, x3⟩ := cells_of HX6.out
  obtain ⟨l1, -, l3⟩ := cells_of HL6.out.1
  obtain ⟨k1, -, k3⟩ := cells_of HL6.out.2
  have d0 := x1 0 _ rfl
  have e0 := l1 0 _ rfl
  have e1 := l1 1 _ rfl
  have e2 := l1 2 _ rfl
  have g0 := k1 0 _ rfl
  clear x1 l1 k1
  have hb7 : Below W6.heap.size W6 (W6.alloc (.cells #[.int .i64 c, .int .i64 j] 26)) := (Below.refl _ _).alloc (Nat.le_refl _) _
  have HB7 := Lib.hid (HB6.out.trans (hb7.mono HB6.out.size))
  have HN7 := Lib.hid ((HN6.out.below hb7).more hb7.size)
  have HL7 := Lib.hid ((hb7.block _ (lt_of_block HL6.out.1)).trans HL6.out.1)
  clear hb7
  by_cases hg : g1 = 0
  · subst hg
    by_cases hf : f1 = 0
    · subst hf
      by_cases hc : c = 0
      · subst hc
        obtain ⟨hp1, hp2⟩ := HPR.out (by first | rfl | trivial)
        rw [HTS.out (by first | rfl | trivial)] at hp1
        have hval := HBK.out back (by first | rfl | trivial) hp1 hp2
        have CB2 := Lib.hid (CB.out _ _ back HB7.out HN7.out)
        rw [hval] at CB2
        dsimp only at CB2
        clear hp1 hp2 hval CB HBK HPR HTS
        go_wp2_with fail
        refine CB2.out.mono ?_
        rintro e W8 ⟨rfl, hb8⟩
        obtain ⟨l1, -, l3⟩ := cells_of ((hb8.block _ (lt_of_block HL7.out)).trans HL7.out)
        have m0 := l1 0 _ rfl
        have m1 := l1 1 _ rfl
        have m2 := l1 2 _ rfl
        have HB8 := Lib.hid (HB7.out.trans (hb8.mono HB7.out.size))
        clear hb8 l1 CB2
        unfold Ln.v
        go_wp2_with fail
        go_ret
        exact ⟨rfl, (HB8.out.alloc HB8.out.size _).alloc (by rw [World.size_alloc]; have := HB8.out.size; omega) _⟩
      · have n2 : (c == 0) = false := beq_eq_false_iff_ne.2 hc
        have n3 : (c != 0) = true := by simp [bne, n2]
        clear hc
        go_wp2_with fail
        go_ret
        exact ⟨rfl, HB7.out⟩
    · have n2 : (f1 == 0) = false := beq_eq_false_iff_ne.2 hf
      have n3 : (f1 != 0) = true := by simp [bne, n2]
      clear hf
      go_wp2_with fail
      go_ret
      exact ⟨rfl, HB7.out⟩
  · have n2 : (g1 == 0) = false := beq_eq_false_iff_ne.2 hg
    have n3 : (g1 != 0) = true := by simp [bne, n2]
    have hz0 := HZ.out hg
    subst hz0
    replace e0 : W6.cell? ⟨W4.heap.size, 0, none⟩ = some (strV []) := e0
    replace e1 : W6.cell? ⟨W4.heap.size, 1, none⟩ = some (strV []) := e1
    replace e2 : W6.cell? ⟨W4.heap.size, 2, none⟩ = some (.int .i64 0) := e2
    clear hg
    by_cases hf : f1 = 0
    · subst hf
      go_wp2_with fail
      go_ret
      exact ⟨rfl, HB7.out⟩
    · have p2 : (f1 == 0) = false := beq_eq_false_iff_ne.2 hf
      have p3 : (f1 != 0) = true := by simp [bne, p2]
      clear hf
      go_wp2_with fail
      go_ret
      exact ⟨rfl, HB7.out⟩
end Go.Proofs.YtchpkdpefpiegaaDoor.Tok
