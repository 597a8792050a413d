/- Different instructions have different encodings (the law EncodeInjective). Conditions: the arguments read as forms and instructions. -/
import Derived.Deep.RegionHeld3
import Derived.Test.YtlkjgcifmpjpdaaEncO
namespace Go.Proofs.Ytlkjgcifmpjpdaa
open Go Go.RowKit Go.Shelf

/-- two boxes of instructions -/
def InsBoxes (w0 : Nat) (a b : Int) (v1 v2 : Value) (W : World) : Prop :=
  (W.cell? ⟨w0, 0, none⟩ = some (.int .i64 a) ∧ W.cell? ⟨w0, 1, none⟩ = some v1) ∧ W.cell? ⟨w0 + 1, 0, none⟩ = some (.int .i64 b) ∧ W.cell? ⟨w0 + 1, 1, none⟩ = some v2
theorem InsBoxes.below {w0 : Nat} {a b : Int} {v1 v2 : Value} {W W' : World} (h : InsBoxes w0 a b v1 v2 W) (hb : Below W.heap.size W W') : InsBoxes w0 a b v1 v2 W' := by
  obtain ⟨⟨h1, h2⟩, h3, h4⟩ := h
  exact ⟨⟨(hb.cell (p := ⟨w0, 0, none⟩) (block_lt_of_cell h1)).trans h1, (hb.cell (p := ⟨w0, 1, none⟩) (block_lt_of_cell h2)).trans h2⟩, (hb.cell (p := ⟨w0 + 1, 0, none⟩) (block_lt_of_cell h3)).trans h3, (hb.cell (p := ⟨w0 + 1, 1, none⟩) (block_lt_of_cell h4)).trans h4⟩

theorem box_kept {W2 W3 : World} {x y : Value} {t : TypeId} (hb : Below (W2.alloc (.cells #[x, y] t)).heap.size (W2.alloc (.cells #[x, y] t)) W3) : W3.cell? ⟨W2.heap.size, 0, none⟩ = some x ∧ Below W2.heap.size W2 W3 := by
  have h0 : Below W2.heap.size W2 (W2.alloc (.cells #[x, y] t)) := (Below.refl _ _).alloc (Nat.le_refl _) _
  exact ⟨(hb.cell (p := ⟨W2.heap.size, 0, none⟩) (by simp)).trans (by simp), h0.trans (hb.mono h0.size)⟩
theorem enc_some (fs : List Frm) (form : Int) (xs : List Int) : ∃ q j, ∀ (B : Nat) (v av : Value) (w : World), FormsAt B w v fs → KindsAt B w av xs → B ≤ w.heap.size →
    Calls Try.prog 11 #[v, .agg #[.int .i64 form, av]] w fun e w' => ∃ A n c, e = .returned (.tuple #[.slice A n c, faultV (q, j)]) ∧ Below w.heap.size w w' := by
  rcases enc_cases fs form xs with ⟨p, i, _, _, E⟩ | ⟨k, f, rfl, o, _⟩
  · exact ⟨p, i, fun B v av w h ha hB => (E B v av w h ha hB).mono fun e w' ⟨he, hb⟩ => ⟨_, _, _, he, hb⟩⟩
  · exact ⟨0, 0, fun B v av w h ha hB => (o.calls B v av w h ha hB).mono fun e w' ⟨R, he, _, hb⟩ => ⟨_, _, _, he, hb⟩⟩

set_option maxRecDepth 100000 in
set_option maxHeartbeats 2000000 in
theorem law_inj (B : Nat) (v av1 av2 : Value) (fs : List Frm) (a b : Int) (xs ys : List Int) (w : World) (h : FormsAt B w v fs) (h1 : KindsAt B w av1 xs) (h2 : KindsAt B w av2 ys) (hB : B ≤ w.heap.size) :
    Calls Try.prog 9 #[v, .agg #[.int .i64 a, av1], .agg #[.int .i64 b, av2]] w fun e w' => e = .returned (.bool true) ∧ Below w.heap.size w w' := by
  obtain ⟨A, n, c, rfl, _⟩ := h.opens
  obtain ⟨A1, n1, c1, rfl, _⟩ := h1.opens
  obtain ⟨A2, n2, c2, rfl, _⟩ := h2.opens
  have bx : Below w.heap.size w ((w.alloc (.cells #[.int .i64 a, .slice A1 n1 c1] 25)).alloc (.cells #[.int .i64 b, .slice A2 n2 c2] 25)) := ((Below.refl _ _).alloc (Nat.le_refl _) _).alloc (by simp) _
  have ib : InsBoxes w.heap.size a b (.slice A1 n1 c1) (.slice A2 n2 c2) ((w.alloc (.cells #[.int .i64 a, .slice A1 n1 c1] 25)).alloc (.cells #[.int .i64 b, .slice A2 n2 c2] 25)) :=
    ⟨⟨cell_alloc_l _ (by simp), cell_alloc_l _ (by simp)⟩, by simp, by simp⟩
  go_enter Try.func9, Try.ntmps9
  go_wp2_with fail
  refine (encExample_any _).mono ?_
  rintro e W1 ⟨rfl, hb1⟩
  have i1 := ib.below hb1
  have w1 := bx.trans (hb1.mono bx.size)
  have fa := (h.below (w1.mono hB))
  have ka := (h1.below (w1.mono hB))
  have kb := (h2.below (w1.mono hB))
  have hB1 : B ≤ W1.heap.size := Nat.le_trans hB w1.size
  have FA := Lib.hid fa
  have KA := Lib.hid ka
  have KB := Lib.hid kb
  have IB := Lib.hid i1
  obtain ⟨⟨x1, x2⟩, x3, x4⟩ := i1
  have z1 := block_lt_of_cell x1
  have z3 := block_lt_of_cell x3
  clear h h1 h2 bx ib hb1 fa ka kb
  obtain ⟨q, j, Y2⟩ := enc_some fs b ys
  have Y := Lib.hid Y2
  clear Y2
  rcases enc_cases fs a xs with ⟨p, i, hp, _, E1⟩ | ⟨k, f, rfl, o1, _⟩
  · have X1 := Lib.hid E1
    clear E1
    go_wp2_with fail
    refine (X1.out _ _ _ _ FA.out KA.out hB1).mono ?_
    rintro e W2 ⟨rfl, hb2⟩
    obtain ⟨⟨x1', x2'⟩, x3', x4'⟩ := IB.out.below hb2
    have z3' := block_lt_of_cell x3'
    have g2 : Below W1.heap.size W1 (W2.alloc (.cells #[.int .i64 p, .int .i64 i] 29)) := hb2.alloc hb2.size _
    have f2 := FA.out.below (g2.mono hB1)
    have k2 := KB.out.below (g2.mono hB1)
    have F2 := Lib.hid f2
    have K2 := Lib.hid k2
    clear f2 k2
    go_wp2_with fail
    refine (Y.out _ _ _ _ F2.out K2.out (Nat.le_trans hB1 g2.size)).mono ?_
    rintro e W3 ⟨A3, n3, c3, rfl, hb3⟩
    obtain ⟨x5, hb23⟩ := box_kept hb3
    have z5 := block_lt_of_cell x5
    have w3 := w1.trans ((hb2.trans (hb23.mono hb2.size)).mono w1.size)
    clear hb3 hb23 g2 F2 K2 x1 x2 x3 x4 z1 z3 hb2
    go_wp2_with fail
    refine bodyPost_ret (v := .bool true) (by simp [results, Try.results9, go_sem]) rfl ⟨rfl, ?_⟩
    exact w3.alloc w3.size _
  · rcases enc_cases fs b ys with ⟨q, j, hq, _, E2⟩ | ⟨k2, g, rfl, o2, _⟩
    · have X2 := Lib.hid E2
      clear E2
      go_wp2_with fail
      refine (o1.calls _ _ _ _ FA.out KA.out hB1).mono ?_
      rintro e W2 ⟨R2, rfl, _, hb2⟩
      obtain ⟨⟨x1', x2'⟩, x3', x4'⟩ := IB.out.below hb2
      have z3' := block_lt_of_cell x3'
      have g2 : Below W1.heap.size W1 (W2.alloc (.cells #[.int .i64 0, .int .i64 0] 29)) := hb2.alloc hb2.size _
      have f2 := FA.out.below (g2.mono hB1)
      have k2 := KB.out.below (g2.mono hB1)
      have F2 := Lib.hid f2
      have K2 := Lib.hid k2
      clear f2 k2
      go_wp2_with fail
      refine (X2.out _ _ _ _ F2.out K2.out (Nat.le_trans hB1 g2.size)).mono ?_
      rintro e W3 ⟨rfl, hb3⟩
      obtain ⟨x5, hb23⟩ := box_kept hb3
      have z5 := block_lt_of_cell x5
      have w3 := w1.trans ((hb2.trans (hb23.mono hb2.size)).mono w1.size)
      clear hb3 hb23 g2 F2 K2 x1 x2 x3 x4 z1 z3 hb2
      go_wp2_with fail
      refine bodyPost_ret (v := .bool true) (by simp [results, Try.results9, go_sem]) rfl ⟨rfl, ?_⟩
      exact w3.alloc w3.size _
    · have hinj := enc_inj o1 o2
      go_wp2_with fail
      refine (o1.calls _ _ _ _ FA.out KA.out hB1).mono ?_
      rintro e W2 ⟨R2, rfl, hby2, hb2⟩
      obtain ⟨⟨x1', x2'⟩, x3', x4'⟩ := IB.out.below hb2
      have z3' := block_lt_of_cell x3'
      have g2 : Below W1.heap.size W1 (W2.alloc (.cells #[.int .i64 0, .int .i64 0] 29)) := hb2.alloc hb2.size _
      have f2 := FA.out.below (g2.mono hB1)
      have k2 := KB.out.below (g2.mono hB1)
      have F2 := Lib.hid f2
      have K2 := Lib.hid k2
      have BY2 := Lib.hid hby2
      clear f2 k2 hby2
      go_wp2_with fail
      refine (o2.calls _ _ _ _ F2.out K2.out (Nat.le_trans hB1 g2.size)).mono ?_
      rintro e W3 ⟨R3, rfl, hby3, hb3⟩
      obtain ⟨x5, hb23⟩ := box_kept hb3
      have z5 := block_lt_of_cell x5
      have hb13 := hb2.trans (hb23.mono hb2.size)
      have w3 := w1.trans (hb13.mono w1.size)
      have BY2' := Lib.hid ((BY2.out.below hb23).more hb23.size)
      have BY3 := Lib.hid hby3
      have KA3 := Lib.hid (KA.out.below (hb13.mono hB1))
      have KB3 := Lib.hid (KB.out.below (hb13.mono hB1))
      obtain ⟨⟨y1, y2⟩, y3, y4⟩ := IB.out.below hb13
      have IB3 := Lib.hid (IB.out.below hb13)
      have hB3 : B ≤ W3.heap.size := Nat.le_trans hB1 hb13.size
      have t1 := block_lt_of_cell y1
      have t3 := block_lt_of_cell y3
      clear hb3 hb23 g2 F2 K2 x1 x2 x3 x4 z1 z3 hb2 x1' x2' x3' x4' z3' hby3 BY2 FA KA KB IB hb13
      have HI := Lib.hid hinj
      clear hinj
      go_wp2_with fail
      have a3 : Below W3.heap.size W3 (W3.alloc (.cells #[.int .i64 0, .int .i64 0] 29)) := (Below.refl _ _).alloc (Nat.le_refl _) _
      obtain ⟨V, hV⟩ : ∃ V, V = W3.alloc (.cells #[.int .i64 0, .int .i64 0] 29) := ⟨_, rfl⟩
      rw [← hV] at a3 ⊢
      have B2 := Lib.hid (BY2'.out.below a3)
      have B3 := Lib.hid (BY3.out.below a3)
      have KA4 := Lib.hid (KA3.out.below (a3.mono hB3))
      have KB4 := Lib.hid (KB3.out.below (a3.mono hB3))
      have w4 := w3.trans (a3.mono w3.size)
      have hB4 : B ≤ V.heap.size := Nat.le_trans hB3 a3.size
      obtain ⟨⟨y1', y2'⟩, y3', y4'⟩ := IB3.out.below a3
      clear hV y1 y2 y3 y4 x5 z5 KA3 KB3 BY2' BY3 IB3
      go_region_held3 (fun W' => (W'.cell? ⟨w.heap.size, 0, none⟩ = some (.int .i64 (k : Int)) ∧ W'.cell? ⟨w.heap.size, 1, none⟩ = some (.slice A1 n1 c1)) ∧ W'.cell? ⟨w.heap.size + 1, 0, none⟩ = some (.int .i64 (k2 : Int)) ∧ W'.cell? ⟨w.heap.size + 1, 1, none⟩ = some (.slice A2 n2 c2)) (first | exact hS5 | exact ⟨⟨y1', y2'⟩, y3', y4'⟩) (first
        | (go_at_call 14; refine (bytes_any _ _ _ _ _ _ (B2.out.below (Below.refl _ _).drew) (B3.out.below (Below.refl _ _).drew)).mono ?_; rintro e W4 ⟨rfl, rfl⟩)
        | (go_at_call 18; refine (sameIns_any B _ _ _ _ _ _ _ (KA4.out.below (Below.refl _ _).drew) (KB4.out.below (Below.refl _ _).drew) hB4).mono ?_; rintro e W5 ⟨rfl, hb5⟩; have hS5 := InsBoxes.below (W := V) ⟨⟨y1', y2'⟩, y3', y4'⟩ ((Below.refl _ _).drew.trans hb5); have hbV : Below V.heap.size V W5 := (Below.refl _ _).drew.trans hb5))
      have hd : (decide (encL f.code (f.kinds.zip xs) = encL g.code (g.kinds.zip ys)) == (decide ((k : Int) = (k2 : Int)) && decide (xs = ys))) = true := by
        rw [beq_iff_eq, ← Bool.decide_and]
        exact decide_eq_decide.2 HI.out
      rw [hd]
      go_wp2_with fail
      refine bodyPost_ret (v := .bool true) (by simp [results, Try.results9, go_sem]) rfl ⟨rfl, ?_⟩
      exact w4.trans (hbV.mono w4.size)
end Go.Proofs.Ytlkjgcifmpjpdaa
