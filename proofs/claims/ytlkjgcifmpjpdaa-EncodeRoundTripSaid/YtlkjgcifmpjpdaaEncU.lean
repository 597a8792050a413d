/- Patching twice is patching once with the second value, and the first value restores the code (the law PatchRestores). Conditions: the arguments read as forms and bytes. -/
import Derived.Test.YtlkjgcifmpjpdaaEncT
namespace Go.Proofs.Ytlkjgcifmpjpdaa
open Go Go.RowKit Go.Shelf

/-- the boxes of Decode's results, still there -/
def DecBoxes (r R m : Nat) (W : World) : Prop := W.cell? ⟨r, 1, none⟩ = some (.slice (some ⟨R, 0, none⟩) m m) ∧ W.cell? ⟨r + 1, 0, none⟩ = some (.int .i64 0)
theorem DecBoxes.below {r R m : Nat} {W W' : World} (h : DecBoxes r R m W) (hb : Below W.heap.size W W') : DecBoxes r R m W' :=
  ⟨(hb.cell (p := ⟨r, 1, none⟩) (block_lt_of_cell h.1)).trans h.1, (hb.cell (p := ⟨r + 1, 0, none⟩) (block_lt_of_cell h.2)).trans h.2⟩
theorem cell_below {W W' : World} {r j : Nat} {x : Value} (h : W.cell? ⟨r, j, none⟩ = some x) (hb : Below W.heap.size W W') : W'.cell? ⟨r, j, none⟩ = some x := (hb.cell (p := ⟨r, j, none⟩) (block_lt_of_cell h)).trans h
theorem one_more (W : World) (o : Obj) : Below W.heap.size W (W.alloc o) := (Below.refl _ _).alloc (Nat.le_refl _) _
theorem two_more (W : World) (o o' : Obj) : Below W.heap.size W ((W.alloc o).alloc o') := ((Below.refl _ _).alloc (Nat.le_refl _) _).alloc (by simp) _
theorem arg_sums {m j : Nat} (hm : m ≤ 4) (hj : j < m) : wrap64 ((m : Int) - 1) = (m : Int) - 1 ∧ inB (j : Int) 0 ((m : Int) - 1) = true := ⟨by rw [IntWalk.wrap64_in _ (by omega)], inB_true (by omega) (by omega)⟩

set_option maxRecDepth 100000 in
set_option maxHeartbeats 2000000 in
theorem law_patch (B : Nat) (v cv : Value) (fs : List Frm) (l : List UInt8) (at_ arg x y : Int) (w : World) (h : FormsAt B w v fs) (hl : BytesAt B w cv l) (hB : B ≤ w.heap.size) :
    Calls Try.prog 8 #[v, cv, .int .i64 at_, .int .i64 arg, .int .i64 x, .int .i64 y] w fun e w' => e = .returned (.bool true) ∧ Below w.heap.size w w' := by
  obtain ⟨A, n, c, rfl, -⟩ := h.opens
  obtain ⟨A1, n1, c1, rfl, hn1, -, -⟩ := hl.opens
  obtain ⟨q, i2, Y⟩ := pat_some fs l at_ arg y
  have Y2 := Lib.hid Y
  clear Y
  have bad : (∃ p i, p ≠ 0 ∧ DecBad fs l at_ p i) ∨ ∃ (a k : Nat) (f : Frm) (xs : List Int), at_ = (a : Int) ∧ DecOk fs l a k f xs := by
    rcases dec_cases fs l at_ with ⟨p, i, h1, _, h2⟩ | ⟨a, _, _, _, _, _, h2⟩ | ⟨a, k, f, xs, h1, _, h2⟩
    · exact .inl ⟨p, i, h1, h2⟩
    · exact .inl ⟨17, a, by decide, h2⟩
    · exact .inr ⟨a, k, f, xs, h1, h2⟩
  rcases bad with ⟨p, i, hp, E1⟩ | ⟨a, k, f, xs, rfl, o⟩
  · have X2 := Lib.hid (pat_bad hp E1 arg x)
    have X1 := Lib.hid E1
    clear E1
    go_enter Try.func8, Try.ntmps8
    go_wp2_with fail
    refine (encExample_any _).mono ?_
    rintro e W1 ⟨rfl, hb1⟩
    have FA := Lib.hid (h.below (hb1.mono hB))
    have LA := Lib.hid (hl.below (hb1.mono hB))
    have hB1 : B ≤ W1.heap.size := Nat.le_trans hB hb1.size
    clear h hl
    go_wp2_with fail
    refine (X1.out _ _ _ _ FA.out LA.out hB1).mono ?_
    rintro e W2 ⟨rfl, hb2⟩
    have b2 := Lib.hid (hb2.trans ((two_more W2 (.cells #[.int .i64 0, .slice none 0 0] 25) (.cells #[.int .i64 p, .int .i64 i] 29)).mono hb2.size))
    go_wp2_with fail
    refine (X2.out _ _ _ _ (FA.out.below (b2.out.mono hB1)) (LA.out.below (b2.out.mono hB1)) (Nat.le_trans hB1 b2.out.size)).mono ?_
    rintro e W3 ⟨rfl, hb3⟩
    obtain ⟨-, -, y3, hb23⟩ := box2_kept hb3
    have z3 := block_lt_of_cell y3
    have b3 := hb2.trans (hb23.mono hb2.size)
    have b3' := Lib.hid (b3.trans ((one_more W3 (.cells #[.int .i64 p, .int .i64 i] 29)).mono b3.size))
    go_wp2_with fail
    refine (Y2.out _ _ _ _ (FA.out.below (b3'.out.mono hB1)) (LA.out.below (b3'.out.mono hB1)) (Nat.le_trans hB1 b3'.out.size)).mono ?_
    rintro e W4 ⟨A4, n4, c4, rfl, hb4⟩
    obtain ⟨y4, hb34⟩ := box_kept hb4
    have y3' := cell_below y3 hb34
    have t4 := block_lt_of_cell y4
    have t3 := block_lt_of_cell y3'
    have b4 := Lib.hid (hb1.trans ((b3.trans (hb34.mono b3.size)).mono hb1.size))
    clear hb2 hb3 hb23 b3 hb4 hb34 y3 z3 b2 b3'
    go_wp2_with fail
    refine bodyPost_ret (v := .bool true) (by simp [results, Try.results8, go_sem]) rfl ⟨rfl, ?_⟩
    exact b4.out.trans ((one_more W4 _).mono b4.out.size)
  · have hcase : (∃ p i, p ≠ 0 ∧ PatBad fs l a arg x p i) ∨ ∃ j : Nat, arg = (j : Int) ∧ ArgOk f xs j x := by
      rcases pat_cases o arg x with ⟨_, E⟩ | ⟨j, _, _, _, E⟩ | ⟨j, rfl, g⟩
      · exact .inl ⟨_, _, by decide, E⟩
      · exact .inl ⟨_, _, by decide, E⟩
      · exact .inr ⟨j, rfl, g⟩
    rcases hcase with ⟨p, i, hp, E⟩ | ⟨j, rfl, ga⟩
    · have X2 := Lib.hid E
      have O := Lib.hid o
      clear E o
      go_enter Try.func8, Try.ntmps8
      go_wp2_with fail
      refine (encExample_any _).mono ?_
      rintro e W1 ⟨rfl, hb1⟩
      have FA := Lib.hid (h.below (hb1.mono hB))
      have LA := Lib.hid (hl.below (hb1.mono hB))
      have hB1 : B ≤ W1.heap.size := Nat.le_trans hB hb1.size
      clear h hl
      go_wp2_with fail
      refine (O.out.calls _ _ _ _ FA.out LA.out hB1).mono ?_
      rintro e W2 ⟨R2, rfl, -, hb2⟩
      have b2 := Lib.hid (hb2.trans ((two_more W2 (.cells #[.int .i64 (k : Int), .slice (some ⟨R2, 0, none⟩) f.kinds.length f.kinds.length] 25) (.cells #[.int .i64 0, .int .i64 0] 29)).mono hb2.size))
      go_wp2_with fail
      refine (X2.out _ _ _ _ (FA.out.below (b2.out.mono hB1)) (LA.out.below (b2.out.mono hB1)) (Nat.le_trans hB1 b2.out.size)).mono ?_
      rintro e W3 ⟨rfl, hb3⟩
      obtain ⟨-, -, y3, hb23⟩ := box2_kept hb3
      have z3 := block_lt_of_cell y3
      have b3 := hb2.trans (hb23.mono hb2.size)
      have b3' := Lib.hid (b3.trans ((one_more W3 (.cells #[.int .i64 p, .int .i64 i] 29)).mono b3.size))
      go_wp2_with fail
      refine (Y2.out _ _ _ _ (FA.out.below (b3'.out.mono hB1)) (LA.out.below (b3'.out.mono hB1)) (Nat.le_trans hB1 b3'.out.size)).mono ?_
      rintro e W4 ⟨A4, n4, c4, rfl, hb4⟩
      obtain ⟨y4, hb34⟩ := box_kept hb4
      have y3' := cell_below y3 hb34
      have t4 := block_lt_of_cell y4
      have t3 := block_lt_of_cell y3'
      have b4 := Lib.hid (hb1.trans ((b3.trans (hb34.mono b3.size)).mono hb1.size))
      clear hb2 hb3 hb23 b3 hb4 hb34 y3 z3 b2 b3'
      go_wp2_with fail
      refine bodyPost_ret (v := .bool true) (by simp [results, Try.results8, go_sem]) rfl ⟨rfl, ?_⟩
      exact b4.out.trans ((one_more W4 _).mono b4.out.size)
    · have hcase2 : (∃ p i, p ≠ 0 ∧ PatBad fs l a j y p i) ∨ ArgOk f xs j y := by
        rcases pat_cases o (j : Int) y with ⟨_, E⟩ | ⟨j', _, _, _, E⟩ | ⟨j', hj', g⟩
        · exact .inl ⟨_, _, by decide, E⟩
        · exact .inl ⟨_, _, by decide, E⟩
        · exact .inr (by obtain rfl : j = j' := by omega
                         exact g)
      rcases hcase2 with ⟨p, i, hp, E⟩ | gb
      · have X2 := Lib.hid E
        have O := Lib.hid o
        have GA := Lib.hid ga
        clear E o ga
        go_enter Try.func8, Try.ntmps8
        go_wp2_with fail
        refine (encExample_any _).mono ?_
        rintro e W1 ⟨rfl, hb1⟩
        have FA := Lib.hid (h.below (hb1.mono hB))
        have LA := Lib.hid (hl.below (hb1.mono hB))
        have hB1 : B ≤ W1.heap.size := Nat.le_trans hB hb1.size
        clear h hl
        go_wp2_with fail
        refine (O.out.calls _ _ _ _ FA.out LA.out hB1).mono ?_
        rintro e W2 ⟨R2, rfl, -, hb2⟩
        have b2 := Lib.hid (hb2.trans ((two_more W2 (.cells #[.int .i64 (k : Int), .slice (some ⟨R2, 0, none⟩) f.kinds.length f.kinds.length] 25) (.cells #[.int .i64 0, .int .i64 0] 29)).mono hb2.size))
        go_wp2_with fail
        refine (pat_calls O.out GA.out _ _ _ _ (FA.out.below (b2.out.mono hB1)) (LA.out.below (b2.out.mono hB1)) (Nat.le_trans hB1 b2.out.size)).mono ?_
        rintro e W3 ⟨G3, c3, rfl, -, hb3⟩
        obtain ⟨-, -, y3, hb23⟩ := box2_kept hb3
        have z3 := block_lt_of_cell y3
        have b3 := hb2.trans (hb23.mono hb2.size)
        have b3' := Lib.hid (b3.trans ((one_more W3 (.cells #[.int .i64 0, .int .i64 0] 29)).mono b3.size))
        go_wp2_with fail
        refine (X2.out _ _ _ _ (FA.out.below (b3'.out.mono hB1)) (LA.out.below (b3'.out.mono hB1)) (Nat.le_trans hB1 b3'.out.size)).mono ?_
        rintro e W4 ⟨rfl, hb4⟩
        obtain ⟨y4, hb34⟩ := box_kept hb4
        have y3' := cell_below y3 hb34
        have t4 := block_lt_of_cell y4
        have t3 := block_lt_of_cell y3'
        have b4 := Lib.hid (hb1.trans ((b3.trans (hb34.mono b3.size)).mono hb1.size))
        clear hb2 hb3 hb23 b3 hb4 hb34 y3 z3 b2 b3'
        go_wp2_with fail
        refine bodyPost_ret (v := .bool true) (by simp [results, Try.results8, go_sem]) rfl ⟨rfl, ?_⟩
        exact b4.out.trans ((one_more W4 _).mono b4.out.size)
      · have oA := o.set ga
        have hlX : (xs.set j x).length = f.kinds.length := by rw [List.length_set]; exact o.enc.2.2.1
        have hlL : (patched l a f (xs.set j x)).length = l.length := patched_length hlX o.fits
        have hjx : j < xs.length := by rw [o.enc.2.2.1]; exact ga.1
        have gB : ArgOk f (xs.set j x) j y := ⟨ga.1, by rw [List.set_set]; exact gb.2⟩
        have gO : ArgOk f (xs.set j x) j (xs[j]?.getD 0) := ⟨ga.1, by
          rw [List.set_set, List.getElem?_eq_getElem hjx, Option.getD_some, List.set_getElem_self]; exact o.enc.2.2.2⟩
        have eB : patched (patched l a f (xs.set j x)) a f ((xs.set j x).set j y) = patched l a f (xs.set j y) := by rw [patched_again hlX o.fits, List.set_set]
        have eO : patched (patched l a f (xs.set j x)) a f ((xs.set j x).set j (xs[j]?.getD 0)) = l := by
          rw [patched_again hlX o.fits, List.set_set, List.getElem?_eq_getElem hjx, Option.getD_some, List.set_getElem_self]; exact o.own
        obtain ⟨hwr, i1⟩ := arg_sums (valid_form o.1 (List.mem_of_getElem? o.enc.2.1)).short ga.1
        have ZB := fun (W : World) (hf : FormsAt B W (.slice A n c) fs) (hB : B ≤ W.heap.size) (b : Nat) (cv : Value) (hc : BytesAt b W cv (patched l a f (xs.set j x))) (hb : b ≤ W.heap.size) => pat_calls oA gB W.heap.size (.slice A n c) cv W (hf.more hB) (hc.more hb) (Nat.le_refl _)
        have ZO := fun (W : World) (hf : FormsAt B W (.slice A n c) fs) (hB : B ≤ W.heap.size) (b : Nat) (cv : Value) (hc : BytesAt b W cv (patched l a f (xs.set j x))) (hb : b ≤ W.heap.size) => pat_calls oA gO W.heap.size (.slice A n c) cv W (hf.more hB) (hc.more hb) (Nat.le_refl _)
        rw [eB, hlL] at ZB
        rw [eO, hlL] at ZO
        have I1 := Lib.hid i1
        have HB2 := Lib.hid ZB
        have HO2 := Lib.hid ZO
        have O := Lib.hid o
        have GA := Lib.hid ga
        have GB := Lib.hid gb
        have HJ := Lib.hid hjx
        have hjm : j < f.kinds.length := ga.1
        clear i1 ZB ZO o ga gb oA gB gO eB eO hlX hlL hjx
        go_enter Try.func8, Try.ntmps8
        go_wp2_with fail
        refine (encExample_any _).mono ?_
        rintro e W1 ⟨rfl, hb1⟩
        have FA := Lib.hid (h.below (hb1.mono hB))
        have LA := Lib.hid (hl.below (hb1.mono hB))
        have hB1 : B ≤ W1.heap.size := Nat.le_trans hB hb1.size
        clear h hl
        go_wp2_with fail
        refine (O.out.calls _ _ _ _ FA.out LA.out hB1).mono ?_
        rintro e W2 ⟨R2, rfl, hk2, hb2⟩
        have b2 := Lib.hid (hb2.trans ((two_more W2 (.cells #[.int .i64 (k : Int), .slice (some ⟨R2, 0, none⟩) f.kinds.length f.kinds.length] 25) (.cells #[.int .i64 0, .int .i64 0] 29)).mono hb2.size))
        go_wp2_with fail
        refine (pat_calls O.out GA.out _ _ _ _ (FA.out.below (b2.out.mono hB1)) (LA.out.below (b2.out.mono hB1)) (Nat.le_trans hB1 b2.out.size)).mono ?_
        rintro e W3 ⟨G3, c3, rfl, hx3, hb3⟩
        obtain ⟨-, y1, y3, hb23⟩ := box2_kept hb3
        have DB3 : DecBoxes W2.heap.size R2 f.kinds.length W3 := ⟨y1, y3⟩
        have K3 := Lib.hid ((hk2.below hb23).more hb23.size)
        have b3 := hb2.trans (hb23.mono hb2.size)
        have b3' := Lib.hid (b3.trans ((one_more W3 (.cells #[.int .i64 0, .int .i64 0] 29)).mono b3.size))
        go_wp2_with fail
        refine (pat_calls O.out GB.out _ _ _ _ (FA.out.below (b3'.out.mono hB1)) (LA.out.below (b3'.out.mono hB1)) (Nat.le_trans hB1 b3'.out.size)).mono ?_
        rintro e W4 ⟨G4, c4, rfl, hy4, hb4⟩
        obtain ⟨y4, hb34⟩ := box_kept hb4
        have DB4 := DB3.below hb34
        have K4 := Lib.hid ((K3.out.below hb34).more hb34.size)
        have X4 := Lib.hid ((hx3.below hb34).more hb34.size)
        have Y4 := Lib.hid hy4
        have b4 := b3.trans (hb34.mono b3.size)
        clear hb2 hb3 hb23 b3 hb4 hb34 y1 y3 hx3 hy4 hk2 K3 DB3 b2 b3'
        obtain ⟨d1, d2⟩ := DB4
        have DB := Lib.hid (show DecBoxes W2.heap.size R2 f.kinds.length W4 from ⟨d1, d2⟩)
        have q1 := block_lt_of_cell d1
        have q2 := block_lt_of_cell d2
        have q3 := block_lt_of_cell y4
        have v4 : Below W4.heap.size W4 (W4.alloc (.cells #[.int .i64 0, .int .i64 0] 29)) := one_more _ _
        have X5 := Lib.hid ((X4.out.below v4).more v4.size)
        have Y5 := Lib.hid ((Y4.out.below v4).more v4.size)
        have K5 := Lib.hid ((K4.out.below v4).more v4.size)
        have D5 := Lib.hid (DB.out.below v4)
        have b5 := b4.trans (v4.mono b4.size)
        have F5 := Lib.hid (FA.out.below (b5.mono hB1))
        have L5 := Lib.hid (LA.out.below (b5.mono hB1))
        have B5 := Lib.hid b5
        have hB5 := Lib.hid (Nat.le_trans hB1 b5.size)
        clear v4 X4 Y4 K4 DB b4 b5 FA LA
        go_wp2_with fail
        refine (in_any _ _ _ _).mono ?_
        rintro e w' ⟨rfl, rfl⟩
        rw [I1.out]
        go_wp2_with fail
        obtain ⟨V, hV⟩ : ∃ V, V = W4.alloc (.cells #[.int .i64 0, .int .i64 0] 29) := ⟨_, rfl⟩
        rw [← hV] at X5 Y5 K5 D5 F5 L5 B5 hB5 ⊢
        clear hV d1 d2 y4 q1 q2 q3 hwr
        refine (HB2.out _ F5.out hB5.out _ _ X5.out (Nat.le_refl _)).mono ?_
        rintro e W5 ⟨G5, c5, rfl, hz5, hb5⟩
        obtain ⟨d1, d2⟩ := D5.out.below hb5
        have q1 := block_lt_of_cell d1
        have kk := K5.out.below hb5
        have hc := kinds_cell kk HJ.out
        have q2 := block_lt_of_cell hc
        have v5 : Below W5.heap.size W5 (W5.alloc (.cells #[.int .i64 0, .int .i64 0] 29)) := one_more _ _
        have a5 := hb5.trans (v5.mono hb5.size)
        have F6 := Lib.hid (F5.out.below (a5.mono hB5.out))
        have L6 := Lib.hid (L5.out.below (a5.mono hB5.out))
        have X6 := Lib.hid ((X5.out.below a5).more a5.size)
        have Y6 := Lib.hid ((Y5.out.below a5).more a5.size)
        have Z6 := Lib.hid ((hz5.below v5).more v5.size)
        have B6 := Lib.hid (B5.out.trans (a5.mono B5.out.size))
        have hB6 := Lib.hid (Nat.le_trans hB5.out a5.size)
        clear hb5 kk v5 a5 hz5 X5 Y5 K5 D5 F5 L5 B5 hB5
        go_wp2_with fail
        refine (HO2.out _ F6.out hB6.out _ _ X6.out (Nat.le_refl _)).mono ?_
        rintro e W7 ⟨G7, c7, rfl, ho7, hb7⟩
        obtain ⟨y5, hb57⟩ := box_kept hb7
        have q5 := block_lt_of_cell y5
        have v7 : Below W7.heap.size W7 (W7.alloc (.cells #[.int .i64 0, .int .i64 0] 29)) := one_more _ _
        have a7 := hb7.trans (v7.mono hb7.size)
        have L8 := Lib.hid ((L6.out.below (a7.mono hB6.out)).more (Nat.le_trans hB6.out a7.size))
        have Y8 := Lib.hid ((Y6.out.below a7).more a7.size)
        have Z8 := Lib.hid ((Z6.out.below a7).more a7.size)
        have O8 := Lib.hid ((ho7.below v7).more v7.size)
        have B8 := Lib.hid (hb1.trans ((B6.out.trans (a7.mono B6.out.size)).mono hb1.size))
        clear hb7 hb57 v7 a7 ho7 L6 Y6 Z6 X6 B6 hB6 F6 d1 d2 q1 q2 hc
        go_wp2_with fail
        refine (bytes_any _ _ _ _ _ _ Y8.out Z8.out).mono ?_
        rintro e w' ⟨rfl, rfl⟩
        rw [decide_eq_true rfl]
        go_wp2_with fail
        refine (bytes_any _ _ _ _ _ _ O8.out L8.out).mono ?_
        rintro e w' ⟨rfl, rfl⟩
        rw [decide_eq_true rfl]
        go_wp2_with fail
        refine bodyPost_ret (v := .bool true) (by simp [results, Try.results8, go_sem]) rfl ⟨rfl, ?_⟩
        exact B8.out
end Go.Proofs.Ytlkjgcifmpjpdaa
