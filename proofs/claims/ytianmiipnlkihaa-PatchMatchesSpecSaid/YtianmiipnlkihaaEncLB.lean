/- Decode answers as the reference says (the law DecodeMatchesSpec). Conditions: the arguments read as forms and bytes. -/
import Derived.Deep.RegionHeld3
import Derived.Test.YtianmiipnlkihaaEncDec
namespace Go.Proofs.Ytianmiipnlkihaa
open Go Go.RowKit Go.Shelf
theorem nil_kinds (B : Nat) (w : World) : KindsAt B w (.slice none 0 0) [] := ⟨none, 0, rfl, by simp, fun h => absurd h (by simp)⟩
/-- a box of an instruction and a box of a fault, all their cells -/
theorem box2_all {W2 W3 : World} {x y u z : Value} {t s : TypeId} (hb : Below ((W2.alloc (.cells #[x, y] t)).alloc (.cells #[u, z] s)).heap.size ((W2.alloc (.cells #[x, y] t)).alloc (.cells #[u, z] s)) W3) :
    Two W3 W2.heap.size x y ∧ Two W3 (W2.heap.size + 1) u z ∧ Below W2.heap.size W2 W3 := by
  have h0 : Below W2.heap.size W2 ((W2.alloc (.cells #[x, y] t)).alloc (.cells #[u, z] s)) := two_more _ _ _
  have t1 := ((Two.new W2 x y t).below (one_more (W2.alloc (.cells #[x, y] t)) (.cells #[u, z] s))).below hb
  have t2 := (Two.new (W2.alloc (.cells #[x, y] t)) u z s).below hb
  rw [World.size_alloc] at t2
  exact ⟨t1, t2, h0.trans (hb.mono h0.size)⟩
theorem good_same {fs : List Frm} {l : List UInt8} {k k' : Nat} {f f' : Frm} {xs xs' : List Int} (h : GoodAt fs l k f xs) (h' : GoodAt fs l k' f' xs') : k' = k ∧ f' = f ∧ xs' = xs := by
  obtain ⟨h1, h2, h3, h4, _⟩ := h
  obtain ⟨g1, g2, g3, g4, _⟩ := h'
  have hk : k' = k := by rw [h1] at g1; omega
  subst hk
  rw [h2] at g2
  injection g2 with g2
  subst g2
  exact ⟨rfl, rfl, by rw [g4, h4]⟩
theorem tail_facts {a n c : Nat} (h : a < n) (hc : n ≤ c) : ¬ c = a ∧ (a : Int) ≤ (n : Int) ∧ (0 : Int) ≤ (a : Int) ∧ a ≤ n ∧ (a : Int) ≤ (c : Int) ∧ a ≤ c := by omega
theorem dec4_keep {W W' : World} {b c : Nat} {x y u v : Value} (hb : Below W.heap.size W W') (h1 : W.cell? ⟨b, 0, none⟩ = some x) (h2 : W.cell? ⟨b, 1, none⟩ = some y) (h3 : W.cell? ⟨c, 0, none⟩ = some u) (h4 : W.cell? ⟨c, 1, none⟩ = some v) : (W'.cell? ⟨b, 0, none⟩ = some x ∧ W'.cell? ⟨b, 1, none⟩ = some y) ∧ W'.cell? ⟨c, 0, none⟩ = some u ∧ W'.cell? ⟨c, 1, none⟩ = some v :=
  ⟨⟨cell_below h1 hb, cell_below h2 hb⟩, cell_below h3 hb, cell_below h4 hb⟩
set_option maxRecDepth 100000 in
set_option maxHeartbeats 4000000 in
theorem law_dec (B : Nat) (v cv : Value) (fs : List Frm) (l : List UInt8) (at_ : Int) (w : World) (h : FormsAt B w v fs) (hl : BytesAt B w cv l) (hB : B ≤ w.heap.size) :
    Calls Try.prog 4 #[v, cv, .int .i64 at_] w fun e w' => e = .returned (.bool true) ∧ Below w.heap.size w w' := by
  obtain ⟨A, n, c, rfl, hfs, -, -, hop⟩ := h.opens
  obtain ⟨A2, n2, c2, rfl, hl2, ⟨hm2, hc2⟩, hop2⟩ := hl.opens
  have HOP := Lib.hid (And.intro hfs.out hop)
  have HOP2 := Lib.hid (And.intro hl2.out (And.intro hc2 hop2))
  clear hop hfs hop2 hc2 hm2 hl2
  go_enter Try.func4, Try.ntmps4
  go_wp2_with fail
  refine (encExample_any _).mono ?_
  rintro e W1 ⟨rfl, hb1⟩
  have FA := Lib.hid (h.below (hb1.mono hB))
  have LA := Lib.hid (hl.below (hb1.mono hB))
  have hB1 : B ≤ W1.heap.size := Nat.le_trans hB hb1.size
  have HW1 := Lib.hid hb1
  clear h hl hb1
  rcases dec_cases fs l at_ with ⟨p, i, hp, hdf, E1⟩ | ⟨a, rfl, hdf, ht, hal, hno, E1⟩ | ⟨a, k, f, xs, rfl, hdf, o1⟩
  · have Y1 := Lib.hid E1
    have hpz : (p == 0) = false := by simpa using hp
    have hpn : (p != 0) = true := by simpa using hp
    have HDF := Lib.hid hdf
    clear E1 hdf
    go_wp2_with fail
    refine (Y1.out _ _ _ _ FA.out LA.out hB1).mono ?_
    rintro e W2 ⟨rfl, hb2⟩
    have a2 := two_more W2 (.cells #[.int .i64 0, .slice none 0 0] 25) (.cells #[.int .i64 p, .int .i64 i] 29)
    have g2 := hb2.trans (a2.mono hb2.size)
    have D := decodeFault_any B _ _ fs l at_ _ (FA.out.below (g2.mono hB1)) (LA.out.below (g2.mono hB1)) (Nat.le_trans hB1 g2.size)
    rw [HDF.out] at D
    have HD := Lib.hid D
    have HB2 := Lib.hid hb2
    clear D a2 g2 hb2
    go_wp2_with fail
    refine HD.out.mono ?_
    rintro e W3 ⟨rfl, hb3⟩
    obtain ⟨t1, t2, g3⟩ := box2_all hb3
    have w3 := HW1.out.trans ((HB2.out.trans (g3.mono HB2.out.size)).mono HW1.out.size)
    have z1 := t1.lt
    have z2 := t2.lt
    obtain ⟨r0, r1, r2, r3⟩ := t1
    obtain ⟨s0, s1, s2, s3⟩ := t2
    have a3 := one_more W3 (.cells #[.int .i64 p, .int .i64 i] 29)
    have hB3 : B ≤ (W3.alloc (.cells #[.int .i64 p, .int .i64 i] 29)).heap.size := Nat.le_trans (Nat.le_trans hB w3.size) a3.size
    have HW3 := Lib.hid (w3.trans (a3.mono w3.size))
    clear hb3 g3 w3 a3
    go_wp2_with fail
    refine (sameIns_any B _ _ _ _ [] [] _ (nil_kinds _ _) (nil_kinds _ _) hB3).mono ?_
    rintro e W4 ⟨rfl, hb4⟩
    go_wp2_with fail
    refine bodyPost_ret (v := .bool true) (by simp [results, Try.results4, go_sem]) rfl ⟨rfl, ?_⟩
    exact HW3.out.trans (hb4.mono HW3.out.size)
  · have Y1 := Lib.hid E1
    have HDF := Lib.hid hdf
    obtain ⟨hn2, hc2, hop2⟩ := HOP2.out
    rw [hn2] at hal
    obtain ⟨b2, o2, hA2, -, -⟩ := hop2 (Nat.lt_of_le_of_lt (Nat.zero_le _) hal)
    subst hA2
    obtain ⟨f1, f2, f3, f4, f5, f6⟩ := tail_facts hal hc2
    have F4 := Lib.hid f4
    have HT := Lib.hid ht
    have HNO := Lib.hid hno
    have HDL := Lib.hid (show 0 < (l.drop a).length by rw [List.length_drop, hn2]; omega)
    clear E1 hdf ht hno hop2 hal HOP2 hn2 hc2
    go_wp2_with fail
    refine (Y1.out _ _ _ _ FA.out LA.out hB1).mono ?_
    rintro e W2 ⟨rfl, hb2⟩
    have a2 := two_more W2 (.cells #[.int .i64 0, .slice none 0 0] 25) (.cells #[.int .i64 17, .int .i64 (a : Int)] 29)
    have g2 := hb2.trans (a2.mono hb2.size)
    have D := decodeFault_any B _ _ fs l (a : Int) _ (FA.out.below (g2.mono hB1)) (LA.out.below (g2.mono hB1)) (Nat.le_trans hB1 g2.size)
    rw [HDF.out] at D
    have HD := Lib.hid D
    have HB2 := Lib.hid hb2
    clear D a2 g2 hb2
    go_wp2_with fail
    refine HD.out.mono ?_
    rintro e W3 ⟨rfl, hb3⟩
    obtain ⟨t1, t2, g3⟩ := box2_all hb3
    have g13 := HB2.out.trans (g3.mono HB2.out.size)
    have T1 := Lib.hid t1
    have T2 := Lib.hid t2
    have G13 := Lib.hid g13
    have z1 := t1.lt
    have z2 := t2.lt
    obtain ⟨r0, r1, r2, r3⟩ := t1
    obtain ⟨s0, s1, s2, s3⟩ := t2
    have a3 := one_more W3 (.cells #[.int .i64 0, .int .i64 0] 29)
    have g4 := g13.trans (a3.mono g13.size)
    have E := decoded_any B _ _ fs (l.drop a) (W3.alloc (.cells #[.int .i64 0, .int .i64 0] 29)) (FA.out.below (g4.mono hB1)) ((LA.out.below (g4.mono hB1)).drop F4.out) (Nat.le_trans hB1 g4.size) HT.out HDL.out
    have HE := Lib.hid E
    clear E g4 hb3 g3 g13 a3
    go_wp2_with fail
    refine HE.out.mono ?_
    rintro e W4 ⟨hcase, hb4⟩
    rcases hcase with ⟨k', f', xs', av', hgood, -, -⟩ | ⟨-, rfl⟩
    · exact absurd ⟨k', f', xs', hgood⟩ HNO.out
    have a3 := one_more W3 (.cells #[.int .i64 0, .int .i64 0] 29)
    have g34 := a3.trans (hb4.mono a3.size)
    have u1 := T1.out.below g34
    have u2 := T2.out.below g34
    have w4 := HW1.out.trans ((G13.out.trans (g34.mono G13.out.size)).mono HW1.out.size)
    have HW4 := Lib.hid w4
    have hB4 := Nat.le_trans hB w4.size
    obtain ⟨q0, q1, q2, q3⟩ := u1
    obtain ⟨p0, p1, p2, p3⟩ := u2
    have y1 := block_lt_of_cell q0
    have y2 := block_lt_of_cell p0
    clear hb4 a3 g34 w4 r0 r1 r2 r3 s0 s1 s2 s3
    go_wp2_with fail
    have a5 := one_more W4 (.cells #[.int .i64 0, .slice none 0 0] 25)
    have e0 := cell_below q0 a5
    have e1 := cell_below q1 a5
    have k0 := cell_below p0 a5
    have k1 := cell_below p1 a5
    obtain ⟨W5, hW5⟩ : ∃ W5, W5 = W4.alloc (.cells #[.int .i64 0, .slice none 0 0] 25) := ⟨_, rfl⟩
    rw [← hW5] at a5 e0 e1 k0 k1 ⊢
    have KS : Hid (∀ W', Below W5.heap.size W5 W' → _) := Lib.hid (fun W' hb' => dec4_keep hb' e0 e1 k0 k1)
    have hB5 : Hid (B ≤ W5.heap.size) := Lib.hid (Nat.le_trans hB4 a5.size)
    have HFN := Lib.hid (HW4.out.trans (a5.mono HW4.out.size))
    have hcur : Below W5.heap.size W5 W5.drew := (Below.refl _ _).drew
    clear hW5 a5 q0 q1 q2 q3 p0 p1 p2 p3
    go_region_held3 (fun W' => (W'.cell? ⟨W2.heap.size, 0, none⟩ = some (.int .i64 0) ∧ W'.cell? ⟨W2.heap.size, 1, none⟩ = some (.slice none 0 0)) ∧ W'.cell? ⟨W2.heap.size + 1, 0, none⟩ = some (.int .i64 17) ∧ W'.cell? ⟨W2.heap.size + 1, 1, none⟩ = some (.int .i64 (a : Int)))
      (first | exact KS.out _ hcur)
      (first
        | (go_at_call 16; refine (at_any _ _ _).mono ?_; rintro e W7 ⟨rfl, hb7⟩; have hcur := hcur.trans (hb7.mono hcur.size))
        | (go_at_call 14; refine (sameIns_any B _ _ _ _ [] [] _ (nil_kinds _ _) (nil_kinds _ _) (Nat.le_trans hB5.out hcur.size)).mono ?_; rintro e W7 ⟨rfl, hb7⟩; have hcur := hcur.trans (hb7.mono hcur.size)))
    go_wp2_with fail
    refine bodyPost_ret (v := .bool true) (by simp [results, Try.results4, go_sem]) rfl ⟨rfl, HFN.out.trans (hcur.mono HFN.out.size)⟩
  · have O := Lib.hid o1
    have HDF := Lib.hid hdf
    obtain ⟨hn2, hc2, hop2⟩ := HOP2.out
    have hal := o1.2.2.1
    rw [hn2] at hal
    obtain ⟨b2, o2, hA2, -, -⟩ := hop2 (Nat.lt_of_le_of_lt (Nat.zero_le _) hal)
    subst hA2
    obtain ⟨f1, f2, f3, f4, f5, f6⟩ := tail_facts hal hc2
    have F4 := Lib.hid f4
    have HDL := Lib.hid (show 0 < (l.drop a).length by rw [List.length_drop, hn2]; omega)
    obtain ⟨hfs, hop⟩ := HOP.out
    have hx := o1.enc.2.1
    have hkn : k < n := by rw [← hfs]; exact (List.getElem?_eq_some_iff.1 hx).1
    obtain ⟨b1, p1, hA1, hb1, hg⟩ := hop (Nat.lt_of_le_of_lt (Nat.zero_le _) hkn)
    subst hA1
    have HG := Lib.hid (hg k f hx)
    have HB1 := Lib.hid hb1
    have hki : (k : Int) < (n : Int) := small_int hkn
    have hk0 : (0 : Int) ≤ (k : Int) := Int.natCast_nonneg _
    have HX := Lib.hid hx
    clear o1 hdf hop2 hal HOP2 hn2 hc2 hfs hop hg hb1 hx HOP hkn
    go_wp2_with fail
    refine (O.out.calls _ _ _ _ FA.out LA.out hB1).mono ?_
    rintro e W2 ⟨R2, rfl, hk2, hb2⟩
    have a2 := two_more W2 (.cells #[.int .i64 (k : Int), .slice (some ⟨R2, 0, none⟩) f.kinds.length f.kinds.length] 25) (.cells #[.int .i64 0, .int .i64 0] 29)
    have g2 := hb2.trans (a2.mono hb2.size)
    have D := decodeFault_any B _ _ fs l (a : Int) _ (FA.out.below (g2.mono hB1)) (LA.out.below (g2.mono hB1)) (Nat.le_trans hB1 g2.size)
    rw [HDF.out] at D
    have HD := Lib.hid D
    have HB2 := Lib.hid hb2
    have HK2 := Lib.hid hk2
    clear D a2 g2 hb2 hk2
    go_wp2_with fail
    refine HD.out.mono ?_
    rintro e W3 ⟨rfl, hb3⟩
    obtain ⟨t1, t2, g3⟩ := box2_all hb3
    have g13 := HB2.out.trans (g3.mono HB2.out.size)
    have K3 := Lib.hid ((HK2.out.below g3).more g3.size)
    have T1 := Lib.hid t1
    have T2 := Lib.hid t2
    have G13 := Lib.hid g13
    have z1 := t1.lt
    have z2 := t2.lt
    obtain ⟨r0, r1, r2, r3⟩ := t1
    obtain ⟨s0, s1, s2, s3⟩ := t2
    have a3 := one_more W3 (.cells #[.int .i64 0, .int .i64 0] 29)
    have g4 := g13.trans (a3.mono g13.size)
    have E := decoded_any B _ _ fs (l.drop a) (W3.alloc (.cells #[.int .i64 0, .int .i64 0] 29)) (FA.out.below (g4.mono hB1)) ((LA.out.below (g4.mono hB1)).drop F4.out) (Nat.le_trans hB1 g4.size) O.out.1 HDL.out
    have HE := Lib.hid E
    clear E g4 hb3 g3 g13 a3
    go_wp2_with fail
    refine HE.out.mono ?_
    rintro e W4 ⟨hcase, hb4⟩
    rcases hcase with ⟨k', f', xs', av', hgood, rfl, hrow⟩ | ⟨hno, -⟩
    rotate_left
    · exact absurd ⟨k, f, xs, O.out.2.2.2⟩ hno
    obtain ⟨rfl, rfl, rfl⟩ := good_same O.out.2.2.2 hgood
    obtain ⟨A5, c5, rfl⟩ := row_is hrow
    have a3 := one_more W3 (.cells #[.int .i64 0, .int .i64 0] 29)
    have g34 := a3.trans (hb4.mono a3.size)
    have u1 := T1.out.below g34
    have u2 := T2.out.below g34
    have g14 := G13.out.trans (g34.mono G13.out.size)
    have w4 := HW1.out.trans (g14.mono HW1.out.size)
    have HW4 := Lib.hid w4
    have hB4 := Nat.le_trans hB w4.size
    have hsh := (valid_form O.out.1 (List.mem_of_getElem? HX.out)).short
    have hkx : xs'.length ≤ 17592186044416 := by rw [O.out.enc.2.2.1]; omega
    have K4 := Lib.hid ((K3.out.below g34).more g34.size)
    have X4 := Lib.hid (kinds_of_row' hrow hkx)
    have FW := FA.out.below (g14.mono hB1)
    have d := HG.out.below (w4.mono hB) HB1.out
    have hkf := FW.kinds (List.mem_of_getElem? HX.out)
    have a5 := one_more W4 (.cells #[.int .i64 (k' : Int), .slice A5 xs'.length c5] 25)
    obtain ⟨nm, q, kv, ks⟩ := f'
    obtain ⟨A3, n3, c3, e3, -, -, -⟩ := hkf.opens
    dsimp only at e3
    subst e3
    obtain ⟨d0, d1, d2⟩ := d
    dsimp only at d0 d1 d2 hkf u1 K4
    have hb1L : b1 < W4.heap.size := Nat.lt_of_lt_of_le HB1.out hB4
    have F5 := formSize_any B nm q _ ks (W4.alloc (.cells #[.int .i64 (k' : Int), .slice A5 xs'.length c5] 25)) (hkf.below (a5.mono hB4)) (Nat.le_trans hB4 a5.size)
    have HF5 := Lib.hid F5
    have HD0 := Lib.hid d0
    have hz1 := u1.lt
    have hz2 := u2.lt
    have U1 := Lib.hid u1
    have U2 := Lib.hid u2
    obtain ⟨q0, q1, q2, q3⟩ := u1
    obtain ⟨o0, o1', o2', o3'⟩ := u2
    have HB4 := Lib.hid hB4
    clear F5 FW hkf a3 g34 g14 w4 r0 r1 r2 r3 s0 s1 s2 s3 z1 z2 hkx hrow hb4 hgood hsh HG
    go_wp2_with fail
    refine HF5.out.mono ?_
    rintro e W6 ⟨rfl, hb6⟩
    have m0 := (Two.new W4 (.int .i64 (k' : Int)) (.slice A5 xs'.length c5) 25).below hb6
    have g46 := a5.trans (hb6.mono a5.size)
    have n0 := U1.out.below g46
    have hy1 := m0.lt
    have hy2 := n0.lt
    obtain ⟨m1, m2, -, -⟩ := m0
    obtain ⟨n1, n2', -, -⟩ := n0
    have K6 := (K4.out.below g46).more g46.size
    have X6 := (X4.out.below g46).more g46.size
    have S := sameIns_any W6.heap.size (k' : Int) (k' : Int) _ _ xs' xs' W6 K6 X6 (Nat.le_refl _)
    have HS := Lib.hid S
    have HFN := Lib.hid (HW4.out.trans (g46.mono HW4.out.size))
    clear S K6 X6 g46 hb6 a5 q0 q1 q2 q3 o0 o1' o2' o3' d0 d1 d2
    go_wp2_with fail
    refine HS.out.mono ?_
    rintro e W7 ⟨rfl, hb7⟩
    rw [show (decide True && decide True) = true from rfl]
    go_wp2_with fail
    refine bodyPost_ret (v := .bool true) (by simp [results, Try.results4, go_sem]) rfl ⟨rfl, HFN.out.trans (hb7.mono HFN.out.size)⟩
end Go.Proofs.Ytianmiipnlkihaa
