/- Encode answers as the reference says (the law EncodeMatchesSpec). Conditions: the arguments read as forms and an instruction. -/
import Derived.Deep.RegionHeld3
import Derived.Test.YtianmiipnlkihaaEncLem
namespace Go.Proofs.Ytianmiipnlkihaa
open Go Go.RowKit Go.Shelf
theorem enc_keep {W W' : World} {b o r r2 : Nat} {x y z u v t : Value} (hb : Below W.heap.size W W') (d1 : W.cell? ⟨b, o, none⟩ = some x) (d2 : W.cell? ⟨b, o + 1, none⟩ = some y) (d3 : W.cell? ⟨b, o + 2, none⟩ = some z) (r0 : W.cell? ⟨r, 0, none⟩ = some u) (r1 : W.cell? ⟨r, 1, none⟩ = some v) (q0 : W.cell? ⟨r2, 0, none⟩ = some t) :
    (W'.cell? ⟨b, o, none⟩ = some x ∧ W'.cell? ⟨b, o + 1, none⟩ = some y ∧ W'.cell? ⟨b, o + 2, none⟩ = some z) ∧ (W'.cell? ⟨r, 0, none⟩ = some u ∧ W'.cell? ⟨r, 1, none⟩ = some v) ∧ W'.cell? ⟨r2, 0, none⟩ = some t :=
  ⟨⟨cell_below d1 hb, cell_below d2 hb, cell_below d3 hb⟩, ⟨cell_below r0 hb, cell_below r1 hb⟩, cell_below q0 hb⟩
theorem encFault_table {fs : List Frm} {form : Int} {xs : List Int} (h : (tableFault fs).1 ≠ 0) : encFault fs form xs = tableFault fs := by unfold encFault; rw [if_pos h]
theorem encFault_ins {fs : List Frm} {form : Int} {xs : List Int} (h : (tableFault fs).1 = 0) : encFault fs form xs = insFault fs form xs := by unfold encFault; rw [if_neg (by simpa using h)]
set_option maxRecDepth 100000 in
set_option maxHeartbeats 4000000 in
theorem law_enc (B : Nat) (v av : Value) (fs : List Frm) (form : Int) (xs : List Int) (w : World) (h : FormsAt B w v fs) (ha : KindsAt B w av xs) (hB : B ≤ w.heap.size) :
    Calls Try.prog 3 #[v, .agg #[.int .i64 form, av]] w fun e w' => e = .returned (.bool true) ∧ Below w.heap.size w w' := by
  obtain ⟨A, n, c, rfl, hfs, -, -, hop⟩ := h.opens
  obtain ⟨A1, n1, c1, rfl, -⟩ := ha.opens
  have bx := one_more w (.cells #[.int .i64 form, .slice A1 n1 c1] 25)
  obtain ⟨j0, j1⟩ := one_box w (.int .i64 form) (.slice A1 n1 c1) 25
  have J0 := Lib.hid j0
  have J1 := Lib.hid j1
  clear j0 j1
  go_enter Try.func3, Try.ntmps3
  go_wp2_with fail
  refine (encExample_any _).mono ?_
  rintro e W1 ⟨rfl, hb1⟩
  have x0 := cell_below J0.out hb1
  have x1 := cell_below J1.out hb1
  have w1 := bx.trans (hb1.mono bx.size)
  have FA := Lib.hid (h.below (w1.mono hB))
  have KA := Lib.hid (ha.below (w1.mono hB))
  have hB1 : B ≤ W1.heap.size := Nat.le_trans hB w1.size
  have z1 := block_lt_of_cell x0
  have X0 := Lib.hid x0
  have X1 := Lib.hid x1
  have HW1 := Lib.hid w1
  have HOP := Lib.hid (And.intro hfs.out hop)
  clear h ha bx hb1 w1 hop hfs
  rcases enc_cases fs form xs with ⟨p, i, hp, hef, E1⟩ | ⟨k, f, rfl, o1, hef⟩
  · have Y1 := Lib.hid E1
    have hpz : (p == 0) = false := by simpa using hp
    have hpn : (p != 0) = true := by simpa using hp
    clear E1
    go_wp2_with fail
    refine (Y1.out _ _ _ _ FA.out KA.out hB1).mono ?_
    rintro e W2 ⟨rfl, hb2⟩
    have a3 := one_more W2 (.cells #[.int .i64 p, .int .i64 i] 29)
    have g3 := hb2.trans (a3.mono hb2.size)
    have u3 : Two (W2.alloc (.cells #[.int .i64 p, .int .i64 i] 29)) W2.heap.size (.int .i64 p) (.int .i64 i) := Two.new _ _ _ _
    have C := tableFault_any B _ fs _ (FA.out.below (g3.mono hB1)) (Nat.le_trans hB1 g3.size)
    have HC := Lib.hid C
    have G3 := Lib.hid g3
    have U3 := Lib.hid u3
    clear C a3 g3 u3 hb2
    go_wp2_with fail
    refine HC.out.mono ?_
    rintro e W4 ⟨rfl, hb4⟩
    have u4 := U3.out.below hb4
    have g4 := G3.out.trans (hb4.mono G3.out.size)
    have x0' := cell_below X0.out g4
    have x1' := cell_below X1.out g4
    have G4 := Lib.hid g4
    have U4 := Lib.hid u4
    have z2 := u4.lt
    have z1' := block_lt_of_cell x0'
    obtain ⟨r0, r1, r2, r3⟩ := u4
    clear hb4 g4 x0 x1 z1 HC
    by_cases ht : (tableFault fs).1 = 0
    · have hi := hef
      rw [encFault_ins ht] at hi
      have ht2 := fault_pair ht
      rw [ht2]
      have D := insFault_any B _ _ fs form xs (W4.alloc (.cells #[.int .i64 0, .int .i64 0] 29)) (FA.out.below ((G4.out.trans ((one_more W4 _).mono G4.out.size)).mono hB1)) (KA.out.below ((G4.out.trans ((one_more W4 _).mono G4.out.size)).mono hB1)) (Nat.le_trans hB1 (G4.out.trans ((one_more W4 _).mono G4.out.size)).size)
      rw [hi] at D
      have HD := Lib.hid D
      clear D ht ht2 hi hef
      go_wp2_with fail
      refine HD.out.mono ?_
      rintro e W5 ⟨rfl, hb5⟩
      have a5 := one_more W4 (.cells #[.int .i64 0, .int .i64 0] 29)
      obtain ⟨v0, v1, v2, v3⟩ := (Two.new W4 (.int .i64 0) (.int .i64 0) 29).below hb5
      obtain ⟨s0, s1, s2, s3⟩ := (U4.out.below a5).below hb5
      have z4 := block_lt_of_cell v0
      have z5 := block_lt_of_cell s0
      have hne : ¬ W4.heap.size = W2.heap.size := by have := U4.out.lt; omega
      have hne' : ¬ W2.heap.size = W4.heap.size := fun h => hne h.symm
      have hfin := HW1.out.trans ((G4.out.trans ((a5.trans (hb5.mono a5.size)).mono G4.out.size)).mono HW1.out.size)
      have HFN := Lib.hid hfin
      have HZ := Lib.hid (show w.heap.size ≤ W4.heap.size from Nat.le_trans HW1.out.size G4.out.size)
      clear hb5 a5 hfin r0 r1 r2 r3
      go_wp2_with fail
      refine bodyPost_ret (v := .bool true) (by simp [results, Try.results3, go_sem]) rfl ⟨rfl, ?_⟩
      exact (HFN.out.setCell (p := ⟨W4.heap.size, 0, none⟩) HZ.out _).setCell (p := ⟨W4.heap.size, 1, none⟩) HZ.out _
    · have hi := hef
      rw [encFault_table ht] at hi
      rw [hi]
      clear hi hef ht
      go_wp2_with fail
      refine bodyPost_ret (v := .bool true) (by simp [results, Try.results3, go_sem]) rfl ⟨rfl, ?_⟩
      have hfin := HW1.out.trans (G4.out.mono HW1.out.size)
      exact hfin.alloc hfin.size _
  · have ht := o1.1
    have hx := o1.2.1
    have hok := valid_form ht (List.mem_of_getElem? hx)
    have hi := hef
    rw [encFault_ins (by rw [ht])] at hi
    have HO := Lib.hid o1
    have HOK := Lib.hid hok
    obtain ⟨hfs, hop⟩ := HOP.out
    have hkn : k < n := by rw [← hfs]; exact (List.getElem?_eq_some_iff.1 hx).1
    obtain ⟨b1, p1, hA1, hb1, hg⟩ := hop (Nat.lt_of_le_of_lt (Nat.zero_le _) hkn)
    subst hA1
    have HG := Lib.hid (hg k f hx)
    have HB1 := Lib.hid hb1
    have hki : (k : Int) < (n : Int) := small_int hkn
    have hk0 : (0 : Int) ≤ (k : Int) := Int.natCast_nonneg _
    have HX := Lib.hid hx
    clear o1 hok hef hfs hop hg hb1 hx HOP
    go_wp2_with fail
    refine (HO.out.calls _ _ _ _ FA.out KA.out hB1).mono ?_
    rintro e W2 ⟨R2, rfl, hby, hb2⟩
    have a3 := one_more W2 (.cells #[.int .i64 0, .int .i64 0] 29)
    have g3 := hb2.trans (a3.mono hb2.size)
    have u3 : Two (W2.alloc (.cells #[.int .i64 0, .int .i64 0] 29)) W2.heap.size (.int .i64 0) (.int .i64 0) := Two.new _ _ _ _
    have C := tableFault_any B _ fs _ (FA.out.below (g3.mono hB1)) (Nat.le_trans hB1 g3.size)
    rw [ht] at C
    have HC := Lib.hid C
    have G3 := Lib.hid g3
    have U3 := Lib.hid u3
    have BY3 := Lib.hid ((hby.below a3).more a3.size)
    clear C a3 g3 u3 hb2 ht hby
    go_wp2_with fail
    refine HC.out.mono ?_
    rintro e W4 ⟨rfl, hb4⟩
    have u4 := U3.out.below hb4
    have g4 := G3.out.trans (hb4.mono G3.out.size)
    have x0' := cell_below X0.out g4
    have x1' := cell_below X1.out g4
    have G4 := Lib.hid g4
    have U4 := Lib.hid u4
    have BY4 := Lib.hid ((BY3.out.below hb4).more hb4.size)
    have z2 := u4.lt
    have z1' := block_lt_of_cell x0'
    obtain ⟨r0, r1, r2, r3⟩ := u4
    have g5 := g4.trans ((one_more W4 (.cells #[.int .i64 0, .int .i64 0] 29)).mono g4.size)
    have D := insFault_any B _ _ fs (k : Int) xs (W4.alloc (.cells #[.int .i64 0, .int .i64 0] 29)) (FA.out.below (g5.mono hB1)) (KA.out.below (g5.mono hB1)) (Nat.le_trans hB1 g5.size)
    rw [hi] at D
    have HD := Lib.hid D
    clear hb4 g4 x0 x1 z1 HC D hi g5
    go_wp2_with fail
    refine HD.out.mono ?_
    rintro e W5 ⟨rfl, hb5⟩
    have a5 := one_more W4 (.cells #[.int .i64 0, .int .i64 0] 29)
    have g45 := a5.trans (hb5.mono a5.size)
    obtain ⟨v0, v1, v2, v3⟩ := (Two.new W4 (.int .i64 0) (.int .i64 0) 29).below hb5
    have z4 := block_lt_of_cell v0
    have g46 := g45.trans (((Below.refl W4.heap.size W5).setCell (p := ⟨W4.heap.size, 0, none⟩) (Nat.le_refl _) (.int .i64 0)).setCell (p := ⟨W4.heap.size, 1, none⟩) (Nat.le_refl _) (.int .i64 0))
    have G46 := Lib.hid g46
    clear hb5 a5 g45 g46 r0 r1 r2 r3
    go_wp2_with fail
    obtain ⟨W6, hW6⟩ : ∃ W6, W6 = (W5.setCell ⟨W4.heap.size, 0, none⟩ (.int .i64 0)).setCell ⟨W4.heap.size, 1, none⟩ (.int .i64 0) := ⟨_, rfl⟩
    rw [← hW6] at G46 ⊢
    clear hW6 v0 v1 v2 v3
    have g46 := G46.out
    have y0 := cell_below x0' g46
    have y1 := cell_below x1' g46
    have u6 := U4.out.below g46
    have g16 := G4.out.trans (g46.mono G4.out.size)
    have hB6 := Nat.le_trans hB1 g16.size
    have FW := FA.out.below (g16.mono hB1)
    have KW := KA.out.below (g16.mono hB1)
    have BW := (BY4.out.below g46).more g46.size
    have d := HG.out.below (((HW1.out.trans (g16.mono HW1.out.size))).mono hB) HB1.out
    have hkf := FW.kinds (List.mem_of_getElem? HX.out)
    have hxl := HO.out.2.2.1
    have hin := inside_of_idx hxl HO.out.2.2.2
    have hsh := HOK.out.short
    have hkn := HOK.out.known
    have h20 := sizeOf_le hsh
    obtain ⟨nm, q, kv, ks⟩ := f
    obtain ⟨A3, n3, c3, e3, -, -, -⟩ := hkf.opens
    dsimp only at e3
    subst e3
    obtain ⟨d0, d1, d2⟩ := d
    dsimp only at d0 d1 d2 hxl hin hsh hkn h20 BW hkf
    obtain ⟨s0, s1, s2, s3⟩ := u6
    have hb1L : b1 < W6.heap.size := Nat.lt_of_lt_of_le HB1.out hB6
    have z6 := block_lt_of_cell y0
    have z7 := block_lt_of_cell s0
    have KS : Hid (∀ W', Below W6.heap.size W6 W' → _) := Lib.hid (fun W' hb' => enc_keep hb' d0 d1 d2 y0 y1 s0)
    have CC : Hid (∀ W', Below W6.heap.size W6 W' → _) := Lib.hid (fun W' hb' => code_any W6.heap.size nm q _ _ ks xs W' ((hkf.more hB6).below hb') ((KW.more hB6).below hb') hb'.size hxl hsh hkn hin)
    have BW' := Lib.hid BW
    have HS20 := Lib.hid h20
    have HFN := Lib.hid (HW1.out.trans (g16.mono HW1.out.size))
    have hcur : Below W6.heap.size W6 W6.drew := (Below.refl _ _).drew
    clear g46 g16 FW KW BW hkf hxl hin hsh hkn h20 x0' x1' hB6 FA KA
    go_region_held3 (fun W' => (W'.cell? ⟨b1, p1 + k * 3, none⟩ = some (.string nm) ∧ W'.cell? ⟨b1, p1 + k * 3 + 1, none⟩ = some (.int .i64 q) ∧ W'.cell? ⟨b1, p1 + k * 3 + 2, none⟩ = some (.slice A3 n3 c3)) ∧ (W'.cell? ⟨w.heap.size, 0, none⟩ = some (.int .i64 (k : Int)) ∧ W'.cell? ⟨w.heap.size, 1, none⟩ = some (.slice A1 n1 c1)) ∧ W'.cell? ⟨W2.heap.size, 0, none⟩ = some (.int .i64 0))
      (first | exact KS.out _ hcur)
      (first
        | (go_at_call 11; refine (CC.out _ hcur).mono ?_; rintro e W7 ⟨v7, rfl, hr7, hb7⟩; obtain ⟨A7, c7, rfl⟩ := row_is hr7; have HCD := Lib.hid (code_keep hr7); have hcur := hcur.trans (hb7.mono hcur.size))
        | (go_at_call 10; refine (bytes_any _ _ _ _ _ _ ((BW'.out.below hcur).more hcur.size) (HCD.out _ (Below.refl _ _) (Nat.le_trans HS20.out (by decide)))).mono ?_; rintro e W8 ⟨rfl, rfl⟩; rw [decide_eq_true rfl]))
    go_wp2_with fail
    refine bodyPost_ret (v := .bool true) (by simp [results, Try.results3, go_sem]) rfl ⟨rfl, HFN.out.trans (hcur.mono HFN.out.size)⟩
end Go.Proofs.Ytianmiipnlkihaa
