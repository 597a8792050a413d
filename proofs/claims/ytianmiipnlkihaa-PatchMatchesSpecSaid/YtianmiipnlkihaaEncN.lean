/- The examples of the document on encoding hold. No condition. -/
import Derived.Test.YtianmiipnlkihaaIsaL
import Derived.Test.YtianmiipnlkihaaEncM
namespace Go.Proofs.Ytianmiipnlkihaa
open Go Go.RowKit Go.Shelf

def exB : List UInt8 := [9, 5, 254]
def exP : List UInt8 := [7, 9, 5, 254]
theorem ex_enc : encL 9 ([1, 3].zip [5, -2]) = exB := by kernel_rfl
theorem ex_in : outIdx [1, 3] [5, -2] = -1 := by kernel_rfl
theorem ex_good (kv : Value) : GoodAt (tinyF kv) exB 1 ⟨⟨#[98]⟩, 9, kv, [1, 3]⟩ [5, -2] := by
  refine ⟨?_, rfl, ?_, ?_, ex_in, ?_⟩
  · show idxOf (codeB exB) (tinyF (.slice none 0 0)) = 1
    kernel_rfl
  · show sizeOf [1, 3] ≤ exB.length
    decide
  · show [5, -2] = getL [1, 3] exB
    kernel_rfl
  · show exB.take (sizeOf [1, 3]) = encL 9 ([1, 3].zip [5, -2])
    kernel_rfl
theorem ex_good2 (kv : Value) : GoodAt (tinyF kv) (exP.drop 1) 1 ⟨⟨#[98]⟩, 9, kv, [1, 3]⟩ [5, -2] := ex_good kv
theorem ex_patch : exP.take 1 ++ encL 9 ([1, 3].zip ([5, -2].set 0 3)) ++ exP.drop (1 + sizeOf [1, 3]) = [7, 9, 3, 254] := by kernel_rfl
theorem kinds_lit (w : World) (a b : Int) : KindsAt (w.alloc (.cells #[.int .i64 a, .int .i64 b] 3)).heap.size (w.alloc (.cells #[.int .i64 a, .int .i64 b] 3)) (.slice (some ⟨w.heap.size, 0, none⟩) 2 2) [a, b] :=
  ⟨_, 2, rfl, by simp, fun _ => ⟨_, 0, rfl, by simp, fun j hj => by
    match j, hj with
    | 0, _ => simp
    | 1, _ => simp
    | j + 2, hj => simp at hj; omega⟩⟩
theorem bytes_lit3 (w : World) (a b c : UInt8) : BytesAt (w.alloc (.cells #[.int .u8 (a.toNat : Int), .int .u8 (b.toNat : Int), .int .u8 (c.toNat : Int)] 5)).heap.size (w.alloc (.cells #[.int .u8 (a.toNat : Int), .int .u8 (b.toNat : Int), .int .u8 (c.toNat : Int)] 5)) (.slice (some ⟨w.heap.size, 0, none⟩) 3 3) [a, b, c] :=
  ⟨_, 3, rfl, by simp, fun _ => ⟨_, 0, rfl, by simp, fun j hj => by
    match j, hj with
    | 0, _ => simp
    | 1, _ => simp
    | 2, _ => simp
    | j + 3, hj => simp at hj; omega⟩⟩
theorem bytes_lit4 (w : World) (a b c d : UInt8) : BytesAt (w.alloc (.cells #[.int .u8 (a.toNat : Int), .int .u8 (b.toNat : Int), .int .u8 (c.toNat : Int), .int .u8 (d.toNat : Int)] 5)).heap.size (w.alloc (.cells #[.int .u8 (a.toNat : Int), .int .u8 (b.toNat : Int), .int .u8 (c.toNat : Int), .int .u8 (d.toNat : Int)] 5)) (.slice (some ⟨w.heap.size, 0, none⟩) 4 4) [a, b, c, d] :=
  ⟨_, 4, rfl, by simp, fun _ => ⟨_, 0, rfl, by simp, fun j hj => by
    match j, hj with
    | 0, _ => simp
    | 1, _ => simp
    | 2, _ => simp
    | 3, _ => simp
    | j + 4, hj => simp at hj; omega⟩⟩

/-- what the end of the example reads -/
def ExAt (x2 x4 x5 R2 R4 : Nat) (V : World) : Prop :=
  V.cell? ⟨x2, 0, none⟩ = some (.int .i64 0) ∧ V.cell? ⟨x4, 0, none⟩ = some (.int .i64 1) ∧ V.cell? ⟨x4, 1, none⟩ = some (.slice (some ⟨R4, 0, none⟩) 2 2) ∧ V.cell? ⟨x5, 0, none⟩ = some (.int .i64 0) ∧
    BytesAt V.heap.size V (.slice (some ⟨R2, 0, none⟩) 3 3) exB ∧ KindsAt V.heap.size V (.slice (some ⟨R4, 0, none⟩) 2 2) [5, -2]
theorem ExAt.below {x2 x4 x5 R2 R4 : Nat} {V V' : World} (h : ExAt x2 x4 x5 R2 R4 V) (hb : Below V.heap.size V V') : ExAt x2 x4 x5 R2 R4 V' := by
  obtain ⟨a, b, c, d, e, f⟩ := h
  exact ⟨(hb.cell (p := ⟨x2, 0, none⟩) (block_lt_of_cell a)).trans a, (hb.cell (p := ⟨x4, 0, none⟩) (block_lt_of_cell b)).trans b, (hb.cell (p := ⟨x4, 1, none⟩) (block_lt_of_cell c)).trans c, (hb.cell (p := ⟨x5, 0, none⟩) (block_lt_of_cell d)).trans d, (e.below hb).more hb.size, (f.below hb).more hb.size⟩

set_option maxRecDepth 100000 in
set_option maxHeartbeats 2000000 in
theorem encExample_any (w : World) : Calls Try.prog 6 #[] w fun e w' => e = .returned (.bool true) ∧ Below w.heap.size w w' := by
  go_enter Try.func6, Try.ntmps6
  go_wp2_with fail
  refine (tiny_any _).mono ?_
  rintro e W1 ⟨v1, kv1, rfl, hf1, hb1⟩
  obtain ⟨A1, n1, c1, rfl, _⟩ := hf1.opens
  have F1 := Lib.hid hf1
  clear hf1
  go_wp2_with fail
  have g1 : Below W1.heap.size W1 (W1.alloc (.cells #[.int .i64 5, .int .i64 (-2)] 3)) := (Below.refl _ _).alloc (Nat.le_refl _) _
  refine (encode_ok _ _ (tinyF kv1) 1 ⟨⟨#[98]⟩, 9, kv1, [1, 3]⟩ _ [5, -2] _ ((F1.out.below g1).more g1.size) (kinds_lit W1 5 (-2)) (Nat.le_refl _) (tiny_fault kv1) rfl rfl ex_in).mono ?_
  rintro e W2 ⟨R2, rfl, hr2, hb2⟩
  dsimp only at hr2 ⊢
  rw [show sizeOf [1, 3] = 3 from rfl, ex_enc] at hr2
  rw [show sizeOf [1, 3] = 3 from rfl]
  have hby2 := bytes_of_row hr2 (by decide) (Nat.le_refl _)
  have hw2 : Below w.heap.size w W2 := hb1.trans ((g1.trans (hb2.mono g1.size)).mono hb1.size)
  have By2 := Lib.hid hby2
  clear hr2 hby2
  go_wp2_with fail
  refine (tiny_any _).mono ?_
  rintro e W3 ⟨v3, kv3, rfl, hf3, hb3⟩
  obtain ⟨A3, n3, c3, rfl, _⟩ := hf3.opens
  have F3 := Lib.hid hf3
  clear hf3
  go_wp2_with fail
  have g3 : Below W3.heap.size W3 (W3.alloc (.cells #[.int .u8 9, .int .u8 5, .int .u8 254] 5)) := (Below.refl _ _).alloc (Nat.le_refl _) _
  refine (decode_ok _ _ _ (tinyF kv3) exB 0 _ ((F3.out.below g3).more g3.size) (bytes_lit3 W3 9 5 254) (Nat.le_refl _) (tiny_fault kv3) (by decide) (by decide) 1 ⟨⟨#[98]⟩, 9, kv3, [1, 3]⟩ [5, -2] (ex_good kv3)).mono ?_
  rintro e W4 ⟨R4, rfl, hr4, hb4⟩
  dsimp only at hr4 ⊢
  rw [show sizeOf [1, 3] = 3 from rfl]
  have hki4 := kinds_of_row hr4 (by decide)
  have K4 := Lib.hid hki4
  clear hr4 hki4
  go_wp2_with fail
  have b4 : Below W2.heap.size W2 W4 := by
    have e1 : Below W2.heap.size W2 (W2.alloc (.cells #[.int .i64 0, .int .i64 0] 29)) := (Below.refl _ _).alloc (Nat.le_refl _) _
    exact (e1.trans (hb3.mono e1.size)).trans ((g3.trans (hb4.mono g3.size)).mono (Nat.le_trans e1.size hb3.size))
  have x4 : W2.heap.size < W4.heap.size := by have := hb3.size; have := hb4.size; have := g3.size; simp at *; omega
  have f4 : W4.cell? ⟨W2.heap.size, 0, none⟩ = some (.int .i64 0) := by
    have e1 : (W2.alloc (.cells #[.int .i64 0, .int .i64 0] 29)).cell? ⟨W2.heap.size, 0, none⟩ = some (.int .i64 0) := by simp
    have e2 := (hb3.cell (p := ⟨W2.heap.size, 0, none⟩) (block_lt_of_cell e1)).trans e1
    exact ((g3.trans (hb4.mono g3.size)).cell (p := ⟨W2.heap.size, 0, none⟩) (block_lt_of_cell e2)).trans e2
  obtain ⟨V, hV⟩ : ∃ V, V = (W4.alloc (.cells #[.int .i64 1, .slice (some ⟨R4, 0, none⟩) 2 2] 25)).alloc (.cells #[.int .i64 0, .int .i64 0] 29) := ⟨_, rfl⟩
  have hbV : Below W4.heap.size W4 V := by rw [hV]; exact ((Below.refl _ _).alloc (Nat.le_refl _) _).alloc (by simp) _
  have hex : ExAt W2.heap.size W4.heap.size (W4.heap.size + 1) R2 R4 V := by
    refine ⟨(hbV.cell (p := ⟨W2.heap.size, 0, none⟩) x4).trans f4, ?_, ?_, ?_, ((By2.out.below b4).more b4.size |>.below hbV).more hbV.size, (K4.out.below hbV).more hbV.size⟩
    · rw [hV]; exact cell_alloc_l _ (by simp)
    · rw [hV]; exact cell_alloc_l _ (by simp)
    · rw [hV]; simp
  have hwV : Below w.heap.size w V := (hw2.trans (b4.mono hw2.size)).trans (hbV.mono (Nat.le_trans hw2.size b4.size))
  have EX := Lib.hid hex
  clear hex hbV b4 f4 By2 K4 hb3 hb4 g3 hw2 g1 hb1 hb2
  rw [← hV]
  clear hV
  refine (tiny_any _).mono ?_
  rintro e W5 ⟨v5, kv5, rfl, hf5, hb5⟩
  obtain ⟨A5, n5, c5, rfl, _⟩ := hf5.opens
  have F5 := Lib.hid hf5
  clear hf5
  go_wp2_with fail
  have g5 : Below W5.heap.size W5 (W5.alloc (.cells #[.int .u8 7, .int .u8 9, .int .u8 5, .int .u8 254] 5)) := (Below.refl _ _).alloc (Nat.le_refl _) _
  have F6 := (F5.out.below g5).more g5.size
  have hq := bytes_lit4 W5 7 9 5 254
  refine (patch_ok _ _ _ (tinyF kv5) exP 1 3 0 1 (sizeOf [1, 3]) ⟨⟨#[98]⟩, 9, kv5, [1, 3]⟩ [5, -2] _ F6 hq (Nat.le_refl _) (tiny_fault kv5) rfl rfl (by show 0 < 2; decide) (by kernel_rfl) rfl (by decide) (fun W hW => decode_ok _ _ _ (tinyF kv5) exP 1 W (F6.below hW) (hq.below hW) hW.size (tiny_fault kv5) (by decide) (by decide) 1 ⟨⟨#[98]⟩, 9, kv5, [1, 3]⟩ [5, -2] (ex_good2 kv5))).mono ?_
  rintro e W7 ⟨gp, cp, rfl, hcp, hr7, hb7⟩
  dsimp only at hr7 ⊢
  rw [ex_patch] at hr7
  have hby7 := bytes_of_row hr7 (by decide) hcp
  have b7 : Below V.heap.size V W7 := (hb5.trans ((g5.trans (hb7.mono g5.size)).mono hb5.size))
  have hex7 := EX.out.below b7
  have hw7 := hwV.trans (b7.mono hwV.size)
  have EX7 := Lib.hid hex7
  have By7 := Lib.hid hby7
  clear hex7 hby7 EX hb5 g5 hb7 b7 hwV F5 F6 hq hr7
  obtain ⟨p0, p1, p2, p3, _, _⟩ := EX7.out
  have q0 := block_lt_of_cell p0
  have q1 := block_lt_of_cell p1
  have q3 := block_lt_of_cell p3
  have a9 : Below W7.heap.size W7 (W7.alloc (.cells #[.int .i64 0, .int .i64 0] 29)) := (Below.refl _ _).alloc (Nat.le_refl _) _
  have a10 : Below W7.heap.size W7 ((W7.alloc (.cells #[.int .i64 0, .int .i64 0] 29)).alloc (.cells #[.int .u8 9, .int .u8 5, .int .u8 254] 5)) := a9.alloc (by simp) _
  have a11 : Below W7.heap.size W7 (((W7.alloc (.cells #[.int .i64 0, .int .i64 0] 29)).alloc (.cells #[.int .u8 9, .int .u8 5, .int .u8 254] 5)).alloc (.cells #[.int .i64 5, .int .i64 (-2)] 3)) := a10.alloc (by simp; omega) _
  have B1 := Lib.hid (((EX7.out.below a10).2.2.2.2.1))
  have B2 := Lib.hid (((EX7.out.below a11).2.2.2.2.2))
  have A11 := Lib.hid a11
  have s9 : (W7.alloc (.cells #[.int .i64 0, .int .i64 0] 29)).heap.size = W7.heap.size + 1 := by simp
  have s10 : ((W7.alloc (.cells #[.int .i64 0, .int .i64 0] 29)).alloc (.cells #[.int .u8 9, .int .u8 5, .int .u8 254] 5)).heap.size = W7.heap.size + 1 + 1 := by simp
  have s11 : ∀ nd, ((((W7.alloc (.cells #[.int .i64 0, .int .i64 0] 29)).alloc (.cells #[.int .u8 9, .int .u8 5, .int .u8 254] 5)).alloc (.cells #[.int .i64 5, .int .i64 (-2)] 3)).drewN nd).heap.size = W7.heap.size + 1 + 1 + 1 := fun nd => by show (((W7.alloc (.cells #[.int .i64 0, .int .i64 0] 29)).alloc (.cells #[.int .u8 9, .int .u8 5, .int .u8 254] 5)).alloc (.cells #[.int .i64 5, .int .i64 (-2)] 3)).heap.size = _; simp
  have l1 := bytes_lit3 (W7.alloc (.cells #[.int .i64 0, .int .i64 0] 29)) 9 5 254
  rw [s9] at l1
  have l2 := kinds_lit ((W7.alloc (.cells #[.int .i64 0, .int .i64 0] 29)).alloc (.cells #[.int .u8 9, .int .u8 5, .int .u8 254] 5)) 5 (-2)
  rw [s10] at l2
  have l3 : ∀ nd, BytesAt (((((W7.alloc (.cells #[.int .i64 0, .int .i64 0] 29)).alloc (.cells #[.int .u8 9, .int .u8 5, .int .u8 254] 5)).alloc (.cells #[.int .i64 5, .int .i64 (-2)] 3)).drewN nd).alloc (.cells #[.int .u8 7, .int .u8 9, .int .u8 3, .int .u8 254] 5)).heap.size (((((W7.alloc (.cells #[.int .i64 0, .int .i64 0] 29)).alloc (.cells #[.int .u8 9, .int .u8 5, .int .u8 254] 5)).alloc (.cells #[.int .i64 5, .int .i64 (-2)] 3)).drewN nd).alloc (.cells #[.int .u8 7, .int .u8 9, .int .u8 3, .int .u8 254] 5)) (.slice (some ⟨W7.heap.size + 1 + 1 + 1, 0, none⟩) 4 4) [7, 9, 3, 254] := fun nd => by
    have l := bytes_lit4 ((((W7.alloc (.cells #[.int .i64 0, .int .i64 0] 29)).alloc (.cells #[.int .u8 9, .int .u8 5, .int .u8 254] 5)).alloc (.cells #[.int .i64 5, .int .i64 (-2)] 3)).drewN nd) 7 9 3 254
    rw [s11] at l
    exact l
  have a12 : ∀ nd, Below W7.heap.size W7 (((((W7.alloc (.cells #[.int .i64 0, .int .i64 0] 29)).alloc (.cells #[.int .u8 9, .int .u8 5, .int .u8 254] 5)).alloc (.cells #[.int .i64 5, .int .i64 (-2)] 3)).drewN nd).alloc (.cells #[.int .u8 7, .int .u8 9, .int .u8 3, .int .u8 254] 5)) := fun nd => (below_drewN a11 nd).alloc (by rw [s11]; omega) _
  have B3 := Lib.hid (fun nd => (By7.out.below (a12 nd)).more (a12 nd).size)
  have A12 := Lib.hid a12
  have L1 := Lib.hid l1
  have L2 := Lib.hid l2
  have L3 := Lib.hid l3
  clear a9 a10 a11 a12 s9 s10 s11 l1 l2 l3
  go_wp2_with first
    | (go_at_call 10; refine (bytes_any _ _ _ exB exB _ B1.out L1.out).mono ?_; rintro e W8 ⟨rfl, rfl⟩; rw [decide_eq_true rfl])
    | (go_at_call 23; refine (ints_any _ _ _ [5, -2] [5, -2] _ B2.out L2.out).mono ?_; rintro e W8 ⟨rfl, nd, rfl⟩; rw [decide_eq_true rfl])
    | (go_at_call 10; refine (bytes_any _ _ _ [7, 9, 3, 254] [7, 9, 3, 254] _ (B3.out _) (L3.out _)).mono ?_; rintro e W8 ⟨rfl, rfl⟩; rw [decide_eq_true rfl])
  refine bodyPost_ret (v := .bool true) (by simp [results, Try.results6, go_sem]) rfl ⟨rfl, ?_⟩
  exact hw7.trans ((A12.out _).mono hw7.size)
end Go.Proofs.Ytianmiipnlkihaa
