/- The examples of the document on encoding hold. No condition. -/
import Derived.Test.YtcngpciblbdgbaaGreatDoorIsaL
import Derived.Test.YtcngpciblbdgbaaGreatDoorEncM
namespace Go.Proofs.YtcngpciblbdgbaaGreatDoor
open Go Go.RowKit Go.Shelf

def exB : List UInt8 := [9, 5, 254]
def exP : List UInt8 := [7, 9, 5, 254]
theorem ex_enc : encL 9 ([1, 3].zip [5, -2]) = exB := by kernel_rfl
theorem ex_in : outIdx [1, 3] [5, -2] = -1 := by kernel_rfl
theorem ex_good (kv : Value) : GoodAt (tinyF kv) exB 1 ⟨⟨#[98]⟩, 9, kv, [1, 3]⟩ [5, -2] := by
  refine ⟨?_, rfl, ?_, ?_, ex_in, ?_⟩
  · show idxOf (codeB exB) (tinyF (.slice none 0 0)) = 1
    kernel_rfl
  · show sizeOf [1, 3] ≤ exB.length
    decide
  · show [5, -2] = getL [1, 3] exB
    kernel_rfl
  · show exB.take (sizeOf [1, 3]) = encL 9 ([1, 3].zip [5, -2])
    kernel_rfl
theorem ex_good2 (kv : Value) : GoodAt (tinyF kv) (exP.drop 1) 1 ⟨⟨#[98]⟩, 9, kv, [1, 3]⟩ [5, -2] := ex_good kv
theorem ex_patch : exP.take 1 ++ encL 9 ([1, 3].zip ([5, -2].set 0 3)) ++ exP.drop (1 + sizeOf [1, 3]) = [7, 9, 3, 254] := by kernel_rfl
theorem kinds_lit (w : World) (a b : Int) : KindsAt (w.alloc (.cells #[.int .i64 a, .int .i64 b] 3)).heap.size (w.alloc (.cells #[.int .i64 a, .int .i64 b] 3)) (.slice (some ⟨w.heap.size, 0, none⟩) 2 2) [a, b] :=
  ⟨_, 2, rfl, by simp, fun _ => ⟨_, 0, rfl, by simp, fun j hj => by
    match j, hj with
    | 0, _ => simp
    | 1, _ => simp
    | j + 2, hj => simp at hj; omega⟩⟩
theorem bytes_lit3 (w : World) (a b c : UInt8) : BytesAt (w.alloc (.cells #[.int .u8 (a.toNat : Int), .int .u8 (b.toNat : Int), .int .u8 (c.toNat : Int)] 5)).heap.size (w.alloc (.cells #[.int .u8 (a.toNat : Int), .int .u8 (b.toNat : Int), .int .u8 (c.toNat : Int)] 5)) (.slice (some ⟨w.heap.size, 0, none⟩) 3 3) [a, b, c] :=
  ⟨_, 3, rfl, by simp, fun _ => ⟨_, 0, rfl, by simp, fun j hj => by
    match j, hj with
    | 0, _ => simp
    | 1, _ => simp
    | 2, _ => simp
    | j + 3, hj => simp at hj; omega⟩⟩
theorem bytes_lit4 (w : World) (a b c d : UInt8) : BytesAt (w.alloc (.cells #[.int .u8 (a.toNat : Int), .int .u8 (b.toNat : Int), .int .u8 (c.toNat : Int), .int .u8 (d.toNat : Int)] 5)).heap.size (w.alloc (.cells #[.int .u8 (a.toNat : Int), .int .u8 (b.toNat : Int), .int .u8 (c.toNat : Int), .int .u8 (d.toNat : Int)] 5)) (.slice (some ⟨w.heap.size, 0, none⟩) 4 4) [a, b, c, d] :=
  ⟨_, 4, rfl, by simp, fun _ => ⟨_, 0, rfl, by simp, fun j hj => by
    match j, hj with
    | 0, _ => simp
    | 1, _ => simp
    | 2, _ => simp
    | 3, _ => simp
    | j + 4, hj => simp at hj; omega⟩⟩

/-- what the end of the example reads -/
def ExAt (x2 x4 x5 R2 R4 : Nat) (V : World) : Prop :=
  V.cell? ⟨x2, 0, none⟩ = some (.int .i64 0) ∧ V.cell? ⟨x4, 0, none⟩ = some (.int .i64 1) ∧ V.cell? ⟨x4, 1, none⟩ = some (.slice (some ⟨R4, 0, none⟩) 2 2) ∧ V.cell? ⟨x5, 0, none⟩ = some (.int .i64 0) ∧
    BytesAt V.heap.size V (.slice (some ⟨R2, 0, none⟩) 3 3) exB ∧ KindsAt V.heap.size V (.slice (some ⟨R4, 0, none⟩) 2 2) [5, -2]
theorem ExAt.below {x2 x4 x5 R2 R4 : Nat} {V V' : World} (h : ExAt x2 x4 x5 R2 R4 V) (hb : Below V.heap.size V V') : ExAt x2 x4 x5 R2 R4 V' := by
  obtain ⟨a, b, c, d, e, f⟩ := h
  exact ⟨(hb.cell (p := ⟨x2, 0, none⟩) (block_lt_of_cell a)).trans a, (hb.cell (p := ⟨x4, 0, none⟩) (block_lt_of_cell b)).trans b, (hb.cell (p := ⟨x4, 1, none⟩) (block_lt_of_cell c)).trans c, (hb.cell (p := ⟨x5, 0, none⟩) (block_lt_of_cell d)).trans d, (e.below hb).more hb.size, (f.below hb).more hb.size⟩

end Go.Proofs.YtcngpciblbdgbaaGreatDoor
