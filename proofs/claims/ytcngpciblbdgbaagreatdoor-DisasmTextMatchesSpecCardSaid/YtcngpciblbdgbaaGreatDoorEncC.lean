/- Contract of (field).put, kind by kind of width. Conditions: the bytes that it turns lie in a row of its caller's own. -/
import Derived.StillTailTactics
import Derived.Laws.OwnMore
import Derived.Maps.AppendAt
import Derived.Test.YtcngpciblbdgbaaGreatDoorEncA
namespace Go.Proofs.YtcngpciblbdgbaaGreatDoor
open Go Go.RowKit

/-- bytes as values -/
def bv (l : List UInt8) : List Value := l.map fun x => .int .u8 (x.toNat : Int)
theorem bv_set (l : List UInt8) (p : Nat) (b : UInt8) : (bv l).set p (.int .u8 (b.toNat : Int)) = bv (l.set p b) := by
  unfold bv
  rw [List.map_set]
theorem bv_length (l : List UInt8) : (bv l).length = l.length := by simp [bv]
theorem bv_at (l : List UInt8) (j : Nat) (h : j < l.length) : (bv l)[j]? = some (.int .u8 ((l[j]?.getD 0).toNat : Int)) := by
  simp [bv, h]
theorem bv_cell {w : World} {B R n c : Nat} {e : TypeId} {l : List UInt8} (h : w.ownsRow B e 1 (.slice (some ⟨R, 0, none⟩) n c) n (bv l)) (j : Nat) (hj : j < l.length) : w.cell? ⟨R, j, none⟩ = some (.int .u8 ((l[j]?.getD 0).toNat : Int)) := by
  have hl := h.1
  rw [bv_length] at hl
  rw [h.cellAt j (by omega), bv_at l j hj]
theorem orNum_length (l : List UInt8) (p : Nat) (a : Int) : ∀ v, (orNum l p a v).length = l.length
  | 0 => rfl
  | v + 1 => by
    unfold orNum
    rw [orAt_length, orNum_length l p a v]
theorem putOp_length (ks : List Int) (n : Nat) (a : Int) (l : List UInt8) : (putOp ks n a l).length = l.length := by
  unfold putOp
  split
  · exact orAt_length _ _ _
  · exact orNum_length _ _ _ _
theorem grown_none_drew (w : World) (row : Option Nat) : w.grownBy w.drew row := ⟨rfl, rfl, rfl, Nat.le_refl _, fun _ _ _ => rfl⟩
theorem or_byte (y b : UInt8) (z : Int) (h : (b.toNat : Int) = z % 256) : bits .or .u8 (y.toNat : Int) (IntKind.u8.wrap z) = ((y ||| b).toNat : Int) := by
  rw [IntKind.wrap_u8', ← h, u8_or_nat _ _ (u8_lt y) (u8_lt b), UInt8.toNat_or]
theorem byteOf_nat (a : Int) (j : Nat) : ((byteOf a j).toNat : Int) = a / 256 ^ j % 256 := by
  unfold byteOf
  rw [ofNat_toNat _ (by omega), Int.toNat_of_nonneg (by omega)]

set_option maxRecDepth 100000 in
set_option maxHeartbeats 800000 in
theorem put_reg0 (B R n p : Nat) (w : World) (a : Int) (l : List UInt8) (r : Nat) (hr : r % 2 = 0) (hi : Int) (hp : p < n) (ha : 0 ≤ a ∧ a < 16) (hpp : p ≤ 1000) (hln : l.length = n)
    (hrow : w.ownsRow B 5 1 (.slice (some ⟨R, 0, none⟩) n n) n (bv l)) :
    Calls Tryz.prog 51 #[.agg #[.int .i64 (p : Int), .int .i64 0, .int .i64 4, .int .i64 0, .int .i64 hi], .slice (some ⟨R, 0, none⟩) n n, .int .i64 a] w fun e w' => e = .returned (.tuple #[]) ∧ w'.ownsRow B 5 1 (.slice (some ⟨R, 0, none⟩) n n) n (bv (orAt l p (halfB r a))) ∧ w.grownBy w' (some R) := by
  have hR : R < w.heap.size := (hrow.lt R (by simp [Value.ownBlock])).2
  have Hrow := Lib.hid hrow
  have Hln := Lib.hid hln
  clear hrow hln
  go_enter Tryz.func51, Tryz.ntmps51
  go_wp2
  obtain ⟨W1, hW1⟩ : ∃ W1, W1 = (w.alloc (.cells #[.int .i64 (p : Int), .int .i64 0, .int .i64 4, .int .i64 0, .int .i64 hi] 103)) := ⟨_, rfl⟩
  have hg1 : w.grownBy W1 (some R) := by rw [hW1]; exact World.grownBy_alloc _ _ _
  have hrow1 : W1.ownsRow B 5 1 (.slice (some ⟨R, 0, none⟩) n n) n (bv l) := by rw [hW1]; exact Hrow.out.alloc _
  have e0 : W1.cell? ⟨w.heap.size, 0, none⟩ = some (.int .i64 (p : Int)) := by rw [hW1]; simp
  have e1 : W1.cell? ⟨w.heap.size, 1, none⟩ = some (.int .i64 0) := by rw [hW1]; simp
  have e2 : W1.cell? ⟨w.heap.size, 2, none⟩ = some (.int .i64 4) := by rw [hW1]; simp
  rw [← hW1]
  have E0 := Lib.hid e0
  have E1 := Lib.hid e1
  have E2 := Lib.hid e2
  have Hrow1 := Lib.hid hrow1
  clear hW1 e0 e1 e2 hrow1 Hrow
  go_loopw [6] (fun i wr => ∃ k : Nat, k ≤ 1 ∧ i = .int .i64 (k : Int) ∧ Hid (wr.ownsRow B 5 1 (.slice (some ⟨R, 0, none⟩) n n) n (bv (if k = 0 then l else orAt l p (halfB r a)))) ∧ W1.grownBy wr (some R)) (fun i _ => 1 - (intOf i).toNat)
  case atStart => exact ⟨0, by omega, rfl, Hrow1, World.grownBy.refl _ _⟩
  case round =>
    obtain ⟨k, hk, rfl, Hr, hg⟩ := hrel
    have c0 := hg.cell E0.out (by simp; omega)
    have c1 := hg.cell E1.out (by simp; omega)
    have c2 := hg.cell E2.out (by simp; omega)
    have hXs : w.heap.size < wr.heap.size := block_lt_of_cell c0
    rcases (show k = 0 ∨ k = 1 by omega) with rfl | rfl
    · obtain ⟨y, hy⟩ : ∃ y, y = (l)[p]?.getD 0 := ⟨_, rfl⟩
      have d0 : wr.cell? ⟨R, p, none⟩ = some (.int .u8 (y.toNat : Int)) := by rw [hy]; exact bv_cell Hr.out p (by rw [if_pos rfl, Hln.out]; omega)
      have d1 : wr.frozen? ⟨R, p, none⟩ = false := Hr.out.frozenAt p
      obtain ⟨z, hz⟩ : ∃ z, z = y ||| halfB r a := ⟨_, rfl⟩
      have hv : bits BinOp.or IntKind.u8 (y.toNat : Int) (IntKind.u8.wrap (a)) = (z.toNat : Int) := by rw [hz]; exact or_byte _ _ _ (by unfold halfB; rw [hr, Int.pow_zero, Int.mul_one, ofNat_toNat _ (by omega)]; omega)
      have hnx : orAt l p (halfB r a) = (l).set p z := by rw [hz, hy]; rfl
      have Hnx := Lib.hid hnx
      clear hy hz hnx
      go_wp2
      have hs : IntKind.i64.wrap (p : Int) = (p : Int) := IntWalk.i64_in _ (by omega)
      have hs2 : ((p : Int)).toNat = p := by omega
      have hs3 : (0 : Int) ≤ (p : Int) := by omega
      have hwa : IntKind.i64.wrap a = a := IntWalk.i64_in _ (by omega)
      have hw0 : IntKind.i64.wrap 0 = 0 := IntWalk.i64_in _ (by omega)
      have hlt : (p : Int) < (n : Int) := by omega
      go_still_tail 17, (by kernel_rfl)
      change wpList _ _ _ _ _ wr.drew
      have d0' : wr.drew.cell? ⟨R, p, none⟩ = some (.int .u8 (y.toNat : Int)) := d0
      have d1' : wr.drew.frozen? ⟨R, p, none⟩ = false := d1
      clear d0 d1 c0 c1 c2 hs hs2 hs3 hwa hw0 hlt hv
      go_wp2
      go_roundw
      case rel =>
        have hst := (Hr.out.drew).stored p (.int .u8 (z.toNat : Int))
        refine ⟨1, by omega, by go_num, Lib.hid ?_, (hg.trans (grown_none_drew wr (some R))).trans hst.2⟩
        rw [if_neg (by decide)]
        rw [Hnx.out, ← bv_set]
        exact hst.1
      case measure => simp [intOf]
    · go_wp2
      go_end0
      exact ⟨rfl, by have := Hr.out; rwa [if_neg (by decide)] at this, hg1.trans hg⟩
set_option maxRecDepth 100000 in
set_option maxHeartbeats 800000 in
theorem put_reg4 (B R n p : Nat) (w : World) (a : Int) (l : List UInt8) (r : Nat) (hr : r % 2 = 1) (hi : Int) (hp : p < n) (ha : 0 ≤ a ∧ a < 16) (hpp : p ≤ 1000) (hln : l.length = n)
    (hrow : w.ownsRow B 5 1 (.slice (some ⟨R, 0, none⟩) n n) n (bv l)) :
    Calls Tryz.prog 51 #[.agg #[.int .i64 (p : Int), .int .i64 4, .int .i64 4, .int .i64 0, .int .i64 hi], .slice (some ⟨R, 0, none⟩) n n, .int .i64 a] w fun e w' => e = .returned (.tuple #[]) ∧ w'.ownsRow B 5 1 (.slice (some ⟨R, 0, none⟩) n n) n (bv (orAt l p (halfB r a))) ∧ w.grownBy w' (some R) := by
  have hR : R < w.heap.size := (hrow.lt R (by simp [Value.ownBlock])).2
  have Hrow := Lib.hid hrow
  have Hln := Lib.hid hln
  clear hrow hln
  go_enter Tryz.func51, Tryz.ntmps51
  go_wp2
  obtain ⟨W1, hW1⟩ : ∃ W1, W1 = (w.alloc (.cells #[.int .i64 (p : Int), .int .i64 4, .int .i64 4, .int .i64 0, .int .i64 hi] 103)) := ⟨_, rfl⟩
  have hg1 : w.grownBy W1 (some R) := by rw [hW1]; exact World.grownBy_alloc _ _ _
  have hrow1 : W1.ownsRow B 5 1 (.slice (some ⟨R, 0, none⟩) n n) n (bv l) := by rw [hW1]; exact Hrow.out.alloc _
  have e0 : W1.cell? ⟨w.heap.size, 0, none⟩ = some (.int .i64 (p : Int)) := by rw [hW1]; simp
  have e1 : W1.cell? ⟨w.heap.size, 1, none⟩ = some (.int .i64 4) := by rw [hW1]; simp
  have e2 : W1.cell? ⟨w.heap.size, 2, none⟩ = some (.int .i64 4) := by rw [hW1]; simp
  rw [← hW1]
  have E0 := Lib.hid e0
  have E1 := Lib.hid e1
  have E2 := Lib.hid e2
  have Hrow1 := Lib.hid hrow1
  clear hW1 e0 e1 e2 hrow1 Hrow
  go_loopw [6] (fun i wr => ∃ k : Nat, k ≤ 1 ∧ i = .int .i64 (k : Int) ∧ Hid (wr.ownsRow B 5 1 (.slice (some ⟨R, 0, none⟩) n n) n (bv (if k = 0 then l else orAt l p (halfB r a)))) ∧ W1.grownBy wr (some R)) (fun i _ => 1 - (intOf i).toNat)
  case atStart => exact ⟨0, by omega, rfl, Hrow1, World.grownBy.refl _ _⟩
  case round =>
    obtain ⟨k, hk, rfl, Hr, hg⟩ := hrel
    have c0 := hg.cell E0.out (by simp; omega)
    have c1 := hg.cell E1.out (by simp; omega)
    have c2 := hg.cell E2.out (by simp; omega)
    have hXs : w.heap.size < wr.heap.size := block_lt_of_cell c0
    rcases (show k = 0 ∨ k = 1 by omega) with rfl | rfl
    · obtain ⟨y, hy⟩ : ∃ y, y = (l)[p]?.getD 0 := ⟨_, rfl⟩
      have d0 : wr.cell? ⟨R, p, none⟩ = some (.int .u8 (y.toNat : Int)) := by rw [hy]; exact bv_cell Hr.out p (by rw [if_pos rfl, Hln.out]; omega)
      have d1 : wr.frozen? ⟨R, p, none⟩ = false := Hr.out.frozenAt p
      obtain ⟨z, hz⟩ : ∃ z, z = y ||| halfB r a := ⟨_, rfl⟩
      have hv : bits BinOp.or IntKind.u8 (y.toNat : Int) (IntKind.u8.wrap (a * 16)) = (z.toNat : Int) := by rw [hz]; exact or_byte _ _ _ (by unfold halfB; rw [hr, Int.pow_one, ofNat_toNat _ (by omega)]; omega)
      have hnx : orAt l p (halfB r a) = (l).set p z := by rw [hz, hy]; rfl
      have Hnx := Lib.hid hnx
      clear hy hz hnx
      go_wp2
      have hs : IntKind.i64.wrap (p : Int) = (p : Int) := IntWalk.i64_in _ (by omega)
      have hs2 : ((p : Int)).toNat = p := by omega
      have hs3 : (0 : Int) ≤ (p : Int) := by omega
      have hwa : IntKind.i64.wrap (a * 16) = a * 16 := IntWalk.i64_in _ (by omega)
      have hw0 : IntKind.i64.wrap 0 = 0 := IntWalk.i64_in _ (by omega)
      have hlt : (p : Int) < (n : Int) := by omega
      go_still_tail 17, (by kernel_rfl)
      change wpList _ _ _ _ _ wr.drew
      have d0' : wr.drew.cell? ⟨R, p, none⟩ = some (.int .u8 (y.toNat : Int)) := d0
      have d1' : wr.drew.frozen? ⟨R, p, none⟩ = false := d1
      clear d0 d1 c0 c1 c2 hs hs2 hs3 hwa hw0 hlt hv
      go_wp2
      go_roundw
      case rel =>
        have hst := (Hr.out.drew).stored p (.int .u8 (z.toNat : Int))
        refine ⟨1, by omega, by go_num, Lib.hid ?_, (hg.trans (grown_none_drew wr (some R))).trans hst.2⟩
        rw [if_neg (by decide)]
        rw [Hnx.out, ← bv_set]
        exact hst.1
      case measure => simp [intOf]
    · go_wp2
      go_end0
      exact ⟨rfl, by have := Hr.out; rwa [if_neg (by decide)] at this, hg1.trans hg⟩
set_option maxRecDepth 100000 in
set_option maxHeartbeats 800000 in
theorem put_8 (B R n p : Nat) (w : World) (a : Int) (l : List UInt8) (hp : p + 1 ≤ n) (ha : -32768 ≤ a ∧ a ≤ 4294967295) (hpp : p ≤ 1000) (hln : l.length = n)
    (hrow : w.ownsRow B 5 1 (.slice (some ⟨R, 0, none⟩) n n) n (bv l)) :
    Calls Tryz.prog 51 #[.agg #[.int .i64 (p : Int), .int .i64 0, .int .i64 8, .int .i64 (-128), .int .i64 127], .slice (some ⟨R, 0, none⟩) n n, .int .i64 a] w fun e w' => e = .returned (.tuple #[]) ∧ w'.ownsRow B 5 1 (.slice (some ⟨R, 0, none⟩) n n) n (bv (orNum l p a 1)) ∧ w.grownBy w' (some R) := by
  have hR : R < w.heap.size := (hrow.lt R (by simp [Value.ownBlock])).2
  have Hrow := Lib.hid hrow
  have Hln := Lib.hid hln
  clear hrow hln
  go_enter Tryz.func51, Tryz.ntmps51
  go_wp2
  obtain ⟨W1, hW1⟩ : ∃ W1, W1 = (w.alloc (.cells #[.int .i64 (p : Int), .int .i64 0, .int .i64 8, .int .i64 (-128), .int .i64 127] 103)) := ⟨_, rfl⟩
  have hg1 : w.grownBy W1 (some R) := by rw [hW1]; exact World.grownBy_alloc _ _ _
  have hrow1 : W1.ownsRow B 5 1 (.slice (some ⟨R, 0, none⟩) n n) n (bv l) := by rw [hW1]; exact Hrow.out.alloc _
  have e0 : W1.cell? ⟨w.heap.size, 0, none⟩ = some (.int .i64 (p : Int)) := by rw [hW1]; simp
  have e1 : W1.cell? ⟨w.heap.size, 1, none⟩ = some (.int .i64 0) := by rw [hW1]; simp
  have e2 : W1.cell? ⟨w.heap.size, 2, none⟩ = some (.int .i64 8) := by rw [hW1]; simp
  rw [← hW1]
  have E0 := Lib.hid e0
  have E1 := Lib.hid e1
  have E2 := Lib.hid e2
  have Hrow1 := Lib.hid hrow1
  clear hW1 e0 e1 e2 hrow1 Hrow
  go_loopw [6] (fun i wr => ∃ k : Nat, k ≤ 1 ∧ i = .int .i64 (k : Int) ∧ Hid (wr.ownsRow B 5 1 (.slice (some ⟨R, 0, none⟩) n n) n (bv (orNum l p a k))) ∧ W1.grownBy wr (some R)) (fun i _ => 1 - (intOf i).toNat)
  case atStart => exact ⟨0, by omega, rfl, Hrow1, World.grownBy.refl _ _⟩
  case round =>
    obtain ⟨k, hk, rfl, Hr, hg⟩ := hrel
    have c0 := hg.cell E0.out (by simp; omega)
    have c1 := hg.cell E1.out (by simp; omega)
    have c2 := hg.cell E2.out (by simp; omega)
    have hXs : w.heap.size < wr.heap.size := block_lt_of_cell c0
    rcases (show k = 0 ∨ k = 1 by omega) with rfl | rfl
    · obtain ⟨y, hy⟩ : ∃ y, y = (orNum l p a 0)[p]?.getD 0 := ⟨_, rfl⟩
      have d0 : wr.cell? ⟨R, p, none⟩ = some (.int .u8 (y.toNat : Int)) := by rw [hy]; exact bv_cell Hr.out p (by rw [orNum_length, Hln.out]; omega)
      have d1 : wr.frozen? ⟨R, p, none⟩ = false := Hr.out.frozenAt p
      obtain ⟨z, hz⟩ : ∃ z, z = y ||| byteOf a 0 := ⟨_, rfl⟩
      have hv : bits BinOp.or IntKind.u8 (y.toNat : Int) (IntKind.u8.wrap (a)) = (z.toNat : Int) := by rw [hz]; exact or_byte _ _ _ (by rw [byteOf_nat]; simp)
      have hnx : orNum l p a 1 = (orNum l p a 0).set p z := by rw [hz, hy]; rfl
      have Hnx := Lib.hid hnx
      clear hy hz hnx
      go_wp2
      have hs : IntKind.i64.wrap (p : Int) = (p : Int) := IntWalk.i64_in _ (by omega)
      have hs2 : ((p : Int)).toNat = p := by omega
      have hs3 : (0 : Int) ≤ (p : Int) := by omega
      have hwa : IntKind.i64.wrap a = a := IntWalk.i64_in _ (by omega)
      have hw0 : IntKind.i64.wrap 0 = 0 := IntWalk.i64_in _ (by omega)
      have hlt : (p : Int) < (n : Int) := by omega
      go_still_tail 17, (by kernel_rfl)
      change wpList _ _ _ _ _ wr.drew
      have d0' : wr.drew.cell? ⟨R, p, none⟩ = some (.int .u8 (y.toNat : Int)) := d0
      have d1' : wr.drew.frozen? ⟨R, p, none⟩ = false := d1
      clear d0 d1 c0 c1 c2 hs hs2 hs3 hwa hw0 hlt hv
      go_wp2
      go_roundw
      case rel =>
        have hst := (Hr.out.drew).stored p (.int .u8 (z.toNat : Int))
        refine ⟨1, by omega, by go_num, Lib.hid ?_, (hg.trans (grown_none_drew wr (some R))).trans hst.2⟩
        skip
        rw [Hnx.out, ← bv_set]
        exact hst.1
      case measure => simp [intOf]
    · go_wp2
      go_end0
      exact ⟨rfl, by exact Hr.out, hg1.trans hg⟩
set_option maxRecDepth 100000 in
set_option maxHeartbeats 800000 in
theorem put_16 (B R n p : Nat) (w : World) (a : Int) (l : List UInt8) (hp : p + 2 ≤ n) (ha : -32768 ≤ a ∧ a ≤ 4294967295) (hpp : p ≤ 1000) (hln : l.length = n)
    (hrow : w.ownsRow B 5 1 (.slice (some ⟨R, 0, none⟩) n n) n (bv l)) :
    Calls Tryz.prog 51 #[.agg #[.int .i64 (p : Int), .int .i64 0, .int .i64 16, .int .i64 (-32768), .int .i64 32767], .slice (some ⟨R, 0, none⟩) n n, .int .i64 a] w fun e w' => e = .returned (.tuple #[]) ∧ w'.ownsRow B 5 1 (.slice (some ⟨R, 0, none⟩) n n) n (bv (orNum l p a 2)) ∧ w.grownBy w' (some R) := by
  have hR : R < w.heap.size := (hrow.lt R (by simp [Value.ownBlock])).2
  have Hrow := Lib.hid hrow
  have Hln := Lib.hid hln
  clear hrow hln
  go_enter Tryz.func51, Tryz.ntmps51
  go_wp2
  obtain ⟨W1, hW1⟩ : ∃ W1, W1 = (w.alloc (.cells #[.int .i64 (p : Int), .int .i64 0, .int .i64 16, .int .i64 (-32768), .int .i64 32767] 103)) := ⟨_, rfl⟩
  have hg1 : w.grownBy W1 (some R) := by rw [hW1]; exact World.grownBy_alloc _ _ _
  have hrow1 : W1.ownsRow B 5 1 (.slice (some ⟨R, 0, none⟩) n n) n (bv l) := by rw [hW1]; exact Hrow.out.alloc _
  have e0 : W1.cell? ⟨w.heap.size, 0, none⟩ = some (.int .i64 (p : Int)) := by rw [hW1]; simp
  have e1 : W1.cell? ⟨w.heap.size, 1, none⟩ = some (.int .i64 0) := by rw [hW1]; simp
  have e2 : W1.cell? ⟨w.heap.size, 2, none⟩ = some (.int .i64 16) := by rw [hW1]; simp
  rw [← hW1]
  have E0 := Lib.hid e0
  have E1 := Lib.hid e1
  have E2 := Lib.hid e2
  have Hrow1 := Lib.hid hrow1
  clear hW1 e0 e1 e2 hrow1 Hrow
  go_loopw [6] (fun i wr => ∃ k : Nat, k ≤ 2 ∧ i = .int .i64 (k : Int) ∧ Hid (wr.ownsRow B 5 1 (.slice (some ⟨R, 0, none⟩) n n) n (bv (orNum l p a k))) ∧ W1.grownBy wr (some R)) (fun i _ => 2 - (intOf i).toNat)
  case atStart => exact ⟨0, by omega, rfl, Hrow1, World.grownBy.refl _ _⟩
  case round =>
    obtain ⟨k, hk, rfl, Hr, hg⟩ := hrel
    have c0 := hg.cell E0.out (by simp; omega)
    have c1 := hg.cell E1.out (by simp; omega)
    have c2 := hg.cell E2.out (by simp; omega)
    have hXs : w.heap.size < wr.heap.size := block_lt_of_cell c0
    rcases (show k = 0 ∨ k = 1 ∨ k = 2 by omega) with rfl | rfl | rfl
    · obtain ⟨y, hy⟩ : ∃ y, y = (orNum l p a 0)[p]?.getD 0 := ⟨_, rfl⟩
      have d0 : wr.cell? ⟨R, p, none⟩ = some (.int .u8 (y.toNat : Int)) := by rw [hy]; exact bv_cell Hr.out p (by rw [orNum_length, Hln.out]; omega)
      have d1 : wr.frozen? ⟨R, p, none⟩ = false := Hr.out.frozenAt p
      obtain ⟨z, hz⟩ : ∃ z, z = y ||| byteOf a 0 := ⟨_, rfl⟩
      have hv : bits BinOp.or IntKind.u8 (y.toNat : Int) (IntKind.u8.wrap (a)) = (z.toNat : Int) := by rw [hz]; exact or_byte _ _ _ (by rw [byteOf_nat]; simp)
      have hnx : orNum l p a 1 = (orNum l p a 0).set p z := by rw [hz, hy]; rfl
      have Hnx := Lib.hid hnx
      clear hy hz hnx
      go_wp2
      have hs : IntKind.i64.wrap (p : Int) = (p : Int) := IntWalk.i64_in _ (by omega)
      have hs2 : ((p : Int)).toNat = p := by omega
      have hs3 : (0 : Int) ≤ (p : Int) := by omega
      have hwa : IntKind.i64.wrap a = a := IntWalk.i64_in _ (by omega)
      have hw0 : IntKind.i64.wrap 0 = 0 := IntWalk.i64_in _ (by omega)
      have hlt : (p : Int) < (n : Int) := by omega
      go_still_tail 17, (by kernel_rfl)
      change wpList _ _ _ _ _ wr.drew
      have d0' : wr.drew.cell? ⟨R, p, none⟩ = some (.int .u8 (y.toNat : Int)) := d0
      have d1' : wr.drew.frozen? ⟨R, p, none⟩ = false := d1
      clear d0 d1 c0 c1 c2 hs hs2 hs3 hwa hw0 hlt hv
      go_wp2
      go_roundw
      case rel =>
        have hst := (Hr.out.drew).stored p (.int .u8 (z.toNat : Int))
        refine ⟨1, by omega, by go_num, Lib.hid ?_, (hg.trans (grown_none_drew wr (some R))).trans hst.2⟩
        skip
        rw [Hnx.out, ← bv_set]
        exact hst.1
      case measure => simp [intOf]
    · obtain ⟨y, hy⟩ : ∃ y, y = (orNum l p a 1)[(p + 1)]?.getD 0 := ⟨_, rfl⟩
      have d0 : wr.cell? ⟨R, (p + 1), none⟩ = some (.int .u8 (y.toNat : Int)) := by rw [hy]; exact bv_cell Hr.out (p + 1) (by rw [orNum_length, Hln.out]; omega)
      have d1 : wr.frozen? ⟨R, (p + 1), none⟩ = false := Hr.out.frozenAt (p + 1)
      obtain ⟨z, hz⟩ : ∃ z, z = y ||| byteOf a 1 := ⟨_, rfl⟩
      have hv : bits BinOp.or IntKind.u8 (y.toNat : Int) (IntKind.u8.wrap (a / 256)) = (z.toNat : Int) := by rw [hz]; exact or_byte _ _ _ (by rw [byteOf_nat]; simp)
      have hnx : orNum l p a 2 = (orNum l p a 1).set (p + 1) z := by rw [hz, hy]; rfl
      have Hnx := Lib.hid hnx
      clear hy hz hnx
      go_wp2
      have hs : IntKind.i64.wrap ((p : Int) + 1) = ((p : Int) + 1) := IntWalk.i64_in _ (by omega)
      have hs2 : (((p : Int) + 1)).toNat = (p + 1) := by omega
      have hs3 : (0 : Int) ≤ ((p : Int) + 1) := by omega
      have hwa : IntKind.i64.wrap a = a := IntWalk.i64_in _ (by omega)
      have hw0 : IntKind.i64.wrap 8 = 8 := IntWalk.i64_in _ (by omega)
      have hlt : ((p : Int) + 1) < (n : Int) := by omega
      go_still_tail 17, (by kernel_rfl)
      change wpList _ _ _ _ _ wr.drew
      have d0' : wr.drew.cell? ⟨R, (p + 1), none⟩ = some (.int .u8 (y.toNat : Int)) := d0
      have d1' : wr.drew.frozen? ⟨R, (p + 1), none⟩ = false := d1
      clear d0 d1 c0 c1 c2 hs hs2 hs3 hwa hw0 hlt hv
      go_wp2
      go_roundw
      case rel =>
        have hst := (Hr.out.drew).stored (p + 1) (.int .u8 (z.toNat : Int))
        refine ⟨2, by omega, by go_num, Lib.hid ?_, (hg.trans (grown_none_drew wr (some R))).trans hst.2⟩
        skip
        rw [Hnx.out, ← bv_set]
        exact hst.1
      case measure => simp [intOf]
    · go_wp2
      go_end0
      exact ⟨rfl, by exact Hr.out, hg1.trans hg⟩
set_option maxRecDepth 100000 in
set_option maxHeartbeats 800000 in
theorem put_32 (B R n p : Nat) (w : World) (a : Int) (l : List UInt8) (hp : p + 4 ≤ n) (ha : -32768 ≤ a ∧ a ≤ 4294967295) (hpp : p ≤ 1000) (hln : l.length = n)
    (hrow : w.ownsRow B 5 1 (.slice (some ⟨R, 0, none⟩) n n) n (bv l)) :
    Calls Tryz.prog 51 #[.agg #[.int .i64 (p : Int), .int .i64 0, .int .i64 32, .int .i64 0, .int .i64 4294967295], .slice (some ⟨R, 0, none⟩) n n, .int .i64 a] w fun e w' => e = .returned (.tuple #[]) ∧ w'.ownsRow B 5 1 (.slice (some ⟨R, 0, none⟩) n n) n (bv (orNum l p a 4)) ∧ w.grownBy w' (some R) := by
  have hR : R < w.heap.size := (hrow.lt R (by simp [Value.ownBlock])).2
  have Hrow := Lib.hid hrow
  have Hln := Lib.hid hln
  clear hrow hln
  go_enter Tryz.func51, Tryz.ntmps51
  go_wp2
  obtain ⟨W1, hW1⟩ : ∃ W1, W1 = (w.alloc (.cells #[.int .i64 (p : Int), .int .i64 0, .int .i64 32, .int .i64 0, .int .i64 4294967295] 103)) := ⟨_, rfl⟩
  have hg1 : w.grownBy W1 (some R) := by rw [hW1]; exact World.grownBy_alloc _ _ _
  have hrow1 : W1.ownsRow B 5 1 (.slice (some ⟨R, 0, none⟩) n n) n (bv l) := by rw [hW1]; exact Hrow.out.alloc _
  have e0 : W1.cell? ⟨w.heap.size, 0, none⟩ = some (.int .i64 (p : Int)) := by rw [hW1]; simp
  have e1 : W1.cell? ⟨w.heap.size, 1, none⟩ = some (.int .i64 0) := by rw [hW1]; simp
  have e2 : W1.cell? ⟨w.heap.size, 2, none⟩ = some (.int .i64 32) := by rw [hW1]; simp
  rw [← hW1]
  have E0 := Lib.hid e0
  have E1 := Lib.hid e1
  have E2 := Lib.hid e2
  have Hrow1 := Lib.hid hrow1
  clear hW1 e0 e1 e2 hrow1 Hrow
  go_loopw [6] (fun i wr => ∃ k : Nat, k ≤ 4 ∧ i = .int .i64 (k : Int) ∧ Hid (wr.ownsRow B 5 1 (.slice (some ⟨R, 0, none⟩) n n) n (bv (orNum l p a k))) ∧ W1.grownBy wr (some R)) (fun i _ => 4 - (intOf i).toNat)
  case atStart => exact ⟨0, by omega, rfl, Hrow1, World.grownBy.refl _ _⟩
  case round =>
    obtain ⟨k, hk, rfl, Hr, hg⟩ := hrel
    have c0 := hg.cell E0.out (by simp; omega)
    have c1 := hg.cell E1.out (by simp; omega)
    have c2 := hg.cell E2.out (by simp; omega)
    have hXs : w.heap.size < wr.heap.size := block_lt_of_cell c0
    rcases (show k = 0 ∨ k = 1 ∨ k = 2 ∨ k = 3 ∨ k = 4 by omega) with rfl | rfl | rfl | rfl | rfl
    · obtain ⟨y, hy⟩ : ∃ y, y = (orNum l p a 0)[p]?.getD 0 := ⟨_, rfl⟩
      have d0 : wr.cell? ⟨R, p, none⟩ = some (.int .u8 (y.toNat : Int)) := by rw [hy]; exact bv_cell Hr.out p (by rw [orNum_length, Hln.out]; omega)
      have d1 : wr.frozen? ⟨R, p, none⟩ = false := Hr.out.frozenAt p
      obtain ⟨z, hz⟩ : ∃ z, z = y ||| byteOf a 0 := ⟨_, rfl⟩
      have hv : bits BinOp.or IntKind.u8 (y.toNat : Int) (IntKind.u8.wrap (a)) = (z.toNat : Int) := by rw [hz]; exact or_byte _ _ _ (by rw [byteOf_nat]; simp)
      have hnx : orNum l p a 1 = (orNum l p a 0).set p z := by rw [hz, hy]; rfl
      have Hnx := Lib.hid hnx
      clear hy hz hnx
      go_wp2
      have hs : IntKind.i64.wrap (p : Int) = (p : Int) := IntWalk.i64_in _ (by omega)
      have hs2 : ((p : Int)).toNat = p := by omega
      have hs3 : (0 : Int) ≤ (p : Int) := by omega
      have hwa : IntKind.i64.wrap a = a := IntWalk.i64_in _ (by omega)
      have hw0 : IntKind.i64.wrap 0 = 0 := IntWalk.i64_in _ (by omega)
      have hlt : (p : Int) < (n : Int) := by omega
      go_still_tail 17, (by kernel_rfl)
      change wpList _ _ _ _ _ wr.drew
      have d0' : wr.drew.cell? ⟨R, p, none⟩ = some (.int .u8 (y.toNat : Int)) := d0
      have d1' : wr.drew.frozen? ⟨R, p, none⟩ = false := d1
      clear d0 d1 c0 c1 c2 hs hs2 hs3 hwa hw0 hlt hv
      go_wp2
      go_roundw
      case rel =>
        have hst := (Hr.out.drew).stored p (.int .u8 (z.toNat : Int))
        refine ⟨1, by omega, by go_num, Lib.hid ?_, (hg.trans (grown_none_drew wr (some R))).trans hst.2⟩
        skip
        rw [Hnx.out, ← bv_set]
        exact hst.1
      case measure => simp [intOf]
    · obtain ⟨y, hy⟩ : ∃ y, y = (orNum l p a 1)[(p + 1)]?.getD 0 := ⟨_, rfl⟩
      have d0 : wr.cell? ⟨R, (p + 1), none⟩ = some (.int .u8 (y.toNat : Int)) := by rw [hy]; exact bv_cell Hr.out (p + 1) (by rw [orNum_length, Hln.out]; omega)
      have d1 : wr.frozen? ⟨R, (p + 1), none⟩ = false := Hr.out.frozenAt (p + 1)
      obtain ⟨z, hz⟩ : ∃ z, z = y ||| byteOf a 1 := ⟨_, rfl⟩
      have hv : bits BinOp.or IntKind.u8 (y.toNat : Int) (IntKind.u8.wrap (a / 256)) = (z.toNat : Int) := by rw [hz]; exact or_byte _ _ _ (by rw [byteOf_nat]; simp)
      have hnx : orNum l p a 2 = (orNum l p a 1).set (p + 1) z := by rw [hz, hy]; rfl
      have Hnx := Lib.hid hnx
      clear hy hz hnx
      go_wp2
      have hs : IntKind.i64.wrap ((p : Int) + 1) = ((p : Int) + 1) := IntWalk.i64_in _ (by omega)
      have hs2 : (((p : Int) + 1)).toNat = (p + 1) := by omega
      have hs3 : (0 : Int) ≤ ((p : Int) + 1) := by omega
      have hwa : IntKind.i64.wrap a = a := IntWalk.i64_in _ (by omega)
      have hw0 : IntKind.i64.wrap 8 = 8 := IntWalk.i64_in _ (by omega)
      have hlt : ((p : Int) + 1) < (n : Int) := by omega
      go_still_tail 17, (by kernel_rfl)
      change wpList _ _ _ _ _ wr.drew
      have d0' : wr.drew.cell? ⟨R, (p + 1), none⟩ = some (.int .u8 (y.toNat : Int)) := d0
      have d1' : wr.drew.frozen? ⟨R, (p + 1), none⟩ = false := d1
      clear d0 d1 c0 c1 c2 hs hs2 hs3 hwa hw0 hlt hv
      go_wp2
      go_roundw
      case rel =>
        have hst := (Hr.out.drew).stored (p + 1) (.int .u8 (z.toNat : Int))
        refine ⟨2, by omega, by go_num, Lib.hid ?_, (hg.trans (grown_none_drew wr (some R))).trans hst.2⟩
        skip
        rw [Hnx.out, ← bv_set]
        exact hst.1
      case measure => simp [intOf]
    · obtain ⟨y, hy⟩ : ∃ y, y = (orNum l p a 2)[(p + 2)]?.getD 0 := ⟨_, rfl⟩
      have d0 : wr.cell? ⟨R, (p + 2), none⟩ = some (.int .u8 (y.toNat : Int)) := by rw [hy]; exact bv_cell Hr.out (p + 2) (by rw [orNum_length, Hln.out]; omega)
      have d1 : wr.frozen? ⟨R, (p + 2), none⟩ = false := Hr.out.frozenAt (p + 2)
      obtain ⟨z, hz⟩ : ∃ z, z = y ||| byteOf a 2 := ⟨_, rfl⟩
      have hv : bits BinOp.or IntKind.u8 (y.toNat : Int) (IntKind.u8.wrap (a / 65536)) = (z.toNat : Int) := by rw [hz]; exact or_byte _ _ _ (by rw [byteOf_nat]; simp)
      have hnx : orNum l p a 3 = (orNum l p a 2).set (p + 2) z := by rw [hz, hy]; rfl
      have Hnx := Lib.hid hnx
      clear hy hz hnx
      go_wp2
      have hs : IntKind.i64.wrap ((p : Int) + 2) = ((p : Int) + 2) := IntWalk.i64_in _ (by omega)
      have hs2 : (((p : Int) + 2)).toNat = (p + 2) := by omega
      have hs3 : (0 : Int) ≤ ((p : Int) + 2) := by omega
      have hwa : IntKind.i64.wrap a = a := IntWalk.i64_in _ (by omega)
      have hw0 : IntKind.i64.wrap 16 = 16 := IntWalk.i64_in _ (by omega)
      have hlt : ((p : Int) + 2) < (n : Int) := by omega
      go_still_tail 17, (by kernel_rfl)
      change wpList _ _ _ _ _ wr.drew
      have d0' : wr.drew.cell? ⟨R, (p + 2), none⟩ = some (.int .u8 (y.toNat : Int)) := d0
      have d1' : wr.drew.frozen? ⟨R, (p + 2), none⟩ = false := d1
      clear d0 d1 c0 c1 c2 hs hs2 hs3 hwa hw0 hlt hv
      go_wp2
      go_roundw
      case rel =>
        have hst := (Hr.out.drew).stored (p + 2) (.int .u8 (z.toNat : Int))
        refine ⟨3, by omega, by go_num, Lib.hid ?_, (hg.trans (grown_none_drew wr (some R))).trans hst.2⟩
        skip
        rw [Hnx.out, ← bv_set]
        exact hst.1
      case measure => simp [intOf]
    · obtain ⟨y, hy⟩ : ∃ y, y = (orNum l p a 3)[(p + 3)]?.getD 0 := ⟨_, rfl⟩
      have d0 : wr.cell? ⟨R, (p + 3), none⟩ = some (.int .u8 (y.toNat : Int)) := by rw [hy]; exact bv_cell Hr.out (p + 3) (by rw [orNum_length, Hln.out]; omega)
      have d1 : wr.frozen? ⟨R, (p + 3), none⟩ = false := Hr.out.frozenAt (p + 3)
      obtain ⟨z, hz⟩ : ∃ z, z = y ||| byteOf a 3 := ⟨_, rfl⟩
      have hv : bits BinOp.or IntKind.u8 (y.toNat : Int) (IntKind.u8.wrap (a / 16777216)) = (z.toNat : Int) := by rw [hz]; exact or_byte _ _ _ (by rw [byteOf_nat]; simp)
      have hnx : orNum l p a 4 = (orNum l p a 3).set (p + 3) z := by rw [hz, hy]; rfl
      have Hnx := Lib.hid hnx
      clear hy hz hnx
      go_wp2
      have hs : IntKind.i64.wrap ((p : Int) + 3) = ((p : Int) + 3) := IntWalk.i64_in _ (by omega)
      have hs2 : (((p : Int) + 3)).toNat = (p + 3) := by omega
      have hs3 : (0 : Int) ≤ ((p : Int) + 3) := by omega
      have hwa : IntKind.i64.wrap a = a := IntWalk.i64_in _ (by omega)
      have hw0 : IntKind.i64.wrap 24 = 24 := IntWalk.i64_in _ (by omega)
      have hlt : ((p : Int) + 3) < (n : Int) := by omega
      go_still_tail 17, (by kernel_rfl)
      change wpList _ _ _ _ _ wr.drew
      have d0' : wr.drew.cell? ⟨R, (p + 3), none⟩ = some (.int .u8 (y.toNat : Int)) := d0
      have d1' : wr.drew.frozen? ⟨R, (p + 3), none⟩ = false := d1
      clear d0 d1 c0 c1 c2 hs hs2 hs3 hwa hw0 hlt hv
      go_wp2
      go_roundw
      case rel =>
        have hst := (Hr.out.drew).stored (p + 3) (.int .u8 (z.toNat : Int))
        refine ⟨4, by omega, by go_num, Lib.hid ?_, (hg.trans (grown_none_drew wr (some R))).trans hst.2⟩
        skip
        rw [Hnx.out, ← bv_set]
        exact hst.1
      case measure => simp [intOf]
    · go_wp2
      go_end0
      exact ⟨rfl, by exact Hr.out, hg1.trans hg⟩
end Go.Proofs.YtcngpciblbdgbaaGreatDoor
