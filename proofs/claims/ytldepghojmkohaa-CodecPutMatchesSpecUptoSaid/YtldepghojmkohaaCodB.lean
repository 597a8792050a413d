/- What a row of bytes and the writer read as in memory; numbers without sign; one number written. Conditions: the numbers are of 64 bits; the writer's bytes stay within the reach. -/
import Derived.WalkKit
import Derived.WalkSpells
import Derived.WalkLawsBesides
import Derived.Lib.Hide
import Derived.Deep.QuietTactic
import Derived.BigQuiet
import Derived.OneCell
import Derived.IntWalk
import Derived.Laws.BitsAllLaws
import Derived.Maps.AppendAt
import Derived.Lib.AppendStr
import Derived.Test.YtldepghojmkohaaChecked
import Derived.Test.YtldepghojmkohaaCodA
namespace Go.Proofs.Ytldepghojmkohaa.Cod
open Go Go.RowKit

theorem infoInt : (Try.prog.info? 3).map (fun i => (i.zero, i.size, i.bytes)) = some (some (.int .i64 0), 1, 8) := by kernel_rfl
theorem infoByte : (Try.prog.info? 5).map (fun i => (i.zero, i.size, i.bytes)) = some (some (.int .u8 0), 1, 1) := by kernel_rfl
/-- bytes as cells -/
def bv (l : List UInt8) : List Value := l.map fun x => .int .u8 (x.toNat : Int)
theorem bv_length (l : List UInt8) : (bv l).length = l.length := by simp [bv]
theorem bv_app (a b : List UInt8) : bv (a ++ b) = bv a ++ bv b := by simp [bv]
theorem bv_one (l : List UInt8) : ∀ u ∈ bv l, u.oneCell' = true := by
  intro u hu
  simp only [bv, List.mem_map] at hu
  obtain ⟨x, -, rfl⟩ := hu
  rfl
theorem cell_alloc_l {W : World} {p : Addr} {v : Value} (o : Obj) (h : W.cell? p = some v) : (W.alloc o).cell? p = some v := (World.cell?_alloc_lt _ _ _ (block_lt_of_cell h)).trans h
theorem new_cell0 (w : World) (v : Value) (t : TypeId) {k : Nat} (h : w.heap.size = k) : (w.alloc (.cells #[v] t)).cell? ⟨k, 0, none⟩ = some v := by subst h; simp

/-- below block B the world is as it was, but for block X -/
structure But (B X : Nat) (w w' : World) : Prop where
  os : w'.os = w.os
  tape : w'.tape = w.tape
  output : w'.output = w.output
  size : w.heap.size ≤ w'.heap.size
  block : ∀ k, k < B → k ≠ X → w'.heap[k]? = w.heap[k]?
theorem But.refl (B X : Nat) (w : World) : But B X w w := ⟨rfl, rfl, rfl, Nat.le_refl _, fun _ _ _ => rfl⟩
theorem But.trans {B X : Nat} {a b c : World} (h : But B X a b) (k : But B X b c) : But B X a c :=
  ⟨k.os.trans h.os, k.tape.trans h.tape, k.output.trans h.output, Nat.le_trans h.size k.size, fun i hi hx => (k.block i hi hx).trans (h.block i hi hx)⟩
theorem But.of_below {B X : Nat} {a b : World} (h : Below B a b) : But B X a b := ⟨h.os, h.tape, h.output, h.size, fun k hk _ => h.block k hk⟩
theorem But.below {B X C : Nat} {a b : World} (h : But B X a b) (h1 : C ≤ B) (h2 : C ≤ X) : Below C a b := ⟨h.os, h.tape, h.output, h.size, fun k hk => h.block k (by omega) (by omega)⟩
theorem But.mono {B B' X : Nat} {a b : World} (h : But B X a b) (h1 : B' ≤ B) : But B' X a b := ⟨h.os, h.tape, h.output, h.size, fun k hk hx => h.block k (by omega) hx⟩
theorem But.setX {B X : Nat} {a b : World} (h : But B X a b) (j : Nat) (u : Value) : But B X a (b.setCell ⟨X, j, none⟩ u) :=
  h.trans ⟨rfl, rfl, rfl, by simp [World.setCell], fun k _ hx => Below.heap_setCell _ _ _ _ hx⟩
theorem But.cell {B X : Nat} {a b : World} (h : But B X a b) {k j : Nat} (hk : k < B) (hx : k ≠ X) : b.cell? ⟨k, j, none⟩ = a.cell? ⟨k, j, none⟩ := World.cell?_of_block (h.block k hk hx)
theorem But.frozen {B X : Nat} {a b : World} (h : But B X a b) {k j : Nat} (hk : k < B) (hx : k ≠ X) : b.frozen? ⟨k, j, none⟩ = a.frozen? ⟨k, j, none⟩ := World.frozen?_of_block (h.block k hk hx)

/-- the writer at block X holds the bytes l, in a row of a block from B on -/
def WrAt (B X : Nat) (w : World) (l : List UInt8) : Prop := ∃ v, w.heap[X]? = some (.cells #[v] 48 (0, 0)) ∧ w.ownsRow B 5 1 v l.length (bv l)

theorem i64_not (n : Int) (h : I64 n) : bits .xor .i64 (-1) n = -n - 1 := by
  obtain ⟨h1, h2⟩ := h
  show IntKind.i64.wrap ((BitVec.ofInt 64 (-1) ^^^ BitVec.ofInt 64 n).toNat : Int) = _
  have e : (BitVec.ofInt 64 (-1) ^^^ BitVec.ofInt 64 n) = ~~~ (BitVec.ofInt 64 n) := by
    rw [show BitVec.ofInt 64 (-1) = BitVec.allOnes 64 by decide, BitVec.allOnes_xor]
  rw [e, BitVec.toNat_not, BitVec.toNat_ofInt, IntKind.wrap_i64]
  omega
theorem ret_u64 {a b : Int} (h : a = b) : Ending.returned (.int .u64 a) = .returned (.int .u64 b) := by rw [h]
set_option maxHeartbeats 400000 in
theorem unsigned_any (n : Int) (w : World) (h : I64 n) : Calls Try.prog 33 #[.int .i64 n] w fun e w' => e = .returned (.int .u64 (zz n : Int)) ∧ w = w' := by
  have hx := i64_not n h
  obtain ⟨h1, h2⟩ := h
  by_cases hn : n < 0
  · have hz : (zz n : Int) = 2 * (-n - 1) + 1 := by unfold zz; rw [if_pos hn]; omega
    have HZ := Lib.hid hz
    have HX := Lib.hid hx
    clear hz hx
    go_enter Try.func33, Try.ntmps33
    go_wp2
    go_ret
    refine ⟨ret_u64 ?_, rfl⟩
    rw [HZ.out, HX.out, IntWalk.u64_in (-n - 1) (by omega), IntWalk.u64_in (2 * (-n - 1)) (by omega), IntWalk.u64_in _ (by omega)]
  · have hz : (zz n : Int) = 2 * n := by unfold zz; rw [if_neg hn]; omega
    have HZ := Lib.hid hz
    clear hz hx
    go_enter Try.func33, Try.ntmps33
    go_wp2
    go_ret
    exact ⟨ret_u64 HZ.out.symm, rfl⟩

theorem or_more (u : Nat) : bits .or .u8 ((u : Int) % 256) 128 = ((UInt8.ofNat (u % 128 + 128)).toNat : Int) := by
  have h := u8_or_nat (u % 256) 128 (by omega) (by omega)
  rw [show ((u : Int) % 256) = ((u % 256 : Nat) : Int) by omega, show (128 : Int) = ((128 : Nat) : Int) from rfl, h, byte_nat (by omega)]
  have e : u % 256 = u % 128 ∨ u % 256 = u % 128 + 128 := by omega
  rcases e with e | e
  · rw [e, Nat.or_comm, nat_join 7 _ _ (by decide) (by omega)]
    omega
  · rw [e, Nat.add_comm, ← nat_join 7 128 (u % 128) (by decide) (by omega), Nat.or_assoc, Nat.or_comm (u % 128) 128, ← Nat.or_assoc, Nat.or_self]
theorem bv_last {u : Nat} (h : u < 128) : bv [UInt8.ofNat u] = [.int .u8 (u : Int)] := by
  show [Value.int .u8 ((UInt8.ofNat u).toNat : Int)] = _
  rw [byte_nat (by omega)]
theorem bv_more (u : Nat) : bv [UInt8.ofNat (u % 128 + 128)] = [.int .u8 (bits .or .u8 ((u : Int) % 256) 128)] := by
  show [Value.int .u8 ((UInt8.ofNat (u % 128 + 128)).toNat : Int)] = _
  rw [or_more]

/-- what stands behind an append, and behind the store of its row into the writer -/
theorem wr_step {B X : Nat} {w wr wa w1 : World} {v v' : Value} {l ys : List UInt8} {m : Nat} (hX : X < B) (hB : B ≤ wr.heap.size) (hb : wr.heap[X]? = some (.cells #[v] 48 (0, 0))) (hown : wr.ownsRow B 5 1 v l.length (bv l)) (hbut : But B X w wr)
    (ha : Below wr.heap.size wr wa) (hg : wa.grownBy w1 v.ownBlock) (hm : m = ys.length) (hown' : w1.ownsRow B 5 1 v' (l.length + m) (bv l ++ bv ys)) :
    w1.heap[X]? = some (.cells #[v] 48 (0, 0)) ∧ WrAt B X (w1.setCell ⟨X, 0, none⟩ v') (l ++ ys) ∧ But B X w (w1.setCell ⟨X, 0, none⟩ v') := by
  have hb1 : Below B wr w1 := (ha.mono hB).grown hg (Nat.le_trans hB ha.size) (fun k e => (hown.lt k e).1)
  have hx1 : w1.heap[X]? = some (.cells #[v] 48 (0, 0)) := (hb1.block X hX).trans hb
  refine ⟨hx1, ⟨v', one_setCell hx1, ?_⟩, (hbut.trans (But.of_below hb1)).setX 0 v'⟩
  rw [← bv_app, hm, ← List.length_append] at hown'
  exact ownsRow_setCell_other hown' (fun e => by have := (hown'.lt X e).1; omega) v'
theorem row_is {w : World} {B n size : Nat} {e : TypeId} {v : Value} {xs : List Value} (h : w.ownsRow B e size v n xs) : ∃ A c, v = .slice A n c := by
  rcases h.2 with ⟨rfl, rfl⟩ | ⟨g, cap, cur, rfl, _⟩
  · exact ⟨_, _, rfl⟩
  · exact ⟨_, _, rfl⟩
theorem lit_below (w : World) (o : Obj) : Below w.heap.size w (w.alloc o) := (Below.refl _ _).alloc (Nat.le_refl _) _
theorem lit_cells (w : World) (x : Value) (t : TypeId) : ∀ j u, [x][j]? = some u → (w.alloc (.cells #[x] t)).cell? ((⟨w.heap.size, 0, none⟩ : Addr).add j) = some u := cell_one_new w x t

set_option maxRecDepth 100000 in
set_option maxHeartbeats 1000000 in
/-- one number written behind what the writer holds -/
theorem number_any (B X : Nat) (l : List UInt8) (n : Int) (w : World) (hX : X < B) (hB : B ≤ w.heap.size) (h : WrAt B X w l) (hn : I64 n) (hl : l.length ≤ 140737488355000) :
    Calls Try.prog 22 #[.pointer (some ⟨X, 0, none⟩), .int .i64 n] w fun e w' => e = .returned (.tuple #[]) ∧ WrAt B X w' (l ++ numL n) ∧ But B X w w' := by
  obtain ⟨i0, hi, hz0, hz1, hz2⟩ := info_parts infoByte
  have HW := Lib.hid h
  have HN := Lib.hid hn
  have HL := Lib.hid hl
  have HB := Lib.hid hB
  have hzl := zz_lt hn
  have h10 := groups_ten hzl
  obtain ⟨u0, hu0⟩ : ∃ u0, u0 = zz n := ⟨_, rfl⟩
  have HU := Lib.hid hu0
  rw [← hu0] at hzl h10
  have H10 := Lib.hid h10
  clear h hn hu0 hl hB h10
  go_enter Try.func22, Try.ntmps22
  go_wp2_with (go_at_call 33; refine (unsigned_any n _ HN.out).mono ?_; rintro e w' ⟨rfl, rfl⟩; rw [← HU.out])
  go_loopw [4] (fun u wr => ∃ (k : Nat) (p : List UInt8), u = .int .u64 (k : Int) ∧ k ≤ u0 ∧ Hid (groups u0 = p ++ groups k ∧ WrAt B X wr (l ++ p) ∧ But B X w wr)) (fun u _ => (intOf u).toNat)
  case atStart => exact ⟨u0, [], rfl, Nat.le_refl _, Lib.hid ⟨rfl, by rw [List.append_nil]; exact HW.out, But.refl _ _ _⟩⟩
  case round =>
    obtain ⟨k, p, rfl, hk, H⟩ := hrel
    obtain ⟨q, hq⟩ : ∃ q, q = l ++ p := ⟨_, rfl⟩
    have HQ := Lib.hid hq
    obtain ⟨v, hb, hown⟩ := H.out.2.1
    rw [← hq] at hown
    have hBr : B ≤ wr.heap.size := Nat.le_trans HB.out H.out.2.2.size
    have hlp : q.length + 1 ≤ 140737488355328 := by
      rw [hq]
      have h1 := congrArg List.length H.out.1
      have h2 := H10.out
      have h3 := groups_pos k
      have h4 := HL.out
      rw [List.length_append] at h1 ⊢
      omega
    have hc := cell_of_one hb
    have hf := free_of_one hb
    have hXr := block_lt_of_cell hc
    have HBR := Lib.hid hBr
    have HLP := Lib.hid hlp
    have HOB := Lib.hid hb
    have HOW := Lib.hid hown
    clear hb hown hlp hBr hq
    by_cases hlt : k < 128
    · go_wp2_with (at_builtin; (refine wpList_append_own _ rfl (.tmp 27) (.tmp 30) 25 rfl B 5 i0 _ 1 1 Try.underlying25 hi hz0 hz1 hz2 (by rfl) (by decide) v q.length _ rfl (HOW.out.alloc _) ⟨wr.heap.size, 0, none⟩ 1 1 _ rfl rfl (lit_cells _ _ _) (by simp [Value.oneCell']) (by have := HLP.out; unfold maxLen; omega) (by have := HLP.out; omega) (by have := HBR.out; simp; omega) ?_); intro v' w1 hown1 hgrow hnil; clear hnil; obtain ⟨A1, c1, rfl⟩ := row_is hown1; obtain ⟨hx1, hw2, hb2⟩ := wr_step (ys := [UInt8.ofNat k]) hX HBR.out HOB.out HOW.out H.out.2.2 (lit_below _ _) hgrow rfl (by rw [bv_last hlt]; exact hown1); have hc1 := cell_of_one hx1; have hf1 := free_of_one hx1; have hz1 := block_lt_of_cell hc1; have HR := Lib.hid (And.intro hw2 hb2); clear hown1 hgrow hx1 hw2 hb2)
      have e : l ++ numL n = l ++ p ++ [UInt8.ofNat k] := by
        unfold numL
        rw [← HU.out, H.out.1, groups_lt hlt, List.append_assoc]
      go_end0
      rw [e, ← HQ.out]
      exact ⟨rfl, HR.out.1, HR.out.2⟩
    · go_wp2_with (at_builtin; (refine wpList_append_own _ rfl (.tmp 15) (.tmp 19) 25 rfl B 5 i0 _ 1 1 Try.underlying25 hi hz0 hz1 hz2 (by rfl) (by decide) v q.length _ rfl (HOW.out.alloc _) ⟨wr.heap.size, 0, none⟩ 1 1 _ rfl rfl (lit_cells _ _ _) (by simp [Value.oneCell']) (by have := HLP.out; unfold maxLen; omega) (by have := HLP.out; omega) (by have := HBR.out; simp; omega) ?_); intro v' w1 hown1 hgrow hnil; clear hnil; obtain ⟨A1, c1, rfl⟩ := row_is hown1; obtain ⟨hx1, hw2, hb2⟩ := wr_step (ys := [UInt8.ofNat (k % 128 + 128)]) hX HBR.out HOB.out HOW.out H.out.2.2 (lit_below _ _) hgrow rfl (by rw [bv_more]; exact hown1); have hc1 := cell_of_one hx1; have hf1 := free_of_one hx1; have hz1 := block_lt_of_cell hc1; have HR := Lib.hid (And.intro hw2 hb2); clear hown1 hgrow hx1 hw2 hb2)
      go_roundw
      case rel => exact ⟨k / 128, p ++ [UInt8.ofNat (k % 128 + 128)], by go_num, by omega, Lib.hid ⟨by rw [H.out.1, groups_ge hlt]; simp, by rw [← List.append_assoc, ← HQ.out]; exact HR.out.1, HR.out.2⟩⟩
      case measure => simp [intOf]; omega
end Go.Proofs.Ytldepghojmkohaa.Cod
