/- Contracts of the writing methods of a strings.Builder that the call has made itself: copyCheck, WriteByte, WriteString. Conditions: what is held stays within the reach. -/
import Derived.Lib.Builder
import Derived.Lib.AppendStr
import Derived.Lib.OthersKept
import Derived.Lib.BufferWrite
import Derived.Laws.Externs
import Derived.Laws.IdiomCopy
import Derived.Test.YtccnaoabmgkblaaDoorTokI
namespace Go.Proofs.YtccnaoabmgkblaaDoor.Tok
open Go Go.RowKit

theorem infoByte : (Tryd.prog.info? 5).map (fun i => (i.zero, i.size, i.bytes)) = some (some (.int .u8 0), 1, 1) := by kernel_rfl
theorem infoBld : (Tryd.prog.info? 52).map (·.size) = some 2 := by kernel_rfl
theorem liesBld : liesAt Tryd.prog Tryd.prog.depth 52 (2 / Tryd.prog.cellsOf 52) 0 52 1 = true := by kernel_rfl
/-- the builder at block X holds the bytes q -/
def Bld (X : Nat) (q : List UInt8) (w : World) : Prop := Lib.IsBuilder 52 5 X X (Lib.byteCells q) w
/-- .. and has been written -/
def BldU (X : Nat) (q : List UInt8) (w : World) : Prop := Lib.BuilderAt 52 5 X X (.pointer (some ⟨X, 0, none⟩)) (Lib.byteCells q) w
theorem BldU.bld {X : Nat} {q : List UInt8} {w : World} (h : BldU X q w) : Bld X q w := .inr h
/-- what a method may change: the builder's own block, its bytes, what is new -/
def BldF (X : Nat) (w w' : World) : Prop := Below X w w' ∧ Lib.OthersKept 5 (some X) w w'
theorem BldF.trans {X : Nat} {a b c : World} (h : BldF X a b) (k : BldF X b c) : BldF X a c := ⟨h.1.trans k.1, h.2.trans k.2⟩
set_option maxHeartbeats 1000000 in
set_option maxRecDepth 100000 in
theorem check_used (X : Nat) (w : World) (h0 : w.cell? ⟨X, 0, none⟩ = some (.pointer (some ⟨X, 0, none⟩))) :
    Calls Tryd.prog 40 #[.pointer (some ⟨X, 0, none⟩)] w fun e w' => e = .returned (.tuple #[]) ∧ w = w' := by
  obtain ⟨j, hj, -⟩ := Option.map_eq_some_iff.1 infoBld
  go_enter Tryd.func40, Tryd.ntmps40
  go_wp2
  rw [Lib.run_neq_ptr_same w _ Tryd.underlying49 hj]
  go_wp2
  go_end0
  exact ⟨rfl, rfl⟩
set_option maxHeartbeats 1000000 in
set_option maxRecDepth 100000 in
theorem check_fresh (X : Nat) (w : World) (h0 : w.cell? ⟨X, 0, none⟩ = some (.pointer none)) (hsh : w.shape? X = some (52, 2)) (hfz : w.frozen? ⟨X, 0, none⟩ = false) :
    Calls Tryd.prog 40 #[.pointer (some ⟨X, 0, none⟩)] w fun e w' => e = .returned (.tuple #[]) ∧ w' = w.setCell ⟨X, 0, none⟩ (.pointer (some ⟨X, 0, none⟩)) := by
  obtain ⟨j, hj, hjs⟩ := Option.map_eq_some_iff.1 infoBld
  go_enter Tryd.func40, Tryd.ntmps40
  go_wp2
  rw [Lib.run_to_unsafe w ⟨X, 0, none⟩ Tryd.underlying49 Tryd.underlying77 hj (by rw [hjs]; decide) hsh (Nat.zero_lt_succ 1)]
  simp only [Result.andThen]
  rw [Oper.upon_value]
  go_wp2
  rw [run_callFunc_extern Tryd.func52 (by kernel_rfl) (by kernel_rfl) (by kernel_rfl) (e := Extern.AbiNoEscape.same) (by kernel_rfl)]
  rw [Lib.run_noEscape]
  simp only [Result.andThen]
  rw [Oper.upon_value]
  go_wp2
  rw [Lib.run_from_unsafe w ⟨X, 0, none⟩ Tryd.underlying77 Tryd.underlying49 hj hsh liesBld]
  simp only [Result.andThen]
  rw [Oper.upon_value]
  go_wp2
  go_end0
  exact ⟨rfl, rfl⟩
theorem check_any (X : Nat) (q : List UInt8) (w : World) (h : Bld X q w) :
    Calls Tryd.prog 40 #[.pointer (some ⟨X, 0, none⟩)] w fun e w' => e = .returned (.tuple #[]) ∧ BldU X q w' ∧ BldF X w w' := by
  rcases h with h | h
  · refine (check_fresh X w h.cell0 h.shape h.frozen0).mono ?_
    rintro e w' ⟨rfl, rfl⟩
    exact ⟨rfl, h.used _, (Below.refl X w).setCell (p := ⟨X, 0, none⟩) (Nat.le_refl _) _, (Lib.OthersKept.refl _ _ _).setCell ⟨X, 0, none⟩ rfl _⟩
  · refine (check_used X w h.cell0).mono ?_
    rintro e w' ⟨rfl, rfl⟩
    exact ⟨rfl, h, Below.refl X _, Lib.OthersKept.refl _ _ _⟩
/-- what a used builder gives a walk -/
theorem BldU.opens {X : Nat} {q : List UInt8} {w : World} (h : BldU X q w) : ∃ v, w.cell? ⟨X, 0, none⟩ = some (.pointer (some ⟨X, 0, none⟩)) ∧ w.cell? ⟨X, 1, none⟩ = some v ∧ w.frozen? ⟨X, 1, none⟩ = false ∧ X < w.heap.size ∧
    w.heap[X]? = some (.cells #[.pointer (some ⟨X, 0, none⟩), v] 52 (0, 0)) ∧ w.ownsRow X 5 1 v q.length (Lib.byteCells q) ∧ v.ownBlock ≠ some X := by
  obtain ⟨-, v, hb, hown, hne⟩ := h
  refine ⟨v, by simp [World.cell?, hb], by simp [World.cell?, hb], by simp [World.frozen?, hb], lt_of_block hb, hb, ?_, hne⟩
  rw [Lib.byteCells_length] at hown
  exact hown
theorem row_kind {w : World} {B n : Nat} {v : Value} {xs : List Value} (h : w.ownsRow B 5 1 v n xs) : ∀ g, v.ownBlock = some g → ∃ c fz, w.heap[g]? = some (.cells c 5 fz) := by
  intro g hg
  rcases h.2 with ⟨rfl, -⟩ | ⟨g', cap, cur, rfl, -, h3, -⟩
  · cases hg
  · have : g' = g := by simpa [Value.ownBlock] using hg
    subst this
    exact ⟨_, _, h3⟩
theorem builder_ne : 52 ≠ 5 := by decide
theorem bld_step {X n : Nat} {q ys : List UInt8} {w1 W w2 : World} {v v' : Value} (hW : W.heap[X]? = some (.cells #[.pointer (some ⟨X, 0, none⟩), v] 52 (0, 0))) (hF : BldF X w1 W) (hne : v.ownBlock ≠ some X)
    (hown : W.ownsRow X 5 1 v q.length (Lib.byteCells q)) (hg : W.grownBy w2 v.ownBlock) (hn : n = (q ++ ys).length) (hown2 : w2.ownsRow X 5 1 v' n (Lib.byteCells q ++ Lib.byteCells ys)) :
    w2.heap[X]? = some (.cells #[.pointer (some ⟨X, 0, none⟩), v] 52 (0, 0)) ∧ BldU X (q ++ ys) (w2.setCell ⟨X, 1, none⟩ v') ∧ BldF X w1 (w2.setCell ⟨X, 1, none⟩ v') := by
  have hlt := lt_of_block hW
  have hb2 : w2.heap[X]? = some (.cells #[.pointer (some ⟨X, 0, none⟩), v] 52 (0, 0)) := by
    rw [hg.block X hlt (fun e => hne e.symm)]
    exact hW
  subst hn
  rw [← Lib.byteCells_append] at hown2
  rw [← Lib.byteCells_length] at hown2
  refine ⟨hb2, Lib.BuilderAt.put (Nat.le_refl _) hb2 hown2 builder_ne, ?_, ?_⟩
  · exact (hF.1.grown hg (Nat.le_of_lt hlt) (fun k e => (hown.lt k e).1)).setCell (p := ⟨X, 1, none⟩) (Nat.le_refl _) _
  · exact (hF.2.grown hg (row_kind hown)).setCell ⟨X, 1, none⟩ rfl _
theorem BldF.alloc {X : Nat} {w W : World} (h : BldF X w W) (hX : X ≤ W.heap.size) (o : Obj) : BldF X w (W.alloc o) := ⟨h.1.alloc hX o, h.2.alloc o⟩
theorem heap_alloc_l {W : World} {k : Nat} {x : Obj} (o : Obj) (h : W.heap[k]? = some x) : (W.alloc o).heap[k]? = some x := (Below.heap_alloc _ _ _ (lt_of_block h)).trans h
theorem bld_cells {X : Nat} {v : Value} {w : World} (hb : w.heap[X]? = some (.cells #[.pointer (some ⟨X, 0, none⟩), v] 52 (0, 0))) : w.cell? ⟨X, 1, none⟩ = some v ∧ w.frozen? ⟨X, 1, none⟩ = false ∧ X < w.heap.size :=
  ⟨by simp [World.cell?, hb], by simp [World.frozen?, hb], lt_of_block hb⟩
set_option maxHeartbeats 2000000 in
set_option maxRecDepth 100000 in
theorem writeByte_any (X : Nat) (q : List UInt8) (c : UInt8) (w : World) (h : Bld X q w) (hq : q.length ≤ 1000000000) :
    Calls Tryd.prog 24 #[.pointer (some ⟨X, 0, none⟩), .int .u8 (c.toNat : Int)] w fun e w' => e = .returned .nilIface ∧ BldU X (q ++ [c]) w' ∧ BldF X w w' := by
  obtain ⟨i0, hi, hz0, hz1, hz2⟩ := info_parts infoByte
  have C := Lib.hid (check_any X q w h)
  clear h
  go_enter Tryd.func24, Tryd.ntmps24
  go_wp2_with fail
  refine C.out.mono ?_
  rintro e w1 ⟨rfl, hu, hf⟩
  obtain ⟨v, c0, c1, f1, hlt, hb, hown, hne⟩ := hu.opens
  have HB := Lib.hid hb
  have HO := Lib.hid hown
  have HN := Lib.hid hne
  have HF := Lib.hid hf
  clear hu hf hb hown hne C
  go_wp2_with (at_builtin; refine wpList_append_own _ rfl (.tmp 11) (.tmp 13) 50 rfl X 5 i0 _ 1 1 Tryd.underlying50 hi hz0 hz1 hz2 (by rfl) (by decide) v q.length _ rfl (HO.out.alloc _) ⟨w1.heap.size, 0, none⟩ 1 1 [.int .u8 (c.toNat : Int)] rfl rfl (cell_one_new _ _ _) (by simp [Value.oneCell']) (by unfold maxLen; omega) (by omega) (by simp; omega) ?_; intro v' w2 hown2 hgrow hnil; clear hnil; obtain ⟨A, k, rfl⟩ := row_is hown2; obtain ⟨hb2, hu2, hf2⟩ := bld_step (ys := [c]) (heap_alloc_l _ HB.out) (HF.out.alloc (Nat.le_of_lt hlt) _) HN.out (HO.out.alloc _) hgrow (by simp) hown2; obtain ⟨d1, d2, d3⟩ := bld_cells hb2; have HR := Lib.hid (And.intro hu2 hf2); clear hown2 hgrow hb2 hu2 hf2)
  go_ret
  exact ⟨rfl, HR.out.1, HR.out.2⟩
set_option maxHeartbeats 2000000 in
set_option maxRecDepth 100000 in
theorem writeString_any (X : Nat) (q ys : List UInt8) (w : World) (h : Bld X q w) (hq : q.length + ys.length ≤ 1000000000) :
    Calls Tryd.prog 25 #[.pointer (some ⟨X, 0, none⟩), strV ys] w fun e w' => e = .returned (.tuple #[.int .i64 (ys.length : Int), .nilIface]) ∧ BldU X (q ++ ys) w' ∧ BldF X w w' := by
  obtain ⟨i0, hi, hz0, hz1, hz2⟩ := info_parts infoByte
  have C := Lib.hid (check_any X q w h)
  clear h
  obtain ⟨s, hs⟩ : ∃ s : ByteArray, s = ⟨ys.toArray⟩ := ⟨_, rfl⟩
  have hsz : s.size = ys.length := by rw [hs]; rfl
  have HSC := Lib.hid (show Lib.strCells s = Lib.byteCells ys by rw [hs]; rfl)
  rw [show strV ys = .string s from by rw [hs], ← hsz]
  have HSZ := Lib.hid hsz
  rw [← hsz] at hq
  clear hs hsz
  go_enter Tryd.func25, Tryd.ntmps25
  go_wp2_with fail
  refine C.out.mono ?_
  rintro e w1 ⟨rfl, hu, hf⟩
  obtain ⟨v, c0, c1, f1, hlt, hb, hown, hne⟩ := hu.opens
  have HB := Lib.hid hb
  have HO := Lib.hid hown
  have HN := Lib.hid hne
  have HF := Lib.hid hf
  clear hu hf hb hown hne C
  go_wp2_with (at_builtin; refine Lib.wpList_append_own_string _ rfl (.tmp 12) (.tmp 13) 50 9 rfl X 5 i0 Tryd.underlying50 Tryd.underlying9 hi hz0 hz1 hz2 v q.length _ rfl HO.out s rfl (by unfold maxLen; omega) (by omega) (by omega) ?_; intro v' w2 hown2 hgrow hnil; clear hnil; obtain ⟨A, k, rfl⟩ := row_is hown2; obtain ⟨hb2, hu2, hf2⟩ := bld_step (n := q.length + s.size) (ys := ys) HB.out HF.out HN.out HO.out hgrow (by rw [HSZ.out, List.length_append]) (by rw [HSC.out] at hown2; exact hown2); obtain ⟨d1, d2, d3⟩ := bld_cells hb2; have HR := Lib.hid (And.intro hu2 hf2); clear hown2 hgrow hb2 hu2 hf2)
  go_ret2
  exact ⟨rfl, HR.out.1, HR.out.2⟩
end Go.Proofs.YtccnaoabmgkblaaDoor.Tok
