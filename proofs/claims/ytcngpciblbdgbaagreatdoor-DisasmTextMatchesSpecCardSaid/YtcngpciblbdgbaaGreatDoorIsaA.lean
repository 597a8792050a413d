/- What a slice of operand kinds and a slice of forms read as in memory; the contracts of the small functions that only read: In, At, slices.Equal, Ints, isUnknown. No conditions beyond the readings named in each. -/
import Derived.WalkKit
import Derived.WalkSpells
import Derived.WalkLawsBesides
import Derived.Lib.Hide
import Derived.Deep.QuietTactic
import Derived.BigQuiet
import Derived.Test.YtcngpciblbdgbaaGreatDoorChecked
namespace Go.Proofs.YtcngpciblbdgbaaGreatDoor
open Go Go.RowKit

/-- the slice value v reads as the numbers ks; its cells lie below block B -/
def KindsAt (B : Nat) (w : World) (v : Value) (ks : List Int) : Prop :=
  ∃ A c, v = .slice A ks.length c ∧ ks.length ≤ 17592186044416 ∧
   (0 < ks.length → ∃ b off, A = some ⟨b, off, none⟩ ∧ b < B ∧ ∀ j, j < ks.length → w.cell? ⟨b, off + j, none⟩ = some (.int .i64 (ks[j]?.getD 0)))

theorem KindsAt.opens {B : Nat} {w : World} {v : Value} {ks : List Int} (h : KindsAt B w v ks) : ∃ A n c, v = .slice A n c ∧ Hid (ks.length = n) ∧ n ≤ 17592186044416 ∧
    (0 < n → ∃ b off, A = some ⟨b, off, none⟩ ∧ b < B ∧ ∀ j, j < n → w.cell? ⟨b, off + j, none⟩ = some (.int .i64 (ks[j]?.getD 0))) := by
  obtain ⟨A, c, h1, h2, h3⟩ := h
  exact ⟨A, _, c, h1, Lib.hid rfl, h2, h3⟩
theorem KindsAt.below {B : Nat} {w w' : World} {v : Value} {ks : List Int} (h : KindsAt B w v ks) (hb : Below B w w') : KindsAt B w' v ks := by
  obtain ⟨A, c, h1, h2, h3⟩ := h
  refine ⟨A, c, h1, h2, fun hn => ?_⟩
  obtain ⟨b, off, ha, hlt, hc⟩ := h3 hn
  exact ⟨b, off, ha, hlt, fun j hj => (hb.cell (p := ⟨b, off + j, none⟩) hlt).trans (hc j hj)⟩
theorem KindsAt.more {B B' : Nat} {w : World} {v : Value} {ks : List Int} (h : KindsAt B w v ks) (hB : B ≤ B') : KindsAt B' w v ks := by
  obtain ⟨A, c, h1, h2, h3⟩ := h
  refine ⟨A, c, h1, h2, fun hn => ?_⟩
  obtain ⟨b, off, ha, hlt, hc⟩ := h3 hn
  exact ⟨b, off, ha, by omega, hc⟩
theorem KindsAt.drewN {B : Nat} {w : World} {v : Value} {ks : List Int} (h : KindsAt B w v ks) (n : Nat) : KindsAt B (w.drewN n) v ks := h

/-- a form: its name, code, kinds, and the slice value that holds the kinds -/
structure Frm where
  name : ByteArray
  code : Int
  kv : Value
  kinds : List Int
/-- the form as a value -/
def Frm.val (f : Frm) : Value := .agg #[.string f.name, .int .i64 f.code, f.kv]

/-- the cells of a form from offset o of block b on -/
def FrmCells (w : World) (b o : Nat) (f : Frm) : Prop :=
  w.cell? ⟨b, o, none⟩ = some (.string f.name) ∧ w.cell? ⟨b, o + 1, none⟩ = some (.int .i64 f.code) ∧ w.cell? ⟨b, o + 2, none⟩ = some f.kv

/-- the slice value v reads as the forms fs; all its cells lie below block B -/
def FormsAt (B : Nat) (w : World) (v : Value) (fs : List Frm) : Prop :=
  ∃ A c, v = .slice A fs.length c ∧ (fs.length * 48 ≤ 140737488351232 ∧ fs.length ≤ c) ∧ (∀ f ∈ fs, KindsAt B w f.kv f.kinds ∧ f.name.size ≤ 140737488351232) ∧
   (0 < fs.length → ∃ b off, A = some ⟨b, off, none⟩ ∧ b < B ∧ ∀ j f, fs[j]? = some f → FrmCells w b (off + j * 3) f)

theorem FormsAt.opens {B : Nat} {w : World} {v : Value} {fs : List Frm} (h : FormsAt B w v fs) : ∃ A n c, v = .slice A n c ∧ Hid (fs.length = n) ∧ (n * 48 ≤ 140737488351232 ∧ n ≤ c) ∧ (∀ f ∈ fs, KindsAt B w f.kv f.kinds ∧ f.name.size ≤ 140737488351232) ∧
    (0 < n → ∃ b off, A = some ⟨b, off, none⟩ ∧ b < B ∧ ∀ j f, fs[j]? = some f → FrmCells w b (off + j * 3) f) := by
  obtain ⟨A, c, h1, h2, h3, h4⟩ := h
  exact ⟨A, _, c, h1, Lib.hid rfl, h2, h3, h4⟩
theorem FrmCells.below {B : Nat} {w w' : World} {b o : Nat} {f : Frm} (h : FrmCells w b o f) (hb : Below B w w') (hlt : b < B) : FrmCells w' b o f :=
  ⟨(hb.cell (p := ⟨b, o, none⟩) hlt).trans h.1, (hb.cell (p := ⟨b, o + 1, none⟩) hlt).trans h.2.1, (hb.cell (p := ⟨b, o + 2, none⟩) hlt).trans h.2.2⟩
theorem FormsAt.below {B : Nat} {w w' : World} {v : Value} {fs : List Frm} (h : FormsAt B w v fs) (hb : Below B w w') : FormsAt B w' v fs := by
  obtain ⟨A, c, h1, h2, h3, h4⟩ := h
  refine ⟨A, c, h1, h2, fun f hf => ⟨(h3 f hf).1.below hb, (h3 f hf).2⟩, fun hn => ?_⟩
  obtain ⟨b, off, ha, hlt, hc⟩ := h4 hn
  exact ⟨b, off, ha, hlt, fun j f hj => (hc j f hj).below hb hlt⟩
theorem FormsAt.more {B B' : Nat} {w : World} {v : Value} {fs : List Frm} (h : FormsAt B w v fs) (hB : B ≤ B') : FormsAt B' w v fs := by
  obtain ⟨A, c, h1, h2, h3, h4⟩ := h
  refine ⟨A, c, h1, h2, fun f hf => ⟨(h3 f hf).1.more hB, (h3 f hf).2⟩, fun hn => ?_⟩
  obtain ⟨b, off, ha, hlt, hc⟩ := h4 hn
  exact ⟨b, off, ha, by omega, hc⟩
theorem below_drewN {B : Nat} {a w : World} (h : Below B a w) (n : Nat) : Below B a (w.drewN n) := ⟨h.os, h.tape, h.output, h.size, h.block⟩
theorem getElem?_of_lt {α : Type} {l : List α} {k n : Nat} (h : Hid (l.length = n)) (hk : k < n) : ∃ x, l[k]? = some x ∧ x ∈ l := by
  have hl : k < l.length := by rw [h.out]; exact hk
  exact ⟨l[k], List.getElem?_eq_getElem hl, List.getElem_mem hl⟩

theorem ret_int {k : IntKind} {a b : Int} (h : a = b) : Ending.returned (.int k a) = .returned (.int k b) := by rw [h]
theorem ret_bool {a b : Bool} (h : a = b) : Ending.returned (.bool a) = .returned (.bool b) := by rw [h]

/-! ## the small functions -/
def inB (n a b : Int) : Bool := decide (a ≤ n) && decide (n ≤ b)
set_option maxHeartbeats 400000 in
theorem in_any (n a b : Int) (w : World) : Calls Tryz.prog 20 #[.int .i64 n, .int .i64 a, .int .i64 b] w fun e w' => e = .returned (.bool (inB n a b)) ∧ w = w' := by
  by_cases h1 : a ≤ n
  · by_cases h2 : n ≤ b
    · go_enter Tryz.func20, Tryz.ntmps20
      go_wp2
      go_ret
      exact ⟨by simp [inB, h1, h2], rfl⟩
    · go_enter Tryz.func20, Tryz.ntmps20
      go_wp2
      go_ret
      exact ⟨by simp [inB, h1, h2], rfl⟩
  · go_enter Tryz.func20, Tryz.ntmps20
    go_wp2
    go_ret
    exact ⟨by simp [inB]; omega, rfl⟩

theorem at_any (c i : Int) (w : World) : Calls Tryz.prog 11 #[.int .i64 c, .int .i64 i] w fun e w' => e = .returned (.agg #[.int .i64 c, .int .i64 i]) ∧ Below w.heap.size w w' := by
  go_enter Tryz.func11, Tryz.ntmps11
  go_wp2
  exact bodyPost_ret (v := .agg #[.int .i64 c, .int .i64 i]) (by simp [results, Tryz.results11, go_sem]) rfl ⟨rfl, (Below.refl _ _).alloc (Nat.le_refl _) _⟩

def unknownB (k : Int) : Bool := decide (k < 1) || decide (k > 6)
set_option maxHeartbeats 400000 in
theorem unknown_any (k : Int) (w : World) : Calls Tryz.prog 55 #[.int .i64 k] w fun e w' => e = .returned (.bool (unknownB k)) ∧ w = w' := by
  by_cases h1 : k < 1
  · go_enter Tryz.func55, Tryz.ntmps55
    go_wp2
    go_ret
    exact ⟨by simp [unknownB, h1], rfl⟩
  · by_cases h2 : 6 < k
    · go_enter Tryz.func55, Tryz.ntmps55
      go_wp2
      go_ret
      exact ⟨by simp [unknownB, h2], rfl⟩
    · go_enter Tryz.func55, Tryz.ntmps55
      go_wp2
      go_ret
      exact ⟨by simp [unknownB, h1, h2], rfl⟩

/-! ## lists of numbers compared -/
set_option maxHeartbeats 400000 in
theorem equal_no (A1 A2 : Option Addr) (n1 c1 n2 c2 : Nat) (w : World) (h : ((n1 : Int) != (n2 : Int)) = true) :
    Calls Tryz.prog 69 #[.slice A1 n1 c1, .slice A2 n2 c2] w fun e w' => e = .returned (.bool false) ∧ w = w' := by
  go_enter Tryz.func69, Tryz.ntmps69
  go_wp2
  go_ret
  exact ⟨rfl, rfl⟩

theorem take_eq_succ {ks ls : List Int} {k : Nat} (hk : k < ks.length) (hk2 : k < ls.length) (h : ks.take k = ls.take k) (he : ks[k]?.getD 0 = ls[k]?.getD 0) : ks.take (k + 1) = ls.take (k + 1) := by
  rw [List.take_succ_eq_append_getElem hk, List.take_succ_eq_append_getElem hk2, h]
  simp [hk, hk2] at he
  rw [he]
theorem ne_of_at {ks ls : List Int} {k : Nat} (he : ¬ ks[k]?.getD 0 = ls[k]?.getD 0) : ks ≠ ls := fun e => he (by rw [e])

set_option maxHeartbeats 400000 in
theorem equal_yes (A1 A2 : Option Addr) (n c1 c2 : Nat) (ks ls : List Int) (w : World) (hks : Hid (ks.length = n)) (hls : Hid (ls.length = n)) (hn : n ≤ 17592186044416)
    (hc1 : 0 < n → ∃ b off, A1 = some ⟨b, off, none⟩ ∧ ∀ j, j < n → w.cell? ⟨b, off + j, none⟩ = some (.int .i64 (ks[j]?.getD 0)))
    (hc2 : 0 < n → ∃ b off, A2 = some ⟨b, off, none⟩ ∧ ∀ j, j < n → w.cell? ⟨b, off + j, none⟩ = some (.int .i64 (ls[j]?.getD 0))) :
    Calls Tryz.prog 69 #[.slice A1 n c1, .slice A2 n c2] w fun e w' => e = .returned (.bool (decide (ks = ls))) ∧ ∃ n, w' = w.drewN n := by
  go_enter Tryz.func69, Tryz.ntmps69
  go_wp2
  go_loopw [13] (fun i wr => ∃ k q : Nat, k ≤ n ∧ i = .int .i64 k ∧ wr = w.drewN q ∧ ks.take k = ls.take k) (fun i _ => n - (intOf i).toNat)
  case atStart => exact ⟨0, 0, Nat.zero_le _, rfl, rfl, by simp⟩
  case round =>
    obtain ⟨k, q, hk, rfl, rfl, ht⟩ := hrel
    have Ht := Lib.hid ht
    clear ht
    by_cases hlt : k < n
    · obtain ⟨b1, o1, rfl, g1⟩ := hc1 (by omega)
      obtain ⟨b2, o2, rfl, g2⟩ := hc2 (by omega)
      have d1 := g1 k hlt
      have d2 := g2 k hlt
      clear hc1 hc2 g1 g2
      by_cases he : ks[k]?.getD 0 = ls[k]?.getD 0
      · have he' : (ks[k]?.getD 0 != ls[k]?.getD 0) = false := by simp [he]
        have He := Lib.hid he
        clear he
        go_wp2
        go_quiet (fail)
        go_wp2
        go_roundw
        case rel => exact ⟨k + 1, _, by omega, by go_num, rfl, take_eq_succ (by rw [hks.out]; exact hlt) (by rw [hls.out]; exact hlt) Ht.out He.out⟩
        case measure => simp [intOf]; omega
      · have he' : (ks[k]?.getD 0 != ls[k]?.getD 0) = true := by simp [he]
        have He := Lib.hid he
        clear he
        go_wp2
        go_quiet (fail)
        go_wp2
        go_ret
        exact ⟨by simp [ne_of_at He.out], _, World.drewN_drewN _ _ _⟩
    · obtain rfl : k = n := by omega
      go_wp2
      go_ret
      have ht := Ht.out
      rw [List.take_of_length_le (by rw [hks.out]; omega), List.take_of_length_le (by rw [hls.out]; omega)] at ht
      exact ⟨by simp [ht], _, rfl⟩

/-- slices.Equal at []int: whether the lists are equal -/
theorem equal_any (B : Nat) (v1 v2 : Value) (ks ls : List Int) (w : World) (h1 : KindsAt B w v1 ks) (h2 : KindsAt B w v2 ls) :
    Calls Tryz.prog 69 #[v1, v2] w fun e w' => e = .returned (.bool (decide (ks = ls))) ∧ ∃ n, w' = w.drewN n := by
  obtain ⟨A1, n1, c1, rfl, hn1, hl1, hc1⟩ := h1.opens
  obtain ⟨A2, n2, c2, rfl, hn2, hl2, hc2⟩ := h2.opens
  by_cases hn : n1 = n2
  · subst hn
    exact equal_yes A1 A2 n1 c1 c2 ks ls w hn1 hn2 hl1 (fun h => by obtain ⟨b, o, h1, _, h2⟩ := hc1 h; exact ⟨b, o, h1, h2⟩) (fun h => by obtain ⟨b, o, h1, _, h2⟩ := hc2 h; exact ⟨b, o, h1, h2⟩)
  · have hne : ks ≠ ls := fun e => hn (by rw [← hn1.out, ← hn2.out, e])
    refine (equal_no A1 A2 n1 c1 n2 c2 w (by simp; omega)).mono ?_
    rintro e w' ⟨rfl, rfl⟩
    exact ⟨by simp [hne], 0, (World.drewN_zero _).symm⟩
end Go.Proofs.YtcngpciblbdgbaaGreatDoor
