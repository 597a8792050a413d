/- Strings and lists of numbers written; what slices of numbers and of strings read as. Conditions: what is written stays within the reach. -/
import Derived.Test.YtldepghojmkohaaCodB
namespace Go.Proofs.Ytldepghojmkohaa.Cod
open Go Go.RowKit Go.Lib

def strV (l : List UInt8) : Value := .string ⟨l.toArray⟩
theorem strCells_bv (l : List UInt8) : strCells ⟨l.toArray⟩ = bv l := by simp [strCells, bv]
/-- the slice value v reads as the numbers xs; its cells lie below block B -/
def IntsAt (B : Nat) (w : World) (v : Value) (xs : List Int) : Prop :=
  ∃ A c, v = .slice A xs.length c ∧ xs.length ≤ 17592186044416 ∧ (∀ x ∈ xs, I64 x) ∧
   (0 < xs.length → ∃ b off, A = some ⟨b, off, none⟩ ∧ b < B ∧ ∀ j, j < xs.length → w.cell? ⟨b, off + j, none⟩ = some (.int .i64 (xs[j]?.getD 0)))
theorem IntsAt.opens {B : Nat} {w : World} {v : Value} {xs : List Int} (h : IntsAt B w v xs) : ∃ A n c, v = .slice A n c ∧ Hid (xs.length = n) ∧ n ≤ 17592186044416 ∧ Hid (∀ x ∈ xs, I64 x) ∧
    Hid (0 < n → ∃ b off, A = some ⟨b, off, none⟩ ∧ b < B ∧ ∀ j, j < n → w.cell? ⟨b, off + j, none⟩ = some (.int .i64 (xs[j]?.getD 0))) := by
  obtain ⟨A, c, h1, h2, h3, h4⟩ := h
  exact ⟨A, _, c, h1, Lib.hid rfl, h2, Lib.hid h3, Lib.hid h4⟩
theorem IntsAt.below {B : Nat} {w w' : World} {v : Value} {xs : List Int} (h : IntsAt B w v xs) (hb : Below B w w') : IntsAt B w' v xs := by
  obtain ⟨A, c, h1, h2, h4, h3⟩ := h
  refine ⟨A, c, h1, h2, h4, fun hn => ?_⟩
  obtain ⟨b, off, ha, hlt, hc⟩ := h3 hn
  exact ⟨b, off, ha, hlt, fun j hj => (hb.cell (p := ⟨b, off + j, none⟩) hlt).trans (hc j hj)⟩
theorem IntsAt.more {B B' : Nat} {w : World} {v : Value} {xs : List Int} (h : IntsAt B w v xs) (hB : B ≤ B') : IntsAt B' w v xs := by
  obtain ⟨A, c, h1, h2, h4, h3⟩ := h
  refine ⟨A, c, h1, h2, h4, fun hn => ?_⟩
  obtain ⟨b, off, ha, hlt, hc⟩ := h3 hn
  exact ⟨b, off, ha, by omega, hc⟩
/-- the slice value v reads as the strings ss; its cells lie below block B -/
def StrsAt (B : Nat) (w : World) (v : Value) (ss : List (List UInt8)) : Prop :=
  ∃ A c, v = .slice A ss.length c ∧ ss.length ≤ 8796093022208 ∧ (∀ s ∈ ss, s.length ≤ 140737488351232) ∧
   (0 < ss.length → ∃ b off, A = some ⟨b, off, none⟩ ∧ b < B ∧ ∀ j, j < ss.length → w.cell? ⟨b, off + j, none⟩ = some (strV (ss[j]?.getD [])))
theorem StrsAt.opens {B : Nat} {w : World} {v : Value} {ss : List (List UInt8)} (h : StrsAt B w v ss) : ∃ A n c, v = .slice A n c ∧ Hid (ss.length = n) ∧ n ≤ 8796093022208 ∧ Hid (∀ s ∈ ss, s.length ≤ 140737488351232) ∧
    Hid (0 < n → ∃ b off, A = some ⟨b, off, none⟩ ∧ b < B ∧ ∀ j, j < n → w.cell? ⟨b, off + j, none⟩ = some (strV (ss[j]?.getD []))) := by
  obtain ⟨A, c, h1, h2, h3, h4⟩ := h
  exact ⟨A, _, c, h1, Lib.hid rfl, h2, Lib.hid h3, Lib.hid h4⟩
theorem StrsAt.below {B : Nat} {w w' : World} {v : Value} {ss : List (List UInt8)} (h : StrsAt B w v ss) (hb : Below B w w') : StrsAt B w' v ss := by
  obtain ⟨A, c, h1, h2, h4, h3⟩ := h
  refine ⟨A, c, h1, h2, h4, fun hn => ?_⟩
  obtain ⟨b, off, ha, hlt, hc⟩ := h3 hn
  exact ⟨b, off, ha, hlt, fun j hj => (hb.cell (p := ⟨b, off + j, none⟩) hlt).trans (hc j hj)⟩
theorem StrsAt.more {B B' : Nat} {w : World} {v : Value} {ss : List (List UInt8)} (h : StrsAt B w v ss) (hB : B ≤ B') : StrsAt B' w v ss := by
  obtain ⟨A, c, h1, h2, h4, h3⟩ := h
  refine ⟨A, c, h1, h2, h4, fun hn => ?_⟩
  obtain ⟨b, off, ha, hlt, hc⟩ := h3 hn
  exact ⟨b, off, ha, by omega, hc⟩
theorem WrAt.alloc {B X : Nat} {w : World} {l : List UInt8} (h : WrAt B X w l) (o : Obj) : WrAt B X (w.alloc o) l := by
  obtain ⟨v, h1, h2⟩ := h
  exact ⟨v, (Below.heap_alloc _ _ _ (lt_of_block h1)).trans h1, h2.alloc o⟩
theorem take_flat {xs : List Int} {k : Nat} (h : k < xs.length) : flat (xs.take (k + 1)) = flat (xs.take k) ++ numL (xs[k]?.getD 0) := by
  rw [List.take_succ_eq_append_getElem h, flat_snoc, List.getElem?_eq_getElem h]
  rfl
theorem take_flatT {ss : List (List UInt8)} {k : Nat} (h : k < ss.length) : flatT (ss.take (k + 1)) = flatT (ss.take k) ++ textL (ss[k]?.getD []) := by
  rw [List.take_succ_eq_append_getElem h, flatT_snoc, List.getElem?_eq_getElem h]
  rfl
theorem at_in {xs : List Int} (h : ∀ x ∈ xs, I64 x) (k : Nat) (hk : k < xs.length) : I64 (xs[k]?.getD 0) := by
  rw [List.getElem?_eq_getElem hk]
  exact h _ (List.getElem_mem hk)
theorem flat_take_le {xs : List Int} (h : ∀ x ∈ xs, I64 x) (k : Nat) : (flat (xs.take k)).length ≤ 10 * xs.length := by
  have := flat_le (xs := xs.take k) (fun x hx => h x (List.mem_of_mem_take hx))
  rw [List.length_take] at this
  omega
theorem numL_ten {n : Int} (h : I64 n) : (numL n).length ≤ 10 := groups_ten (zz_lt h)
theorem size_strV (l : List UInt8) : (⟨l.toArray⟩ : ByteArray).size = l.length := by
  show l.toArray.size = _
  simp

set_option maxRecDepth 100000 in
set_option maxHeartbeats 1000000 in
/-- one string written behind what the writer holds -/
theorem text_any (B X : Nat) (l s : List UInt8) (w : World) (hX : X < B) (hB : B ≤ w.heap.size) (h : WrAt B X w l) (hl : l.length + s.length ≤ 140737488350000) :
    Calls Try.prog 24 #[.pointer (some ⟨X, 0, none⟩), strV s] w fun e w' => e = .returned (.tuple #[]) ∧ WrAt B X w' (l ++ textL s) ∧ But B X w w' := by
  obtain ⟨i0, hi, hz0, hz1, hz2⟩ := info_parts infoByte
  have hs64 : I64 (s.length : Int) := ⟨by omega, by omega⟩
  have C := Lib.hid (number_any B X l (s.length : Int) w hX hB h hs64 (by omega))
  have HL := Lib.hid (show (l ++ numL (s.length : Int)).length + s.length ≤ 140737488351000 by have := numL_ten hs64; rw [List.length_append]; omega)
  have HB := Lib.hid hB
  have HS := Lib.hid (size_strV s)
  have HSC := Lib.hid (strCells_bv s)
  obtain ⟨sv, hsv⟩ : ∃ sv : ByteArray, sv = ⟨s.toArray⟩ := ⟨_, rfl⟩
  unfold strV
  rw [← hsv] at HS HSC ⊢
  obtain ⟨m, hm⟩ : ∃ m, m = s.length := ⟨_, rfl⟩
  rw [← hm] at C HL HS
  have HM := Lib.hid hm
  have hms : sv.size = m := HS.out
  clear h hl hB hs64 hsv hm
  go_enter Try.func24, Try.ntmps24
  go_wp2_with fail
  refine C.out.mono ?_
  rintro e W ⟨rfl, hw, hb⟩
  obtain ⟨q, hq⟩ : ∃ q, q = l ++ numL (m : Int) := ⟨_, rfl⟩
  have HQ := Lib.hid hq
  rw [← hq] at hw HL
  obtain ⟨v, hob, hown⟩ := hw
  have hc := cell_of_one hob
  have hf := free_of_one hob
  have hXr := block_lt_of_cell hc
  have HBR := Lib.hid (Nat.le_trans HB.out hb.size)
  have HOB := Lib.hid hob
  have HOW := Lib.hid hown
  have HBU := Lib.hid hb
  clear hob hown hb hq
  go_wp2_with (at_builtin; (refine wpList_append_own_string _ rfl (.tmp 12) (.tmp 13) 25 9 rfl B 5 i0 Try.underlying25 Try.underlying9 hi hz0 hz1 hz2 v q.length _ rfl HOW.out sv rfl (by have := HL.out; have := HS.out; unfold maxLen; omega) (by have := HL.out; have := HS.out; omega) HBR.out ?_); intro v' w1 hown1 hgrow hnil; clear hnil; obtain ⟨A1, c1, rfl⟩ := row_is hown1; rw [HSC.out] at hown1; obtain ⟨hx1, hw2, hb2⟩ := wr_step (ys := s) hX HBR.out HOB.out HOW.out HBU.out (Below.refl _ _) hgrow (HS.out.trans HM.out) hown1; have hc1 := cell_of_one hx1; have hf1 := free_of_one hx1; have hz1 := block_lt_of_cell hc1; have HR := Lib.hid (And.intro hw2 hb2); clear hown1 hgrow hx1 hw2 hb2)
  rw [HS.out] at HR
  go_end0
  refine ⟨rfl, ?_, HR.out.2⟩
  have e : l ++ textL s = q ++ s := by
    unfold textL
    rw [← HM.out, HQ.out, List.append_assoc]
  rw [e]
  exact HR.out.1
end Go.Proofs.Ytldepghojmkohaa.Cod
