/- Which answer Decode gives, said once for all worlds; a decoded instruction is encoded by the bytes from which it was decoded (the law DecodeUnique). Conditions: the arguments read as forms and bytes. -/
import Derived.Deep.RegionHeld3
import Derived.Test.YtcngpciblbdgbaaGreatDoorEncP
namespace Go.Proofs.YtcngpciblbdgbaaGreatDoor
open Go Go.RowKit Go.Shelf

def DecBad (fs : List Frm) (l : List UInt8) (at_ : Int) (p i : Int) : Prop :=
  ∀ (B : Nat) (v cv : Value) (w : World), FormsAt B w v fs → BytesAt B w cv l → B ≤ w.heap.size →
    Calls Tryz.prog 62 #[v, cv, .int .i64 at_] w fun e w' => e = .returned (.tuple #[noIns, .int .i64 0, faultV (p, i)]) ∧ Below w.heap.size w w'
def DecOk (fs : List Frm) (l : List UInt8) (a k : Nat) (f : Frm) (xs : List Int) : Prop :=
  tableFault fs = (0, 0) ∧ l.length ≤ 1500 ∧ a < l.length ∧ GoodAt fs (l.drop a) k f xs
def decFault (fs : List Frm) (l : List UInt8) (at_ : Int) : Int × Int :=
  if (tableFault fs).1 ≠ 0 then tableFault fs else if 1500 < l.length then (2, -4) else if at_ < 0 ∨ (l.length : Int) ≤ at_ then (3, -5) else (0, 0)
theorem dec_cases (fs : List Frm) (l : List UInt8) (at_ : Int) : (∃ p i, p ≠ 0 ∧ decFault fs l at_ = (p, i) ∧ DecBad fs l at_ p i) ∨
    (∃ a : Nat, at_ = (a : Int) ∧ decFault fs l at_ = (0, 0) ∧ tableFault fs = (0, 0) ∧ a < l.length ∧ (¬ ∃ k f xs, GoodAt fs (l.drop a) k f xs) ∧ DecBad fs l at_ 17 a) ∨
    ∃ (a k : Nat) (f : Frm) (xs : List Int), at_ = (a : Int) ∧ decFault fs l at_ = (0, 0) ∧ DecOk fs l a k f xs := by
  rcases tableFault_cases fs with ht | ht
  · have e0 : ¬ (tableFault fs).1 ≠ 0 := by rw [ht]; decide
    by_cases hl : 1500 < l.length
    · exact .inl ⟨2, -4, by decide, by unfold decFault; rw [if_neg e0, if_pos hl], fun B v cv w h hc hB => decode_long B v cv fs l at_ w h hc hB ht hl⟩
    · by_cases hr : at_ < 0 ∨ (l.length : Int) ≤ at_
      · refine .inl ⟨3, -5, by decide, by unfold decFault; rw [if_neg e0, if_neg hl, if_pos hr], fun B v cv w h hc hB => ?_⟩
        rcases hr with hr | hr
        · exact decode_low B v cv fs l at_ w h hc hB ht (by omega) hr
        · exact decode_high B v cv fs l at_ w h hc hB ht (by omega) hr
      · have e1 : decFault fs l at_ = (0, 0) := by unfold decFault; rw [if_neg e0, if_neg hl, if_neg hr]
        obtain ⟨a, rfl⟩ : ∃ a : Nat, at_ = (a : Int) := ⟨at_.toNat, by omega⟩
        have ha : a < l.length := by omega
        by_cases hg : ∃ k f xs, GoodAt fs (l.drop a) k f xs
        · obtain ⟨k, f, xs, hg⟩ := hg
          exact .inr (.inr ⟨a, k, f, xs, rfl, e1, ht, by omega, ha, hg⟩)
        · exact .inr (.inl ⟨a, rfl, e1, ht, ha, hg, fun B v cv w h hc hB => decode_corrupt B v cv fs l a w h hc hB ht (by omega) ha hg⟩)
  · exact .inl ⟨(tableFault fs).1, (tableFault fs).2, ht, by unfold decFault; rw [if_pos ht], fun B v cv w h hc hB => decode_table B v cv fs l at_ w h hc hB ht⟩
theorem DecOk.enc {fs : List Frm} {l : List UInt8} {a k : Nat} {f : Frm} {xs : List Int} (o : DecOk fs l a k f xs) : EncOk fs k xs f := by
  obtain ⟨ht, _, _, _, g2, _, g4, g5, _⟩ := o
  exact ⟨ht, g2, by rw [g4]; simp [getL], g5⟩
theorem DecOk.calls {fs : List Frm} {l : List UInt8} {a k : Nat} {f : Frm} {xs : List Int} (o : DecOk fs l a k f xs) (B : Nat) (v cv : Value) (w : World) (h : FormsAt B w v fs) (hc : BytesAt B w cv l) (hB : B ≤ w.heap.size) :
    Calls Tryz.prog 62 #[v, cv, .int .i64 (a : Int)] w fun e w' => ∃ R, e = .returned (.tuple #[.agg #[.int .i64 (k : Int), .slice (some ⟨R, 0, none⟩) f.kinds.length f.kinds.length], .int .i64 (sizeOf f.kinds : Nat), faultV (0, 0)]) ∧
      KindsAt w'.heap.size w' (.slice (some ⟨R, 0, none⟩) f.kinds.length f.kinds.length) xs ∧ Below w.heap.size w w' := by
  have h4 := (valid_form o.1 (List.mem_of_getElem? o.enc.2.1)).short
  obtain ⟨ht, hl, ha, hg⟩ := o
  exact (decode_ok B v cv fs l a w h hc hB ht hl ha k f xs hg).mono fun e w' ⟨R, he, hr, hb⟩ => ⟨R, he, kinds_of_row hr (by omega), hb⟩

/-- a box of an instruction and a box of a fault, still there -/
theorem box2_kept {W2 W3 : World} {x y u z : Value} {t s : TypeId} (hb : Below ((W2.alloc (.cells #[x, y] t)).alloc (.cells #[u, z] s)).heap.size ((W2.alloc (.cells #[x, y] t)).alloc (.cells #[u, z] s)) W3) :
    W3.cell? ⟨W2.heap.size, 0, none⟩ = some x ∧ W3.cell? ⟨W2.heap.size, 1, none⟩ = some y ∧ W3.cell? ⟨W2.heap.size + 1, 0, none⟩ = some u ∧ Below W2.heap.size W2 W3 := by
  have h0 : Below W2.heap.size W2 ((W2.alloc (.cells #[x, y] t)).alloc (.cells #[u, z] s)) := ((Below.refl _ _).alloc (Nat.le_refl _) _).alloc (by simp) _
  have e0 : ((W2.alloc (.cells #[x, y] t)).alloc (.cells #[u, z] s)).cell? ⟨W2.heap.size, 0, none⟩ = some x := cell_alloc_l _ (by simp)
  have e1 : ((W2.alloc (.cells #[x, y] t)).alloc (.cells #[u, z] s)).cell? ⟨W2.heap.size, 1, none⟩ = some y := cell_alloc_l _ (by simp)
  have e2 : ((W2.alloc (.cells #[x, y] t)).alloc (.cells #[u, z] s)).cell? ⟨W2.heap.size + 1, 0, none⟩ = some u := by simp
  exact ⟨(hb.cell (p := ⟨W2.heap.size, 0, none⟩) (block_lt_of_cell e0)).trans e0, (hb.cell (p := ⟨W2.heap.size, 1, none⟩) (block_lt_of_cell e1)).trans e1, (hb.cell (p := ⟨W2.heap.size + 1, 0, none⟩) (block_lt_of_cell e2)).trans e2, h0.trans (hb.mono h0.size)⟩

theorem inB_true {n a b : Int} (h1 : a ≤ n) (h2 : n ≤ b) : inB n a b = true := by simp [inB, h1, h2]
theorem uniq_sums {a n sz : Nat} (hn : n ≤ 1500) (ha : a < n) (hs : sz ≤ n - a) : wrap64 ((n : Int) - (a : Int)) = (n : Int) - (a : Int) ∧ wrap64 ((a : Int) + (sz : Int)) = ((a + sz : Nat) : Int) ∧ inB (sz : Int) 0 ((n : Int) - (a : Int)) = true := by
  refine ⟨by rw [IntWalk.wrap64_in _ (by omega)], by rw [IntWalk.wrap64_in _ (by omega)]; omega, inB_true (by omega) (by omega)⟩

theorem uniq_slice {a n sz c : Nat} (hn : n ≤ 1500) (ha : a < n) (hs : sz ≤ n - a) (hc : n ≤ c) : ∃ e : Nat, wrap64 ((a : Int) + (sz : Int)) = (e : Int) ∧ a ≤ e ∧ e ≤ c ∧ ¬ c = a ∧ e - a = sz ∧ e ≤ n :=
  ⟨a + sz, (uniq_sums hn ha hs).2.1, by omega, by omega, by omega, by omega, by omega⟩

end Go.Proofs.YtcngpciblbdgbaaGreatDoor
