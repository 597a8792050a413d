/- A length read, a string read. Conditions: the bytes are at most 200000. -/
import Derived.Test.YtldepghojmkohaaCodJ
namespace Go.Proofs.Ytldepghojmkohaa.Cod
open Go Go.RowKit Go.Lib

/-- the length at the beginning of l, and what follows it -/
def ln (l : List UInt8) : Option (Nat × List UInt8) := match tk l with
  | none => none
  | some (n, r) => if 0 ≤ n ∧ n ≤ (r.length : Int) then some (n.toNat, r) else none
theorem ln_none {l : List UInt8} (h : tk l = none) : ln l = none := by unfold ln; rw [h]
theorem ln_off {l r : List UInt8} {n : Int} (h : tk l = some (n, r)) (hn : ¬ (0 ≤ n ∧ n ≤ (r.length : Int))) : ln l = none := by unfold ln; rw [h]; exact if_neg hn
theorem ln_some {l r : List UInt8} {n : Int} (h : tk l = some (n, r)) (hn : 0 ≤ n ∧ n ≤ (r.length : Int)) : ln l = some (n.toNat, r) := by unfold ln; rw [h]; exact if_pos hn
theorem tkT_ln (l : List UInt8) : tkT l = (ln l).map fun x => (x.2.take x.1, x.2.drop x.1) := by
  unfold tkT ln
  cases tk l with
  | none => rfl
  | some x =>
    obtain ⟨n, r⟩ := x
    dsimp only
    split <;> rfl
theorem ln_le {l r : List UInt8} {n : Nat} (h : ln l = some (n, r)) : n ≤ r.length ∧ r.length < l.length := by
  unfold ln at h
  cases ht : tk l with
  | none => rw [ht] at h; simp at h
  | some x =>
    obtain ⟨z, t⟩ := x
    rw [ht] at h
    dsimp only at h
    split at h
    · rename_i hz
      injection h with h
      injection h with h1 h2
      subst h2
      exact ⟨by omega, tk_lt ht⟩
    · simp at h
theorem RdAt.drewN {B0 X : Nat} {w : World} {l : List UInt8} (h : RdAt B0 X w l) (q : Nat) : RdAt B0 X (w.drewN q) l := h
theorem But.drewN {B X : Nat} {a w : World} (h : But B X a w) (q : Nat) : But B X a (w.drewN q) := ⟨h.os, h.tape, h.output, h.size, h.block⟩

def RdLen (B0 X : Nat) (w : World) (l : List UInt8) (e : Ending) (w' : World) : Prop :=
  But w.heap.size X w w' ∧ ((ln l = none ∧ ∃ z, e = .returned (.tuple #[.int .i64 z, .bool false])) ∨ ∃ (n : Nat) (r : List UInt8), ln l = some (n, r) ∧ e = .returned (.tuple #[.int .i64 (n : Int), .bool true]) ∧ RdAt B0 X w' r)
set_option maxRecDepth 100000 in
set_option maxHeartbeats 1000000 in
theorem length_any (B0 X : Nat) (l : List UInt8) (w : World) (hX : B0 ≤ X) (h : RdAt B0 X w l) (hl : l.length ≤ 200000) :
    Calls Try.prog 38 #[.pointer (some ⟨X, 0, none⟩)] w (RdLen B0 X w l) := by
  have C := Lib.hid (rnumber_any B0 X l w hX h hl)
  have HX := Lib.hid (lt_of_block h.choose_spec.1)
  clear h hl
  go_enter Try.func38, Try.ntmps38
  go_wp2_with fail
  refine C.out.mono ?_
  rintro e W ⟨hbut, ⟨ht, z, rfl⟩ | ⟨n, r, ht, rfl, hrd⟩⟩
  · have HT := Lib.hid ht
    have HB := Lib.hid hbut
    clear ht hbut C
    go_wp2_with fail
    go_quiet (fail)
    go_wp2_with fail
    go_ret2
    exact ⟨HB.out.drewN _, .inl ⟨ln_none HT.out, _, rfl⟩⟩
  · obtain ⟨v, hb, hby⟩ := id hrd
    obtain ⟨A, m, c, rfl, Hm, -, -⟩ := hby.opens
    have hc := cell_of_one hb
    have hXW := block_lt_of_cell hc
    have HT := Lib.hid ht
    have HB := Lib.hid hbut
    have HR := Lib.hid hrd
    clear ht hbut hb hby hrd C
    by_cases h1 : 0 ≤ n
    · by_cases h2 : n ≤ (m : Int)
      · go_wp2_with fail
        go_quiet (fail)
        go_wp2_with fail
        go_ret2
        exact ⟨HB.out.drewN _, .inr ⟨n.toNat, r, ln_some HT.out ⟨h1, by rw [Hm.out]; exact h2⟩, by rw [Int.toNat_of_nonneg h1]; rfl, HR.out.drewN _⟩⟩
      · have hd : decide (n ≤ (m : Int)) = false := by simpa using h2
        have H2 := Lib.hid h2
        clear h2
        go_wp2_with fail
        go_quiet (fail)
        go_wp2_with fail
        go_ret2
        exact ⟨HB.out.drewN _, .inl ⟨ln_off HT.out (fun h => by have h3 := H2.out; have h4 := Hm.out; have h5 := h.2; omega), _, rfl⟩⟩
    · have hd : decide (0 ≤ n) = false := by simpa using h1
      have H2 := Lib.hid h1
      clear h1
      go_wp2_with fail
      go_quiet (fail)
      go_wp2_with fail
      go_ret2
      exact ⟨HB.out.drewN _, .inl ⟨ln_off HT.out (fun h => by have h3 := H2.out; have h5 := h.1; omega), _, rfl⟩⟩

def RdText (B0 X : Nat) (w : World) (l : List UInt8) (e : Ending) (w' : World) : Prop :=
  But w.heap.size X w w' ∧ ((tkT l = none ∧ ∃ z, e = .returned (.tuple #[.string z, .bool false])) ∨ ∃ (s r : List UInt8), tkT l = some (s, r) ∧ e = .returned (.tuple #[strV s, .bool true]) ∧ RdAt B0 X w' r)
theorem BytesAt.take {B b o n c k : Nat} {w : World} {l : List UInt8} (h : BytesAt B w (.slice (some ⟨b, o, none⟩) n c) l) (hk : k ≤ n) : BytesAt B w (.slice (some ⟨b, o, none⟩) k c) (l.take k) := by
  obtain ⟨A, c', e, ⟨h1, h2⟩, h3⟩ := h
  injection e with e1 e2 e3
  subst e1
  subst e3
  have hl : (l.take k).length = k := by rw [List.length_take]; omega
  refine ⟨_, c, by rw [hl], ⟨by omega, by omega⟩, fun hp => ?_⟩
  obtain ⟨b', o', e, hb, hc⟩ := h3 (by omega)
  refine ⟨b', o', e, hb, fun j hj => ?_⟩
  rw [List.getElem?_take, if_pos (by omega)]
  exact hc j (by omega)
theorem bytes_empty {B c : Nat} {w : World} {A : Option Addr} {l : List UInt8} (hl : l = []) : BytesAt B w (.slice A 0 c) l := by
  subst hl
  exact ⟨A, c, rfl, ⟨by simp, Nat.zero_le _⟩, fun h => absurd h (by simp)⟩
set_option maxRecDepth 100000 in
set_option maxHeartbeats 1000000 in
theorem rtext_any (B0 X : Nat) (l : List UInt8) (w : World) (hX : B0 ≤ X) (h : RdAt B0 X w l) (hl : l.length ≤ 200000) :
    Calls Try.prog 31 #[.pointer (some ⟨X, 0, none⟩)] w (RdText B0 X w l) := by
  have C := Lib.hid (length_any B0 X l w hX h hl)
  have HL := Lib.hid hl
  clear h hl
  go_enter Try.func31, Try.ntmps31
  go_wp2_with fail
  refine C.out.mono ?_
  rintro e W ⟨hbut, ⟨ht, z, rfl⟩ | ⟨n, r, ht, rfl, hrd⟩⟩
  · have HT := Lib.hid (show tkT l = none by rw [tkT_ln, ht]; rfl)
    have HB := Lib.hid hbut
    clear ht hbut C
    go_wp2_with fail
    go_ret2
    exact ⟨HB.out, .inl ⟨HT.out, _, rfl⟩⟩
  · have HT := Lib.hid (show tkT l = some (r.take n, r.drop n) by rw [tkT_ln, ht]; rfl)
    have hle := ln_le ht
    obtain ⟨v, hb, hby⟩ := id hrd
    obtain ⟨A, m, c, rfl, Hm, ⟨-, hmc⟩, Hc⟩ := hby.opens
    have hc := cell_of_one hb
    have hf := free_of_one hb
    have hXW := block_lt_of_cell hc
    have hnm : n ≤ m := by rw [← Hm.out]; exact hle.1
    have hm2 : m ≤ 200000 := by rw [← Hm.out]; have := HL.out; omega
    have HB := Lib.hid hbut
    have HO := Lib.hid hb
    have HBY := Lib.hid hby
    clear ht hbut hb hby hrd C hle
    by_cases hm0 : m = 0
    · subst hm0
      obtain rfl : n = 0 := by omega
      have k1 := conv_bytes (bytes_empty (B := B0) (w := W) (A := A) (c := c) (l := r.take 0) rfl)
      rw [List.take_zero] at k1 HT
      cases A with
      | none =>
        go_wp2_with fail
        go_ret2
        exact ⟨HB.out.setX 0 _, .inr ⟨_, _, HT.out, rfl, _, one_setCell HO.out, (bytes_empty (by rw [List.drop_zero]; exact List.eq_nil_of_length_eq_zero Hm.out)).below ((Below.refl _ _).setCell hX _)⟩⟩
      | some ad =>
        rcases Nat.eq_zero_or_pos c with rfl | hc0
        · go_wp2_with fail
          go_ret2
          exact ⟨HB.out.setX 0 _, .inr ⟨_, _, HT.out, rfl, _, one_setCell HO.out, (bytes_empty (by rw [List.drop_zero]; exact List.eq_nil_of_length_eq_zero Hm.out)).below ((Below.refl _ _).setCell hX _)⟩⟩
        · go_wp2_with fail
          go_ret2
          exact ⟨HB.out.setX 0 _, .inr ⟨_, _, HT.out, rfl, _, one_setCell HO.out, (bytes_empty (by rw [List.drop_zero]; exact List.eq_nil_of_length_eq_zero Hm.out)).below ((Below.refl _ _).setCell hX _)⟩⟩
    · obtain ⟨b1, o1, rfl, hb1, -⟩ := Hc.out (by omega)
      have k1 := conv_bytes (HBY.out.take hnm)
      rcases Nat.lt_or_ge n c with hcc | hcc
      · go_wp2_with fail
        go_ret2
        exact ⟨HB.out.setX 0 _, .inr ⟨_, _, HT.out, rfl, _, one_setCell HO.out, (bytes_drop HBY.out hnm).below ((Below.refl _ _).setCell hX _)⟩⟩
      · obtain rfl : n = c := by omega
        obtain rfl : n = m := by omega
        go_wp2_with fail
        go_ret2
        exact ⟨HB.out.setX 0 _, .inr ⟨_, _, HT.out, rfl, _, one_setCell HO.out, (bytes_none (by rw [Hm.out]; exact Nat.le_refl _)).below ((Below.refl _ _).setCell hX _)⟩⟩
end Go.Proofs.Ytldepghojmkohaa.Cod
