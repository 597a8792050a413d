/- Contracts of lead, hasSign, operand and Text: the text of an instruction. Conditions: what the listed variables of the library hold; the table reads as forms, the instruction as numbers. -/
import Derived.WalkSmall
import Derived.Lib.AppendIntMem
import Derived.Lib.ItoaLen
import Derived.Test.YtcngpciblbdgbaaGreatDoorShelf
import Derived.Test.YtcngpciblbdgbaaGreatDoorDisA
import Derived.Test.YtcngpciblbdgbaaGreatDoorEncLem
namespace Go.Proofs.YtcngpciblbdgbaaGreatDoor
open Go Go.RowKit Go.Shelf
/-! ## what the library's variables hold -/
def IsErr (ev : Value) : Prop := ev = .nilIface ∨ ∃ te pe, ev = .iface te pe
structure VarsAt (B : Nat) (w : World) : Prop where
  tab : Lib.TabIs Tryz.prog w "internal/strconv.uint64pow10" .u64 Lib.pow10Tab
  syn : ∃ ev, w.cell? ⟨4, 0, none⟩ = some ev ∧ IsErr ev
  rng : ∃ ev, w.cell? ⟨5, 0, none⟩ = some ev ∧ IsErr ev
  max : ∃ m, w.cell? ⟨0, 0, none⟩ = some (.int .i64 m)
  low : 6 ≤ B
theorem VarsAt.below {B : Nat} {w w' : World} (h : VarsAt B w) (hb : Below B w w') : VarsAt B w' := by
  obtain ⟨h1, ⟨e1, h2, h2'⟩, ⟨e2, h3, h3'⟩, ⟨m, h4⟩, h5⟩ := h
  refine ⟨?_, ⟨e1, (hb.cell (p := ⟨4, 0, none⟩) (by show 4 < B; omega)).trans h2, h2'⟩, ⟨e2, (hb.cell (p := ⟨5, 0, none⟩) (by show 5 < B; omega)).trans h3, h3'⟩, ⟨m, (hb.cell (p := ⟨0, 0, none⟩) (by show 0 < B; omega)).trans h4⟩, h5⟩
  unfold Lib.TabIs at *
  exact var?_below hb (g := 1) (by kernel_rfl) (by omega) h1
/-! ## strings -/
abbrev strV (l : List UInt8) : Value := .string ⟨l.toArray⟩
theorem ba_append (x y : List UInt8) : (⟨x.toArray⟩ : ByteArray) ++ ⟨y.toArray⟩ = ⟨(x ++ y).toArray⟩ := by
  apply ByteArray.ext
  simp
theorem lead_len (k : Int) : (leadL k).length ≤ 6 := by
  unfold leadL
  repeat' split
  all_goals decide
theorem op_len (k a : Int) (h0 : -9223372036854775808 ≤ a) (h1 : a ≤ 9223372036854775807) : (leadL k).length + (Lib.itoa a).length ≤ 9223372036854775807 ∧ (Lib.itoa a).length + 1 ≤ 9223372036854775807 ∧ (leadL k).length + ((Lib.itoa a).length + 1) ≤ 9223372036854775807 ∧ 1 + (Lib.itoa a).length ≤ 9223372036854775807 ∧ (leadL k).length + (1 + (Lib.itoa a).length) ≤ 9223372036854775807 := by
  have h2 := lead_len k
  have h3 := Lib.itoa_length_le a h0 h1
  omega
theorem lead_any (k : Int) (w : World) : Calls Tryz.prog 42 #[.int .i64 k] w fun e w' => e = .returned (strV (leadL k)) ∧ w = w' := by
  by_cases h1 : k = 1
  · subst h1
    go_enter Tryz.func42, Tryz.ntmps42
    go_wp2
    refine bodyPost_ret (v := strV (leadL 1)) (by simp [results, Tryz.results42, go_sem, leadL]) rfl ⟨rfl, rfl⟩
  by_cases h2 : k = 2
  · subst h2
    go_enter Tryz.func42, Tryz.ntmps42
    go_wp2
    refine bodyPost_ret (v := strV (leadL 2)) (by simp [results, Tryz.results42, go_sem, leadL]) rfl ⟨rfl, rfl⟩
  by_cases h5 : k = 5
  · subst h5
    go_enter Tryz.func42, Tryz.ntmps42
    go_wp2
    refine bodyPost_ret (v := strV (leadL 5)) (by simp [results, Tryz.results42, go_sem, leadL]) rfl ⟨rfl, rfl⟩
  by_cases h6 : k = 6
  · subst h6
    go_enter Tryz.func42, Tryz.ntmps42
    go_wp2
    refine bodyPost_ret (v := strV (leadL 6)) (by simp [results, Tryz.results42, go_sem, leadL]) rfl ⟨rfl, rfl⟩
  have e1 : leadL k = [] := by simp [leadL, h1, h2, h5, h6]
  rw [e1]
  have d1 : (k == 1) = false := by simpa using h1
  have d2 : (k == 2) = false := by simpa using h2
  have d5 : (k == 5) = false := by simpa using h5
  have d6 : (k == 6) = false := by simpa using h6
  go_enter Tryz.func42, Tryz.ntmps42
  go_wp2
  refine bodyPost_ret (v := strV []) (by simp [results, Tryz.results42, go_sem]) rfl ⟨rfl, rfl⟩
theorem hasSign_any (k : Int) (w : World) : Calls Tryz.prog 41 #[.int .i64 k] w fun e w' => e = .returned (.bool (signB k)) ∧ w = w' := by
  by_cases h3 : k = 3
  · subst h3
    go_enter Tryz.func41, Tryz.ntmps41
    go_wp2
    refine bodyPost_ret (v := .bool (signB 3)) (by simp [results, Tryz.results41, go_sem, signB]) rfl ⟨rfl, rfl⟩
  by_cases h5 : k = 5
  · subst h5
    go_enter Tryz.func41, Tryz.ntmps41
    go_wp2
    refine bodyPost_ret (v := .bool (signB 5)) (by simp [results, Tryz.results41, go_sem, signB]) rfl ⟨rfl, rfl⟩
  have d3 : (k == 3) = false := by simpa using h3
  have d5 : (k == 5) = false := by simpa using h5
  go_enter Tryz.func41, Tryz.ntmps41
  go_wp2
  refine bodyPost_ret (v := .bool (signB k)) (by simp [results, Tryz.results41, go_sem, signB, d3, d5]) rfl ⟨rfl, rfl⟩
theorem itoa_any (B : Nat) (n : Int) (h0 : -9223372036854775808 ≤ n) (h1 : n ≤ 9223372036854775807) (w : World) (h : VarsAt B w) : Calls Tryz.prog 40 #[.int .i64 n] w fun e w' => e = .returned (strV (Lib.itoa n)) ∧ Below w.heap.size w w' :=
  (Tryz.strconv_Itoa n h0 h1 w h.tab).mono fun e w' ⟨he, k, os, hw⟩ => ⟨he, by rw [hw]; exact Lib.below_grow _ _ (Nat.le_refl _) _ _⟩
set_option maxRecDepth 100000 in
set_option maxHeartbeats 800000 in
theorem operand_any (B : Nat) (k a : Int) (h0 : -9223372036854775808 ≤ a) (h1 : a ≤ 9223372036854775807) (w : World) (h : VarsAt B w) : Calls Tryz.prog 29 #[.int .i64 k, .int .i64 a] w fun e w' => e = .returned (strV (opT k a)) ∧ Below w.heap.size w w' := by
  have C := Lib.hid (itoa_any B a h0 h1 w h)
  obtain ⟨l1, l2, l3, l4, l5⟩ := op_len k a h0 h1
  clear h
  unfold opT numT
  cases hs : signB k with
  | false =>
    rw [if_neg (by simp)]
    go_enter Tryz.func29, Tryz.ntmps29
    go_wp2_with (first
      | (go_at_call 40; refine C.out.mono ?_; rintro e W1 ⟨rfl, hb1⟩)
      | (go_at_call 41; refine (hasSign_any _ _).mono ?_; rintro e w' ⟨rfl, rfl⟩; rw [hs])
      | (go_at_call 42; refine (lead_any _ _).mono ?_; rintro e w' ⟨rfl, rfl⟩))
    refine bodyPost_ret (v := strV (leadL k ++ Lib.itoa a)) (by simp [results, Tryz.results29, go_sem, ba_append]) rfl ⟨rfl, hb1⟩
  | true =>
    by_cases ha : 0 ≤ a
    · rw [if_pos ⟨rfl, ha⟩]
      have hd : decide (0 ≤ a) = true := by simpa using ha
      go_enter Tryz.func29, Tryz.ntmps29
      go_wp2_with (first
        | (go_at_call 40; refine C.out.mono ?_; rintro e W1 ⟨rfl, hb1⟩)
        | (go_at_call 41; refine (hasSign_any _ _).mono ?_; rintro e w' ⟨rfl, rfl⟩; rw [hs])
        | (go_at_call 42; refine (lead_any _ _).mono ?_; rintro e w' ⟨rfl, rfl⟩))
      refine bodyPost_ret (v := strV (leadL k ++ 43 :: Lib.itoa a)) ?_ rfl ⟨rfl, hb1⟩
      simp [results, Tryz.results29, go_sem, ← ba_append]
      exact ba_append [43] (Lib.itoa a)
    · rw [if_neg (by rintro ⟨_, h⟩; exact ha h)]
      have hd : ¬ 0 ≤ a := ha
      go_enter Tryz.func29, Tryz.ntmps29
      go_wp2_with (first
        | (go_at_call 40; refine C.out.mono ?_; rintro e W1 ⟨rfl, hb1⟩)
        | (go_at_call 41; refine (hasSign_any _ _).mono ?_; rintro e w' ⟨rfl, rfl⟩; rw [hs])
        | (go_at_call 42; refine (lead_any _ _).mono ?_; rintro e w' ⟨rfl, rfl⟩))
      refine bodyPost_ret (v := strV (leadL k ++ Lib.itoa a)) (by simp [results, Tryz.results29, go_sem, ba_append]) rfl ⟨rfl, hb1⟩
end Go.Proofs.YtcngpciblbdgbaaGreatDoor
