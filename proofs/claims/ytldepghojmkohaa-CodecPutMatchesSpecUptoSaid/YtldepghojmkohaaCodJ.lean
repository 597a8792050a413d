/- The reader: what it holds; a number without sign told as a number; one number read. Conditions: the bytes are at most 200000. -/
import Derived.Test.YtldepghojmkohaaCodI
namespace Go.Proofs.Ytldepghojmkohaa.Cod
open Go Go.RowKit Go.Lib

/-- the reader at block X still has to read the bytes l, which lie below block B0 -/
def RdAt (B0 X : Nat) (w : World) (l : List UInt8) : Prop := ∃ v, w.heap[X]? = some (.cells #[v] 57 (0, 0)) ∧ BytesAt B0 w v l

theorem ret_i64 {a b : Int} (h : a = b) : Ending.returned (.int .i64 a) = .returned (.int .i64 b) := by rw [h]
set_option maxHeartbeats 400000 in
theorem signed_any (u : Nat) (w : World) (h : u < 18446744073709551616) : Calls Try.prog 36 #[.int .u64 (u : Int)] w fun e w' => e = .returned (.int .i64 (unzz u)) ∧ w = w' := by
  have hx := i64_not ((u / 2 : Nat) : Int) ⟨by omega, by omega⟩
  have hz : unzz u = if u % 2 = 1 then -((u / 2 : Nat) : Int) - 1 else ((u / 2 : Nat) : Int) := rfl
  by_cases hn : u % 2 = 1
  · rw [if_pos hn] at hz
    have hd : ((u : Int) % 2 == 1) = true := by simp; omega
    have HZ := Lib.hid hz
    have HX := Lib.hid hx
    clear hz hx hn
    go_enter Try.func36, Try.ntmps36
    go_wp2
    go_ret
    exact ⟨ret_i64 (by rw [HZ.out]; rw [show ((u / 2 : Nat) : Int) = (u : Int) / 2 by omega] at HX ⊢; exact HX.out), rfl⟩
  · rw [if_neg hn] at hz
    have hd : ((u : Int) % 2 == 1) = false := by simp; omega
    have HZ := Lib.hid hz
    have HX := Lib.hid hx
    clear hz hx hn
    go_enter Try.func36, Try.ntmps36
    go_wp2
    go_ret
    exact ⟨ret_i64 (by rw [HZ.out]; omega), rfl⟩

/-! ## the shifts of a round -/
theorem pow128 (k : Nat) : 2 ^ (7 * k) = 128 ^ k := by rw [Nat.pow_mul]
theorem shl_fits {b k : Nat} (h : b * 128 ^ k < 18446744073709551616) : IntKind.u64.wrap ((b : Int) * 2 ^ min (7 * k) 64) = ((b * 128 ^ k : Nat) : Int) := by
  by_cases hk : k ≤ 9
  · rw [Nat.min_eq_left (by omega)]
    have e : (b : Int) * 2 ^ (7 * k) = ((b * 128 ^ k : Nat) : Int) := by rw [← pow128]; simp
    rw [e]
    exact IntWalk.u64_in _ (by omega)
  · have := pow_ten (k := k) (by omega)
    have hb : b = 0 := by
      cases b with
      | zero => rfl
      | succ b =>
        have : 128 ^ k ≤ (b + 1) * 128 ^ k := Nat.le_mul_of_pos_left _ (by omega)
        omega
    subst hb
    rw [Nat.zero_mul]
    simp [IntKind.wrap, IntKind.bits, IntKind.signed]
theorem shr_fits {b k : Nat} (h : b * 128 ^ k < 18446744073709551616) : (IntKind.u64.wrap ((b : Int) * 2 ^ min (7 * k) 64) / 2 ^ min (7 * k) 64 != (b : Int)) = false := by
  rw [shl_fits h]
  have e : ((b * 128 ^ k : Nat) : Int) / 2 ^ min (7 * k) 64 = (b : Int) := by
    by_cases hk : k ≤ 9
    · rw [Nat.min_eq_left (by omega)]
      have e : (2 : Int) ^ (7 * k) = ((128 ^ k : Nat) : Int) := by rw [← pow128]; simp
      rw [e, ← Int.natCast_ediv, Nat.mul_div_cancel _ (Nat.pow_pos (by decide))]
    · have := pow_ten (k := k) (by omega)
      have hb : b = 0 := by
        cases b with
        | zero => rfl
        | succ b =>
          have : 128 ^ k ≤ (b + 1) * 128 ^ k := Nat.le_mul_of_pos_left _ (by omega)
          omega
      subst hb
      simp
  rw [e]
  simp
theorem shr_lost {b k : Nat} (h : 18446744073709551616 ≤ b * 128 ^ k) : (IntKind.u64.wrap ((b : Int) * 2 ^ min (7 * k) 64) / 2 ^ min (7 * k) 64 != (b : Int)) = true := by
  have hb : 0 < b := by
    cases b with
    | zero => rw [Nat.zero_mul] at h; omega
    | succ b => omega
  have hne : IntKind.u64.wrap ((b : Int) * 2 ^ min (7 * k) 64) / 2 ^ min (7 * k) 64 ≠ (b : Int) := by
    by_cases hk : k ≤ 9
    · rw [Nat.min_eq_left (by omega)]
      have e : (b : Int) * 2 ^ (7 * k) = ((b * 128 ^ k : Nat) : Int) := by rw [← pow128]; simp
      have e2 : (2 : Int) ^ (7 * k) = ((128 ^ k : Nat) : Int) := by rw [← pow128]; simp
      have e3 : IntKind.u64.wrap ((b * 128 ^ k : Nat) : Int) = ((b * 128 ^ k % 18446744073709551616 : Nat) : Int) := by simp [IntKind.wrap, IntKind.bits, IntKind.signed]
      rw [e, e2, e3, ← Int.natCast_ediv]
      intro hc
      have hc' : b * 128 ^ k % 18446744073709551616 / 128 ^ k = b := by omega
      have h1 := Nat.div_mul_le_self (b * 128 ^ k % 18446744073709551616) (128 ^ k)
      rw [hc'] at h1
      have h2 := Nat.mod_lt (b * 128 ^ k) (show 0 < 18446744073709551616 by decide)
      omega
    · rw [Nat.min_eq_right (by omega)]
      have e : IntKind.u64.wrap ((b : Int) * 2 ^ 64) = 0 := by
        simp [IntKind.wrap, IntKind.bits, IntKind.signed]
      rw [e]
      simp
      omega
  simpa using hne
theorem or_group {x b k : Nat} (hx : x < 128 ^ k) (hx2 : x < 18446744073709551616) (h : b * 128 ^ k < 18446744073709551616) : bits .or .u64 (x : Int) (IntKind.u64.wrap ((b : Int) * 2 ^ min (7 * k) 64)) = ((x + b * 128 ^ k : Nat) : Int) := by
  rw [shl_fits h, u64_or_nat x _ hx2 h, Nat.or_comm, nat_join (7 * k) _ _ (by rw [pow128]; simp) (by rw [pow128]; exact hx), Nat.add_comm]
theorem or_none {x : Nat} (hx2 : x < 18446744073709551616) : bits .or .u64 (x : Int) 0 = (x : Int) := by
  have := u64_or_nat x 0 hx2 (by decide)
  rw [Nat.or_zero] at this
  exact this
theorem drop_at {l : List UInt8} {k : Nat} (h : k < l.length) : l.drop k = (l[k]?.getD 0) :: l.drop (k + 1) := by
  rw [List.drop_eq_getElem_cons h, List.getElem?_eq_getElem h]
  rfl
theorem bytes_drop {B b o n c j : Nat} {w : World} {l : List UInt8} (h : BytesAt B w (.slice (some ⟨b, o, none⟩) n c) l) (hj : j ≤ n) : BytesAt B w (.slice (some ⟨b, o + j, none⟩) (n - j) (c - j)) (l.drop j) := by
  obtain ⟨A, c', e, ⟨h1, h2⟩, h3⟩ := h
  injection e with e1 e2 e3
  subst e1
  subst e3
  have hl : (l.drop j).length = n - j := by rw [List.length_drop]; omega
  refine ⟨_, c - j, by rw [hl], ⟨by omega, by omega⟩, fun hp => ?_⟩
  obtain ⟨b', o', e, hb, hc⟩ := h3 (by omega)
  injection e with e
  injection e with e4 e5
  subst e4
  subst e5
  refine ⟨b, o + j, rfl, hb, fun i hi => ?_⟩
  rw [List.getElem?_drop, Nat.add_assoc]
  exact hc (j + i) (by omega)
theorem bytes_none {B m : Nat} {w : World} {A : Option Addr} {l : List UInt8} (hl : l.length ≤ m) : BytesAt B w (.slice A 0 0) (l.drop m) := by
  rw [List.drop_of_length_le hl]
  exact ⟨A, 0, rfl, ⟨by simp, Nat.le_refl _⟩, fun h => absurd h (by simp)⟩

/-- what a number's reading answers, and leaves -/
def RdNum (B0 X : Nat) (w : World) (l : List UInt8) (e : Ending) (w' : World) : Prop :=
  But w.heap.size X w w' ∧ ((tk l = none ∧ ∃ z, e = .returned (.tuple #[.int .i64 z, .bool false])) ∨ ∃ n r, tk l = some (n, r) ∧ e = .returned (.tuple #[.int .i64 n, .bool true]) ∧ RdAt B0 X w' r)
theorem tk_of {l : List UInt8} {r : Option (Nat × List UInt8)} (h : readU 0 0 l = r) : tk l = r.map fun x => (unzz x.1, x.2) := by unfold tk; rw [h]

set_option maxRecDepth 100000 in
set_option maxHeartbeats 1000000 in
theorem rnumber_any (B0 X : Nat) (l : List UInt8) (w : World) (hX : B0 ≤ X) (h : RdAt B0 X w l) (hl : l.length ≤ 200000) :
    Calls Try.prog 28 #[.pointer (some ⟨X, 0, none⟩)] w (RdNum B0 X w l) := by
  obtain ⟨v, hb, hby⟩ := h
  obtain ⟨A, n, c, rfl, Hn, ⟨hn, hcap⟩, Hc⟩ := hby.opens
  have hc := cell_of_one hb
  have hf := free_of_one hb
  have hXw := block_lt_of_cell hc
  have hn2 : n ≤ 200000 := by rw [← Hn.out]; exact hl
  have HBY := Lib.hid hby
  have HB := Lib.hid hb
  clear hb hby hl hn
  go_enter Try.func28, Try.ntmps28
  go_wp2_with fail
  go_loop [4, 15] (fun u i => ∃ k x : Nat, i = .int .i64 (k : Int) ∧ u = .int .u64 (x : Int) ∧ k ≤ n ∧ x < 18446744073709551616 ∧ Hid (x < 128 ^ k ∧ readU 0 0 l = readU k x (l.drop k))) (fun _ i => n - (intOf i).toNat)
  case atStart => exact ⟨0, 0, rfl, rfl, Nat.zero_le _, by omega, Lib.hid ⟨by simp, rfl⟩⟩
  case round =>
    obtain ⟨k, x, rfl, rfl, hk, hx, H⟩ := hrel
    by_cases hlt : k < n
    · obtain ⟨b1, o1, rfl, hb1, g1⟩ := Hc.out (by omega)
      have hd := g1 k hlt
      have HD := Lib.hid (drop_at (l := l) (k := k) (by rw [Hn.out]; exact hlt))
      obtain ⟨g, hg⟩ : ∃ g : Nat, g = (l[k]?.getD 0).toNat := ⟨_, rfl⟩
      have hg8 : g < 256 := by rw [hg]; exact UInt8.toNat_lt _
      have HR : Hid (readU 0 0 l = if 18446744073709551616 ≤ g % 128 * 128 ^ k then none else if g < 128 then (if g % 128 = 0 ∧ 0 < k then none else some (x + g % 128 * 128 ^ k, l.drop (k + 1))) else readU (k + 1) (x + g % 128 * 128 ^ k) (l.drop (k + 1))) := by
        rw [H.out.2, HD.out, hg]
        rfl
      rw [← hg] at hd
      clear g1 hg HD
      have h7 : (0 : Int) ≤ 7 * (k : Int) := by omega
      by_cases hfit : g % 128 * 128 ^ k < 18446744073709551616
      · have hne := shr_fits hfit
        have HOR := Lib.hid (or_group H.out.1 hx hfit)
        have HST := Lib.hid (readU_step hx H.out.1 (b := g % 128) (by omega) hfit)
        rw [show ((g % 128 : Nat) : Int) = (g : Int) % 128 by omega] at hne HOR
        have HFI := Lib.hid hfit
        clear hfit
        by_cases hg7 : g < 128
        · have hk1 : k + 1 ≤ n := hlt
          rcases Nat.lt_or_ge (k + 1) c with hcc | hcc
          · by_cases h0 : (g : Int) % 128 = 0
            · go_wp2_with fail
              rw [or_none hx]
              refine (signed_any x _ hx).mono ?_
              rintro e W ⟨rfl, rfl⟩
              go_wp2_with fail
              go_ret2
              have hrd : RdAt B0 X (w.setCell ⟨X, 0, none⟩ (.slice (some ⟨b1, o1 + (k + 1), none⟩) (n - (k + 1)) (c - (k + 1)))) (l.drop (k + 1)) := ⟨_, one_setCell HB.out, (bytes_drop HBY.out hk1).below ((Below.refl _ _).setCell hX _)⟩
              refine ⟨(But.refl _ _ _).setX 0 _, ?_⟩
              have hg0 : g % 128 = 0 := by omega
              by_cases hk0 : 0 < k
              · exact .inl ⟨tk_of (r := none) (HR.out.trans (by rw [if_neg (by have := HFI.out; omega), if_pos hg7, if_pos ⟨hg0, hk0⟩])), unzz x, by simp [hk0]⟩
              · exact .inr ⟨unzz x, _, tk_of (r := some (x, l.drop (k + 1))) (HR.out.trans (by rw [if_neg (by have := HFI.out; omega), if_pos hg7, if_neg (fun h => hk0 h.2), hg0, Nat.zero_mul, Nat.add_zero])), by simp [hk0], hrd⟩
            · go_wp2_with fail
              rw [HOR.out]
              refine (signed_any _ _ HST.out.1).mono ?_
              rintro e W ⟨rfl, rfl⟩
              go_wp2_with fail
              go_ret2
              have hrd : RdAt B0 X (w.setCell ⟨X, 0, none⟩ (.slice (some ⟨b1, o1 + (k + 1), none⟩) (n - (k + 1)) (c - (k + 1)))) (l.drop (k + 1)) := ⟨_, one_setCell HB.out, (bytes_drop HBY.out hk1).below ((Below.refl _ _).setCell hX _)⟩
              refine ⟨(But.refl _ _ _).setX 0 _, ?_⟩
              have hg0 : ¬ g % 128 = 0 := by omega
              exact .inr ⟨_, _, tk_of (r := some (x + g % 128 * 128 ^ k, l.drop (k + 1))) (HR.out.trans (by rw [if_neg (by have := HFI.out; omega), if_pos hg7, if_neg (fun h => hg0 h.1)])), rfl, hrd⟩
          · obtain rfl : c = k + 1 := by omega
            by_cases h0 : (g : Int) % 128 = 0
            · go_wp2_with fail
              rw [or_none hx]
              refine (signed_any x _ hx).mono ?_
              rintro e W ⟨rfl, rfl⟩
              go_wp2_with fail
              go_ret2
              have hrd : RdAt B0 X (w.setCell ⟨X, 0, none⟩ (.slice (some ⟨b1, o1, none⟩) 0 0)) (l.drop (k + 1)) := ⟨_, one_setCell HB.out, (bytes_none (by rw [Hn.out]; omega)).below ((Below.refl _ _).setCell hX _)⟩
              refine ⟨(But.refl _ _ _).setX 0 _, ?_⟩
              have hg0 : g % 128 = 0 := by omega
              by_cases hk0 : 0 < k
              · exact .inl ⟨tk_of (r := none) (HR.out.trans (by rw [if_neg (by have := HFI.out; omega), if_pos hg7, if_pos ⟨hg0, hk0⟩])), unzz x, by simp [hk0]⟩
              · exact .inr ⟨unzz x, _, tk_of (r := some (x, l.drop (k + 1))) (HR.out.trans (by rw [if_neg (by have := HFI.out; omega), if_pos hg7, if_neg (fun h => hk0 h.2), hg0, Nat.zero_mul, Nat.add_zero])), by simp [hk0], hrd⟩
            · go_wp2_with fail
              rw [HOR.out]
              refine (signed_any _ _ HST.out.1).mono ?_
              rintro e W ⟨rfl, rfl⟩
              go_wp2_with fail
              go_ret2
              have hrd : RdAt B0 X (w.setCell ⟨X, 0, none⟩ (.slice (some ⟨b1, o1, none⟩) 0 0)) (l.drop (k + 1)) := ⟨_, one_setCell HB.out, (bytes_none (by rw [Hn.out]; omega)).below ((Below.refl _ _).setCell hX _)⟩
              refine ⟨(But.refl _ _ _).setX 0 _, ?_⟩
              have hg0 : ¬ g % 128 = 0 := by omega
              exact .inr ⟨_, _, tk_of (r := some (x + g % 128 * 128 ^ k, l.drop (k + 1))) (HR.out.trans (by rw [if_neg (by have := HFI.out; omega), if_pos hg7, if_neg (fun h => hg0 h.1)])), rfl, hrd⟩
        · go_wp2_with fail
          go_round
          case rel => exact ⟨k + 1, x + g % 128 * 128 ^ k, by go_num, by rw [HOR.out], by omega, HST.out.1, Lib.hid ⟨HST.out.2, by rw [HR.out, if_neg (by have := HFI.out; omega), if_neg hg7]⟩⟩
          case measure => simp [intOf]; omega
      · have hne := shr_lost (Nat.not_lt.1 hfit)
        rw [show ((g % 128 : Nat) : Int) = (g : Int) % 128 by omega] at hne
        have HN := Lib.hid (tk_of (r := none) (HR.out.trans (if_pos (Nat.not_lt.1 hfit))))
        clear hfit
        go_wp2_with fail
        go_ret2
        exact ⟨But.refl _ _ _, .inl ⟨HN.out, _, rfl⟩⟩
    · obtain rfl : k = n := by omega
      have HN := Lib.hid (tk_of (r := none) (H.out.2.trans (by rw [List.drop_of_length_le (by rw [Hn.out]; omega)]; rfl)))
      go_wp2_with fail
      go_ret2
      exact ⟨But.refl _ _ _, .inl ⟨HN.out, _, rfl⟩⟩
end Go.Proofs.Ytldepghojmkohaa.Cod
