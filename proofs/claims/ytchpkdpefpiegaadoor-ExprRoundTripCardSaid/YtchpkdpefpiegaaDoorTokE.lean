/- Contract of the reference's Denoted: the number that a string denotes. Conditions: a string is not longer than a string may be. -/
import Derived.IntWalk
import Derived.Test.YtchpkdpefpiegaaDoorTokD
namespace Go.Proofs.YtchpkdpefpiegaaDoor.Tok
open Go Go.RowKit

theorem pu_ok_step {b acc : Nat} {c : UInt8} {r : List UInt8} (h0 : 0 ≤ hexB c) (h1 : hexB c < b) (h2 : acc * b + (hexB c).toNat ≤ 4294967295) : pu b acc (c :: r) = pu b (acc * b + (hexB c).toNat) r := by
  rw [pu, if_pos ⟨h0, h1⟩, if_neg (by omega)]
theorem pu_big {b acc : Nat} {c : UInt8} {r : List UInt8} (h0 : 0 ≤ hexB c) (h1 : hexB c < b) (h2 : 4294967295 < acc * b + (hexB c).toNat) : pu b acc (c :: r) = .inr true := by
  rw [pu, if_pos ⟨h0, h1⟩, if_pos h2]
theorem pu_bad {b acc : Nat} {c : UInt8} {r : List UInt8} (h : ¬ (0 ≤ hexB c ∧ hexB c < b)) : pu b acc (c :: r) = .inr false := by rw [pu, if_neg h]
theorem drop_at {l : List UInt8} {k : Nat} (h : k < l.length) : l.drop k = l[k] :: l.drop (k + 1) := List.drop_eq_getElem_cons h
/-- the cases of num: base 16 -/
theorem num_hex {l : List UInt8} (h : hexed l = true) (h2 : 2 < l.length) : num l = okOf (pu 16 0 (l.drop 2)) := by
  have : l.drop 2 ≠ [] := by intro e; have := congrArg List.length e; rw [List.length_drop] at this; simp at this; omega
  unfold num puAll
  rw [if_pos h, if_neg this]
theorem num_x {l : List UInt8} (h : hexed l = true) (h2 : l.length ≤ 2) : num l = none := by
  have : l.drop 2 = [] := by rw [List.drop_eq_nil_iff]; exact h2
  unfold num puAll
  rw [if_pos h, if_pos this]
  rfl
theorem num_dec {l : List UInt8} (h : hexed l = false) (h0 : l ≠ []) (h1 : ¬ (1 < l.length ∧ l[0]? = some 48)) : num l = okOf (pu 10 0 l) := by
  unfold num puAll
  rw [if_neg (by simp [h]), if_neg h1, if_neg h0]
theorem num_lead {l : List UInt8} (h : hexed l = false) (h1 : 1 < l.length ∧ l[0]? = some 48) : num l = none := by
  unfold num
  rw [if_neg (by simp [h]), if_pos h1]
theorem num_nil : num [] = none := by decide
/-- what Denoted answers, with the world as it was but for draws -/
def DenPost (l : List UInt8) (w : World) (e : Ending) (w' : World) : Prop :=
  ((∃ v, num l = some v ∧ e = .returned (.tuple #[.int .i64 (v : Int), .bool true])) ∨ (num l = none ∧ ∃ x : Int, e = .returned (.tuple #[.int .i64 x, .bool false]))) ∧ ∃ q, w' = w.drewN q
theorem den_no {l : List UInt8} {w : World} {x : Int} (h : num l = none) : DenPost l w (.returned (.tuple #[.int .i64 x, .bool false])) w := ⟨.inr ⟨h, x, rfl⟩, 0, (World.drewN_zero _).symm⟩
theorem okOf_bad {b : Nat} {l : List UInt8} {x : Nat ⊕ Bool} (h : pu b 0 l = x) (hx : ∀ n, x ≠ .inl n) : okOf (pu b 0 l) = none := by
  rw [h]
  cases x with
  | inl n => exact absurd rfl (hx n)
  | inr b => rfl
theorem okOf_ok {b n : Nat} {l : List UInt8} (h : pu b 0 l = .inl n) : okOf (pu b 0 l) = some n := by rw [h]; rfl
set_option maxHeartbeats 1000000 in
theorem den_hex (s : ByteArray) (w : World) (hs : s.size ≤ 9223372036854775806) (h2 : 2 < s.size) (hx : hexed s.data.toList = true) (h48 : s[0] = 48) (h120 : s[1] = 120) :
    Calls Tryd.prog 52 #[.string s] w (DenPost s.data.toList w) := by
  have HNum := Lib.hid (num_hex hx (by simpa using h2))
  clear hx
  go_enter Tryd.func52, Tryd.ntmps52
  go_wp2
  go_loop [6, 7] (fun n i => ∃ (k : Nat) (acc : Nat) (a : Int), n = .int .i64 a ∧ i = .int .i64 k ∧ 2 ≤ k ∧ k ≤ s.size ∧ Hid (a = (acc : Int) ∧ acc ≤ 4294967295 ∧ pu 16 0 (s.data.toList.drop 2) = pu 16 acc (s.data.toList.drop k))) (fun _ i => s.size - (intOf i).toNat)
  case atStart => exact ⟨2, 0, 0, rfl, rfl, by omega, by omega, Lib.hid ⟨rfl, by omega, rfl⟩⟩
  case round =>
    obtain ⟨k, acc, a, rfl, rfl, hk0, hk, HA⟩ := hrel
    obtain ⟨ha, hacc, hdec⟩ := HA.out
    have a0 : 0 ≤ a := by omega
    have a1 : a ≤ 4294967295 := by omega
    by_cases hlt : k < s.size
    · have hdr : s.data.toList.drop k = s[k] :: s.data.toList.drop (k + 1) := drop_at (by simpa using hlt)
      rw [hdr] at hdec
      have hx := hex_lt s[k]
      obtain ⟨hx1, hx2⟩ := hx
      have HC := Lib.hid (rdigit_any s[k])
      have HD := Lib.hid hdec
      have HE := Lib.hid ha
      clear HA hdr hdec ha
      obtain ⟨d, hd⟩ : ∃ d, d = hexB s[k] := ⟨_, rfl⟩
      by_cases hb : 0 ≤ hexB s[k] ∧ hexB s[k] < 16
      · obtain ⟨hb0, hb1⟩ := hb
        by_cases hov : acc * 16 + (hexB s[k]).toNat ≤ 4294967295
        · have HN := Lib.hid (show a * 16 + d = ((acc * 16 + (hexB s[k]).toNat : Nat) : Int) ∧ acc * 16 + (hexB s[k]).toNat ≤ 4294967295 ∧ pu 16 0 (s.data.toList.drop 2) = pu 16 (acc * 16 + (hexB s[k]).toNat) (s.data.toList.drop (k + 1)) from ⟨by have := HE.out; omega, hov, HD.out.trans (pu_ok_step hb0 hb1 hov)⟩)
          have hov2 : a * 16 + d < 4294967296 := by have := HE.out; omega
          rw [← hd] at hb0 hb1 hx1 hx2 HC HN
          have hb0' : decide (d < 0) = false := decide_eq_false (by omega)
          clear hd hov hacc HD HE
          go_wp2_with (go_at_call 76; refine (HC.out _).mono ?_; rintro e w' ⟨rfl, rfl⟩)
          go_round
          case rel => exact ⟨k + 1, _, _, rfl, by go_num, by omega, by omega, HN⟩
          case measure => simp [intOf]; omega
        · have HN := Lib.hid (HD.out.trans (pu_big hb0 hb1 (by omega)))
          have hov2 : 4294967296 ≤ a * 16 + d := by have := HE.out; omega
          rw [← hd] at hb0 hb1 hx1 hx2 HC
          clear hd hov hacc HD HE
          go_wp2_with (go_at_call 76; refine (HC.out _).mono ?_; rintro e w' ⟨rfl, rfl⟩)
          go_ret2
          exact den_no (HNum.out.trans (okOf_bad HN.out (fun n h => by cases h)))
      · have HN := Lib.hid (HD.out.trans (pu_bad hb))
        rw [← hd] at hb hx1 hx2 HC
        clear hd hacc HD HE
        by_cases hb0 : d < 0
        · clear hb
          go_wp2_with (go_at_call 76; refine (HC.out _).mono ?_; rintro e w' ⟨rfl, rfl⟩)
          go_ret2
          exact den_no (HNum.out.trans (okOf_bad HN.out (fun n h => by cases h)))
        · have hb1 : 16 ≤ d := by omega
          clear hb
          go_wp2_with (go_at_call 76; refine (HC.out _).mono ?_; rintro e w' ⟨rfl, rfl⟩)
          go_ret2
          exact den_no (HNum.out.trans (okOf_bad HN.out (fun n h => by cases h)))
    · obtain rfl : k = s.size := by omega
      rw [show s.data.toList.drop s.size = [] from List.drop_eq_nil_of_le (by simp), pu] at hdec
      have HN := Lib.hid hdec
      have HE := Lib.hid ha
      clear HA hdec ha
      go_wp2
      go_quiet (fail)
      go_wp2
      go_ret2
      exact ⟨.inl ⟨acc, HNum.out.trans (okOf_ok HN.out), by rw [HE.out]; rfl⟩, _, rfl⟩
theorem byte_ne {c : UInt8} {n : Nat} (h : c ≠ UInt8.ofNat n) : ((c.toNat : Int) == (n : Int)) = false := by
  rw [beq_eq_false_iff_ne]
  intro e
  apply h
  have : c.toNat = n := by exact_mod_cast e
  rw [← this]
  simp
theorem ne48 {c : UInt8} (h : c ≠ 48) : (((c).toNat : Int) != 48) = true := by
  have := byte_ne (n := 48) h
  unfold bne
  rw [show ((c.toNat : Int) == 48) = false from this]
  rfl
theorem len_data (s : ByteArray) : s.data.toList.length = s.size := by simp
theorem ne_nil_of {s : ByteArray} (h : 0 < s.size) : s.data.toList ≠ [] := by
  intro e
  have h2 : s.data.toList.length = 0 := by rw [e]; rfl
  rw [len_data] at h2
  omega
theorem num_dec_bad {l : List UInt8} (h : hexed l = false ∨ l.length ≤ 2) (hb : okOf (pu 10 0 l) = none) : num l = none := by
  cases hx : hexed l with
  | true => exact num_x hx (by rcases h with h | h; · rw [hx] at h; cases h
                               · exact h)
  | false =>
    by_cases h0 : l = []
    · rw [h0]; exact num_nil
    · by_cases h1 : 1 < l.length ∧ l[0]? = some 48
      · exact num_lead hx h1
      · rw [num_dec hx h0 h1]; exact hb
theorem num_zero {l : List UInt8} (h : hexed l = false ∨ l.length ≤ 2) (h1 : 1 < l.length ∧ l[0]? = some 48) : num l = none := by
  cases hx : hexed l with
  | true => exact num_x hx (by rcases h with h | h; · rw [hx] at h; cases h
                               · exact h)
  | false => exact num_lead hx h1
theorem hexed_head {l : List UInt8} (h : hexed l = true) : 1 < l.length ∧ l[0]? = some 48 ∧ l[1]? = some 120 := by
  cases l with
  | nil => simp [hexed, Lib.hasPrefix] at h
  | cons c r =>
    cases r with
    | nil => simp [hexed, Lib.hasPrefix] at h
    | cons d r => simp [hexed, Lib.hasPrefix] at h; exact ⟨by simp, by simp [h.1], by simp [h.2]⟩
theorem num_good {l : List UInt8} {v : Nat} (h0 : l ≠ []) (h1 : ¬ (1 < l.length ∧ l[0]? = some 48)) (h : pu 10 0 l = .inl v) : num l = some v := by
  cases hx : hexed l with
  | true => exact absurd ⟨(hexed_head hx).1, (hexed_head hx).2.1⟩ h1
  | false => rw [num_dec hx h0 h1, h]; rfl
theorem at_zero {s : ByteArray} (h : 0 < s.size) : s.data.toList[0]? = some s[0] := by
  rw [List.getElem?_eq_getElem (by simpa using h)]
  rfl
theorem at_one {s : ByteArray} (h : 1 < s.size) : s.data.toList[1]? = some s[1] := by
  rw [List.getElem?_eq_getElem (by simpa using h)]
  rfl

set_option maxHeartbeats 2000000 in
theorem den_short (s : ByteArray) (w : World) (hs : s.size ≤ 9223372036854775806) (HX : Hid (hexed s.data.toList = false ∨ s.data.toList.length ≤ 2)) (h0 : 0 < s.size) (h2 : s.size ≤ 2) :
    Calls Tryd.prog 52 #[.string s] w (DenPost s.data.toList w) := by
  go_enter Tryd.func52, Tryd.ntmps52
  go_wp2
  go_loop [6, 7] (fun n i => ∃ (k : Nat) (acc : Nat) (a : Int), n = .int .i64 a ∧ i = .int .i64 k ∧ 0 ≤ k ∧ k ≤ s.size ∧ Hid (a = (acc : Int) ∧ acc ≤ 4294967295 ∧ pu 10 0 (s.data.toList.drop 0) = pu 10 acc (s.data.toList.drop k))) (fun _ i => s.size - (intOf i).toNat)
  case atStart => exact ⟨0, 0, 0, rfl, rfl, by omega, by omega, Lib.hid ⟨rfl, by omega, rfl⟩⟩
  case round =>
    obtain ⟨k, acc, a, rfl, rfl, hk0, hk, HA⟩ := hrel
    obtain ⟨ha, hacc, hdec⟩ := HA.out
    have a0 : 0 ≤ a := by omega
    have a1 : a ≤ 4294967295 := by omega
    by_cases hlt : k < s.size
    · have hdr : s.data.toList.drop k = s[k] :: s.data.toList.drop (k + 1) := drop_at (by simpa using hlt)
      rw [hdr] at hdec
      have hx := hex_lt s[k]
      obtain ⟨hx1, hx2⟩ := hx
      have HC := Lib.hid (rdigit_any s[k])
      have HD := Lib.hid hdec
      have HE := Lib.hid ha
      clear HA hdr hdec ha
      obtain ⟨d, hd⟩ : ∃ d, d = hexB s[k] := ⟨_, rfl⟩
      by_cases hb : 0 ≤ hexB s[k] ∧ hexB s[k] < 10
      · obtain ⟨hb0, hb1⟩ := hb
        by_cases hov : acc * 10 + (hexB s[k]).toNat ≤ 4294967295
        · have HN := Lib.hid (show a * 10 + d = ((acc * 10 + (hexB s[k]).toNat : Nat) : Int) ∧ acc * 10 + (hexB s[k]).toNat ≤ 4294967295 ∧ pu 10 0 (s.data.toList.drop 0) = pu 10 (acc * 10 + (hexB s[k]).toNat) (s.data.toList.drop (k + 1)) from ⟨by have := HE.out; omega, hov, HD.out.trans (pu_ok_step hb0 hb1 hov)⟩)
          have hov2 : a * 10 + d < 4294967296 := by have := HE.out; omega
          rw [← hd] at hb0 hb1 hx1 hx2 HC HN
          have hb0' : decide (d < 0) = false := decide_eq_false (by omega)
          clear hd hov hacc HD HE
          go_wp2_with (go_at_call 76; refine (HC.out _).mono ?_; rintro e w' ⟨rfl, rfl⟩)
          go_round
          case rel => exact ⟨k + 1, _, _, rfl, by go_num, by omega, by omega, HN⟩
          case measure => simp [intOf]; omega
        · have HN := Lib.hid (HD.out.trans (pu_big hb0 hb1 (by omega)))
          have hov2 : 4294967296 ≤ a * 10 + d := by have := HE.out; omega
          rw [← hd] at hb0 hb1 hx1 hx2 HC
          clear hd hov hacc HD HE
          go_wp2_with (go_at_call 76; refine (HC.out _).mono ?_; rintro e w' ⟨rfl, rfl⟩)
          go_ret2
          exact den_no (num_dec_bad HX.out (okOf_bad HN.out (fun n h => by cases h)))
      · have HN := Lib.hid (HD.out.trans (pu_bad hb))
        rw [← hd] at hb hx1 hx2 HC
        clear hd hacc HD HE
        by_cases hb0 : d < 0
        · clear hb
          go_wp2_with (go_at_call 76; refine (HC.out _).mono ?_; rintro e w' ⟨rfl, rfl⟩)
          go_ret2
          exact den_no (num_dec_bad HX.out (okOf_bad HN.out (fun n h => by cases h)))
        · have hb1 : 10 ≤ d := by omega
          clear hb
          go_wp2_with (go_at_call 76; refine (HC.out _).mono ?_; rintro e w' ⟨rfl, rfl⟩)
          go_ret2
          exact den_no (num_dec_bad HX.out (okOf_bad HN.out (fun n h => by cases h)))
    · obtain rfl : k = s.size := by omega
      rw [show s.data.toList.drop s.size = [] from List.drop_eq_nil_of_le (by simp), pu] at hdec
      have HN := Lib.hid hdec
      have HE := Lib.hid ha
      clear HA hdec ha
      have HS0 := Lib.hid h0
      by_cases h1 : s.size = 1
      · have HF := Lib.hid (num_good (l := s.data.toList) (ne_nil_of HS0.out) (fun h => by have h3 := h.1; rw [len_data] at h3; omega) HN.out)
        have hg1 : ((s.size : Int) == 1) = true := beq_iff_eq.2 (by omega)
        clear h1
        go_wp2
        go_quiet (fail)
        go_wp2
        go_ret2
        exact ⟨.inl ⟨acc, HF.out, by rw [HE.out]; rfl⟩, _, rfl⟩
      · have hg1 : ((s.size : Int) == 1) = false := beq_eq_false_iff_ne.2 (by omega)
        have hs1 : 1 < s.size := by omega
        have hs0 : 0 < s.size := by omega
        by_cases hz : s[0] = 48
        · have HF := Lib.hid (num_zero HX.out ⟨by simpa using hs1, by rw [at_zero hs0, hz]⟩)
          clear h1
          go_wp2
          go_quiet (fail)
          go_wp2
          go_ret2
          exact ⟨.inr ⟨HF.out, _, rfl⟩, _, rfl⟩
        · have HF := Lib.hid (num_good (l := s.data.toList) (ne_nil_of HS0.out) (fun h => by have := h.2; rw [at_zero hs0] at this; exact hz (Option.some.inj this)) HN.out)
          have hz2 : (((s[0]).toNat : Int) != 48) = true := ne48 hz
          clear h1 hz
          go_wp2
          go_quiet (fail)
          go_wp2
          go_ret2
          exact ⟨.inl ⟨acc, HF.out, by rw [HE.out]; rfl⟩, _, rfl⟩
set_option maxHeartbeats 2000000 in
theorem den_first (s : ByteArray) (w : World) (hs : s.size ≤ 9223372036854775806) (HX : Hid (hexed s.data.toList = false ∨ s.data.toList.length ≤ 2)) (h0 : 0 < s.size) (h2 : 2 < s.size) (h48 : (((s[0]).toNat : Int) == 48) = false) :
    Calls Tryd.prog 52 #[.string s] w (DenPost s.data.toList w) := by
  go_enter Tryd.func52, Tryd.ntmps52
  go_wp2
  go_loop [6, 7] (fun n i => ∃ (k : Nat) (acc : Nat) (a : Int), n = .int .i64 a ∧ i = .int .i64 k ∧ 0 ≤ k ∧ k ≤ s.size ∧ Hid (a = (acc : Int) ∧ acc ≤ 4294967295 ∧ pu 10 0 (s.data.toList.drop 0) = pu 10 acc (s.data.toList.drop k))) (fun _ i => s.size - (intOf i).toNat)
  case atStart => exact ⟨0, 0, 0, rfl, rfl, by omega, by omega, Lib.hid ⟨rfl, by omega, rfl⟩⟩
  case round =>
    obtain ⟨k, acc, a, rfl, rfl, hk0, hk, HA⟩ := hrel
    obtain ⟨ha, hacc, hdec⟩ := HA.out
    have a0 : 0 ≤ a := by omega
    have a1 : a ≤ 4294967295 := by omega
    by_cases hlt : k < s.size
    · have hdr : s.data.toList.drop k = s[k] :: s.data.toList.drop (k + 1) := drop_at (by simpa using hlt)
      rw [hdr] at hdec
      have hx := hex_lt s[k]
      obtain ⟨hx1, hx2⟩ := hx
      have HC := Lib.hid (rdigit_any s[k])
      have HD := Lib.hid hdec
      have HE := Lib.hid ha
      clear HA hdr hdec ha
      obtain ⟨d, hd⟩ : ∃ d, d = hexB s[k] := ⟨_, rfl⟩
      by_cases hb : 0 ≤ hexB s[k] ∧ hexB s[k] < 10
      · obtain ⟨hb0, hb1⟩ := hb
        by_cases hov : acc * 10 + (hexB s[k]).toNat ≤ 4294967295
        · have HN := Lib.hid (show a * 10 + d = ((acc * 10 + (hexB s[k]).toNat : Nat) : Int) ∧ acc * 10 + (hexB s[k]).toNat ≤ 4294967295 ∧ pu 10 0 (s.data.toList.drop 0) = pu 10 (acc * 10 + (hexB s[k]).toNat) (s.data.toList.drop (k + 1)) from ⟨by have := HE.out; omega, hov, HD.out.trans (pu_ok_step hb0 hb1 hov)⟩)
          have hov2 : a * 10 + d < 4294967296 := by have := HE.out; omega
          rw [← hd] at hb0 hb1 hx1 hx2 HC HN
          have hb0' : decide (d < 0) = false := decide_eq_false (by omega)
          clear hd hov hacc HD HE
          go_wp2_with (go_at_call 76; refine (HC.out _).mono ?_; rintro e w' ⟨rfl, rfl⟩)
          go_round
          case rel => exact ⟨k + 1, _, _, rfl, by go_num, by omega, by omega, HN⟩
          case measure => simp [intOf]; omega
        · have HN := Lib.hid (HD.out.trans (pu_big hb0 hb1 (by omega)))
          have hov2 : 4294967296 ≤ a * 10 + d := by have := HE.out; omega
          rw [← hd] at hb0 hb1 hx1 hx2 HC
          clear hd hov hacc HD HE
          go_wp2_with (go_at_call 76; refine (HC.out _).mono ?_; rintro e w' ⟨rfl, rfl⟩)
          go_ret2
          exact den_no (num_dec_bad HX.out (okOf_bad HN.out (fun n h => by cases h)))
      · have HN := Lib.hid (HD.out.trans (pu_bad hb))
        rw [← hd] at hb hx1 hx2 HC
        clear hd hacc HD HE
        by_cases hb0 : d < 0
        · clear hb
          go_wp2_with (go_at_call 76; refine (HC.out _).mono ?_; rintro e w' ⟨rfl, rfl⟩)
          go_ret2
          exact den_no (num_dec_bad HX.out (okOf_bad HN.out (fun n h => by cases h)))
        · have hb1 : 10 ≤ d := by omega
          clear hb
          go_wp2_with (go_at_call 76; refine (HC.out _).mono ?_; rintro e w' ⟨rfl, rfl⟩)
          go_ret2
          exact den_no (num_dec_bad HX.out (okOf_bad HN.out (fun n h => by cases h)))
    · obtain rfl : k = s.size := by omega
      rw [show s.data.toList.drop s.size = [] from List.drop_eq_nil_of_le (by simp), pu] at hdec
      have HN := Lib.hid hdec
      have HE := Lib.hid ha
      clear HA hdec ha
      have HS0 := Lib.hid h0
      by_cases h1 : s.size = 1
      · have HF := Lib.hid (num_good (l := s.data.toList) (ne_nil_of HS0.out) (fun h => by have h3 := h.1; rw [len_data] at h3; omega) HN.out)
        have hg1 : ((s.size : Int) == 1) = true := beq_iff_eq.2 (by omega)
        clear h1
        go_wp2
        go_quiet (fail)
        go_wp2
        go_ret2
        exact ⟨.inl ⟨acc, HF.out, by rw [HE.out]; rfl⟩, _, rfl⟩
      · have hg1 : ((s.size : Int) == 1) = false := beq_eq_false_iff_ne.2 (by omega)
        have hs1 : 1 < s.size := by omega
        have hs0 : 0 < s.size := by omega
        by_cases hz : s[0] = 48
        · have HF := Lib.hid (num_zero HX.out ⟨by simpa using hs1, by rw [at_zero hs0, hz]⟩)
          clear h1
          go_wp2
          go_quiet (fail)
          go_wp2
          go_ret2
          exact ⟨.inr ⟨HF.out, _, rfl⟩, _, rfl⟩
        · have HF := Lib.hid (num_good (l := s.data.toList) (ne_nil_of HS0.out) (fun h => by have := h.2; rw [at_zero hs0] at this; exact hz (Option.some.inj this)) HN.out)
          have hz2 : (((s[0]).toNat : Int) != 48) = true := ne48 hz
          clear h1 hz
          go_wp2
          go_quiet (fail)
          go_wp2
          go_ret2
          exact ⟨.inl ⟨acc, HF.out, by rw [HE.out]; rfl⟩, _, rfl⟩
set_option maxHeartbeats 2000000 in
theorem den_second (s : ByteArray) (w : World) (hs : s.size ≤ 9223372036854775806) (HX : Hid (hexed s.data.toList = false ∨ s.data.toList.length ≤ 2)) (h0 : 0 < s.size) (h2 : 2 < s.size) (h48 : s[0] = 48) (h120 : (((s[1]).toNat : Int) == 120) = false) :
    Calls Tryd.prog 52 #[.string s] w (DenPost s.data.toList w) := by
  go_enter Tryd.func52, Tryd.ntmps52
  go_wp2
  go_loop [6, 7] (fun n i => ∃ (k : Nat) (acc : Nat) (a : Int), n = .int .i64 a ∧ i = .int .i64 k ∧ 0 ≤ k ∧ k ≤ s.size ∧ Hid (a = (acc : Int) ∧ acc ≤ 4294967295 ∧ pu 10 0 (s.data.toList.drop 0) = pu 10 acc (s.data.toList.drop k))) (fun _ i => s.size - (intOf i).toNat)
  case atStart => exact ⟨0, 0, 0, rfl, rfl, by omega, by omega, Lib.hid ⟨rfl, by omega, rfl⟩⟩
  case round =>
    obtain ⟨k, acc, a, rfl, rfl, hk0, hk, HA⟩ := hrel
    obtain ⟨ha, hacc, hdec⟩ := HA.out
    have a0 : 0 ≤ a := by omega
    have a1 : a ≤ 4294967295 := by omega
    by_cases hlt : k < s.size
    · have hdr : s.data.toList.drop k = s[k] :: s.data.toList.drop (k + 1) := drop_at (by simpa using hlt)
      rw [hdr] at hdec
      have hx := hex_lt s[k]
      obtain ⟨hx1, hx2⟩ := hx
      have HC := Lib.hid (rdigit_any s[k])
      have HD := Lib.hid hdec
      have HE := Lib.hid ha
      clear HA hdr hdec ha
      obtain ⟨d, hd⟩ : ∃ d, d = hexB s[k] := ⟨_, rfl⟩
      by_cases hb : 0 ≤ hexB s[k] ∧ hexB s[k] < 10
      · obtain ⟨hb0, hb1⟩ := hb
        by_cases hov : acc * 10 + (hexB s[k]).toNat ≤ 4294967295
        · have HN := Lib.hid (show a * 10 + d = ((acc * 10 + (hexB s[k]).toNat : Nat) : Int) ∧ acc * 10 + (hexB s[k]).toNat ≤ 4294967295 ∧ pu 10 0 (s.data.toList.drop 0) = pu 10 (acc * 10 + (hexB s[k]).toNat) (s.data.toList.drop (k + 1)) from ⟨by have := HE.out; omega, hov, HD.out.trans (pu_ok_step hb0 hb1 hov)⟩)
          have hov2 : a * 10 + d < 4294967296 := by have := HE.out; omega
          rw [← hd] at hb0 hb1 hx1 hx2 HC HN
          have hb0' : decide (d < 0) = false := decide_eq_false (by omega)
          clear hd hov hacc HD HE
          go_wp2_with (go_at_call 76; refine (HC.out _).mono ?_; rintro e w' ⟨rfl, rfl⟩)
          go_round
          case rel => exact ⟨k + 1, _, _, rfl, by go_num, by omega, by omega, HN⟩
          case measure => simp [intOf]; omega
        · have HN := Lib.hid (HD.out.trans (pu_big hb0 hb1 (by omega)))
          have hov2 : 4294967296 ≤ a * 10 + d := by have := HE.out; omega
          rw [← hd] at hb0 hb1 hx1 hx2 HC
          clear hd hov hacc HD HE
          go_wp2_with (go_at_call 76; refine (HC.out _).mono ?_; rintro e w' ⟨rfl, rfl⟩)
          go_ret2
          exact den_no (num_dec_bad HX.out (okOf_bad HN.out (fun n h => by cases h)))
      · have HN := Lib.hid (HD.out.trans (pu_bad hb))
        rw [← hd] at hb hx1 hx2 HC
        clear hd hacc HD HE
        by_cases hb0 : d < 0
        · clear hb
          go_wp2_with (go_at_call 76; refine (HC.out _).mono ?_; rintro e w' ⟨rfl, rfl⟩)
          go_ret2
          exact den_no (num_dec_bad HX.out (okOf_bad HN.out (fun n h => by cases h)))
        · have hb1 : 10 ≤ d := by omega
          clear hb
          go_wp2_with (go_at_call 76; refine (HC.out _).mono ?_; rintro e w' ⟨rfl, rfl⟩)
          go_ret2
          exact den_no (num_dec_bad HX.out (okOf_bad HN.out (fun n h => by cases h)))
    · obtain rfl : k = s.size := by omega
      rw [show s.data.toList.drop s.size = [] from List.drop_eq_nil_of_le (by simp), pu] at hdec
      have HN := Lib.hid hdec
      have HE := Lib.hid ha
      clear HA hdec ha
      have HS0 := Lib.hid h0
      by_cases h1 : s.size = 1
      · have HF := Lib.hid (num_good (l := s.data.toList) (ne_nil_of HS0.out) (fun h => by have h3 := h.1; rw [len_data] at h3; omega) HN.out)
        have hg1 : ((s.size : Int) == 1) = true := beq_iff_eq.2 (by omega)
        clear h1
        go_wp2
        go_quiet (fail)
        go_wp2
        go_ret2
        exact ⟨.inl ⟨acc, HF.out, by rw [HE.out]; rfl⟩, _, rfl⟩
      · have hg1 : ((s.size : Int) == 1) = false := beq_eq_false_iff_ne.2 (by omega)
        have hs1 : 1 < s.size := by omega
        have hs0 : 0 < s.size := by omega
        by_cases hz : s[0] = 48
        · have HF := Lib.hid (num_zero HX.out ⟨by simpa using hs1, by rw [at_zero hs0, hz]⟩)
          clear h1
          go_wp2
          go_quiet (fail)
          go_wp2
          go_ret2
          exact ⟨.inr ⟨HF.out, _, rfl⟩, _, rfl⟩
        · exact absurd h48 hz
set_option maxHeartbeats 1000000 in
theorem den_empty (w : World) : Calls Tryd.prog 52 #[.string ByteArray.empty] w (DenPost ByteArray.empty.data.toList w) := by
  have HF := Lib.hid (show num ByteArray.empty.data.toList = none from num_nil)
  go_enter Tryd.func52, Tryd.ntmps52
  go_wp2
  go_loop [6, 7] (fun n i => n = .int .i64 0 ∧ i = .int .i64 0) (fun _ i => 0 - (intOf i).toNat)
  case atStart => exact ⟨rfl, rfl⟩
  case round =>
    obtain ⟨rfl, rfl⟩ := hrel
    go_wp2
    go_quiet (fail)
    go_wp2
    go_ret2
    exact ⟨.inr ⟨HF.out, _, rfl⟩, _, rfl⟩
theorem den_any (s : ByteArray) (w : World) (hs : s.size ≤ 9223372036854775806) :
    Calls Tryd.prog 52 #[.string s] w (DenPost s.data.toList w) := by
  by_cases h2 : 2 < s.size
  · by_cases h48 : s[0] = 48
    · by_cases h120 : s[1] = 120
      · refine den_hex s w hs h2 ?_ h48 h120
        obtain ⟨l, hl⟩ : ∃ l, l = s.data.toList := ⟨_, rfl⟩
        have g0 := at_zero (s := s) (by omega)
        have g1 := at_one (s := s) (by omega)
        rw [h48] at g0
        rw [h120] at g1
        rw [← hl] at g0 g1 ⊢
        cases l with
        | nil => simp at g0
        | cons c r =>
          cases r with
          | nil => simp at g1
          | cons d r =>
            simp at g0 g1
            simp [hexed, Lib.hasPrefix, g0, g1]
      · refine den_second s w hs (Lib.hid (.inl ?_)) (by omega) h2 h48 (byte_ne (n := 120) h120)
        cases hx : hexed s.data.toList with
        | false => rfl
        | true =>
          have := (hexed_head hx).2.2
          rw [at_one (by omega)] at this
          exact absurd (Option.some.inj this) h120
    · refine den_first s w hs (Lib.hid (.inl ?_)) (by omega) h2 (byte_ne (n := 48) h48)
      cases hx : hexed s.data.toList with
      | false => rfl
      | true =>
        have := (hexed_head hx).2.1
        rw [at_zero (by omega)] at this
        exact absurd (Option.some.inj this) h48
  · by_cases h0 : s.size = 0
    · obtain rfl : s = ByteArray.empty := ByteArray.size_eq_zero_iff.1 h0
      exact den_empty w
    · exact den_short s w hs (Lib.hid (.inr (by have : s.data.toList.length = s.size := by simp
                                                omega))) (by omega) (by omega)

end Go.Proofs.YtchpkdpefpiegaaDoor.Tok
