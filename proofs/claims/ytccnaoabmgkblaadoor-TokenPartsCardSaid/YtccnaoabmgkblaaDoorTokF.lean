/- Contract of the library's inner ParseUint at base 16, 32 bits. Condition: the string is not empty. -/
import Derived.Lib.ConvBytes
import Derived.Laws.Closers25b
import Derived.BigGuard
import Derived.Laws.BitsAllLaws
import Derived.Test.YtccnaoabmgkblaaDoorTokE
namespace Go.Proofs.YtccnaoabmgkblaaDoor.Tok
open Go Go.RowKit

def lowI (c : UInt8) : Int := bits .or .u8 (c.toNat : Int) 32
theorem low_facts (c : UInt8) : 0 ≤ lowI c ∧ lowI c ≤ 255 ∧ (digB c = true ∨ (10 ≤ hexB c ∧ hexB c < 16 ∧ 97 ≤ lowI c ∧ lowI c ≤ 102 ∧ hexB c = lowI c - 87) ∨ (hexB c < 0 ∧ (lowI c < 97 ∨ 103 ≤ lowI c))) :=
  byte_split c (fun c => 0 ≤ lowI c ∧ lowI c ≤ 255 ∧ (digB c = true ∨ (10 ≤ hexB c ∧ hexB c < 16 ∧ 97 ≤ lowI c ∧ lowI c ≤ 102 ∧ hexB c = lowI c - 87) ∨ (hexB c < 0 ∧ (lowI c < 97 ∨ 103 ≤ lowI c)))) (by decide +kernel)
theorem lower_any (c : UInt8) (w : World) : Calls Tryd.prog 66 #[.int .u8 (c.toNat : Int)] w fun e w' => e = .returned (.int .u8 (lowI c)) ∧ w = w' :=
  (Tryd.internal_strconv_lower (c.toNat : Int) w).mono fun _ _ ⟨he, hw⟩ => ⟨he, hw.symm⟩
/-- what the library's ParseUint answers, at 32 bits -/
def puV : Nat ⊕ Bool → Value
  | .inl n => .tuple #[.int .u64 (n : Int), .nilIface]
  | .inr false => .tuple #[.int .u64 0, .iface 87 (.int .i64 2)]
  | .inr true => .tuple #[.int .u64 4294967295, .iface 87 (.int .i64 1)]
theorem pu_dig {c : UInt8} (h : digB c = true) : hexB c = (c.toNat : Int) - 48 ∧ 48 ≤ (c.toNat : Int) ∧ (c.toNat : Int) ≤ 57 := by
  have h1 := dig_byte h
  unfold digB digI at h
  simp at h
  exact ⟨h1.2.1, by omega, by omega⟩
theorem nodig_two {c : UInt8} (h : digB c = false) : (c.toNat : Int) < 48 ∨ 57 < (c.toNat : Int) := by
  unfold digB digI at h
  simp at h
  omega
set_option maxHeartbeats 4000000 in
set_option maxRecDepth 100000 in
theorem pu16_in (t : ByteArray) (hne : t.size ≠ 0) (hmax : t.size ≤ 9223372036854775806) (w : World) :
    Calls Tryd.prog 61 #[.string t, .int .i64 16, .int .i64 32] w fun e w' => e = .returned (puV (pu 16 0 t.data.toList)) ∧ w' = Lib.bytesWorld w 5 t := by
  have hemp : t.toList.isEmpty = false := by
    rw [ByteArray.toList_eq, List.isEmpty_eq_false_iff]
    intro e
    have h : t.data.toList.length = 0 := by rw [e]; rfl
    rw [len_data] at h
    exact hne h
  have hcv := Lib.run_convert_string_bytes (P := Tryd.prog) w 9 50 5 t (u := .string) Tryd.underlying9 Tryd.underlying50 Tryd.underlying5
  have HB := Lib.hid (show ∀ j (h : j < t.size), (Lib.bytesWorld w 5 t).cell? ⟨w.heap.size, j, none⟩ = some (.int .u8 ((t[j]).toNat : Int)) from fun j hj => by
    rw [Lib.bytesWorld_cell w 5 t j hj]
    congr 3
    rw [List.getD, List.getElem?_eq_getElem (by simpa using hj)]
    rfl)
  obtain ⟨W1, hW1⟩ : ∃ W1, W1 = Lib.bytesWorld w 5 t := ⟨_, rfl⟩
  rw [← hW1] at hcv HB ⊢
  clear hW1 hne
  have hmv : IntKind.u64.wrap (IntKind.u64.wrap 4294967296 - 1) = 4294967295 := by
    rw [IntKind.wrap_u64, IntKind.wrap_u64]
    decide
  go_enter Tryd.func61, Tryd.ntmps61
  go_wp2
  go_loop [12, 13, 101] (fun vu vn vi => ∃ (k acc : Nat) (a : Int), vu = .bool false ∧ vn = .int .u64 a ∧ vi = .int .i64 k ∧ k ≤ t.size ∧ Hid (a = (acc : Int) ∧ acc ≤ 4294967295 ∧ pu 16 0 t.data.toList = pu 16 acc (t.data.toList.drop k)))
    (fun _ _ vi => t.size - (intOf vi).toNat)
  case atStart => exact ⟨0, 0, 0, rfl, rfl, rfl, by omega, Lib.hid ⟨rfl, by omega, rfl⟩⟩
  case round =>
    obtain ⟨k, acc, a, rfl, rfl, rfl, hk, HA⟩ := hrel
    obtain ⟨ha, hacc, hdec⟩ := HA.out
    have a0 : 0 ≤ a := by omega
    have a1 : a ≤ 4294967295 := by omega
    by_cases hkn : k < t.size
    · have hc := HB.out k hkn
      have hdr : t.data.toList.drop k = t[k] :: t.data.toList.drop (k + 1) := drop_at (by simpa using hkn)
      rw [hdr] at hdec
      have HD := Lib.hid hdec
      have HE := Lib.hid ha
      clear HA hdr hdec ha
      obtain ⟨l2, hl2⟩ : ∃ l2, l2 = t.data.toList.drop (k + 1) := ⟨_, rfl⟩
      have HL2 := Lib.hid hl2
      rw [← hl2] at HD
      clear hl2
      generalize t[k] = c at hc HD
      have hc256 : c.toNat < 256 := c.toNat_lt
      obtain ⟨x0, x1, hx⟩ := low_facts c
      have HLow := Lib.hid (lower_any c)
      cases hd : digB c with
      | true =>
        obtain ⟨e1, d0, d1⟩ := pu_dig hd
        have hb := dig_byte hd
        by_cases hov : acc * 16 + (hexB c).toNat ≤ 4294967295
        · have HN := Lib.hid (show a * 16 + ((c.toNat : Int) - 48) = ((acc * 16 + (hexB c).toNat : Nat) : Int) ∧ acc * 16 + (hexB c).toNat ≤ 4294967295 ∧ pu 16 0 t.data.toList = pu 16 (acc * 16 + (hexB c).toNat) l2 from ⟨by have := HE.out; omega, hov, HD.out.trans (pu_ok_step hb.2.2.1 (by omega) hov)⟩)
          have iov : a * 16 + ((c.toNat : Int) - 48) ≤ 4294967295 := by have := HE.out; omega
          clear hov hacc HD HE hx x0 x1 e1 hb hd
          go_wp2
          refine ⟨⟨k + 1, _, _, rfl, rfl, by go_num, by omega, by rw [← HL2.out]; exact HN⟩, by simp [intOf]; omega⟩
        · have HN := Lib.hid (HD.out.trans (pu_big hb.2.2.1 (by omega) (by omega)))
          have iov : 4294967295 < a * 16 + ((c.toNat : Int) - 48) := by have := HE.out; omega
          clear hov hacc HD HE hx x0 x1 e1 hb hd
          go_wp2
          go_ret2
          exact ⟨by rw [HN.out]; rfl, rfl⟩
      | false =>
        have hdd := nodig_two hd
        rcases hx with hx | ⟨g1, g2, g3, g4, g5⟩ | ⟨g1, g2⟩
        · rw [hd] at hx; cases hx
        · have hlow : (lowI c) = hexB c + 87 := by omega
          by_cases hov : acc * 16 + (hexB c).toNat ≤ 4294967295
          · have HN := Lib.hid (show a * 16 + (lowI c - 97 + 10) = ((acc * 16 + (hexB c).toNat : Nat) : Int) ∧ acc * 16 + (hexB c).toNat ≤ 4294967295 ∧ pu 16 0 t.data.toList = pu 16 (acc * 16 + (hexB c).toNat) l2 from ⟨by have := HE.out; omega, hov, HD.out.trans (pu_ok_step (by omega) (by omega) hov)⟩)
            have iov : a * 16 + (lowI c - 97 + 10) ≤ 4294967295 := by have := HE.out; omega
            cases h95 : ((c.toNat : Int) == 95)
            all_goals
              generalize lowI c = x at g3 g4 iov HN HLow
              clear hov hacc HD HE x0 x1 hd g1 g2 g5 hlow
              rcases hdd with hdd | hdd
              all_goals
                go_wp2_with (go_at_call 66; refine (HLow.out _).mono ?_; rintro e w' ⟨rfl, rfl⟩)
                refine ⟨⟨k + 1, _, _, rfl, rfl, by go_num, by omega, by rw [← HL2.out]; exact HN⟩, by simp [intOf]; omega⟩
          · have HN := Lib.hid (HD.out.trans (pu_big (by omega) (by omega) (by omega)))
            have iov : 4294967295 < a * 16 + (lowI c - 97 + 10) := by have := HE.out; omega
            cases h95 : ((c.toNat : Int) == 95)
            all_goals
              generalize lowI c = x at g3 g4 iov HLow
              clear hov hacc HD HE x0 x1 hd g1 g2 g5 hlow
              rcases hdd with hdd | hdd
              all_goals
                go_wp2_with (go_at_call 66; refine (HLow.out _).mono ?_; rintro e w' ⟨rfl, rfl⟩)
                go_ret2
                exact ⟨by rw [HN.out]; rfl, rfl⟩
        · have HN := Lib.hid (HD.out.trans (pu_bad (by omega)))
          cases h95 : ((c.toNat : Int) == 95)
          all_goals
            generalize lowI c = x at g2 x0 x1 HLow
            clear hacc HD HE hd g1
            rcases hdd with hdd | hdd
            all_goals
              rcases g2 with g2 | g2
              · go_wp2_with (go_at_call 66; refine (HLow.out _).mono ?_; rintro e w' ⟨rfl, rfl⟩)
                go_ret2
                exact ⟨by rw [HN.out]; rfl, rfl⟩
              · by_cases g3 : x ≤ 122
                all_goals
                  go_wp2_with (go_at_call 66; refine (HLow.out _).mono ?_; rintro e w' ⟨rfl, rfl⟩)
                  go_ret2
                  exact ⟨by rw [HN.out]; rfl, rfl⟩
    · obtain rfl : k = t.size := by omega
      rw [show t.data.toList.drop t.size = [] from List.drop_eq_nil_of_le (by simp), pu] at hdec
      have HN := Lib.hid hdec
      subst ha
      clear HA hdec hacc
      go_wp2
      go_ret2
      exact ⟨by rw [HN.out]; rfl, rfl⟩
end Go.Proofs.YtccnaoabmgkblaaDoor.Tok
