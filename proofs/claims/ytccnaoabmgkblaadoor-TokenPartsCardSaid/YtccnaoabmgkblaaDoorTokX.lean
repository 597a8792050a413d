/- Contract of the library's inner ParseUint at base 10, 32 bits. Condition: the string is not empty. -/
import Derived.Test.YtccnaoabmgkblaaDoorTokF
namespace Go.Proofs.YtccnaoabmgkblaaDoor.Tok
open Go Go.RowKit

set_option maxHeartbeats 4000000 in
set_option maxRecDepth 100000 in
theorem pu10_in (t : ByteArray) (hne : t.size ≠ 0) (hmax : t.size ≤ 9223372036854775806) (w : World) :
    Calls Tryd.prog 61 #[.string t, .int .i64 10, .int .i64 32] w fun e w' => e = .returned (puV (pu 10 0 t.data.toList)) ∧ w' = Lib.bytesWorld w 5 t := by
  have hemp : t.toList.isEmpty = false := by
    rw [ByteArray.toList_eq, List.isEmpty_eq_false_iff]
    intro e
    have h : t.data.toList.length = 0 := by rw [e]; rfl
    rw [len_data] at h
    exact hne h
  have hcv := Lib.run_convert_string_bytes (P := Tryd.prog) w 9 50 5 t (u := .string) Tryd.underlying9 Tryd.underlying50 Tryd.underlying5
  have HB := Lib.hid (show ∀ j (h : j < t.size), (Lib.bytesWorld w 5 t).cell? ⟨w.heap.size, j, none⟩ = some (.int .u8 ((t[j]).toNat : Int)) from fun j hj => by
    rw [Lib.bytesWorld_cell w 5 t j hj]
    congr 3
    rw [List.getD, List.getElem?_eq_getElem (by simpa using hj)]
    rfl)
  obtain ⟨W1, hW1⟩ : ∃ W1, W1 = Lib.bytesWorld w 5 t := ⟨_, rfl⟩
  rw [← hW1] at hcv HB ⊢
  clear hW1 hne
  have hmv : IntKind.u64.wrap (IntKind.u64.wrap 4294967296 - 1) = 4294967295 := by
    rw [IntKind.wrap_u64, IntKind.wrap_u64]
    decide
  go_enter Tryd.func61, Tryd.ntmps61
  go_wp2
  go_loop [12, 13, 101] (fun vu vn vi => ∃ (k acc : Nat) (a : Int), vu = .bool false ∧ vn = .int .u64 a ∧ vi = .int .i64 k ∧ k ≤ t.size ∧ Hid (a = (acc : Int) ∧ acc ≤ 4294967295 ∧ pu 10 0 t.data.toList = pu 10 acc (t.data.toList.drop k)))
    (fun _ _ vi => t.size - (intOf vi).toNat)
  case atStart => exact ⟨0, 0, 0, rfl, rfl, rfl, by omega, Lib.hid ⟨rfl, by omega, rfl⟩⟩
  case round =>
    obtain ⟨k, acc, a, rfl, rfl, rfl, hk, HA⟩ := hrel
    obtain ⟨ha, hacc, hdec⟩ := HA.out
    have a0 : 0 ≤ a := by omega
    have a1 : a ≤ 4294967295 := by omega
    by_cases hkn : k < t.size
    · have hc := HB.out k hkn
      have hdr : t.data.toList.drop k = t[k] :: t.data.toList.drop (k + 1) := drop_at (by simpa using hkn)
      rw [hdr] at hdec
      have HD := Lib.hid hdec
      have HE := Lib.hid ha
      clear HA hdr hdec ha
      obtain ⟨l2, hl2⟩ : ∃ l2, l2 = t.data.toList.drop (k + 1) := ⟨_, rfl⟩
      have HL2 := Lib.hid hl2
      rw [← hl2] at HD
      clear hl2
      generalize t[k] = c at hc HD
      have hc256 : c.toNat < 256 := c.toNat_lt
      obtain ⟨x0, x1, hx⟩ := low_facts c
      have HLow := Lib.hid (lower_any c)
      cases hd : digB c with
      | true =>
        obtain ⟨e1, d0, d1⟩ := pu_dig hd
        have hb := dig_byte hd
        by_cases hov : acc * 10 + (hexB c).toNat ≤ 4294967295
        · have HN := Lib.hid (show a * 10 + ((c.toNat : Int) - 48) = ((acc * 10 + (hexB c).toNat : Nat) : Int) ∧ acc * 10 + (hexB c).toNat ≤ 4294967295 ∧ pu 10 0 t.data.toList = pu 10 (acc * 10 + (hexB c).toNat) l2 from ⟨by have := HE.out; omega, hov, HD.out.trans (pu_ok_step hb.2.2.1 (by omega) hov)⟩)
          have iov : a * 10 + ((c.toNat : Int) - 48) ≤ 4294967295 := by have := HE.out; omega
          clear hov hacc HD HE hx x0 x1 e1 hb hd
          go_wp2
          refine ⟨⟨k + 1, _, _, rfl, rfl, by go_num, by omega, by rw [← HL2.out]; exact HN⟩, by simp [intOf]; omega⟩
        · have HN := Lib.hid (HD.out.trans (pu_big hb.2.2.1 (by omega) (by omega)))
          have iov : 4294967295 < a * 10 + ((c.toNat : Int) - 48) := by have := HE.out; omega
          clear hov hacc HD HE hx x0 x1 e1 hb hd
          go_wp2
          go_ret2
          exact ⟨by rw [HN.out]; rfl, rfl⟩
      | false =>
        have hdd := nodig_two hd
        rcases hx with hx | ⟨g1, g2, g3, g4, g5⟩ | ⟨g1, g2⟩
        · rw [hd] at hx; cases hx
        · have HN := Lib.hid (HD.out.trans (pu_bad (by omega)))
          cases h95 : ((c.toNat : Int) == 95)
          all_goals
            generalize lowI c = x at g3 g4 x0 x1 HLow
            clear hacc HD HE hd g1 g2 g5
            rcases hdd with hdd | hdd
            all_goals
              go_wp2_with (go_at_call 66; refine (HLow.out _).mono ?_; rintro e w' ⟨rfl, rfl⟩)
              go_ret2
              exact ⟨by rw [HN.out]; rfl, rfl⟩
        · have HN := Lib.hid (HD.out.trans (pu_bad (by omega)))
          cases h95 : ((c.toNat : Int) == 95)
          all_goals
            generalize lowI c = x at g2 x0 x1 HLow
            clear hacc HD HE hd g1
            rcases hdd with hdd | hdd
            all_goals
              rcases g2 with g2 | g2
              · go_wp2_with (go_at_call 66; refine (HLow.out _).mono ?_; rintro e w' ⟨rfl, rfl⟩)
                go_ret2
                exact ⟨by rw [HN.out]; rfl, rfl⟩
              · by_cases g3 : x ≤ 122
                all_goals
                  go_wp2_with (go_at_call 66; refine (HLow.out _).mono ?_; rintro e w' ⟨rfl, rfl⟩)
                  go_ret2
                  exact ⟨by rw [HN.out]; rfl, rfl⟩
    · obtain rfl : k = t.size := by omega
      rw [show t.data.toList.drop t.size = [] from List.drop_eq_nil_of_le (by simp), pu] at hdec
      have HN := Lib.hid hdec
      subst ha
      clear HA hdec hacc
      go_wp2
      go_ret2
      exact ⟨by rw [HN.out]; rfl, rfl⟩
end Go.Proofs.YtccnaoabmgkblaaDoor.Tok
