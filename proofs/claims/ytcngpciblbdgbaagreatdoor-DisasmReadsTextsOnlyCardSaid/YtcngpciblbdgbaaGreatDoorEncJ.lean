/- bytes.Equal, bytes.HasPrefix, and the reference's Bytes, over slices that read as bytes. Conditions: the readings. -/
import Derived.Laws.IdiomStrings
import Derived.Laws.BytesArg
import Derived.Test.YtcngpciblbdgbaaGreatDoorEncF
namespace Go.Proofs.YtcngpciblbdgbaaGreatDoor
open Go Go.RowKit Go.Shelf

/-- 'string(b)' -/
theorem conv_bytes {B : Nat} {w : World} {v : Value} {l : List UInt8} (h : BytesAt B w v l) : (convert 23 9 v).run Tryz.prog w = .ok (.string ⟨l.toArray⟩) w := by
  obtain ⟨A, c, rfl, _, hc⟩ := h
  cases A with
  | none =>
    have hl : l = [] := by
      cases l with
      | nil => rfl
      | cons x l =>
        obtain ⟨_, _, e, _⟩ := hc (by simp)
        cases e
    subst hl
    exact run_convert_bytes_nil w 23 5 Tryz.underlying23 Tryz.underlying5 0 c 9 Tryz.underlying9
  | some a =>
    refine run_convert_bytes_back w 23 9 5 a c l Tryz.underlying23 Tryz.underlying5 Tryz.underlying9 (fun j hj => ?_)
    obtain ⟨b, off, e, _, hcell⟩ := hc (by omega)
    injection e with e
    subst e
    have e : (⟨b, off, none⟩ : Addr).add j = ⟨b, off + j, none⟩ := by
      unfold Addr.add
      split
      · rename_i h0; rw [h0]; rfl
      · rfl
    rw [e, hcell j hj, List.getElem?_eq_getElem hj]
    rfl
theorem bytes_eq (l1 l2 : List UInt8) : ((⟨l1.toArray⟩ : ByteArray).toList == (⟨l2.toArray⟩ : ByteArray).toList) = decide (l1 = l2) := by
  rw [ByteArray.toList_eq, ByteArray.toList_eq]
  exact Bool.eq_iff_iff.2 (by simp)
set_option maxRecDepth 100000 in
set_option maxHeartbeats 400000 in
theorem bytesEqual_any (B : Nat) (v1 v2 : Value) (l1 l2 : List UInt8) (w : World) (h1 : BytesAt B w v1 l1) (h2 : BytesAt B w v2 l2) :
    Calls Tryz.prog 107 #[v1, v2] w fun e w' => e = .returned (.bool (decide (l1 = l2))) ∧ w = w' := by
  have k1 := conv_bytes h1
  have k2 := conv_bytes h2
  have hb := bytes_eq l1 l2
  obtain ⟨A1, n1, c1, rfl, _⟩ := h1.opens
  obtain ⟨A2, n2, c2, rfl, _⟩ := h2.opens
  generalize (⟨l1.toArray⟩ : ByteArray) = s1 at *
  generalize (⟨l2.toArray⟩ : ByteArray) = s2 at *
  have Hb := Lib.hid hb
  clear h1 h2 hb
  go_enter Tryz.func107, Tryz.ntmps107
  go_wp2
  go_ret
  exact ⟨ret_bool Hb.out, rfl⟩
set_option maxRecDepth 100000 in
set_option maxHeartbeats 400000 in
theorem bytes_any (B : Nat) (v1 v2 : Value) (l1 l2 : List UInt8) (w : World) (h1 : BytesAt B w v1 l1) (h2 : BytesAt B w v2 l2) :
    Calls Tryz.prog 27 #[v1, v2] w fun e w' => e = .returned (.bool (decide (l1 = l2))) ∧ w = w' := by
  have k1 := conv_bytes h1
  have k2 := conv_bytes h2
  have hb := bytes_eq l1 l2
  obtain ⟨A1, n1, c1, rfl, _⟩ := h1.opens
  obtain ⟨A2, n2, c2, rfl, _⟩ := h2.opens
  generalize (⟨l1.toArray⟩ : ByteArray) = s1 at *
  generalize (⟨l2.toArray⟩ : ByteArray) = s2 at *
  have Hb := Lib.hid hb
  clear h1 h2 hb
  go_enter Tryz.func27, Tryz.ntmps27
  go_wp2
  go_ret
  exact ⟨ret_bool Hb.out, rfl⟩
theorem BytesAt.take {B : Nat} {w : World} {b o n c k : Nat} {l : List UInt8} (h : BytesAt B w (.slice (some ⟨b, o, none⟩) n c) l) (hk : k ≤ n) : BytesAt B w (.slice (some ⟨b, o, none⟩) k c) (l.take k) := by
  obtain ⟨A, c', e, ⟨h1, h2⟩, h3⟩ := h
  injection e with e1 e2 e3
  subst e1
  subst e3
  have hl : (l.take k).length = k := by rw [List.length_take]; omega
  refine ⟨_, c, by rw [hl], ⟨by omega, by omega⟩, fun hp => ?_⟩
  obtain ⟨b', o', e, hb, hc⟩ := h3 (by omega)
  refine ⟨b', o', e, hb, fun j hj => ?_⟩
  rw [List.getElem?_take, if_pos (by omega)]
  exact hc j (by omega)
set_option maxRecDepth 100000 in
set_option maxHeartbeats 400000 in
theorem hasPrefix_any (B : Nat) (v1 v2 : Value) (l1 l2 : List UInt8) (w : World) (h1 : BytesAt B w v1 l1) (h2 : BytesAt B w v2 l2) (h0 : 0 < l1.length) :
    Calls Tryz.prog 89 #[v1, v2] w fun e w' => e = .returned (.bool (decide (l1.take l2.length = l2))) ∧ w = w' := by
  obtain ⟨A1, n1, c1, rfl, H1, ⟨hn1, hc1⟩, hcell⟩ := h1.opens
  obtain ⟨A2, n2, c2, rfl, H2, ⟨hn2, hc2⟩, _⟩ := h2.opens
  rw [H1.out] at h0
  obtain ⟨b, o, rfl, _⟩ := hcell h0
  by_cases hle : n2 ≤ n1
  · have C := bytesEqual_any B _ _ _ _ w (h1.take hle) h2
    rw [← H2.out] at C
    generalize decide (l1.take l2.length = l2) = r at *
    rw [H2.out] at C
    have HC := Lib.hid C
    have hd : decide ((n2 : Int) ≤ (n1 : Int)) = true := by simp; omega
    have hc21 : n2 ≤ c1 := by omega
    clear h1 h2 hcell C
    go_enter Tryz.func89, Tryz.ntmps89
    go_wp2_with (go_at_call 107; refine HC.out.mono ?_; rintro e w' ⟨rfl, rfl⟩)
    go_ret
    exact ⟨rfl, rfl⟩
  · have e : decide (l1.take l2.length = l2) = false := by
      rw [decide_eq_false_iff_not]
      intro e
      have := congrArg List.length e
      rw [List.length_take, H1.out, H2.out] at this
      omega
    rw [e]
    have hd : decide ((n2 : Int) ≤ (n1 : Int)) = false := by simp; omega
    clear h1 h2 hcell e
    go_enter Tryz.func89, Tryz.ntmps89
    go_wp2
    go_ret
    exact ⟨rfl, rfl⟩
end Go.Proofs.YtcngpciblbdgbaaGreatDoor
