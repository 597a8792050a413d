/- Contracts of strconv.ParseUint (32 bits, base 10 or 16), number and first. Conditions: the string is short; the library's listed variables. -/
import Derived.Lib.ItoaLen
import Derived.Test.YtccnaoabmgkblaaDoorTokX
namespace Go.Proofs.YtccnaoabmgkblaaDoor.Tok
open Go Go.RowKit

/-! ## what the library's variables hold -/
def IsErr (ev : Value) : Prop := ev = .nilIface ∨ ∃ te pe, ev = .iface te pe
structure VarsAt (B : Nat) (w : World) : Prop where
  tab : Lib.TabIs Tryd.prog w "internal/strconv.uint64pow10" .u64 Lib.pow10Tab
  syn : ∃ ev, w.cell? ⟨1, 0, none⟩ = some ev ∧ IsErr ev
  rng : ∃ ev, w.cell? ⟨2, 0, none⟩ = some ev ∧ IsErr ev
  max : ∃ m, w.cell? ⟨0, 0, none⟩ = some (.int .i64 m)
  low : 6 ≤ B
theorem VarsAt.below {B : Nat} {w w' : World} (h : VarsAt B w) (hb : Below B w w') : VarsAt B w' := by
  obtain ⟨h1, ⟨e1, h2, h2'⟩, ⟨e2, h3, h3'⟩, ⟨m, h4⟩, h5⟩ := h
  refine ⟨?_, ⟨e1, (hb.cell (p := ⟨1, 0, none⟩) (by show 1 < B; omega)).trans h2, h2'⟩, ⟨e2, (hb.cell (p := ⟨2, 0, none⟩) (by show 2 < B; omega)).trans h3, h3'⟩, ⟨m, (hb.cell (p := ⟨0, 0, none⟩) (by show 0 < B; omega)).trans h4⟩, h5⟩
  unfold Lib.TabIs at *
  exact var?_below hb (g := 3) (by kernel_rfl) (by omega) h1
/-! ## ParseUint -/
/-- what strconv.ParseUint answers: a number, or an error that is not nil -/
def PuPost (b : Nat) (l : List UInt8) (w : World) (e : Ending) (w' : World) : Prop :=
  ((∃ n, puAll b l = .inl n ∧ e = .returned (.tuple #[.int .u64 (n : Int), .nilIface])) ∨ (okOf (puAll b l) = none ∧ ∃ (x : Int) (t : TypeId) (v : Value), e = .returned (.tuple #[.int .u64 x, .iface t v]))) ∧ Below w.heap.size w w'
theorem below_bytes (w : World) (t : ByteArray) : Below w.heap.size w (Lib.bytesWorld w 5 t) := Lib.bytesWorld_below _ _ _
theorem puAll_le {b u : Nat} {l : List UInt8} (h : puAll b l = .inl u) : u ≤ 4294967295 := by
  unfold puAll at h
  split at h
  · cases h
  · exact pu_le (by omega) h
set_option maxRecDepth 100000 in
theorem pu16_empty (w : World) : Calls Tryd.prog 61 #[.string ByteArray.empty, .int .i64 16, .int .i64 32] w fun e w' => e = .returned (puV (.inr false)) ∧ w = w' := by
  go_enter Tryd.func61, Tryd.ntmps61
  go_wp2
  go_ret2
  exact ⟨rfl, rfl⟩
theorem pu16_all (s : ByteArray) (w : World) (hs : s.size ≤ 281474976710656) : Calls Tryd.prog 61 #[.string s, .int .i64 16, .int .i64 32] w fun e w' => e = .returned (puV (puAll 16 s.data.toList)) ∧ Below w.heap.size w w' := by
  by_cases h : s.size = 0
  · obtain rfl : s = ByteArray.empty := ByteArray.size_eq_zero_iff.1 h
    refine (pu16_empty w).mono ?_
    rintro e w' ⟨rfl, rfl⟩
    exact ⟨rfl, Below.refl _ _⟩
  · refine (pu16_in s h (by omega) w).mono ?_
    rintro e w' ⟨rfl, rfl⟩
    refine ⟨?_, below_bytes w s⟩
    rw [puAll, if_neg (ne_nil_of (by omega))]
set_option maxHeartbeats 400000 in
theorem pu16_any (s : ByteArray) (w : World) (hs : s.size ≤ 281474976710656) (hv : VarsAt w.heap.size w) :
    Calls Tryd.prog 49 #[.string s, .int .i64 16, .int .i64 32] w (PuPost 16 s.data.toList w) := by
  have C := Lib.hid (pu16_all s w hs)
  have HV := Lib.hid hv
  have HS := Lib.hid hs
  clear hv hs
  cases h : puAll 16 s.data.toList with
  | inl u =>
    have HH := Lib.hid h
    rw [h] at C
    unfold puV at C
    clear h
    go_enter Tryd.func49, Tryd.ntmps49
    go_wp2_with fail
    refine C.out.mono ?_
    rintro e W ⟨rfl, hb⟩
    have HB := Lib.hid hb
    clear hb C
    go_wp2_with fail
    go_ret2
    exact ⟨.inl ⟨u, HH.out, rfl⟩, HB.out⟩
  | inr big =>
    have HH := Lib.hid h
    rw [h] at C
    clear h
    cases big with
    | false =>
      unfold puV at C
      go_enter Tryd.func49, Tryd.ntmps49
      go_wp2_with fail
      refine C.out.mono ?_
      rintro e W ⟨rfl, hb⟩
      obtain ⟨ev1, c1, i1⟩ := (HV.out.below hb).syn
      have CE := Lib.hid (Tryd.strconv_toError_syntax ⟨#[80, 97, 114, 115, 101, 85, 105, 110, 116]⟩ s 16 32 ev1 W HS.out c1 i1)
      have HB := Lib.hid hb
      clear hb C c1 i1
      go_wp2_with fail
      refine CE.out.mono ?_
      rintro e W2 ⟨N, rfl, -, -, hb2⟩
      have HB2 := Lib.hid (HB.out.trans (hb2.mono HB.out.size))
      clear hb2
      go_wp2_with fail
      go_ret2
      exact ⟨.inr ⟨by rw [HH.out]; rfl, _, _, _, rfl⟩, HB2.out⟩
    | true =>
      unfold puV at C
      go_enter Tryd.func49, Tryd.ntmps49
      go_wp2_with fail
      refine C.out.mono ?_
      rintro e W ⟨rfl, hb⟩
      obtain ⟨ev1, c1, i1⟩ := (HV.out.below hb).rng
      have CE := Lib.hid (Tryd.strconv_toError_range ⟨#[80, 97, 114, 115, 101, 85, 105, 110, 116]⟩ s 16 32 ev1 W HS.out c1 i1)
      have HB := Lib.hid hb
      clear hb C c1 i1
      go_wp2_with fail
      refine CE.out.mono ?_
      rintro e W2 ⟨N, rfl, -, -, hb2⟩
      have HB2 := Lib.hid (HB.out.trans (hb2.mono HB.out.size))
      clear hb2
      go_wp2_with fail
      go_ret2
      exact ⟨.inr ⟨by rw [HH.out]; rfl, _, _, _, rfl⟩, HB2.out⟩
set_option maxRecDepth 100000 in
theorem pu10_empty (w : World) : Calls Tryd.prog 61 #[.string ByteArray.empty, .int .i64 10, .int .i64 32] w fun e w' => e = .returned (puV (.inr false)) ∧ w = w' := by
  go_enter Tryd.func61, Tryd.ntmps61
  go_wp2
  go_ret2
  exact ⟨rfl, rfl⟩
theorem pu10_all (s : ByteArray) (w : World) (hs : s.size ≤ 281474976710656) : Calls Tryd.prog 61 #[.string s, .int .i64 10, .int .i64 32] w fun e w' => e = .returned (puV (puAll 10 s.data.toList)) ∧ Below w.heap.size w w' := by
  by_cases h : s.size = 0
  · obtain rfl : s = ByteArray.empty := ByteArray.size_eq_zero_iff.1 h
    refine (pu10_empty w).mono ?_
    rintro e w' ⟨rfl, rfl⟩
    exact ⟨rfl, Below.refl _ _⟩
  · refine (pu10_in s h (by omega) w).mono ?_
    rintro e w' ⟨rfl, rfl⟩
    refine ⟨?_, below_bytes w s⟩
    rw [puAll, if_neg (ne_nil_of (by omega))]
set_option maxHeartbeats 400000 in
theorem pu10_any (s : ByteArray) (w : World) (hs : s.size ≤ 281474976710656) (hv : VarsAt w.heap.size w) :
    Calls Tryd.prog 49 #[.string s, .int .i64 10, .int .i64 32] w (PuPost 10 s.data.toList w) := by
  have C := Lib.hid (pu10_all s w hs)
  have HV := Lib.hid hv
  have HS := Lib.hid hs
  clear hv hs
  cases h : puAll 10 s.data.toList with
  | inl u =>
    have HH := Lib.hid h
    rw [h] at C
    unfold puV at C
    clear h
    go_enter Tryd.func49, Tryd.ntmps49
    go_wp2_with fail
    refine C.out.mono ?_
    rintro e W ⟨rfl, hb⟩
    have HB := Lib.hid hb
    clear hb C
    go_wp2_with fail
    go_ret2
    exact ⟨.inl ⟨u, HH.out, rfl⟩, HB.out⟩
  | inr big =>
    have HH := Lib.hid h
    rw [h] at C
    clear h
    cases big with
    | false =>
      unfold puV at C
      go_enter Tryd.func49, Tryd.ntmps49
      go_wp2_with fail
      refine C.out.mono ?_
      rintro e W ⟨rfl, hb⟩
      obtain ⟨ev1, c1, i1⟩ := (HV.out.below hb).syn
      have CE := Lib.hid (Tryd.strconv_toError_syntax ⟨#[80, 97, 114, 115, 101, 85, 105, 110, 116]⟩ s 10 32 ev1 W HS.out c1 i1)
      have HB := Lib.hid hb
      clear hb C c1 i1
      go_wp2_with fail
      refine CE.out.mono ?_
      rintro e W2 ⟨N, rfl, -, -, hb2⟩
      have HB2 := Lib.hid (HB.out.trans (hb2.mono HB.out.size))
      clear hb2
      go_wp2_with fail
      go_ret2
      exact ⟨.inr ⟨by rw [HH.out]; rfl, _, _, _, rfl⟩, HB2.out⟩
    | true =>
      unfold puV at C
      go_enter Tryd.func49, Tryd.ntmps49
      go_wp2_with fail
      refine C.out.mono ?_
      rintro e W ⟨rfl, hb⟩
      obtain ⟨ev1, c1, i1⟩ := (HV.out.below hb).rng
      have CE := Lib.hid (Tryd.strconv_toError_range ⟨#[80, 97, 114, 115, 101, 85, 105, 110, 116]⟩ s 10 32 ev1 W HS.out c1 i1)
      have HB := Lib.hid hb
      clear hb C c1 i1
      go_wp2_with fail
      refine CE.out.mono ?_
      rintro e W2 ⟨N, rfl, -, -, hb2⟩
      have HB2 := Lib.hid (HB.out.trans (hb2.mono HB.out.size))
      clear hb2
      go_wp2_with fail
      go_ret2
      exact ⟨.inr ⟨by rw [HH.out]; rfl, _, _, _, rfl⟩, HB2.out⟩
/-! ## number -/
def NumPost (l : List UInt8) (w : World) (e : Ending) (w' : World) : Prop :=
  ((∃ v : Nat, num l = some v ∧ v ≤ 4294967295 ∧ e = .returned (.tuple #[.int .i64 (v : Int), .bool true])) ∨ (num l = none ∧ e = .returned (.tuple #[.int .i64 0, .bool false]))) ∧ Below w.heap.size w w'
theorem trim_hex {l : List UInt8} (h : hexed l = true) : Lib.trimPrefix l [48, 120] = l.drop 2 := by
  unfold Lib.trimPrefix
  rw [if_pos (show Lib.hasPrefix l [48, 120] = true from h)]
  rfl
theorem trim_dec {l : List UInt8} (h : hexed l = false) : Lib.trimPrefix l [48, 120] = l := by
  unfold Lib.trimPrefix
  rw [if_neg (by rw [show Lib.hasPrefix l [48, 120] = false from h]; simp)]
set_option maxHeartbeats 1000000 in
theorem number_hex (l : List UInt8) (w : World) (hl : l.length ≤ 281474976710656) (hv : VarsAt w.heap.size w) (hx : hexed l = true) :
    Calls Tryd.prog 35 #[strV l] w (NumPost l w) := by
  have HNum := Lib.hid (show num l = okOf (puAll 16 (l.drop 2)) by unfold num; rw [if_pos hx])
  have C1 := Lib.hid (cutPrefix_any l [48, 120] w)
  rw [trim_hex hx, show Lib.hasPrefix l [48, 120] = true from hx] at C1
  have C2 := Lib.hid (pu16_any ⟨(l.drop 2).toArray⟩ w (by show (l.drop 2).length ≤ _; rw [List.length_drop]; omega) hv)
  clear hx hv hl
  go_enter Tryd.func35, Tryd.ntmps35
  go_wp2_with fail
  refine C1.out.mono ?_
  rintro e w' ⟨rfl, rfl⟩
  go_wp2_with fail
  refine C2.out.mono ?_
  rintro e W ⟨⟨u, hu, rfl⟩ | ⟨hu, x, t, v, rfl⟩, hb⟩
  · have HU := Lib.hid hu
    have hle := puAll_le hu
    have hw : wrap64 (u : Int) = (u : Int) := IntWalk.wrap64_in _ (by omega)
    have HB := Lib.hid hb
    clear hb C1 C2 hu
    go_wp2_with fail
    go_ret2
    exact ⟨.inl ⟨u, by have h5 := HU.out; rw [HNum.out, show puAll 16 (l.drop 2) = .inl u from h5]; rfl, hle, by first | rfl | rw [hw]⟩, HB.out⟩
  · have HU := Lib.hid hu
    have HB := Lib.hid hb
    clear hb C1 C2 hu
    go_wp2_with fail
    go_ret2
    exact ⟨.inr ⟨HNum.out.trans HU.out, rfl⟩, HB.out⟩
theorem num_bad10 {l : List UInt8} (hx : hexed l = false) (hz : ¬ (1 < l.length ∧ l[0]? = some 48)) : num l = okOf (puAll 10 l) := by
  unfold num
  rw [if_neg (by simp [hx]), if_neg hz]
set_option maxHeartbeats 1000000 in
theorem number_dec (l : List UInt8) (s : ByteArray) (hls : strV l = .string s) (w : World) (hl : l.length ≤ 281474976710656) (hv : VarsAt w.heap.size w) (hx : hexed l = false) (hz : s.size ≤ 1 ∨ (1 < s.size ∧ ∀ h : 0 < s.size, (((s[0]).toNat : Int) == 48) = false)) (hz2 : ¬ (1 < l.length ∧ l[0]? = some 48)) :
    Calls Tryd.prog 35 #[strV l] w (NumPost l w) := by
  have HNum := Lib.hid (num_bad10 hx hz2)
  have C1 := Lib.hid (cutPrefix_any l [48, 120] w)
  rw [trim_dec hx, show Lib.hasPrefix l [48, 120] = false from hx] at C1
  have hsz : s.data.toList = l := by injection hls with hls; rw [← hls]
  have C2 := Lib.hid (pu10_any s w (by rw [← len_data, hsz]; exact hl) hv)
  rw [hsz] at C2
  rw [hls] at C1 ⊢
  clear hx hv hl hz2 hls hsz
  rcases hz with hz | ⟨h1, hz⟩
  · have hg : ¬ 1 < s.size := by omega
    clear hz
    go_enter Tryd.func35, Tryd.ntmps35
    go_wp2_with fail
    refine C1.out.mono ?_
    rintro e w' ⟨rfl, rfl⟩
    go_wp2_with fail
    refine C2.out.mono ?_
    rintro e W ⟨⟨u, hu, rfl⟩ | ⟨hu, x, t, v, rfl⟩, hb⟩
    · have HU := Lib.hid hu
      have hle := puAll_le hu
      have hw : wrap64 (u : Int) = (u : Int) := IntWalk.wrap64_in _ (by omega)
      have HB := Lib.hid hb
      clear hb C1 C2 hu
      go_wp2_with fail
      go_ret2
      exact ⟨.inl ⟨u, by rw [HNum.out, HU.out]; rfl, hle, by first | rfl | rw [hw]⟩, HB.out⟩
    · have HU := Lib.hid hu
      have HB := Lib.hid hb
      clear hb C1 C2 hu
      go_wp2_with fail
      go_ret2
      exact ⟨.inr ⟨HNum.out.trans HU.out, rfl⟩, HB.out⟩
  · have h0 : 0 < s.size := by omega
    have h48 := hz h0
    clear hz
    go_enter Tryd.func35, Tryd.ntmps35
    go_wp2_with fail
    refine C1.out.mono ?_
    rintro e w' ⟨rfl, rfl⟩
    go_wp2_with fail
    refine C2.out.mono ?_
    rintro e W ⟨⟨u, hu, rfl⟩ | ⟨hu, x, t, v, rfl⟩, hb⟩
    · have HU := Lib.hid hu
      have hle := puAll_le hu
      have hw : wrap64 (u : Int) = (u : Int) := IntWalk.wrap64_in _ (by omega)
      have HB := Lib.hid hb
      clear hb C1 C2 hu
      go_wp2_with fail
      go_ret2
      exact ⟨.inl ⟨u, by rw [HNum.out, HU.out]; rfl, hle, by first | rfl | rw [hw]⟩, HB.out⟩
    · have HU := Lib.hid hu
      have HB := Lib.hid hb
      clear hb C1 C2 hu
      go_wp2_with fail
      go_ret2
      exact ⟨.inr ⟨HNum.out.trans HU.out, rfl⟩, HB.out⟩
set_option maxHeartbeats 1000000 in
theorem number_lead (l : List UInt8) (s : ByteArray) (hls : strV l = .string s) (w : World) (hx : hexed l = false) (h1 : 1 < s.size) (h48 : s[0] = 48) (hz2 : 1 < l.length ∧ l[0]? = some 48) :
    Calls Tryd.prog 35 #[strV l] w (NumPost l w) := by
  have HNum := Lib.hid (num_lead hx hz2)
  have C1 := Lib.hid (cutPrefix_any l [48, 120] w)
  rw [trim_dec hx, show Lib.hasPrefix l [48, 120] = false from hx] at C1
  rw [hls] at C1 ⊢
  clear hx hz2 hls
  go_enter Tryd.func35, Tryd.ntmps35
  go_wp2_with fail
  refine C1.out.mono ?_
  rintro e w' ⟨rfl, rfl⟩
  go_wp2_with fail
  go_ret2
  exact ⟨.inr ⟨HNum.out, rfl⟩, Below.refl _ _⟩
theorem number_any (l : List UInt8) (w : World) (hl : l.length ≤ 281474976710656) (hv : VarsAt w.heap.size w) :
    Calls Tryd.prog 35 #[strV l] w (NumPost l w) := by
  cases hx : hexed l with
  | true => exact number_hex l w hl hv hx
  | false =>
    obtain ⟨s, hs⟩ : ∃ s : ByteArray, s = ⟨l.toArray⟩ := ⟨_, rfl⟩
    have hd : s.data.toList = l := by rw [hs]
    have hsz : s.size = l.length := by rw [← len_data, hd]
    by_cases h1 : 1 < s.size
    · have g0 := at_zero (s := s) (by omega)
      rw [hd] at g0
      by_cases h48 : s[0] = 48
      · exact number_lead l s (by rw [hs]) w hx h1 h48 ⟨by omega, by rw [g0, h48]⟩
      · exact number_dec l s (by rw [hs]) w hl hv hx (.inr ⟨h1, fun _ => byte_ne (n := 48) h48⟩) (fun h => by
          have h2 := h.2
          rw [g0] at h2
          exact h48 (Option.some.inj h2))
    · exact number_dec l s (by rw [hs]) w hl hv hx (.inl (by omega)) (fun h => by omega)
end Go.Proofs.YtccnaoabmgkblaaDoor.Tok
