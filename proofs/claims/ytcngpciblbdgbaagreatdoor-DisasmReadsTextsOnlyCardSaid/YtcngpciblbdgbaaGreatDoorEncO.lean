/- Which answer Encode, Decode and Patch give, said once for all worlds; the reference's comparison of instructions; different instructions have different encodings. No condition beyond arguments that read. -/
import Derived.Test.YtcngpciblbdgbaaGreatDoorEncN
namespace Go.Proofs.YtcngpciblbdgbaaGreatDoor
open Go Go.RowKit Go.Shelf

/-! ## Encode: a fault or an encoding -/
def EncBad (fs : List Frm) (form : Int) (xs : List Int) (p i : Int) : Prop :=
  ∀ (B : Nat) (v av : Value) (w : World), FormsAt B w v fs → KindsAt B w av xs → B ≤ w.heap.size →
    Calls Tryz.prog 19 #[v, .agg #[.int .i64 form, av]] w fun e w' => e = .returned (.tuple #[.slice none 0 0, faultV (p, i)]) ∧ Below w.heap.size w w'
def EncOk (fs : List Frm) (k : Nat) (xs : List Int) (f : Frm) : Prop :=
  tableFault fs = (0, 0) ∧ fs[k]? = some f ∧ xs.length = f.kinds.length ∧ outIdx f.kinds xs = -1
theorem enc_cases (fs : List Frm) (form : Int) (xs : List Int) : (∃ p i, p ≠ 0 ∧ encFault fs form xs = (p, i) ∧ EncBad fs form xs p i) ∨ ∃ (k : Nat) (f : Frm), form = (k : Int) ∧ EncOk fs k xs f ∧ encFault fs form xs = (0, 0) := by
  rcases tableFault_cases fs with ht | ht
  · have e0 : encFault fs form xs = insFault fs form xs := by unfold encFault; rw [if_neg (by rw [ht]; decide)]
    by_cases hf : form < 0 ∨ (fs.length : Int) ≤ form
    · exact .inl ⟨3, -2, by decide, by rw [e0]; unfold insFault; rw [if_pos hf], fun B v av w h ha hB => encode_range B v fs form av xs w h ha hB ht hf⟩
    · obtain ⟨k, rfl⟩ : ∃ k : Nat, form = (k : Int) := ⟨form.toNat, by omega⟩
      obtain ⟨f, hx⟩ : ∃ f, fs[k]? = some f := ⟨_, List.getElem?_eq_getElem (by omega)⟩
      have e1 : insFault fs (k : Int) xs = if xs.length ≠ f.kinds.length then (9, -3) else if 0 ≤ outIdx f.kinds xs then (3, outIdx f.kinds xs) else (0, 0) := by
        unfold insFault
        rw [if_neg hf]
        simp only [Int.toNat_natCast, hx]
      by_cases hl : xs.length = f.kinds.length
      · by_cases ho : 0 ≤ outIdx f.kinds xs
        · exact .inl ⟨3, outIdx f.kinds xs, by decide, by rw [e0, e1, if_neg (by simpa using hl), if_pos ho], fun B v av w h ha hB => encode_out B v fs k f av xs w h ha hB ht hx hl ho⟩
        · have ho' : outIdx f.kinds xs = -1 := by
            rcases outIdx_cases (ks := f.kinds) (xs := xs) with h | h
            · exact h
            · exact absurd h ho
          exact .inr ⟨k, f, rfl, ⟨ht, hx, hl, ho'⟩, by rw [e0, e1, if_neg (by simpa using hl), if_neg ho]⟩
      · exact .inl ⟨9, -3, by decide, by rw [e0, e1, if_pos hl], fun B v av w h ha hB => encode_length B v fs k f av xs w h ha hB ht hx hl⟩
  · exact .inl ⟨(tableFault fs).1, (tableFault fs).2, ht, by unfold encFault; rw [if_pos ht], fun B v av w h ha hB => encode_table B v fs form av xs w h ha hB ht⟩
theorem EncOk.calls {fs : List Frm} {k : Nat} {xs : List Int} {f : Frm} (o : EncOk fs k xs f) (B : Nat) (v av : Value) (w : World) (h : FormsAt B w v fs) (ha : KindsAt B w av xs) (hB : B ≤ w.heap.size) :
    Calls Tryz.prog 19 #[v, .agg #[.int .i64 (k : Int), av]] w fun e w' => ∃ R, e = .returned (.tuple #[.slice (some ⟨R, 0, none⟩) (sizeOf f.kinds) (sizeOf f.kinds), faultV (0, 0)]) ∧
      BytesAt w'.heap.size w' (.slice (some ⟨R, 0, none⟩) (sizeOf f.kinds) (sizeOf f.kinds)) (encL f.code (f.kinds.zip xs)) ∧ Below w.heap.size w w' := by
  obtain ⟨ht, hx, hl, ho⟩ := o
  refine (encode_ok B v fs k f av xs w h ha hB ht hx hl ho).mono fun e w' ⟨R, he, hr, hb⟩ => ⟨R, he, bytes_of_row hr ?_ (Nat.le_refl _), hb⟩
  have := sizeOf_le (valid_form ht (List.mem_of_getElem? hx)).short
  omega
theorem EncOk.back {fs : List Frm} {k : Nat} {xs : List Int} {f : Frm} (o : EncOk fs k xs f) (tl : List UInt8) : getL f.kinds (encL f.code (f.kinds.zip xs) ++ tl) = xs := by
  obtain ⟨ht, hx, hl, ho⟩ := o
  exact getL_encL (valid_form ht (List.mem_of_getElem? hx)).known hl (inside_of_idx hl ho) tl

/-! ## codes of a valid table -/
theorem code_own {fs : List Frm} (ht : tableFault fs = (0, 0)) {i j : Nat} {f g : Frm} (hi : fs[i]? = some f) (hj : fs[j]? = some g) (h : f.code = g.code) : i = j := by
  have hp := ((valid_iff fs).1 (by rw [ht])).2.2
  rcases Nat.lt_trichotomy i j with hlt | rfl | hlt
  · obtain ⟨hi', rfl⟩ := List.getElem?_eq_some_iff.1 hi
    obtain ⟨hj', rfl⟩ := List.getElem?_eq_some_iff.1 hj
    have := List.pairwise_iff_getElem.1 hp i j hi' hj' hlt
    simp [clashB, h] at this
  · rfl
  · obtain ⟨hi', rfl⟩ := List.getElem?_eq_some_iff.1 hi
    obtain ⟨hj', rfl⟩ := List.getElem?_eq_some_iff.1 hj
    have := List.pairwise_iff_getElem.1 hp j i hj' hi' hlt
    simp [clashB, h] at this
theorem code_byte {f g : Frm} (hf : FormOk f) (hg : FormOk g) (h : UInt8.ofNat (f.code % 256).toNat = UInt8.ofNat (g.code % 256).toNat) : f.code = g.code := by
  have h1 := hf.code
  have h2 := hg.code
  have h3 := congrArg UInt8.toNat h
  rw [ofNat_toNat _ (by omega), ofNat_toNat _ (by omega)] at h3
  omega
theorem enc_inj {fs : List Frm} {i j : Nat} {xs ys : List Int} {f g : Frm} (a : EncOk fs i xs f) (b : EncOk fs j ys g) : encL f.code (f.kinds.zip xs) = encL g.code (g.kinds.zip ys) ↔ ((i : Int) = (j : Int) ∧ xs = ys) := by
  have ha := a.back []
  have hb := b.back []
  obtain ⟨ht, hi, hl, ho⟩ := a
  obtain ⟨_, hj, hl2, ho2⟩ := b
  constructor
  · intro h
    have hc := code_byte (valid_form ht (List.mem_of_getElem? hi)) (valid_form ht (List.mem_of_getElem? hj)) (List.cons.inj h).1
    obtain rfl := code_own ht hi hj hc
    obtain rfl := Option.some.inj (hi.symm.trans hj)
    rw [List.append_nil] at ha hb
    rw [h, hb] at ha
    exact ⟨rfl, ha.symm⟩
  · rintro ⟨h, rfl⟩
    obtain rfl : i = j := by omega
    obtain rfl := Option.some.inj (hi.symm.trans hj)
    rfl

/-! ## SameIns -/
theorem sameIns_any (B : Nat) (a b : Int) (v1 v2 : Value) (ks ls : List Int) (w : World) (h1 : KindsAt B w v1 ks) (h2 : KindsAt B w v2 ls) (hB : B ≤ w.heap.size) :
    Calls Tryz.prog 14 #[.agg #[.int .i64 a, v1], .agg #[.int .i64 b, v2]] w fun e w' => e = .returned (.bool (decide (a = b) && decide (ks = ls))) ∧ Below w.heap.size w w' := by
  have hb : Below B w ((w.alloc (.cells #[.int .i64 a, v1] 34)).alloc (.cells #[.int .i64 b, v2] 34)) := ((Below.refl _ _).alloc hB _).alloc (by simp; omega) _
  have hbw : Below w.heap.size w ((w.alloc (.cells #[.int .i64 a, v1] 34)).alloc (.cells #[.int .i64 b, v2] 34)) := ((Below.refl _ _).alloc (Nat.le_refl _) _).alloc (by simp) _
  have C := ints_any B _ _ ks ls _ (h1.below hb) (h2.below hb)
  obtain ⟨A1, m1, c1', rfl, _⟩ := h1.opens
  obtain ⟨A2, m2, c2', rfl, _⟩ := h2.opens
  have HC := Lib.hid C
  clear C hb h1 h2
  by_cases hab : a = b
  · subst hab
    go_enter Tryz.func14, Tryz.ntmps14
    go_wp2_with (go_at_call 22; go_loud (refine HC.out.mono ?_; rintro e w' ⟨rfl, nq, rfl⟩))
    go_ret
    exact ⟨ret_bool (by simp), below_drewN hbw _⟩
  · go_enter Tryz.func14, Tryz.ntmps14
    go_wp2
    go_ret
    exact ⟨ret_bool (by simp [hab]), hbw⟩
end Go.Proofs.YtcngpciblbdgbaaGreatDoor
