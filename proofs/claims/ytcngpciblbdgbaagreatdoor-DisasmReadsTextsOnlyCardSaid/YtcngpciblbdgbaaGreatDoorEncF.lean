/- get and put at the field of an operand; the size of a form; what a slice of bytes reads as. Conditions: the kinds are known ones, at most four; the bytes are as many as the form's size says. -/
import Derived.Test.YtcngpciblbdgbaaGreatDoorEncE
namespace Go.Proofs.YtcngpciblbdgbaaGreatDoor
open Go Go.RowKit Go.Shelf

/-- the slice value v reads as the bytes l; its cells lie below block B -/
def BytesAt (B : Nat) (w : World) (v : Value) (l : List UInt8) : Prop :=
  ∃ A c, v = .slice A l.length c ∧ (l.length ≤ 140737488351232 ∧ l.length ≤ c) ∧
   (0 < l.length → ∃ b off, A = some ⟨b, off, none⟩ ∧ b < B ∧ ∀ j, j < l.length → w.cell? ⟨b, off + j, none⟩ = some (.int .u8 ((l[j]?.getD 0).toNat : Int)))
theorem BytesAt.opens {B : Nat} {w : World} {v : Value} {l : List UInt8} (h : BytesAt B w v l) : ∃ A n c, v = .slice A n c ∧ Hid (l.length = n) ∧ (n ≤ 140737488351232 ∧ n ≤ c) ∧
    (0 < n → ∃ b off, A = some ⟨b, off, none⟩ ∧ b < B ∧ ∀ j, j < n → w.cell? ⟨b, off + j, none⟩ = some (.int .u8 ((l[j]?.getD 0).toNat : Int))) := by
  obtain ⟨A, c, h1, h2, h3⟩ := h
  exact ⟨A, _, c, h1, Lib.hid rfl, h2, h3⟩
theorem BytesAt.below {B : Nat} {w w' : World} {v : Value} {l : List UInt8} (h : BytesAt B w v l) (hb : Below B w w') : BytesAt B w' v l := by
  obtain ⟨A, c, h1, h2, h3⟩ := h
  refine ⟨A, c, h1, h2, fun hn => ?_⟩
  obtain ⟨b, off, ha, hlt, hc⟩ := h3 hn
  exact ⟨b, off, ha, hlt, fun j hj => (hb.cell (p := ⟨b, off + j, none⟩) hlt).trans (hc j hj)⟩
theorem BytesAt.more {B B' : Nat} {w : World} {v : Value} {l : List UInt8} (h : BytesAt B w v l) (hB : B ≤ B') : BytesAt B' w v l := by
  obtain ⟨A, c, h1, h2, h3⟩ := h
  refine ⟨A, c, h1, h2, fun hn => ?_⟩
  obtain ⟨b, off, ha, hlt, hc⟩ := h3 hn
  exact ⟨b, off, ha, by omega, hc⟩
theorem BytesAt.drewN {B : Nat} {w : World} {v : Value} {l : List UInt8} (h : BytesAt B w v l) (n : Nat) : BytesAt B (w.drewN n) v l := h
theorem BytesAt.kb {B b : Nat} {w w' : World} {v : Value} {l : List UInt8} (h : BytesAt B w v l) (hk : KB B b w w') : BytesAt B w' v l := by
  obtain ⟨A, c, h1, h2, h3⟩ := h
  refine ⟨A, c, h1, h2, fun hn => ?_⟩
  obtain ⟨b', off, ha, hlt, hc⟩ := h3 hn
  exact ⟨b', off, ha, hlt, fun j hj => (hk.cell b' (off + j) (.inl hlt)).trans (hc j hj)⟩
/-- a row of the call's own reads as its bytes -/
theorem bytes_of_row {w : World} {B R n c : Nat} {l : List UInt8} (h : w.ownsRow B 5 1 (.slice (some ⟨R, 0, none⟩) n c) n (bv l)) (hn : n ≤ 140737488351232) (hc : n ≤ c) : BytesAt w.heap.size w (.slice (some ⟨R, 0, none⟩) n c) l := by
  have hl : l.length = n := by have := h.1; rw [bv_length] at this; omega
  refine ⟨_, c, by rw [hl], ⟨by omega, by omega⟩, fun _ => ⟨R, 0, rfl, (h.lt R rfl).2, fun j hj => ?_⟩⟩
  rw [Nat.zero_add]
  exact bv_cell h j hj

theorem regAt_le {ks : List Int} (h : ks.length ≤ 4) (n : Nat) : regAt ks n ≤ 4 := Nat.le_trans (regs_take_le ks n) (Nat.le_trans (regs_le ks) h)
theorem widths_le (ks : List Int) : widths ks ≤ 4 * ks.length := by
  induction ks with
  | nil => exact Nat.le_refl _
  | cons k ks ih =>
    have h : widths (k :: ks) = widthOf k + widths ks := by simp [widths]
    have := widthOf_le k
    rw [h, List.length_cons]
    omega
theorem sizeOf_le {ks : List Int} (h : ks.length ≤ 4) : sizeOf ks ≤ 20 := by
  have h1 := regs_le ks
  have h2 := widths_le ks
  unfold sizeOf
  omega
/-- an operand's bytes lie within the form -/
theorem fld_fits {ks : List Int} {n : Nat} (hn : n < ks.length) : fldAt ks n + (if isReg (ks[n]?.getD 0) then 1 else widthOf (ks[n]?.getD 0)) ≤ sizeOf ks := by
  have h1 := regs_take_le ks (n + 1)
  have h2 := widths_take_le ks (n + 1)
  rw [regs_succ hn] at h1
  rw [widths_succ hn] at h2
  unfold fldAt sizeOf
  cases hr : isReg (ks[n]?.getD 0) with
  | true => rw [regsOf_reg hr] at h1; rw [if_pos rfl, if_pos rfl]; unfold regAt; omega
  | false => rw [if_neg (by simp), if_neg (by simp)]; unfold numAt; omega

theorem fldV_reg {ks : List Int} {n : Nat} {kk : Int} (hk : ks[n]?.getD 0 = kk) (hr : isReg kk = true) :
    fldV ks n = .agg #[.int .i64 ((1 + regAt ks n / 2 : Nat) : Int), .int .i64 ((regAt ks n % 2 * 4 : Nat) : Int), .int .i64 4, .int .i64 0, .int .i64 (highOf kk)] := by
  unfold fldV fldAt fldSh
  rw [hk, hr, if_pos rfl, if_pos rfl]
  have e1 : bitsOf kk = 4 := by unfold bitsOf; rw [hr]; rfl
  have e2 : lowOf kk = 0 := by unfold lowOf; rw [hr]; rfl
  rw [e1, e2]
  rfl
theorem fldV_num {ks : List Int} {n : Nat} {kk : Int} (hk : ks[n]?.getD 0 = kk) (hr : isReg kk = false) :
    fldV ks n = .agg #[.int .i64 (numAt ks n : Nat), .int .i64 0, .int .i64 ((8 * widthOf kk : Nat) : Int), .int .i64 (lowOf kk), .int .i64 (highOf kk)] := by
  unfold fldV fldAt fldSh
  rw [hk, hr, if_neg (by simp), if_neg (by simp)]
  have e1 : bitsOf kk = 8 * widthOf kk := by unfold bitsOf; rw [hr]; rfl
  rw [e1]
  rfl

set_option maxHeartbeats 800000 in
theorem get_any (B n : Nat) (ks : List Int) (v : Value) (l : List UInt8) (w : World) (hn : n < ks.length) (h4 : ks.length ≤ 4) (hkn : Known ks) (hl : BytesAt B w v l) (hB : B ≤ w.heap.size) (hsz : sizeOf ks ≤ l.length) :
    Calls Tryz.prog 106 #[fldV ks n, v] w fun e w' => e = .returned (.int .i64 (getA ks l n)) ∧ Below w.heap.size w w' := by
  obtain ⟨A, m, c, rfl, Hl, ⟨hm, _⟩, hc⟩ := hl.opens
  rw [Hl.out] at hsz
  have hfit := fld_fits hn
  have hs20 := sizeOf_le h4
  obtain ⟨b, o, rfl, hb, hcell⟩ := hc (by unfold sizeOf at hsz; omega)
  have hbw : b < w.heap.size := by omega
  have hkk := known_at hkn hn
  obtain ⟨kk, hk⟩ : ∃ kk, ks[n]?.getD 0 = kk := ⟨_, rfl⟩
  rw [hk] at hkk hfit
  have h256 : ∀ j : Nat, (l[j]?.getD (0 : UInt8)).toNat < 256 := fun j => u8_lt _
  cases hr : isReg kk with
  | true =>
    have hr4 := regAt_le h4 n
    rw [fldV_reg hk hr]
    unfold fldAt at hfit
    rw [hk, hr, if_pos rfl, if_pos rfl] at hfit
    have hg : getA ks l n = (((l[1 + regAt ks n / 2]?.getD 0).toNat / 2 ^ (regAt ks n % 2 * 4) % 16 : Nat) : Int) := by
      unfold getA nib
      rw [hk, hr, if_pos rfl]
      rcases Nat.mod_two_eq_zero_or_one (regAt ks n) with e | e <;> rw [e] <;> rfl
    rw [hg]
    exact get_reg b o m c _ _ _ (by omega) w _ (h256 _) (by omega) (by omega) (hcell _ (by omega)) hbw
  | false =>
    rw [fldV_num hk hr]
    unfold fldAt at hfit
    rw [hk, hr, if_neg (by simp), if_neg (by simp)] at hfit
    have hg : getA ks l n = numOf kk (valAt l (numAt ks n) (widthOf kk)) := by
      unfold getA
      rw [hk, hr, if_neg (by simp)]
    rw [hg]
    have hpm : numAt ks n + widthOf kk ≤ m := by omega
    have hpp : numAt ks n ≤ 1000 := by omega
    clear hfit hg
    generalize numAt ks n = p at hpm hpp ⊢
    have c8 : widthOf kk = 1 → lowOf kk = -128 → highOf kk = 127 → Calls Tryz.prog 106 #[.agg #[.int .i64 (p : Int), .int .i64 0, .int .i64 ((8 * widthOf kk : Nat) : Int), .int .i64 (lowOf kk), .int .i64 (highOf kk)], .slice (some ⟨b, o, none⟩) m c] w fun e w' => e = .returned (.int .i64 (numOf kk (valAt l p (widthOf kk)))) ∧ Below w.heap.size w w' := fun e1 e2 e3 => by
      rw [e1] at hpm
      rw [e1, e2, e3]
      have := get_8 b o m c p w _ (h256 p) (by omega) (by omega) (hcell p (by omega)) hbw
      have hv : numOf kk (valAt l p 1) = if 127 < ((l[p]?.getD 0).toNat : Int) then ((l[p]?.getD 0).toNat : Int) - 256 else (l[p]?.getD 0).toNat := by
        unfold numOf
        rw [e1, e2, e3]
        simp [valAt]
      rw [hv]
      exact this
    rcases known_cases hkk with rfl | rfl | rfl | rfl | rfl | rfl
    · simp [isReg] at hr
    · simp [isReg] at hr
    · exact c8 rfl rfl rfl
    · rw [show widthOf 4 = 4 from rfl] at hpm ⊢
      have := get_32 b o m c p w _ _ _ _ (h256 p) (h256 (p + 1)) (h256 (p + 2)) (h256 (p + 3)) (by omega) (by omega) (hcell p (by omega)) (hcell (p + 1) (by omega)) (hcell (p + 2) (by omega)) (hcell (p + 3) (by omega)) hbw
      have hv : numOf 4 (valAt l p 4) = (((l[p]?.getD 0).toNat + (l[p + 1]?.getD 0).toNat * 256 + (l[p + 2]?.getD 0).toNat * 65536 + (l[p + 3]?.getD 0).toNat * 16777216 : Nat) : Int) := by
        simp [numOf, lowOf, isReg, valAt]
      rw [hv]
      exact this
    · exact c8 rfl rfl rfl
    · rw [show widthOf 6 = 2 from rfl] at hpm ⊢
      have := get_16 b o m c p w _ _ (h256 p) (h256 (p + 1)) (by omega) (by omega) (hcell p (by omega)) (hcell (p + 1) (by omega)) hbw
      have hv : numOf 6 (valAt l p 2) = if 32767 < (((l[p]?.getD 0).toNat + (l[p + 1]?.getD 0).toNat * 256 : Nat) : Int) then (((l[p]?.getD 0).toNat + (l[p + 1]?.getD 0).toNat * 256 : Nat) : Int) - 65536 else (((l[p]?.getD 0).toNat + (l[p + 1]?.getD 0).toNat * 256 : Nat) : Int) := by
        simp [numOf, lowOf, highOf, isReg, valAt, widthOf]
      rw [hv]
      exact this
set_option maxHeartbeats 800000 in
theorem put_any (B R n : Nat) (ks : List Int) (a : Int) (l : List UInt8) (w : World) (sz : Nat) (hn : n < ks.length) (h4 : ks.length ≤ 4) (hkn : Known ks) (ho : outB (ks[n]?.getD 0) a = false) (hsz : sizeOf ks = sz) (hl : l.length = sz)
    (hrow : w.ownsRow B 5 1 (.slice (some ⟨R, 0, none⟩) sz sz) sz (bv l)) :
    Calls Tryz.prog 51 #[fldV ks n, .slice (some ⟨R, 0, none⟩) sz sz, .int .i64 a] w fun e w' => e = .returned (.tuple #[]) ∧ w'.ownsRow B 5 1 (.slice (some ⟨R, 0, none⟩) sz sz) sz (bv (putOp ks n a l)) ∧ w.grownBy w' (some R) := by
  have hfit := fld_fits hn
  have hs20 := sizeOf_le h4
  have hkk := known_at hkn hn
  obtain ⟨kk, hk⟩ : ∃ kk, ks[n]?.getD 0 = kk := ⟨_, rfl⟩
  rw [hk] at hkk hfit ho
  rw [hsz] at hfit hs20
  have hro : ¬ a < lowOf kk ∧ ¬ highOf kk < a := by simpa [outB] using ho
  unfold putOp
  rw [hk]
  cases hr : isReg kk with
  | true =>
    rw [if_pos rfl, fldV_reg hk hr]
    unfold fldAt at hfit
    rw [hk, hr, if_pos rfl, if_pos rfl] at hfit
    have ha : 0 ≤ a ∧ a < 16 := by
      have hr' := hr
      simp only [isReg, Bool.or_eq_true, beq_iff_eq] at hr'
      rcases hr' with rfl | rfl <;> simp [lowOf, highOf, isReg] at hro <;> omega
    rcases Nat.mod_two_eq_zero_or_one (regAt ks n) with e | e
    · rw [e]
      exact put_reg0 B R sz _ w a l _ e _ (by omega) ha (by omega) hl hrow
    · rw [e]
      exact put_reg4 B R sz _ w a l _ e _ (by omega) ha (by omega) hl hrow
  | false =>
    rw [if_neg (by simp), fldV_num hk hr]
    unfold fldAt at hfit
    rw [hk, hr, if_neg (by simp), if_neg (by simp)] at hfit
    generalize numAt ks n = p at hfit ⊢
    rcases known_cases hkk with rfl | rfl | rfl | rfl | rfl | rfl
    · simp [isReg] at hr
    · simp [isReg] at hr
    · simp [lowOf, highOf, isReg] at hro
      exact put_8 B R sz p w a l hfit (by omega) (by omega) hl hrow
    · simp [lowOf, highOf, isReg] at hro
      exact put_32 B R sz p w a l hfit (by omega) (by omega) hl hrow
    · simp [lowOf, highOf, isReg] at hro
      exact put_8 B R sz p w a l hfit (by omega) (by omega) hl hrow
    · simp [lowOf, highOf, isReg] at hro
      exact put_16 B R sz p w a l hfit (by omega) (by omega) hl hrow

/-! ## the size of a form -/
/-- a form that is valid by itself -/
def FormOk (f : Frm) : Prop := formFault f [] = 0
theorem FormOk.table {f : Frm} (h : FormOk f) : tableFault [f] = (0, 0) := fault_pair ((valid_iff [f]).2 ⟨by simp, fun g hg => by rw [List.mem_singleton.1 hg]; exact h, by simp⟩)
theorem FormOk.short {f : Frm} (h : FormOk f) : f.kinds.length ≤ 4 := by
  unfold FormOk at h
  rw [formFault_eq] at h
  by_cases h4 : f.kinds.length ≤ 4
  · exact h4
  · exfalso
    have e : decide (f.kinds.length > 4) = true := by simp; omega
    rw [e] at h
    revert h
    repeat' split
    all_goals (first | (simp; done) | simp_all)
theorem FormOk.known {f : Frm} (h : FormOk f) : Known f.kinds := by
  unfold FormOk at h
  rw [formFault_eq] at h
  cases hu : f.kinds.any unknownB with
  | true =>
    exfalso
    rw [hu] at h
    revert h
    repeat' split
    all_goals (first | (simp; done) | simp_all)
  | false =>
    intro k hk
    have := List.any_eq_false.1 hu k hk
    simp [unknownB] at this
    omega
theorem FormOk.code {f : Frm} (h : FormOk f) : 0 ≤ f.code ∧ f.code ≤ 255 := by
  unfold FormOk at h
  rw [formFault_eq] at h
  by_cases hc : 0 ≤ f.code ∧ f.code ≤ 255
  · exact hc
  · exfalso
    have e : (decide (f.code < 0) || decide (f.code > 255)) = true := by simp; omega
    rw [e] at h
    revert h
    repeat' split
    all_goals (first | (simp; done) | simp_all)
set_option maxHeartbeats 400000 in
theorem sizeForm_any (B : Nat) (f : Frm) (w : World) (hk : KindsAt B w f.kv f.kinds) (hB : B ≤ w.heap.size) (hn : f.name.size ≤ 140737488351232) (hok : FormOk f) :
    Calls Tryz.prog 50 #[f.val] w fun e w' => e = .returned (.int .i64 (sizeOf f.kinds : Nat)) ∧ Below w.heap.size w w' := by
  obtain ⟨nm, q, kv, ks⟩ := f
  obtain ⟨A, m, c, e1, _⟩ := hk.opens
  dsimp only [Frm.val] at *
  subst e1
  obtain ⟨W, hW⟩ : ∃ W, W = (w.alloc (.cells #[.string nm, .int .i64 q, .slice A m c] 39)).alloc (.cells #[.string nm, .int .i64 q, .slice A m c] 39) := ⟨_, rfl⟩
  have hb : Below w.heap.size w W := by rw [hW]; exact ((Below.refl _ _).alloc (Nat.le_refl _) _).alloc (by simp) _
  have hz : W.heap.size = w.heap.size + 1 + 1 := by rw [hW]; simp
  have hf : FormsAt W.heap.size W (.slice (some ⟨w.heap.size + 1, 0, none⟩) 1 1) [⟨nm, q, .slice A m c, ks⟩] := by
    refine ⟨_, 1, rfl, ⟨by simp, by simp⟩, fun f hf => ?_, fun _ => ⟨_, 0, rfl, by omega, fun j f hj => ?_⟩⟩
    · have : f = ⟨nm, q, .slice A m c, ks⟩ := by simpa using hf
      subst this
      exact ⟨(hk.below (hb.mono hB)).more (by omega), hn⟩
    · have hj0 : j = 0 := by have := (List.getElem?_eq_some_iff.1 hj).1; simp at this; exact this
      subst hj0
      simp at hj
      subst hj
      rw [hW]
      exact ⟨by simp, by simp, by simp⟩
  have C1 := size_ok W.heap.size _ _ 0 _ W hf (Nat.le_refl _) hok.table rfl
  rw [show ((0 : Nat) : Int) = 0 from rfl, hW] at C1
  have C := Lib.hid C1
  have hb2 := Lib.hid hb
  have hz2 := Lib.hid hz
  clear hf hb hz hk hok C1
  subst hW
  go_enter Tryz.func50, Tryz.ntmps50
  go_wp2_with (go_at_call 34; refine C.out.mono ?_; rintro e W1 ⟨rfl, hb1⟩)
  go_ret
  exact ⟨rfl, (hb2.out.trans (hb1.mono hb2.out.size)).alloc (Nat.le_trans hb2.out.size hb1.size) _⟩
end Go.Proofs.YtcngpciblbdgbaaGreatDoor
