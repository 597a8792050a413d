/- Which answer Patch gives, said once for all worlds. Conditions: the arguments read as forms and bytes. -/
import Derived.Test.YtianmiipnlkihaaEncS
namespace Go.Proofs.Ytianmiipnlkihaa
open Go Go.RowKit Go.Shelf

def PatBad (fs : List Frm) (l : List UInt8) (at_ arg val : Int) (p i : Int) : Prop :=
  ∀ (B : Nat) (v cv : Value) (w : World), FormsAt B w v fs → BytesAt B w cv l → B ≤ w.heap.size →
    Calls Try.prog 18 #[v, cv, .int .i64 at_, .int .i64 arg, .int .i64 val] w fun e w' => e = .returned (.tuple #[.slice none 0 0, faultV (p, i)]) ∧ Below w.heap.size w w'
theorem pat_bad {fs : List Frm} {l : List UInt8} {at_ p i : Int} (hp : p ≠ 0) (h : DecBad fs l at_ p i) (arg val : Int) : PatBad fs l at_ arg val p i := fun B v cv w hf hc hB => by
  obtain ⟨A, n, c, hv, _⟩ := hf.opens
  obtain ⟨A2, n2, c2, hcv, _⟩ := hc.opens
  exact patch_bad v cv A n c A2 n2 c2 hv hcv at_ arg val p i w hp fun W hW => h B v cv W (hf.below (hW.mono hB)) (hc.below (hW.mono hB)) (Nat.le_trans hB hW.size)
def patched (l : List UInt8) (a : Nat) (f : Frm) (ys : List Int) : List UInt8 := l.take a ++ encL f.code (f.kinds.zip ys) ++ l.drop (a + sizeOf f.kinds)
theorem DecOk.fits {fs : List Frm} {l : List UInt8} {a k : Nat} {f : Frm} {xs : List Int} (o : DecOk fs l a k f xs) : a + sizeOf f.kinds ≤ l.length := by
  have g3 := o.2.2.2.2.2.1
  have := o.2.2.1
  rw [List.length_drop] at g3
  omega
theorem patched_length {l : List UInt8} {a : Nat} {f : Frm} {ys : List Int} (hl : ys.length = f.kinds.length) (h : a + sizeOf f.kinds ≤ l.length) : (patched l a f ys).length = l.length := by
  unfold patched
  rw [List.length_append, List.length_append, encL_length hl, List.length_take, List.length_drop]
  omega
theorem patched_take {l : List UInt8} {a : Nat} {f : Frm} {ys : List Int} (h : a + sizeOf f.kinds ≤ l.length) : (patched l a f ys).take a = l.take a := by
  unfold patched
  rw [List.append_assoc, List.take_append_of_le_length (by rw [List.length_take]; omega), List.take_take, Nat.min_self]
theorem patched_drop {l : List UInt8} {a : Nat} {f : Frm} {ys : List Int} (hl : ys.length = f.kinds.length) (h : a + sizeOf f.kinds ≤ l.length) : (patched l a f ys).drop (a + sizeOf f.kinds) = l.drop (a + sizeOf f.kinds) := by
  unfold patched
  exact List.drop_left' (by rw [List.length_append, List.length_take, encL_length hl]; omega)
theorem patched_at {l : List UInt8} {a : Nat} {f : Frm} {ys : List Int} (h : a + sizeOf f.kinds ≤ l.length) : (patched l a f ys).drop a = encL f.code (f.kinds.zip ys) ++ l.drop (a + sizeOf f.kinds) := by
  unfold patched
  rw [List.append_assoc]
  exact List.drop_left' (by rw [List.length_take]; omega)
theorem patched_again {l : List UInt8} {a : Nat} {f : Frm} {ys zs : List Int} (hl : ys.length = f.kinds.length) (h : a + sizeOf f.kinds ≤ l.length) : patched (patched l a f ys) a f zs = patched l a f zs := by
  show (patched l a f ys).take a ++ encL f.code (f.kinds.zip zs) ++ (patched l a f ys).drop (a + sizeOf f.kinds) = _
  rw [patched_take h, patched_drop hl h]
  rfl
theorem DecOk.own {fs : List Frm} {l : List UInt8} {a k : Nat} {f : Frm} {xs : List Int} (o : DecOk fs l a k f xs) : patched l a f xs = l := by
  have h := o.2.2.2.2.2.2.2.2
  unfold patched
  rw [← h, ← List.drop_drop, List.append_assoc, List.take_append_drop, List.take_append_drop]
/-- an argument that a patch may take -/
def ArgOk (f : Frm) (xs : List Int) (j : Nat) (val : Int) : Prop := j < f.kinds.length ∧ outIdx f.kinds (xs.set j val) = -1
theorem DecOk.set {fs : List Frm} {l : List UInt8} {a k : Nat} {f : Frm} {xs : List Int} {j : Nat} {val : Int} (o : DecOk fs l a k f xs) (g : ArgOk f xs j val) : DecOk fs (patched l a f (xs.set j val)) a k f (xs.set j val) := by
  have hl : (xs.set j val).length = f.kinds.length := by rw [List.length_set]; exact o.enc.2.2.1
  have he : EncOk fs k (xs.set j val) f := ⟨o.1, o.enc.2.1, hl, g.2⟩
  refine ⟨o.1, by rw [patched_length hl o.fits]; exact o.2.1, by rw [patched_length hl o.fits]; exact o.2.2.1, ?_⟩
  rw [patched_at o.fits]
  exact good_enc he _
theorem pat_cases {fs : List Frm} {l : List UInt8} {a k : Nat} {f : Frm} {xs : List Int} (o : DecOk fs l a k f xs) (arg val : Int) :
    (arg < 0 ∨ (f.kinds.length : Int) ≤ arg) ∧ PatBad fs l a arg val 3 (-6) ∨ (∃ j : Nat, arg = (j : Int) ∧ j < f.kinds.length ∧ 0 ≤ outIdx f.kinds (xs.set j val) ∧ PatBad fs l a arg val 16 (-7)) ∨ ∃ j : Nat, arg = (j : Int) ∧ ArgOk f xs j val := by
  have D : ∀ (B : Nat) (v cv : Value) (w : World), FormsAt B w v fs → BytesAt B w cv l → B ≤ w.heap.size → ∀ W, Below w.heap.size w W → Calls Try.prog 12 #[v, cv, .int .i64 (a : Int)] W fun e w' => ∃ R, e = .returned (.tuple #[.agg #[.int .i64 (k : Int), .slice (some ⟨R, 0, none⟩) f.kinds.length f.kinds.length], .int .i64 (sizeOf f.kinds : Nat), faultV (0, 0)]) ∧ w'.ownsRow W.heap.size 3 1 (.slice (some ⟨R, 0, none⟩) f.kinds.length f.kinds.length) f.kinds.length (iv xs) ∧ Below W.heap.size W w' :=
    fun B v cv w hf hc hB W hW => decode_ok B v cv fs l a W (hf.below (hW.mono hB)) (hc.below (hW.mono hB)) (Nat.le_trans hB hW.size) o.1 o.2.1 o.2.2.1 k f xs o.2.2.2
  by_cases h0 : arg < 0
  · refine .inl ⟨.inl h0, fun B v cv w hf hc hB => ?_⟩
    obtain ⟨A, n, c, hv, _⟩ := hf.opens
    obtain ⟨A2, n2, c2, hcv, _⟩ := hc.opens
    exact patch_low v cv A n c A2 n2 c2 hv hcv a arg val k f.kinds.length (sizeOf f.kinds) xs w h0 (D B v cv w hf hc hB)
  · by_cases h1 : (f.kinds.length : Int) ≤ arg
    · refine .inl ⟨.inr h1, fun B v cv w hf hc hB => ?_⟩
      obtain ⟨A, n, c, hv, _⟩ := hf.opens
      obtain ⟨A2, n2, c2, hcv, _⟩ := hc.opens
      exact patch_high v cv A n c A2 n2 c2 hv hcv a arg val k f.kinds.length (sizeOf f.kinds) xs w h1 (D B v cv w hf hc hB)
    · obtain ⟨j, rfl⟩ : ∃ j : Nat, arg = (j : Int) := ⟨arg.toNat, by omega⟩
      have hj : j < f.kinds.length := by omega
      rcases outIdx_cases (ks := f.kinds) (xs := xs.set j val) with ho | ho
      · exact .inr (.inr ⟨j, rfl, hj, ho⟩)
      · refine .inr (.inl ⟨j, rfl, hj, ho, fun B v cv w hf hc hB => ?_⟩)
        obtain ⟨A2, n2, c2, hcv, _⟩ := hc.opens
        exact patch_far B v cv fs A2 n2 c2 hcv a val j k (sizeOf f.kinds) f xs w hf hB o.1 o.enc.2.1 o.enc.2.2.1 hj ho (D B v cv w hf hc hB)
theorem pat_calls {fs : List Frm} {l : List UInt8} {a k : Nat} {f : Frm} {xs : List Int} {j : Nat} {val : Int} (o : DecOk fs l a k f xs) (g : ArgOk f xs j val) (B : Nat) (v cv : Value) (w : World) (hf : FormsAt B w v fs) (hc : BytesAt B w cv l) (hB : B ≤ w.heap.size) :
    Calls Try.prog 18 #[v, cv, .int .i64 (a : Int), .int .i64 (j : Int), .int .i64 val] w fun e w' => ∃ G c, e = .returned (.tuple #[.slice (some ⟨G, 0, none⟩) l.length c, faultV (0, 0)]) ∧
      BytesAt w'.heap.size w' (.slice (some ⟨G, 0, none⟩) l.length c) (patched l a f (xs.set j val)) ∧ Below w.heap.size w w' := by
  have h15 := o.2.1
  exact (patch_ok B v cv fs l a val j k (sizeOf f.kinds) f xs w hf hc hB o.1 o.enc.2.1 o.enc.2.2.1 g.1 g.2 rfl o.fits fun W hW => decode_ok B v cv fs l a W (hf.below (hW.mono hB)) (hc.below (hW.mono hB)) (Nat.le_trans hB hW.size) o.1 o.2.1 o.2.2.1 k f xs o.2.2.2).mono fun e w' ⟨G, c, he, hlc, hr, hb⟩ => ⟨G, c, he, bytes_of_row hr (by omega) hlc, hb⟩
theorem pat_some (fs : List Frm) (l : List UInt8) (at_ arg val : Int) : ∃ q i, ∀ (B : Nat) (v cv : Value) (w : World), FormsAt B w v fs → BytesAt B w cv l → B ≤ w.heap.size →
    Calls Try.prog 18 #[v, cv, .int .i64 at_, .int .i64 arg, .int .i64 val] w fun e w' => ∃ A n c, e = .returned (.tuple #[.slice A n c, faultV (q, i)]) ∧ Below w.heap.size w w' := by
  have bad : ∀ p i, PatBad fs l at_ arg val p i → ∃ q i, ∀ (B : Nat) (v cv : Value) (w : World), FormsAt B w v fs → BytesAt B w cv l → B ≤ w.heap.size →
    Calls Try.prog 18 #[v, cv, .int .i64 at_, .int .i64 arg, .int .i64 val] w fun e w' => ∃ A n c, e = .returned (.tuple #[.slice A n c, faultV (q, i)]) ∧ Below w.heap.size w w' := fun p i E =>
    ⟨p, i, fun B v cv w hf hc hB => (E B v cv w hf hc hB).mono fun e w' ⟨he, hb⟩ => ⟨_, _, _, he, hb⟩⟩
  rcases dec_cases fs l at_ with ⟨p, i, hp, _, E⟩ | ⟨a, rfl, _, _, _, _, E⟩ | ⟨a, k, f, xs, rfl, _, o⟩
  · exact bad p i (pat_bad hp E arg val)
  · exact bad 17 a (pat_bad (by decide) E arg val)
  · rcases pat_cases o arg val with ⟨_, E⟩ | ⟨j, _, _, _, E⟩ | ⟨j, rfl, g⟩
    · exact bad _ _ E
    · exact bad _ _ E
    · exact ⟨0, 0, fun B v cv w hf hc hB => (pat_calls o g B v cv w hf hc hB).mono fun e w' ⟨G, c, he, _, hb⟩ => ⟨_, _, _, he, hb⟩⟩
theorem kinds_cell {B R m c : Nat} {w : World} {xs : List Int} (h : KindsAt B w (.slice (some ⟨R, 0, none⟩) m c) xs) {j : Nat} (hj : j < xs.length) : w.cell? ⟨R, j, none⟩ = some (.int .i64 (xs[j]?.getD 0)) := by
  obtain ⟨A, c', e, _, h3⟩ := h
  injection e with e1 e2 e3
  subst e1
  obtain ⟨b, off, ha, _, hc⟩ := h3 (by omega)
  simp only [Option.some.injEq, Addr.mk.injEq, and_true] at ha
  obtain ⟨rfl, rfl⟩ := ha
  have := hc j hj
  rwa [Nat.zero_add] at this
end Go.Proofs.Ytianmiipnlkihaa
