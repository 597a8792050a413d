/- Contracts of isMalformed, textOf and slices.IndexFunc over tokens. Conditions: the readings; the library's listed variables. -/
import Derived.Lib.AppendIntMem
import Derived.Test.YtchpkdpefpiegaaDoorTokL
namespace Go.Proofs.YtchpkdpefpiegaaDoor.Tok
open Go Go.RowKit

/-- there is such a token -/
def okT (t : Tk) : Bool := (t.kind == 1 && isName t.text && t.val == 0) || (t.kind == 2 && decide (0 ≤ t.val) && decide (t.val ≤ 4294967295) && t.text.isEmpty) || (t.kind == 3 && isSign t.text && t.val == 0)
def malT (t : Tk) : Bool := !okT t
/-- the world with a box that holds a token -/
def tokBW (w : World) (t : Tk) : World := w.alloc (.cells #[.int .i64 t.kind, strV t.text, .int .i64 t.val, .int .i64 t.pos] 31)
theorem tokBW_below (w : World) (t : Tk) : Below w.heap.size w (tokBW w t) := (Below.refl _ _).alloc (Nat.le_refl _) _
/-- how Join writes a token -/
def textL (t : Tk) : List UInt8 := if t.kind = 2 then Lib.itoa t.val else t.text
def I64 (x : Int) : Prop := -9223372036854775808 ≤ x ∧ x ≤ 9223372036854775807
set_option maxHeartbeats 4000000 in
theorem isTok_any (t : Tk) (w : World) (ht : t.text.length ≤ 140737488351232) : Calls Tryd.prog 28 #[t.v] w fun e w' => e = .returned (.bool (okT t)) ∧ Below w.heap.size w w' := by
  obtain ⟨k, s, v, p⟩ := t
  have hs : s.length ≤ 9223372036854775806 := by have : s.length ≤ 140737488351232 := ht; omega
  have C1 := Lib.hid (fun w => isName_any s w hs)
  have C2 := Lib.hid (fun w => isSign_any s w)
  have HB := Lib.hid (show ∀ W : World, ∀ o, Below W.heap.size W (W.alloc o) from fun W o => (Below.refl _ _).alloc (Nat.le_refl _) o)
  unfold Tk.v
  dsimp only
  clear ht hs
  by_cases h1 : k = 1
  · subst h1
    cases hn : isName s with
    | false =>
      have E := Lib.hid (show okT ⟨1, s, v, p⟩ = false by simp [okT, hn])
      rw [hn] at C1
      clear hn
      go_enter Tryd.func28, Tryd.ntmps28
      go_wp2_with fail
      refine (C1.out _).mono ?_
      rintro e w' ⟨rfl, rfl⟩
      go_wp2_with fail
      go_ret
      exact ⟨ret_bool E.out.symm, HB.out _ _⟩
    | true =>
      have E := Lib.hid (show okT ⟨1, s, v, p⟩ = (v == 0) by simp [okT, hn])
      rw [hn] at C1
      clear hn
      go_enter Tryd.func28, Tryd.ntmps28
      go_wp2_with fail
      refine (C1.out _).mono ?_
      rintro e w' ⟨rfl, rfl⟩
      go_wp2_with fail
      go_ret
      exact ⟨ret_bool (by rw [E.out]), HB.out _ _⟩
  · have h1' : (k == 1) = false := beq_eq_false_iff_ne.2 h1
    by_cases h2 : k = 2
    · subst h2
      clear C1 C2 h1
      obtain ⟨sb, hsb⟩ : ∃ sb : ByteArray, sb = ⟨s.toArray⟩ := ⟨_, rfl⟩
      have hse : sb.toList.isEmpty = s.isEmpty := by rw [hsb, ByteArray.toList_eq]
      rw [show strV s = .string sb from by rw [hsb]]
      clear hsb
      by_cases h3 : v < 0
      · have E := Lib.hid (show okT ⟨2, s, v, p⟩ = false by simp [okT]; omega)
        clear hse
        go_enter Tryd.func28, Tryd.ntmps28
        go_wp2_with fail
        go_ret
        exact ⟨ret_bool E.out.symm, HB.out _ _⟩
      · by_cases h4 : 4294967295 < v
        · have E := Lib.hid (show okT ⟨2, s, v, p⟩ = false by simp [okT]; omega)
          clear hse
          go_enter Tryd.func28, Tryd.ntmps28
          go_wp2_with fail
          go_ret
          exact ⟨ret_bool E.out.symm, HB.out _ _⟩
        · have E := Lib.hid (show okT ⟨2, s, v, p⟩ = s.isEmpty by
            have a1 : decide (0 ≤ v) = true := decide_eq_true (by omega)
            have a2 : decide (v ≤ 4294967295) = true := decide_eq_true (by omega)
            simp [okT, a1, a2])
          rw [← hse] at E
          have h3' : 0 ≤ v := by omega
          have h4' : v ≤ 4294967295 := by omega
          clear hse h3 h4
          cases he : sb.toList.isEmpty with
          | true =>
            have he2 : (!sb.toList.isEmpty) = false := by rw [he]; rfl
            rw [he] at E
            go_enter Tryd.func28, Tryd.ntmps28
            go_wp2_with fail
            go_ret
            exact ⟨ret_bool (by rw [E.out]), HB.out _ _⟩
          | false =>
            have he2 : (!sb.toList.isEmpty) = true := by rw [he]; rfl
            rw [he] at E
            go_enter Tryd.func28, Tryd.ntmps28
            go_wp2_with fail
            go_ret
            exact ⟨ret_bool (by rw [E.out]), HB.out _ _⟩
    · have h2' : (k == 2) = false := beq_eq_false_iff_ne.2 h2
      by_cases h3 : k = 3
      · subst h3
        clear C1
        cases hn : isSign s with
        | false =>
          have E := Lib.hid (show okT ⟨3, s, v, p⟩ = false by simp [okT, hn])
          rw [hn] at C2
          clear hn h1 h2
          go_enter Tryd.func28, Tryd.ntmps28
          go_wp2_with fail
          refine (C2.out _).mono ?_
          rintro e w' ⟨rfl, rfl⟩
          go_wp2_with fail
          go_ret
          exact ⟨ret_bool E.out.symm, HB.out _ _⟩
        | true =>
          have E := Lib.hid (show okT ⟨3, s, v, p⟩ = (v == 0) by simp [okT, hn])
          rw [hn] at C2
          clear hn h1 h2
          go_enter Tryd.func28, Tryd.ntmps28
          go_wp2_with fail
          refine (C2.out _).mono ?_
          rintro e w' ⟨rfl, rfl⟩
          go_wp2_with fail
          go_ret
          exact ⟨ret_bool (by rw [E.out]), HB.out _ _⟩
      · have h3' : (k == 3) = false := beq_eq_false_iff_ne.2 h3
        have E := Lib.hid (show okT ⟨k, s, v, p⟩ = false by simp [okT, h1, h2, h3])
        clear C1 C2 h1 h2 h3
        go_enter Tryd.func28, Tryd.ntmps28
        go_wp2_with fail
        go_ret
        exact ⟨ret_bool E.out.symm, HB.out _ _⟩
/-- a function that tells whether a token is malformed -/
def MalFn (f : Nat) : Prop := ∀ (t : Tk) (w : World), t.text.length ≤ 140737488351232 → Calls Tryd.prog f #[t.v] w fun e w' => e = .returned (.bool (malT t)) ∧ Below w.heap.size w w'
set_option maxHeartbeats 1000000 in
theorem mal_parse : MalFn 27 := by
  intro t w ht
  have C := Lib.hid (fun w => isTok_any t w ht)
  obtain ⟨k, s, v, p⟩ := t
  have HB := Lib.hid (tokBW_below w ⟨k, s, v, p⟩)
  have E := Lib.hid (show malT ⟨k, s, v, p⟩ = !okT ⟨k, s, v, p⟩ from rfl)
  unfold tokBW at HB
  unfold Tk.v at C ⊢
  dsimp only at C HB ⊢
  clear ht
  generalize okT ⟨k, s, v, p⟩ = ok at C E
  go_enter Tryd.func27, Tryd.ntmps27
  go_wp2_with fail
  refine (C.out _).mono ?_
  rintro e W ⟨rfl, hb⟩
  have HB2 := Lib.hid (HB.out.trans (hb.mono HB.out.size))
  clear hb C
  go_wp2_with fail
  go_ret
  exact ⟨ret_bool (by rw [E.out]), HB2.out⟩
/-! ## the first token that is none -/
/-- the place of the first element of which p holds; -1 -/
def idxOf {α : Type} (p : α → Bool) (l : List α) : Int := match l.findIdx? p with | some i => i | none => -1
/-- of the first k elements p holds of none -/
def noneYet {α : Type} (p : α → Bool) (l : List α) (k : Nat) : Prop := ∀ j x, j < k → l[j]? = some x → p x = false
theorem noneYet_zero {α : Type} (p : α → Bool) (l : List α) : noneYet p l 0 := fun _ _ h => absurd h (Nat.not_lt_zero _)
theorem noneYet_succ {α : Type} {p : α → Bool} {l : List α} {k : Nat} {x : α} (h : noneYet p l k) (hx : l[k]? = some x) (hp : p x = false) : noneYet p l (k + 1) := fun j y hj hy => by
  rcases Nat.lt_succ_iff_lt_or_eq.1 hj with hlt | rfl
  · exact h j y hlt hy
  · rw [hx] at hy; injection hy with hy; subst hy; exact hp
theorem idxOf_hit {α : Type} {p : α → Bool} {l : List α} {k : Nat} {x : α} (h : noneYet p l k) (hx : l[k]? = some x) (hp : p x = true) : idxOf p l = (k : Int) := by
  have hk : k < l.length := (List.getElem?_eq_some_iff.1 hx).1
  have hxe : l[k] = x := (List.getElem?_eq_some_iff.1 hx).2
  have : l.findIdx? p = some k := by
    rw [List.findIdx?_eq_some_iff_getElem]
    exact ⟨hk, by rw [hxe]; exact hp, fun j hj => by simp [h j _ hj (List.getElem?_eq_getElem (Nat.lt_trans hj hk))]⟩
  simp [idxOf, this]
theorem idxOf_none {α : Type} {p : α → Bool} {l : List α} {n : Nat} (hn : l.length ≤ n) (h : noneYet p l n) : idxOf p l = -1 := by
  have : l.findIdx? p = none := by
    rw [List.findIdx?_eq_none_iff]
    intro x hx
    obtain ⟨j, hj, rfl⟩ := List.getElem_of_mem hx
    exact h j _ (by omega) (List.getElem?_eq_getElem hj)
  simp [idxOf, this]
/-- how the search ends: at the first bad token, or at none -/
def IdxPost (ts : List Tk) (w : World) (e : Ending) (w' : World) : Prop :=
  ((∃ (k : Nat) (t : Tk), e = .returned (.int .i64 (k : Int)) ∧ ts[k]? = some t ∧ malT t = true ∧ noneYet malT ts k) ∨ (e = .returned (.int .i64 (-1)) ∧ noneYet malT ts ts.length)) ∧ Below w.heap.size w w'
set_option maxHeartbeats 1000000 in
theorem idx_parse (B : Nat) (v : Value) (ts : List Tk) (w : World) (h : TksAt B w v ts) (hB : B ≤ w.heap.size) :
    Calls Tryd.prog 29 #[v, .func (.func 27) #[] #[]] w (IdxPost ts w) := by
  obtain ⟨A, n, c, rfl, Hn, ⟨hl, -⟩, HT, HC⟩ := h.opens
  have H := Lib.hid h
  have HF := Lib.hid mal_parse
  clear h
  go_enter Tryd.func29, Tryd.ntmps29
  go_wp2
  go_loopw [8] (fun i wr => ∃ k : Nat, k ≤ n ∧ i = .int .i64 k ∧ Hid (noneYet malT ts k) ∧ Hid (Below w.heap.size w wr)) (fun i _ => n - (intOf i).toNat)
  case atStart => exact ⟨0, Nat.zero_le _, rfl, Lib.hid (noneYet_zero _ _), Lib.hid (Below.refl _ _)⟩
  case round =>
    obtain ⟨k, hk, rfl, HN, HB⟩ := hrel
    by_cases hlt : k < n
    · obtain ⟨b1, o1, rfl, hb1, g1⟩ := HC.out (by omega)
      obtain ⟨x, hx⟩ := getElem?_of_lt Hn.out hlt
      have hxm := List.mem_of_getElem? hx
      have HX := Lib.hid hx
      have hcs := (g1 k x hx).below (HB.out.mono hB) hb1
      obtain ⟨p0, p1, p2, p3⟩ := hcs
      have C := Lib.hid (HF.out x wr (HT.out x hxm))
      unfold Tk.v at C
      clear HC g1 hx hxm
      cases hm : malT x with
      | true =>
        rw [hm] at C
        have HM := Lib.hid hm
        clear hm
        go_wp2_with fail
        refine C.out.mono ?_
        rintro e W ⟨rfl, hb⟩
        have HB2 := Lib.hid (HB.out.trans (hb.mono HB.out.size))
        clear hb C
        go_wp2_with fail
        go_ret
        exact ⟨.inl ⟨k, x, rfl, HX.out, HM.out, HN.out⟩, HB2.out⟩
      | false =>
        rw [hm] at C
        have HM := Lib.hid (noneYet_succ HN.out HX.out hm)
        clear hm
        go_wp2_with fail
        refine C.out.mono ?_
        rintro e W ⟨rfl, hb⟩
        have HB2 := Lib.hid (HB.out.trans (hb.mono HB.out.size))
        clear hb C
        go_wp2_with fail
        go_roundw
        case rel => exact ⟨k + 1, by omega, by go_num, HM, HB2⟩
        case measure => simp [intOf]; omega
    · obtain rfl : k = n := by omega
      go_wp2
      go_ret
      exact ⟨.inr ⟨rfl, by rw [Hn.out]; exact HN.out⟩, HB.out⟩
end Go.Proofs.YtchpkdpefpiegaaDoor.Tok
