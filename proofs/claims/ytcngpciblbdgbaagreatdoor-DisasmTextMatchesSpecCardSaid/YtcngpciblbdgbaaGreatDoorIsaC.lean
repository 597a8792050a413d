/- Contracts of the functions that take a form by value: FormSize, SameForm, clash, and of the two function literals that are handed to slices.IndexFunc and ContainsFunc over forms; of these two as well. No conditions beyond the readings. -/
import Derived.Test.YtcngpciblbdgbaaGreatDoorIsaB
import Derived.Shelf.Abstract
namespace Go.Proofs.YtcngpciblbdgbaaGreatDoor
open Go Go.RowKit

/-! ## FormSize -/
set_option maxHeartbeats 400000 in
theorem formSize_any (B : Nat) (nm : ByteArray) (code : Int) (v : Value) (ks : List Int) (w : World) (h : KindsAt B w v ks) (hB : B ≤ w.heap.size) :
    Calls Tryz.prog 13 #[.agg #[.string nm, .int .i64 code, v]] w fun e w' => e = .returned (.int .i64 (sizeOf ks : Nat)) ∧ Below w.heap.size w w' := by
  obtain ⟨A, n, c, rfl, hks, hn, hc⟩ := h.opens
  clear h
  go_enter Tryz.func13, Tryz.ntmps13
  go_wp2
  go_loop [3, 4, 5] (fun t u i => ∃ k m b : Nat, k ≤ n ∧ i = .int .i64 k ∧ t = .int .i64 m ∧ u = .int .i64 b ∧ m ≤ k ∧ b ≤ 1 + 4 * k ∧ Hid (m = regs (ks.take k)) ∧ Hid (b = 1 + widths (ks.take k))) (fun _ _ i => n - (intOf i).toNat)
  case atStart => exact ⟨0, 0, 1, Nat.zero_le _, rfl, rfl, rfl, Nat.le_refl _, by omega, Lib.hid rfl, Lib.hid rfl⟩
  case round =>
    obtain ⟨k, m, b, hk, rfl, rfl, rfl, hm, hb, Hm, Hb⟩ := hrel
    by_cases hlt : k < n
    · obtain ⟨b1, o1, rfl, hb1, g1⟩ := hc (by omega)
      have d0 := g1 k hlt
      have ht := take_at hks hlt
      generalize ks[k]?.getD 0 = x at d0 ht
      have d1 : (w.alloc (.cells #[.string nm, .int .i64 code, .slice (some ⟨b1, o1, none⟩) n c] 39)).cell? ⟨b1, o1 + k, none⟩ = some (.int .i64 x) := by
        rw [World.cell?_alloc_lt _ _ _ (by simp; omega)]; exact d0
      have hs := regs_snoc (ks.take k) x
      have hs2 := widths_snoc (ks.take k) x
      rw [← ht] at hs hs2
      rw [← Hm.out] at hs
      have Hs := Lib.hid hs
      have Hs2 := Lib.hid hs2
      clear hs hs2 ht g1 hc d0
      rcases kind_cases x with rfl | rfl | rfl | rfl | rfl | rfl | ⟨e1, e2, e3, e4, e5, e6⟩
      · go_wp2
        go_round
        case rel => exact ⟨k + 1, m + 1, b, by omega, by go_num, by go_num, rfl, by omega, by omega, by rw [Hs.out]; exact Lib.hid rfl, by rw [Hs2.out, Hb.out]; exact Lib.hid rfl⟩
        case measure => simp [intOf]; omega
      · go_wp2
        go_round
        case rel => exact ⟨k + 1, m + 1, b, by omega, by go_num, by go_num, rfl, by omega, by omega, by rw [Hs.out]; exact Lib.hid rfl, by rw [Hs2.out, Hb.out]; exact Lib.hid rfl⟩
        case measure => simp [intOf]; omega
      · go_wp2
        go_round
        case rel => exact ⟨k + 1, m, b + 1, by omega, by go_num, rfl, by go_num, by omega, by omega, by rw [Hs.out]; exact Lib.hid rfl, by rw [Hs2.out, Hb.out]; exact Lib.hid rfl⟩
        case measure => simp [intOf]; omega
      · go_wp2
        go_round
        case rel => exact ⟨k + 1, m, b + 1, by omega, by go_num, rfl, by go_num, by omega, by omega, by rw [Hs.out]; exact Lib.hid rfl, by rw [Hs2.out, Hb.out]; exact Lib.hid rfl⟩
        case measure => simp [intOf]; omega
      · go_wp2
        go_round
        case rel => exact ⟨k + 1, m, b + 2, by omega, by go_num, rfl, by go_num, by omega, by omega, by rw [Hs.out]; exact Lib.hid rfl, by rw [Hs2.out, Hb.out]; exact Lib.hid rfl⟩
        case measure => simp [intOf]; omega
      · go_wp2
        go_round
        case rel => exact ⟨k + 1, m, b + 4, by omega, by go_num, rfl, by go_num, by omega, by omega, by rw [Hs.out]; exact Lib.hid rfl, by rw [Hs2.out, Hb.out]; exact Lib.hid rfl⟩
        case measure => simp [intOf]; omega
      · have e0 : regsOf x = 0 := by simp [regsOf, e1, e2]
        have e00 : widthOf x = 0 := by simp [widthOf, e3, e4, e5, e6]
        rw [e0] at Hs
        rw [e00] at Hs2
        clear e0 e00
        go_wp2
        go_round
        case rel => exact ⟨k + 1, m, b, by omega, by go_num, rfl, rfl, by omega, by omega, by rw [Hs.out]; exact Lib.hid rfl, by rw [Hs2.out, Hb.out]; exact Lib.hid rfl⟩
        case measure => simp [intOf]; omega
    · obtain rfl : k = n := by omega
      go_wp2
      go_ret
      have h1 := Hm.out
      have h2 := Hb.out
      rw [List.take_of_length_le (by rw [hks.out]; omega)] at h1 h2
      exact ⟨ret_int (by unfold sizeOf; rw [← h1, ← h2]; omega), (Below.refl _ _).alloc (Nat.le_refl _) _⟩

/-! ## SameForm, clash -/
def nameB (f g : Frm) : Bool := f.name.toList == g.name.toList
def sameB (f g : Frm) : Bool := nameB f g && decide (f.kinds = g.kinds)
set_option maxHeartbeats 400000 in
theorem same_any (B : Nat) (f g : Frm) (w : World) (hf : KindsAt B w f.kv f.kinds) (hg : KindsAt B w g.kv g.kinds) (hB : B ≤ w.heap.size) :
    Calls Tryz.prog 26 #[f.val, g.val] w fun e w' => e = .returned (.bool (sameB f g)) ∧ Below w.heap.size w w' := by
  obtain ⟨n1, c1, v1, k1⟩ := f
  obtain ⟨n2, c2, v2, k2⟩ := g
  dsimp only [Frm.val, sameB, nameB] at *
  have hb : Below B w ((w.alloc (.cells #[.string n1, .int .i64 c1, v1] 39)).alloc (.cells #[.string n2, .int .i64 c2, v2] 39)) := ((Below.refl _ _).alloc hB _).alloc (by simp; omega) _
  have kf := hf.below hb
  have kg := hg.below hb
  have hbw : Below w.heap.size w ((w.alloc (.cells #[.string n1, .int .i64 c1, v1] 39)).alloc (.cells #[.string n2, .int .i64 c2, v2] 39)) := ((Below.refl _ _).alloc (Nat.le_refl _) _).alloc (by simp) _
  clear hb
  obtain ⟨A1, m1, c1', rfl, _⟩ := hf.opens
  obtain ⟨A2, m2, c2', rfl, _⟩ := hg.opens
  have C := equal_any
  have C := ints_any B _ _ k1 k2 _ kf kg
  have HC := Lib.hid C
  clear C hf hg kf kg
  cases hn : (n1.toList == n2.toList) with
  | true =>
    go_enter Tryz.func26, Tryz.ntmps26
    go_wp2_with (go_at_call 22; refine HC.out.mono ?_; rintro e w' ⟨rfl, nq, rfl⟩)
    go_ret
    exact ⟨ret_bool (by simp), below_drewN hbw _⟩
  | false =>
    go_enter Tryz.func26, Tryz.ntmps26
    go_wp2
    go_ret
    exact ⟨ret_bool (by simp), hbw⟩

def clashB (f g : Frm) : Bool := f.code == g.code || sameB f g
set_option maxHeartbeats 400000 in
theorem clash_any (B : Nat) (f g : Frm) (w : World) (hf : KindsAt B w f.kv f.kinds) (hg : KindsAt B w g.kv g.kinds) (hB : B ≤ w.heap.size) :
    Calls Tryz.prog 59 #[f.val, g.val] w fun e w' => e = .returned (.bool (clashB f g)) ∧ Below w.heap.size w w' := by
  obtain ⟨n1, c1, v1, k1⟩ := f
  obtain ⟨n2, c2, v2, k2⟩ := g
  dsimp only [Frm.val, clashB, sameB, nameB] at *
  have hb : Below B w ((w.alloc (.cells #[.string n1, .int .i64 c1, v1] 39)).alloc (.cells #[.string n2, .int .i64 c2, v2] 39)) := ((Below.refl _ _).alloc hB _).alloc (by simp; omega) _
  have kf := hf.below hb
  have kg := hg.below hb
  have hbw : Below w.heap.size w ((w.alloc (.cells #[.string n1, .int .i64 c1, v1] 39)).alloc (.cells #[.string n2, .int .i64 c2, v2] 39)) := ((Below.refl _ _).alloc (Nat.le_refl _) _).alloc (by simp) _
  clear hb
  obtain ⟨A1, m1, c1', rfl, _⟩ := hf.opens
  obtain ⟨A2, m2, c2', rfl, _⟩ := hg.opens
  have C := equal_any B _ _ k1 k2 _ kf kg
  have HC := Lib.hid C
  clear C hf hg kf kg
  cases hc : (c1 == c2) with
  | true =>
    go_enter Tryz.func59, Tryz.ntmps59
    go_wp2
    go_ret
    exact ⟨ret_bool (by simp), hbw⟩
  | false =>
    cases hn : (n1.toList == n2.toList) with
    | true =>
      go_enter Tryz.func59, Tryz.ntmps59
      go_wp2_with (go_at_call 69; refine HC.out.mono ?_; rintro e w' ⟨rfl, nq, rfl⟩)
      go_ret
      exact ⟨ret_bool (by simp), below_drewN hbw _⟩
    | false =>
      go_enter Tryz.func59, Tryz.ntmps59
      go_wp2
      go_ret
      exact ⟨ret_bool (by simp), hbw⟩

/-! ## the literal in checks that asks of an earlier form whether it clashes; its captured variable holds the form at hand -/
set_option maxHeartbeats 400000 in
theorem clashes_any (B b : Nat) (f g : Frm) (w : World) (hf : KindsAt B w f.kv f.kinds) (hg : KindsAt B w g.kv g.kinds) (hB : B ≤ w.heap.size) (hb : FrmCells w b 0 f) :
    Calls Tryz.prog 58 #[g.val, .pointer (some ⟨b, 0, none⟩)] w fun e w' => e = .returned (.bool (clashB f g)) ∧ Below w.heap.size w w' := by
  have hbB : Below B w (w.alloc (.cells #[.string g.name, .int .i64 g.code, g.kv] 39)) := (Below.refl _ _).alloc hB _
  have C := clash_any B f g _ (hf.below hbB) (hg.below hbB) (by simp; omega)
  have HC := Lib.hid C
  clear C
  have hlt : b < w.heap.size := block_lt_of_cell hb.1
  obtain ⟨c1, c2, c3⟩ := hb
  have hbw : Below w.heap.size w (w.alloc (.cells #[.string g.name, .int .i64 g.code, g.kv] 39)) := (Below.refl _ _).alloc (Nat.le_refl _) _
  have d1 := (hbw.cell (p := ⟨b, 0, none⟩) hlt).trans c1
  have d2 := (hbw.cell (p := ⟨b, 0 + 1, none⟩) hlt).trans c2
  have d3 := (hbw.cell (p := ⟨b, 0 + 2, none⟩) hlt).trans c3
  simp only [Nat.zero_add] at d2 d3
  obtain ⟨A1, m1, e1, hk1, _⟩ := hf.opens
  obtain ⟨A2, m2, e2, hk2, _⟩ := hg.opens
  obtain ⟨n1, q1, v1, k1⟩ := f
  obtain ⟨n2, q2, v2, k2⟩ := g
  dsimp only [Frm.val] at *
  subst hk1
  subst hk2
  clear hf hg hbB c1 c2 c3
  go_enter Tryz.func58, Tryz.ntmps58
  go_wp2_with (go_at_call 59; refine HC.out.mono ?_; rintro e w' ⟨rfl, hb'⟩)
  go_ret
  exact ⟨rfl, hbw.trans (hb'.mono (by simp))⟩

/-! ## the literal in Find that asks of a form whether it has the name and the kinds -/
def hasB (nm : ByteArray) (ks : List Int) (g : Frm) : Bool := g.name.toList == nm.toList && decide (g.kinds = ks)
set_option maxHeartbeats 400000 in
theorem has_any (B b1 b2 : Nat) (nm : ByteArray) (kv : Value) (ks : List Int) (g : Frm) (w : World) (hf : KindsAt B w kv ks) (hg : KindsAt B w g.kv g.kinds) (hB : B ≤ w.heap.size)
    (h1 : w.cell? ⟨b1, 0, none⟩ = some (.string nm)) (h2 : w.cell? ⟨b2, 0, none⟩ = some kv) :
    Calls Tryz.prog 68 #[g.val, .pointer (some ⟨b1, 0, none⟩), .pointer (some ⟨b2, 0, none⟩)] w fun e w' => e = .returned (.bool (hasB nm ks g)) ∧ Below w.heap.size w w' := by
  have hbB : Below B w (w.alloc (.cells #[.string g.name, .int .i64 g.code, g.kv] 39)) := (Below.refl _ _).alloc hB _
  have C := equal_any B _ _ g.kinds ks _ (hg.below hbB) (hf.below hbB)
  have HC := Lib.hid C
  clear C
  have hlt1 : b1 < w.heap.size := block_lt_of_cell h1
  have hlt2 : b2 < w.heap.size := block_lt_of_cell h2
  have hbw : Below w.heap.size w (w.alloc (.cells #[.string g.name, .int .i64 g.code, g.kv] 39)) := (Below.refl _ _).alloc (Nat.le_refl _) _
  have d1 := (hbw.cell (p := ⟨b1, 0, none⟩) hlt1).trans h1
  have d2 := (hbw.cell (p := ⟨b2, 0, none⟩) hlt2).trans h2
  obtain ⟨A1, m1, c1, hk1, _⟩ := hf.opens
  obtain ⟨A2, m2, c2, hk2, _⟩ := hg.opens
  obtain ⟨n2, q2, v2, k2⟩ := g
  dsimp only [Frm.val, hasB] at *
  subst hk1
  subst hk2
  clear hf hg hbB h1 h2
  cases hn : (n2.toList == nm.toList) with
  | true =>
    go_enter Tryz.func68, Tryz.ntmps68
    go_wp2_with (go_at_call 69; refine HC.out.mono ?_; rintro e w' ⟨rfl, nq, rfl⟩)
    go_ret
    exact ⟨ret_bool (by simp), below_drewN hbw _⟩
  | false =>
    go_enter Tryz.func68, Tryz.ntmps68
    go_wp2
    go_ret
    exact ⟨ret_bool (by simp), hbw⟩
/-! ## slices.IndexFunc and ContainsFunc over forms -/
/-- the function value (function g, captured lb) answers p at every form of fs, in every world in which all that lay in w lies unturned -/
def Answers (g : Nat) (lb : Array Value) (p : Frm → Bool) (fs : List Frm) (w : World) : Prop :=
  ∀ (W : World) (f : Frm), f ∈ fs → Below w.heap.size w W → Calls Tryz.prog g (#[f.val] ++ lb) W fun e w' => e = .returned (.bool (p f)) ∧ Below W.heap.size W w'
set_option maxHeartbeats 400000 in
theorem index_forms (B g : Nat) (lb : Array Value) (p : Frm → Bool) (v : Value) (fs : List Frm) (w : World) (h : FormsAt B w v fs) (hB : B ≤ w.heap.size) (hp : Answers g lb p fs w)
    (eg : ∀ args w, (callFunc g args).run Tryz.prog w = .ok (.enter g args) w) :
    Calls Tryz.prog 60 #[v, .func (.func g) #[] lb] w fun e w' => e = .returned (.int .i64 (idxOf p fs)) ∧ Below w.heap.size w w' := by
  obtain ⟨A, n, c, rfl, hfs, ⟨hn, _⟩, hk, hc⟩ := h.opens
  clear h
  go_enter Tryz.func60, Tryz.ntmps60
  go_wp2
  go_loopw [8] (fun i wr => ∃ k : Nat, k ≤ n ∧ i = .int .i64 k ∧ noneYet p fs k ∧ Below w.heap.size w wr) (fun i _ => n - (intOf i).toNat)
  case atStart => exact ⟨0, Nat.zero_le _, rfl, noneYet_zero _ _, Below.refl _ _⟩
  case round =>
    obtain ⟨k, hk', rfl, ht, hb⟩ := hrel
    have Ht := Lib.hid ht
    clear ht
    by_cases hlt : k < n
    · obtain ⟨b1, o1, rfl, hb1, g1⟩ := hc (by omega)
      obtain ⟨f, hx, hm⟩ := getElem?_of_lt hfs hlt
      have Hx := Lib.hid hx
      have hcell := (g1 k f hx).below (hb.mono hB) hb1
      have C := hp wr f hm hb
      have kf := (hk f hm).1
      obtain ⟨fA, fm, fc, fkv, _⟩ := kf.opens
      obtain ⟨nm, q, kv, ks⟩ := f
      dsimp only at fkv
      subst fkv
      obtain ⟨d1, d2, d3⟩ := hcell
      dsimp only [Frm.val] at *
      clear hx hm hc g1 hk kf
      cases hu : p ⟨nm, q, .slice fA fm fc, ks⟩ with
      | true =>
        rw [hu] at C
        have HC := Lib.hid C
        have Hu := Lib.hid hu
        clear C hu
        go_wp2_with (go_at_fn g; refine HC.out.mono ?_; rintro e w' ⟨rfl, hb2⟩)
        go_ret
        exact ⟨ret_int (idxOf_hit Ht.out Hx.out Hu.out).symm, hb.trans (hb2.mono hb.size)⟩
      | false =>
        rw [hu] at C
        have HC := Lib.hid C
        have Hu := Lib.hid hu
        clear C hu
        go_wp2_with (go_at_fn g; refine HC.out.mono ?_; rintro e w' ⟨rfl, hb2⟩)
        go_roundw
        case rel => exact ⟨k + 1, by omega, by go_num, noneYet_succ Ht.out Hx.out Hu.out, hb.trans (hb2.mono hb.size)⟩
        case measure => simp [intOf]; omega
    · obtain rfl : k = n := by omega
      go_wp2
      go_ret
      exact ⟨ret_int (idxOf_none (by rw [hfs.out]; omega) Ht.out).symm, hb⟩
theorem contains_forms (B g : Nat) (lb : Array Value) (p : Frm → Bool) (v : Value) (fs : List Frm) (w : World) (h : FormsAt B w v fs) (hB : B ≤ w.heap.size) (hp : Answers g lb p fs w)
    (eg : ∀ args w, (callFunc g args).run Tryz.prog w = .ok (.enter g args) w) :
    Calls Tryz.prog 57 #[v, .func (.func g) #[] lb] w fun e w' => e = .returned (.bool (fs.any p)) ∧ Below w.heap.size w w' := by
  have C := index_forms B g lb p v fs w h hB hp eg
  have hr := idxOf_ge p fs
  generalize hj : idxOf p fs = j at *
  have Hr := Lib.hid hr
  have HC := Lib.hid C
  obtain ⟨A, n, c, rfl, _⟩ := h.opens
  clear hj hr C h hp eg
  by_cases hp : 0 ≤ j
  · go_enter Tryz.func57, Tryz.ntmps57
    go_wp2_with (go_at_call 60; refine HC.out.mono ?_; rintro e w' ⟨rfl, hb2⟩)
    go_ret
    exact ⟨ret_bool (Hr.out.1 hp).symm, hb2⟩
  · go_enter Tryz.func57, Tryz.ntmps57
    go_wp2_with (go_at_call 60; refine HC.out.mono ?_; rintro e w' ⟨rfl, hb2⟩)
    go_ret
    exact ⟨ret_bool (by cases h : fs.any p with | true => exact absurd (Hr.out.2 h) (by omega) | false => simp; omega), hb2⟩
end Go.Proofs.YtcngpciblbdgbaaGreatDoor
