/- Which answer Decode gives, said once for all worlds; a decoded instruction is encoded by the bytes from which it was decoded (the law DecodeUnique). Conditions: the arguments read as forms and bytes. -/
import Derived.Deep.RegionHeld3
import Derived.Test.YtlkjgcifmpjpdaaEncP
namespace Go.Proofs.Ytlkjgcifmpjpdaa
open Go Go.RowKit Go.Shelf

def DecBad (fs : List Frm) (l : List UInt8) (at_ : Int) (p i : Int) : Prop :=
  ∀ (B : Nat) (v cv : Value) (w : World), FormsAt B w v fs → BytesAt B w cv l → B ≤ w.heap.size →
    Calls Try.prog 16 #[v, cv, .int .i64 at_] w fun e w' => e = .returned (.tuple #[noIns, .int .i64 0, faultV (p, i)]) ∧ Below w.heap.size w w'
def DecOk (fs : List Frm) (l : List UInt8) (a k : Nat) (f : Frm) (xs : List Int) : Prop :=
  tableFault fs = (0, 0) ∧ l.length ≤ 1500 ∧ a < l.length ∧ GoodAt fs (l.drop a) k f xs
def decFault (fs : List Frm) (l : List UInt8) (at_ : Int) : Int × Int :=
  if (tableFault fs).1 ≠ 0 then tableFault fs else if 1500 < l.length then (2, -4) else if at_ < 0 ∨ (l.length : Int) ≤ at_ then (3, -5) else (0, 0)
theorem dec_cases (fs : List Frm) (l : List UInt8) (at_ : Int) : (∃ p i, p ≠ 0 ∧ decFault fs l at_ = (p, i) ∧ DecBad fs l at_ p i) ∨
    (∃ a : Nat, at_ = (a : Int) ∧ decFault fs l at_ = (0, 0) ∧ tableFault fs = (0, 0) ∧ a < l.length ∧ (¬ ∃ k f xs, GoodAt fs (l.drop a) k f xs) ∧ DecBad fs l at_ 17 a) ∨
    ∃ (a k : Nat) (f : Frm) (xs : List Int), at_ = (a : Int) ∧ decFault fs l at_ = (0, 0) ∧ DecOk fs l a k f xs := by
  rcases tableFault_cases fs with ht | ht
  · have e0 : ¬ (tableFault fs).1 ≠ 0 := by rw [ht]; decide
    by_cases hl : 1500 < l.length
    · exact .inl ⟨2, -4, by decide, by unfold decFault; rw [if_neg e0, if_pos hl], fun B v cv w h hc hB => decode_long B v cv fs l at_ w h hc hB ht hl⟩
    · by_cases hr : at_ < 0 ∨ (l.length : Int) ≤ at_
      · refine .inl ⟨3, -5, by decide, by unfold decFault; rw [if_neg e0, if_neg hl, if_pos hr], fun B v cv w h hc hB => ?_⟩
        rcases hr with hr | hr
        · exact decode_low B v cv fs l at_ w h hc hB ht (by omega) hr
        · exact decode_high B v cv fs l at_ w h hc hB ht (by omega) hr
      · have e1 : decFault fs l at_ = (0, 0) := by unfold decFault; rw [if_neg e0, if_neg hl, if_neg hr]
        obtain ⟨a, rfl⟩ : ∃ a : Nat, at_ = (a : Int) := ⟨at_.toNat, by omega⟩
        have ha : a < l.length := by omega
        by_cases hg : ∃ k f xs, GoodAt fs (l.drop a) k f xs
        · obtain ⟨k, f, xs, hg⟩ := hg
          exact .inr (.inr ⟨a, k, f, xs, rfl, e1, ht, by omega, ha, hg⟩)
        · exact .inr (.inl ⟨a, rfl, e1, ht, ha, hg, fun B v cv w h hc hB => decode_corrupt B v cv fs l a w h hc hB ht (by omega) ha hg⟩)
  · exact .inl ⟨(tableFault fs).1, (tableFault fs).2, ht, by unfold decFault; rw [if_pos ht], fun B v cv w h hc hB => decode_table B v cv fs l at_ w h hc hB ht⟩
theorem DecOk.enc {fs : List Frm} {l : List UInt8} {a k : Nat} {f : Frm} {xs : List Int} (o : DecOk fs l a k f xs) : EncOk fs k xs f := by
  obtain ⟨ht, _, _, _, g2, _, g4, g5, _⟩ := o
  exact ⟨ht, g2, by rw [g4]; simp [getL], g5⟩
theorem DecOk.calls {fs : List Frm} {l : List UInt8} {a k : Nat} {f : Frm} {xs : List Int} (o : DecOk fs l a k f xs) (B : Nat) (v cv : Value) (w : World) (h : FormsAt B w v fs) (hc : BytesAt B w cv l) (hB : B ≤ w.heap.size) :
    Calls Try.prog 16 #[v, cv, .int .i64 (a : Int)] w fun e w' => ∃ R, e = .returned (.tuple #[.agg #[.int .i64 (k : Int), .slice (some ⟨R, 0, none⟩) f.kinds.length f.kinds.length], .int .i64 (sizeOf f.kinds : Nat), faultV (0, 0)]) ∧
      KindsAt w'.heap.size w' (.slice (some ⟨R, 0, none⟩) f.kinds.length f.kinds.length) xs ∧ Below w.heap.size w w' := by
  have h4 := (valid_form o.1 (List.mem_of_getElem? o.enc.2.1)).short
  obtain ⟨ht, hl, ha, hg⟩ := o
  exact (decode_ok B v cv fs l a w h hc hB ht hl ha k f xs hg).mono fun e w' ⟨R, he, hr, hb⟩ => ⟨R, he, kinds_of_row hr (by omega), hb⟩

/-- a box of an instruction and a box of a fault, still there -/
theorem box2_kept {W2 W3 : World} {x y u z : Value} {t s : TypeId} (hb : Below ((W2.alloc (.cells #[x, y] t)).alloc (.cells #[u, z] s)).heap.size ((W2.alloc (.cells #[x, y] t)).alloc (.cells #[u, z] s)) W3) :
    W3.cell? ⟨W2.heap.size, 0, none⟩ = some x ∧ W3.cell? ⟨W2.heap.size, 1, none⟩ = some y ∧ W3.cell? ⟨W2.heap.size + 1, 0, none⟩ = some u ∧ Below W2.heap.size W2 W3 := by
  have h0 : Below W2.heap.size W2 ((W2.alloc (.cells #[x, y] t)).alloc (.cells #[u, z] s)) := ((Below.refl _ _).alloc (Nat.le_refl _) _).alloc (by simp) _
  have e0 : ((W2.alloc (.cells #[x, y] t)).alloc (.cells #[u, z] s)).cell? ⟨W2.heap.size, 0, none⟩ = some x := cell_alloc_l _ (by simp)
  have e1 : ((W2.alloc (.cells #[x, y] t)).alloc (.cells #[u, z] s)).cell? ⟨W2.heap.size, 1, none⟩ = some y := cell_alloc_l _ (by simp)
  have e2 : ((W2.alloc (.cells #[x, y] t)).alloc (.cells #[u, z] s)).cell? ⟨W2.heap.size + 1, 0, none⟩ = some u := by simp
  exact ⟨(hb.cell (p := ⟨W2.heap.size, 0, none⟩) (block_lt_of_cell e0)).trans e0, (hb.cell (p := ⟨W2.heap.size, 1, none⟩) (block_lt_of_cell e1)).trans e1, (hb.cell (p := ⟨W2.heap.size + 1, 0, none⟩) (block_lt_of_cell e2)).trans e2, h0.trans (hb.mono h0.size)⟩

theorem inB_true {n a b : Int} (h1 : a ≤ n) (h2 : n ≤ b) : inB n a b = true := by simp [inB, h1, h2]
theorem uniq_sums {a n sz : Nat} (hn : n ≤ 1500) (ha : a < n) (hs : sz ≤ n - a) : wrap64 ((n : Int) - (a : Int)) = (n : Int) - (a : Int) ∧ wrap64 ((a : Int) + (sz : Int)) = ((a + sz : Nat) : Int) ∧ inB (sz : Int) 0 ((n : Int) - (a : Int)) = true := by
  refine ⟨by rw [IntWalk.wrap64_in _ (by omega)], by rw [IntWalk.wrap64_in _ (by omega)]; omega, inB_true (by omega) (by omega)⟩

theorem uniq_slice {a n sz c : Nat} (hn : n ≤ 1500) (ha : a < n) (hs : sz ≤ n - a) (hc : n ≤ c) : ∃ e : Nat, wrap64 ((a : Int) + (sz : Int)) = (e : Int) ∧ a ≤ e ∧ e ≤ c ∧ ¬ c = a ∧ e - a = sz ∧ e ≤ n :=
  ⟨a + sz, (uniq_sums hn ha hs).2.1, by omega, by omega, by omega, by omega, by omega⟩

set_option maxRecDepth 100000 in
set_option maxHeartbeats 2000000 in
theorem law_unique (B : Nat) (v cv : Value) (fs : List Frm) (l : List UInt8) (at_ : Int) (w : World) (h : FormsAt B w v fs) (hl : BytesAt B w cv l) (hB : B ≤ w.heap.size) :
    Calls Try.prog 7 #[v, cv, .int .i64 at_] w fun e w' => e = .returned (.bool true) ∧ Below w.heap.size w w' := by
  obtain ⟨A, n, c, rfl, _⟩ := h.opens
  obtain ⟨A1, n1, c1, rfl, hn1, hnc, hop⟩ := hl.opens
  have bad : (∃ p i, p ≠ 0 ∧ DecBad fs l at_ p i) ∨ ∃ (a k : Nat) (f : Frm) (xs : List Int), at_ = (a : Int) ∧ DecOk fs l a k f xs := by
    rcases dec_cases fs l at_ with ⟨p, i, h1, _, h2⟩ | ⟨a, _, _, _, _, _, h2⟩ | ⟨a, k, f, xs, h1, _, h2⟩
    · exact .inl ⟨p, i, h1, h2⟩
    · exact .inl ⟨17, a, by decide, h2⟩
    · exact .inr ⟨a, k, f, xs, h1, h2⟩
  rcases bad with ⟨p, i, hp, E1⟩ | ⟨a, k, f, xs, rfl, o⟩
  · have X1 := Lib.hid E1
    clear E1 hop hnc
    go_enter Try.func7, Try.ntmps7
    go_wp2_with fail
    refine (encExample_any _).mono ?_
    rintro e W1 ⟨rfl, hb1⟩
    have fa := (h.below (hb1.mono hB))
    have la := (hl.below (hb1.mono hB))
    have hB1 : B ≤ W1.heap.size := Nat.le_trans hB hb1.size
    have FA := Lib.hid fa
    have LA := Lib.hid la
    clear h hl fa la
    go_wp2_with fail
    refine (X1.out _ _ _ _ FA.out LA.out hB1).mono ?_
    rintro e W2 ⟨rfl, hb2⟩
    go_wp2_with fail
    refine bodyPost_ret (v := .bool true) (by simp [results, Try.results7, go_sem]) rfl ⟨rfl, ?_⟩
    have w2 := hb1.trans (hb2.mono hb1.size)
    exact (w2.alloc w2.size _).alloc (by have := w2.size; simp; omega) _
  · have oe := o.enc
    have hlen1 : l.length = n1 := hn1.out
    have hlen := o.2.1
    have ha := o.2.2.1
    have g3 := o.2.2.2.2.2.1
    rw [List.length_drop, hlen1] at g3
    rw [hlen1] at ha hlen
    obtain ⟨b1, o1, hA1, -⟩ := hop (Nat.lt_of_le_of_lt (Nat.zero_le _) ha)
    have HA1 := Lib.hid hA1
    have HNC := Lib.hid hnc.2
    clear hA1 hnc
    obtain ⟨hwr, -, i2⟩ := uniq_sums hlen ha g3
    have HS := Lib.hid (uniq_slice hlen ha g3 HNC.out)
    have I1 := Lib.hid (inB_true (n := (a : Int)) (a := 0) (b := (n1 : Int)) (Int.natCast_nonneg _) (by exact_mod_cast Nat.le_of_lt ha))
    have I2 := Lib.hid i2
    have O := Lib.hid o
    clear i2 o hlen1 hlen ha g3 hop
    go_enter Try.func7, Try.ntmps7
    go_wp2_with fail
    refine (encExample_any _).mono ?_
    rintro e W1 ⟨rfl, hb1⟩
    have fa := (h.below (hb1.mono hB))
    have la := (hl.below (hb1.mono hB))
    have hB1 : B ≤ W1.heap.size := Nat.le_trans hB hb1.size
    have FA := Lib.hid fa
    have LA := Lib.hid la
    clear h hl fa la
    go_wp2_with fail
    refine (O.out.calls _ _ _ _ FA.out LA.out hB1).mono ?_
    rintro e W2 ⟨R2, rfl, hk2, hb2⟩
    go_wp2_with fail
    have a2 : Below W2.heap.size W2 ((W2.alloc (.cells #[.int .i64 (k : Int), .slice (some ⟨R2, 0, none⟩) f.kinds.length f.kinds.length] 25)).alloc (.cells #[.int .i64 0, .int .i64 0] 29)) := ((Below.refl _ _).alloc (Nat.le_refl _) _).alloc (by simp) _
    have b2 := hb2.trans (a2.mono hb2.size)
    refine (oe.calls ((W2.alloc (.cells #[.int .i64 (k : Int), .slice (some ⟨R2, 0, none⟩) f.kinds.length f.kinds.length] 25)).alloc (.cells #[.int .i64 0, .int .i64 0] 29)).heap.size _ _ _ ((FA.out.below (b2.mono hB1)).more (Nat.le_trans hB1 b2.size)) ((hk2.below a2).more a2.size) (Nat.le_refl _)).mono ?_
    rintro e W3 ⟨R3, rfl, hby3, hb3⟩
    obtain ⟨x1, x2, x3, hb23⟩ := box2_kept hb3
    have z1 := block_lt_of_cell x1
    have z3 := block_lt_of_cell x3
    have b3 := hb2.trans (hb23.mono hb2.size)
    have hB3 := Nat.le_trans hB1 b3.size
    have F3 := Lib.hid (FA.out.below (b3.mono hB1))
    have L3 := Lib.hid (LA.out.below (b3.mono hB1))
    have Y3 := Lib.hid hby3
    have X3 := Lib.hid (And.intro x1 (And.intro x2 x3))
    clear a2 b2 hk2 hb3 hb23 hby3 hb2 FA LA
    go_wp2_with fail
    have a4 : Below W3.heap.size W3 (W3.alloc (.cells #[.int .i64 0, .int .i64 0] 29)) := (Below.refl _ _).alloc (Nat.le_refl _) _
    refine (size_ok B _ fs k f _ (F3.out.below (a4.mono hB3)) (Nat.le_trans hB3 a4.size) oe.1 oe.2.1).mono ?_
    rintro e W4 ⟨rfl, hb4⟩
    obtain ⟨y1, hb34⟩ := box_kept hb4
    have t1 := block_lt_of_cell y1
    have b4 := b3.trans (hb34.mono b3.size)
    have L4 := Lib.hid (L3.out.below (hb34.mono hB3))
    have Y4 := Lib.hid ((Y3.out.below hb34).more hb34.size)
    clear a4 hb4 x1 x2 x3 z1 z3
    go_wp2_with fail
    refine (in_any _ _ _ _).mono ?_
    rintro e w' ⟨rfl, rfl⟩
    rw [I1.out]
    go_wp2_with fail
    refine (in_any _ _ _ _).mono ?_
    rintro e w' ⟨rfl, rfl⟩
    rw [I2.out]
    obtain ⟨en, hwr2, hae, hec, hne, hes, hen⟩ := HS.out
    have HEN := Lib.hid hen
    clear hen
    have HES := Lib.hid hes
    have hA1 := HA1.out
    subst hA1
    clear hes
    go_wp2_with fail
    have a5 : Below W4.heap.size W4 (W4.alloc (.cells #[.int .i64 0, .int .i64 0] 29)) := (Below.refl _ _).alloc (Nat.le_refl _) _
    have hcode : encL f.code (f.kinds.zip xs) = (l.take en).drop a := by
      rw [List.drop_take, HES.out]
      exact O.out.2.2.2.2.2.2.2.2.symm
    refine (bytes_any W4.heap.size _ _ _ _ _ (Y4.out.below a5) (((L4.out.more (Nat.le_trans hB1 b4.size)).below a5).take HEN.out |>.drop hae)).mono ?_
    rintro e w' ⟨rfl, rfl⟩
    rw [decide_eq_true hcode]
    have w5 := (hb1.trans (b4.mono hb1.size)).trans (a5.mono (Nat.le_trans hb1.size b4.size))
    go_wp2_with fail
    refine bodyPost_ret (v := .bool true) (by simp [results, Try.results7, go_sem]) rfl ⟨rfl, w5⟩
end Go.Proofs.Ytlkjgcifmpjpdaa
