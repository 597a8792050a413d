/- What a slice of named values reads as; contract of lookUp. Conditions: the reading. -/
import Derived.Test.YtchpkdpefpiegaaDoorExI
namespace Go.Proofs.YtchpkdpefpiegaaDoor.Tok
open Go Go.RowKit

structure Nm where
  name : List UInt8
  lin : Ln
def Nm.v (m : Nm) : Value := .agg #[strV m.name, strV m.lin.sym, strV m.lin.minus, .int .i64 m.lin.num]
def NmCells (w : World) (b o : Nat) (m : Nm) : Prop :=
  w.cell? ⟨b, o, none⟩ = some (strV m.name) ∧ w.cell? ⟨b, o + 1, none⟩ = some (strV m.lin.sym) ∧ w.cell? ⟨b, o + 2, none⟩ = some (strV m.lin.minus) ∧ w.cell? ⟨b, o + 3, none⟩ = some (.int .i64 m.lin.num)
def Nm.Short (m : Nm) : Prop := m.name.length ≤ 140737488351232 ∧ m.lin.sym.length ≤ 140737488351232 ∧ m.lin.minus.length ≤ 140737488351232
/-- the slice value v reads as the named values l; its cells lie below block B -/
def NmsAt (B : Nat) (w : World) (v : Value) (l : List Nm) : Prop :=
  ∃ A c, v = .slice A l.length c ∧ (l.length * 56 ≤ 140737488351232 ∧ l.length ≤ c) ∧ (∀ m ∈ l, m.Short) ∧
   (0 < l.length → ∃ b off, A = some ⟨b, off, none⟩ ∧ b < B ∧ ∀ j m, l[j]? = some m → NmCells w b (off + j * 4) m)
theorem NmsAt.opens {B : Nat} {w : World} {v : Value} {l : List Nm} (h : NmsAt B w v l) : ∃ A n c, v = .slice A n c ∧ Hid (l.length = n) ∧ (n * 56 ≤ 140737488351232 ∧ n ≤ c) ∧ Hid (∀ m ∈ l, m.Short) ∧
    Hid (0 < n → ∃ b off, A = some ⟨b, off, none⟩ ∧ b < B ∧ ∀ j m, l[j]? = some m → NmCells w b (off + j * 4) m) := by
  obtain ⟨A, c, h1, h2, h3, h4⟩ := h
  exact ⟨A, _, c, h1, Lib.hid rfl, h2, Lib.hid h3, Lib.hid h4⟩
theorem NmCells.below {B : Nat} {w w' : World} {b o : Nat} {m : Nm} (h : NmCells w b o m) (hb : Below B w w') (hlt : b < B) : NmCells w' b o m :=
  ⟨(hb.cell (p := ⟨b, o, none⟩) hlt).trans h.1, (hb.cell (p := ⟨b, o + 1, none⟩) hlt).trans h.2.1, (hb.cell (p := ⟨b, o + 2, none⟩) hlt).trans h.2.2.1, (hb.cell (p := ⟨b, o + 3, none⟩) hlt).trans h.2.2.2⟩
theorem NmsAt.below {B : Nat} {w w' : World} {v : Value} {l : List Nm} (h : NmsAt B w v l) (hb : Below B w w') : NmsAt B w' v l := by
  obtain ⟨A, c, h1, h2, h3, h4⟩ := h
  refine ⟨A, c, h1, h2, h3, fun hn => ?_⟩
  obtain ⟨b, off, ha, hlt, hc⟩ := h4 hn
  exact ⟨b, off, ha, hlt, fun j m hj => (hc j m hj).below hb hlt⟩
theorem NmsAt.more {B B' : Nat} {w : World} {v : Value} {l : List Nm} (h : NmsAt B w v l) (hB : B ≤ B') : NmsAt B' w v l := by
  obtain ⟨A, c, h1, h2, h3, h4⟩ := h
  refine ⟨A, c, h1, h2, h3, fun hn => ?_⟩
  obtain ⟨b, off, ha, hlt, hc⟩ := h4 hn
  exact ⟨b, off, ha, by omega, hc⟩
theorem NmsAt.nil (w : World) : NmsAt 0 w (.slice none 0 0) [] := ⟨none, 0, rfl, by simp, by simp, fun h => absurd h (by simp)⟩
/-- the first value with a name -/
def lookL (s : List UInt8) (l : List Nm) : Ln := match l.find? (fun m => m.name == s) with | some m => m.lin | none => ⟨s, [], 0⟩
theorem lookL_hit {s : List UInt8} {l : List Nm} {k : Nat} {m : Nm} (h : noneYet (fun m => m.name == s) l k) (hx : l[k]? = some m) (hm : (m.name == s) = true) : lookL s l = m.lin := by
  have hk : k < l.length := (List.getElem?_eq_some_iff.1 hx).1
  have hxe : l[k] = m := (List.getElem?_eq_some_iff.1 hx).2
  have : l.find? (fun m => m.name == s) = some m := by
    rw [List.find?_eq_some_iff_getElem]
    exact ⟨hm, k, hk, hxe, fun j hj => by simp [h j _ hj (List.getElem?_eq_getElem (Nat.lt_trans hj hk))]⟩
  unfold lookL
  rw [this]
theorem lookL_none {s : List UInt8} {l : List Nm} (h : noneYet (fun m => m.name == s) l l.length) : lookL s l = ⟨s, [], 0⟩ := by
  have : l.find? (fun m => m.name == s) = none := by
    rw [List.find?_eq_none]
    intro x hx
    obtain ⟨j, hj, rfl⟩ := List.getElem_of_mem hx
    simp [h j _ hj (List.getElem?_eq_getElem hj)]
  unfold lookL
  rw [this]
def strW (w : World) (s : List UInt8) : World := w.alloc (.cells #[strV s] 9)
theorem strW_below (w : World) (s : List UInt8) : Below w.heap.size w (strW w s) := (Below.refl _ _).alloc (Nat.le_refl _) _
set_option maxRecDepth 100000 in
set_option maxHeartbeats 1000000 in
theorem same_name (m : Nm) (s : List UInt8) (b : Nat) (w : World) (h : w.heap[b]? = some (.cells #[strV s] 9 (0, 0))) :
    Calls Tryd.prog 80 #[m.v, .pointer (some ⟨b, 0, none⟩)] w fun e w' => e = .returned (.bool (m.name == s)) ∧ Below w.heap.size w w' := by
  have c0 := (cells_of h).1 0 _ rfl
  have hb := (cells_of h).2.2
  obtain ⟨nm, sy, mi, n⟩ := m
  have HB := Lib.hid ((Below.refl w.heap.size w).alloc (Nat.le_refl _) (.cells #[strV nm, strV sy, strV mi, .int .i64 n] 54))
  unfold Nm.v
  dsimp only at HB ⊢
  clear h
  go_enter Tryd.func80, Tryd.ntmps80
  go_wp2_with fail
  go_ret
  exact ⟨rfl, HB.out⟩
/-- how the search ends -/
def NmIdx (s : List UInt8) (l : List Nm) (w : World) (e : Ending) (w' : World) : Prop :=
  ((∃ (k : Nat) (m : Nm), e = .returned (.int .i64 (k : Int)) ∧ l[k]? = some m ∧ lookL s l = m.lin) ∨ (e = .returned (.int .i64 (-1)) ∧ lookL s l = ⟨s, [], 0⟩)) ∧ Below w.heap.size w w'
set_option maxRecDepth 100000 in
set_option maxHeartbeats 1000000 in
theorem idx_named (B : Nat) (v : Value) (l : List Nm) (s : List UInt8) (b0 : Nat) (w : World) (h : NmsAt B w v l) (hB : B ≤ w.heap.size) (hb : w.heap[b0]? = some (.cells #[strV s] 9 (0, 0))) :
    Calls Tryd.prog 79 #[v, .func (.func 80) #[] #[.pointer (some ⟨b0, 0, none⟩)]] w (NmIdx s l w) := by
  obtain ⟨A, n, c, rfl, Hn, ⟨hl, -⟩, HT, HC⟩ := h.opens
  have HBX := Lib.hid hb
  clear h hb
  go_enter Tryd.func79, Tryd.ntmps79
  go_wp2
  go_loopw [8] (fun i wr => ∃ k : Nat, k ≤ n ∧ i = .int .i64 k ∧ Hid (noneYet (fun m => m.name == s) l k) ∧ Hid (Below w.heap.size w wr)) (fun i _ => n - (intOf i).toNat)
  case atStart => exact ⟨0, Nat.zero_le _, rfl, Lib.hid (noneYet_zero _ _), Lib.hid (Below.refl _ _)⟩
  case round =>
    obtain ⟨k, hk, rfl, HN, HB⟩ := hrel
    by_cases hlt : k < n
    · obtain ⟨b1, o1, rfl, hb1, g1⟩ := HC.out (by omega)
      obtain ⟨x, hx⟩ := getElem?_of_lt Hn.out hlt
      have HX := Lib.hid hx
      obtain ⟨p0, p1, p2, p3⟩ := (g1 k x hx).below (HB.out.mono hB) hb1
      have C := Lib.hid (same_name x s b0 wr ((HB.out.block _ (lt_of_block HBX.out)).trans HBX.out))
      unfold Nm.v at C
      clear HC g1 hx
      cases hm : (x.name == s) with
      | true =>
        rw [hm] at C
        have HM := Lib.hid (lookL_hit HN.out HX.out hm)
        clear hm
        go_wp2_with fail
        refine C.out.mono ?_
        rintro e W ⟨rfl, hb⟩
        have HB2 := Lib.hid (HB.out.trans (hb.mono HB.out.size))
        clear hb C
        go_wp2_with fail
        go_ret
        exact ⟨.inl ⟨k, x, rfl, HX.out, HM.out⟩, HB2.out⟩
      | false =>
        rw [hm] at C
        have HM := Lib.hid (noneYet_succ HN.out HX.out hm)
        clear hm
        go_wp2_with fail
        refine C.out.mono ?_
        rintro e W ⟨rfl, hb⟩
        have HB2 := Lib.hid (HB.out.trans (hb.mono HB.out.size))
        clear hb C
        go_wp2_with fail
        go_roundw
        case rel => exact ⟨k + 1, by omega, by go_num, HM, HB2⟩
        case measure => simp [intOf]; omega
    · obtain rfl : k = n := by omega
      go_wp2
      go_ret
      exact ⟨.inr ⟨rfl, by rw [← Hn.out] at HN; exact lookL_none HN.out⟩, HB.out⟩
def lnW (w : World) : World := w.alloc (.cells #[strV [], strV [], .int .i64 0] 40)
theorem lnW_below (w : World) : Below w.heap.size w (lnW w) := (Below.refl _ _).alloc (Nat.le_refl _) _
set_option maxRecDepth 100000 in
set_option maxHeartbeats 2000000 in
theorem lookUp_any (B : Nat) (v : Value) (l : List Nm) (s : List UInt8) (w : World) (h : NmsAt B w v l) (hB : B ≤ w.heap.size) :
    Calls Tryd.prog 55 #[strV s, v] w fun e w' => e = .returned (lookL s l).v ∧ Below w.heap.size w w' := by
  have hb0 := (strW_below w s).trans ((lnW_below (strW w s)).mono (strW_below w s).size)
  have hbx : (lnW (strW w s)).heap[w.heap.size]? = some (.cells #[strV s] 9 (0, 0)) := heap_allocL _ (heap_alloc_new w _)
  have hbr : (lnW (strW w s)).heap[w.heap.size + 1]? = some (.cells #[strV [], strV [], .int .i64 0] 40 (0, 0)) := by
    have := heap_alloc_new (strW w s) (.cells #[strV [], strV [], .int .i64 0] 40)
    rw [show (strW w s).heap.size = w.heap.size + 1 by unfold strW; simp] at this
    exact this
  have C := Lib.hid (idx_named B v l s w.heap.size (lnW (strW w s)) (h.below (hb0.mono hB)) (Nat.le_trans hB hb0.size) hbx)
  have H := Lib.hid h
  have HB0 := Lib.hid hb0
  have HBX := Lib.hid (And.intro hbx hbr)
  obtain ⟨A, n, c, rfl, Hn, ⟨hl, -⟩, -, HC⟩ := h.opens
  unfold lnW strW at C HB0 HBX
  clear h hb0 hbx hbr
  go_enter Tryd.func55, Tryd.ntmps55
  go_wp2_with fail
  refine C.out.mono ?_
  rintro e W ⟨⟨k, m, rfl, hk, hm⟩ | ⟨rfl, hm⟩, hb⟩
  · have h2 := HB0.out.trans (hb.mono HB0.out.size)
    have hkn : k < n := by rw [← Hn.out]; exact (List.getElem?_eq_some_iff.1 hk).1
    obtain ⟨b1, o1, rfl, hb1, g1⟩ := HC.out (by omega)
    obtain ⟨p0, p1, p2, p3⟩ := (g1 k m hk).below (h2.mono hB) hb1
    obtain ⟨r1, r2, r3⟩ := cells_of ((hb.block _ (lt_of_block HBX.out.2)).trans HBX.out.2)
    have z0 : W.cell? ⟨w.heap.size + 1, 0, none⟩ = some (strV []) := r1 0 _ rfl
    have z1 : W.cell? ⟨w.heap.size + 1, 1, none⟩ = some (strV []) := r1 1 _ rfl
    have z2 : W.cell? ⟨w.heap.size + 1, 2, none⟩ = some (.int .i64 0) := r1 2 _ rfl
    have f0 := r2 0
    have f1 := r2 1
    have f2 := r2 2
    have H2 := Lib.hid h2
    have E := Lib.hid hm
    clear h2 hb hk hm r1 r2 g1 HC C
    go_wp2_with fail
    refine bodyPost_ret (v := m.lin.v) (by unfold Ln.v; simp [results, Tryd.results55, go_sem, z0, z1, z2]) rfl ⟨?_, ?_⟩
    · rw [E.out]
    · exact ((H2.out.setCell (p := ⟨w.heap.size + 1, 0, none⟩) (by show w.heap.size ≤ w.heap.size + 1; omega) _).setCell (p := ⟨w.heap.size + 1, 1, none⟩) (by show w.heap.size ≤ w.heap.size + 1; omega) _).setCell (p := ⟨w.heap.size + 1, 2, none⟩) (by show w.heap.size ≤ w.heap.size + 1; omega) _
  · have h2 := HB0.out.trans (hb.mono HB0.out.size)
    obtain ⟨q1, -, q3⟩ := cells_of ((hb.block _ (lt_of_block HBX.out.1)).trans HBX.out.1)
    have y0 : W.cell? ⟨w.heap.size, 0, none⟩ = some (strV s) := q1 0 _ rfl
    obtain ⟨r1, r2, r3⟩ := cells_of ((hb.block _ (lt_of_block HBX.out.2)).trans HBX.out.2)
    have z0 : W.cell? ⟨w.heap.size + 1, 0, none⟩ = some (strV []) := r1 0 _ rfl
    have z1 : W.cell? ⟨w.heap.size + 1, 1, none⟩ = some (strV []) := r1 1 _ rfl
    have z2 : W.cell? ⟨w.heap.size + 1, 2, none⟩ = some (.int .i64 0) := r1 2 _ rfl
    have f0 := r2 0
    have f1 := r2 1
    have f2 := r2 2
    have H2 := Lib.hid h2
    have E := Lib.hid hm
    clear h2 hb hm r1 r2 q1 HC C
    go_wp2_with fail
    refine bodyPost_ret (v := .agg #[strV s, strV [], .int .i64 0]) (by simp [results, Tryd.results55, go_sem, z0, z1, z2]) rfl ⟨?_, ?_⟩
    · rw [E.out]; rfl
    · exact ((H2.out.setCell (p := ⟨w.heap.size + 1, 0, none⟩) (by show w.heap.size ≤ w.heap.size + 1; omega) _).setCell (p := ⟨w.heap.size + 1, 1, none⟩) (by show w.heap.size ≤ w.heap.size + 1; omega) _).setCell (p := ⟨w.heap.size + 1, 2, none⟩) (by show w.heap.size ≤ w.heap.size + 1; omega) _
end Go.Proofs.YtchpkdpefpiegaaDoor.Tok
