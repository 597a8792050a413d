/- The reference's linear: the linear value of a sum. -/
import Derived.Test.YtchpkdpefpiegaaDoorExZI
namespace Go.Proofs.YtchpkdpefpiegaaDoor.Tok
open Go Go.RowKit

/-- the linear value of a sum, nothing if it is not linear -/
def linV (n : Int) (l : List (List UInt8 × Int)) : Ln := ((linM l [] []).map fun p => (⟨p.1, p.2, n⟩ : Ln)).getD zeroL
theorem linM_one {x : List UInt8 × Int} {r : List (List UInt8 × Int)} {s m : List UInt8} (h : x.2 = 1 ∧ s = []) : linM (x :: r) s m = linM r x.1 m := by rw [linM, if_pos h]
theorem linM_neg {x : List UInt8 × Int} {r : List (List UInt8 × Int)} {s m : List UInt8} (h : ¬ (x.2 = 1 ∧ s = [])) (h2 : x.2 = -1 ∧ m = []) : linM (x :: r) s m = linM r s x.1 := by rw [linM, if_neg h, if_pos h2]
theorem linM_not {x : List UInt8 × Int} {r : List (List UInt8 × Int)} {s m : List UInt8} (h : ¬ (x.2 = 1 ∧ s = [])) (h2 : ¬ (x.2 = -1 ∧ m = [])) : linM (x :: r) s m = none := by rw [linM, if_neg h, if_neg h2]
/-- the boxes of linear: the sum, the result's, the value's -/
def liW (w : World) (x y z : Value) (n : Int) : World := ((w.alloc (.cells #[x, y, z] 119)).alloc (.cells #[strV [], strV [], .int .i64 0] 40)).alloc (.cells #[strV [], strV [], .int .i64 n] 40)
theorem liW_below (w : World) (x y z : Value) (n : Int) : Below w.heap.size w (liW w x y z n) := (((Below.refl _ _).alloc (Nat.le_refl _) _).alloc (by simp) _).alloc (by simp; omega) _
structure LiB (w0 : World) (x y z : Value) (a : Ln) (w : World) : Prop where
  sum : w.heap[w0.heap.size]? = some (.cells #[x, y, z] 119 (0, 0))
  res : w.heap[w0.heap.size + 1]? = some (.cells #[strV [], strV [], .int .i64 0] 40 (0, 0))
  val : w.heap[w0.heap.size + 2]? = some (.cells #[strV a.sym, strV a.minus, .int .i64 a.num] 40 (0, 0))
theorem liW_box (w : World) (x y z : Value) (n : Int) : LiB w x y z ⟨[], [], n⟩ (liW w x y z n) := ⟨heap_allocL _ (heap_allocL _ (heap_alloc_new _ _)), heap_allocL _ (heap_new1 _ _ _), heap_new2 w _ _ _⟩
theorem LiB.opens {w0 w : World} {x y z : Value} {a : Ln} (h : LiB w0 x y z a w) : (w.cell? ⟨w0.heap.size, 0, none⟩ = some x ∧ w.cell? ⟨w0.heap.size, 1, none⟩ = some y ∧ w.cell? ⟨w0.heap.size, 2, none⟩ = some z) ∧
    ((w.cell? ⟨w0.heap.size + 1, 0, none⟩ = some (strV []) ∧ w.cell? ⟨w0.heap.size + 1, 1, none⟩ = some (strV []) ∧ w.cell? ⟨w0.heap.size + 1, 2, none⟩ = some (.int .i64 0)) ∧
    (w.frozen? ⟨w0.heap.size + 1, 0, none⟩ = false ∧ w.frozen? ⟨w0.heap.size + 1, 1, none⟩ = false ∧ w.frozen? ⟨w0.heap.size + 1, 2, none⟩ = false)) ∧
    ((w.cell? ⟨w0.heap.size + 2, 0, none⟩ = some (strV a.sym) ∧ w.cell? ⟨w0.heap.size + 2, 1, none⟩ = some (strV a.minus) ∧ w.cell? ⟨w0.heap.size + 2, 2, none⟩ = some (.int .i64 a.num)) ∧
    (w.frozen? ⟨w0.heap.size + 2, 0, none⟩ = false ∧ w.frozen? ⟨w0.heap.size + 2, 1, none⟩ = false ∧ w.frozen? ⟨w0.heap.size + 2, 2, none⟩ = false)) ∧ w0.heap.size + 2 < w.heap.size := by
  obtain ⟨r1, r2, r3⟩ := cells_of h.sum
  obtain ⟨q1, q2, q3⟩ := cells_of h.res
  obtain ⟨p1, p2, p3⟩ := cells_of h.val
  exact ⟨⟨r1 0 _ rfl, r1 1 _ rfl, r1 2 _ rfl⟩, ⟨⟨q1 0 _ rfl, q1 1 _ rfl, q1 2 _ rfl⟩, ⟨q2 0, q2 1, q2 2⟩⟩, ⟨⟨p1 0 _ rfl, p1 1 _ rfl, p1 2 _ rfl⟩, ⟨p2 0, p2 1, p2 2⟩⟩, p3⟩
theorem LiB.sym {w0 w : World} {x y z : Value} {a : Ln} (h : LiB w0 x y z a w) (s : List UInt8) : LiB w0 x y z ⟨s, a.minus, a.num⟩ (w.setCell ⟨w0.heap.size + 2, 0, none⟩ (strV s)) :=
  ⟨by rw [heap_setCell_other _ _ _ _ (by dsimp only; omega)]; exact h.sum, by rw [heap_setCell_other _ _ _ _ (by dsimp only; omega)]; exact h.res, heap_setCell_same w _ 0 _ _ _ h.val⟩
theorem LiB.min {w0 w : World} {x y z : Value} {a : Ln} (h : LiB w0 x y z a w) (s : List UInt8) : LiB w0 x y z ⟨a.sym, s, a.num⟩ (w.setCell ⟨w0.heap.size + 2, 1, none⟩ (strV s)) :=
  ⟨by rw [heap_setCell_other _ _ _ _ (by dsimp only; omega)]; exact h.sum, by rw [heap_setCell_other _ _ _ _ (by dsimp only; omega)]; exact h.res, heap_setCell_same w _ 1 _ _ _ h.val⟩
set_option maxRecDepth 100000 in
set_option maxHeartbeats 4000000 in
theorem linear_any (L B : Nat) (v : Value) (n : Int) (l : List (List UInt8 × Int)) (w : World) (h : SumAt L B w v n l) (hB : B ≤ w.heap.size) (hl : l.length ≤ 8) :
    Calls Tryd.prog 87 #[v] w fun e W => e = .returned (.tuple #[(linV n l).v, .bool (linM l [] []).isSome]) ∧ Below w.heap.size w W := by
  obtain ⟨A, c, A2, c2, m, rfl, Hm, ⟨hc1, hc2⟩, HC⟩ := h.opens
  have hm8 : m ≤ 8 := by rw [← Hm.out]; exact hl
  have HB := Lib.hid hB
  have HW := Lib.hid (And.intro (liW_box w (.slice A m c) (.slice A2 m c2) (.int .i64 n) n) (liW_below w (.slice A m c) (.slice A2 m c2) (.int .i64 n) n))
  unfold liW at HW
  clear h hl hB
  go_enter Tryd.func87, Tryd.ntmps87
  go_wp2_with fail
  go_loopw [5] (fun u5 wr => ∃ (k : Nat) (s mi : List UInt8), k ≤ m ∧ u5 = .int .i64 k ∧ Hid (linM l [] [] = linM (l.drop k) s mi) ∧ Hid (LiB w (.slice A m c) (.slice A2 m c2) (.int .i64 n) ⟨s, mi, n⟩ wr) ∧ Hid (Below w.heap.size w wr)) (fun i _ => m - (intOf i).toNat)
  case atStart => exact ⟨0, [], [], Nat.zero_le _, rfl, Lib.hid rfl, Lib.hid HW.out.1, Lib.hid HW.out.2⟩
  case round =>
    obtain ⟨k, s, mi, hk, rfl, HM, HX, HBW⟩ := hrel
    obtain ⟨⟨x0, x1, x2⟩, ⟨⟨r0, r1, r2⟩, ⟨e0, e1, e2⟩⟩, ⟨⟨v0, v1, v2⟩, ⟨d0, d1, d2⟩⟩, hsz⟩ := HX.out.opens
    have hsz1 : w.heap.size + 1 < wr.heap.size := by omega
    by_cases hlt : k < m
    · obtain ⟨b, o, b2, o2, rfl, rfl, ⟨-, hb1, hb2⟩, hcell⟩ := HC.out (by omega)
      obtain ⟨⟨nm, q⟩, hx⟩ : ∃ x, l[k]? = some x := ⟨_, List.getElem?_eq_getElem (by rw [Hm.out]; exact hlt)⟩
      have hb := HBW.out
      have g1 := (hb.cell (p := ⟨b, o + k, none⟩) (Nat.lt_of_lt_of_le hb1 HB.out)).trans (hcell k _ hx).1
      have g2 := (hb.cell (p := ⟨b2, o2 + k, none⟩) (Nat.lt_of_lt_of_le hb2 HB.out)).trans (hcell k _ hx).2
      dsimp only at g1 g2
      have hbl1 := block_lt_of_cell g1
      have hbl2 := block_lt_of_cell g2
      have HD := Lib.hid (show l.drop k = (nm, q) :: l.drop (k + 1) by
        obtain ⟨hk1, hk2⟩ := List.getElem?_eq_some_iff.1 hx
        rw [List.drop_eq_getElem_cons hk1, hk2])
      clear hcell hx hb
      by_cases c1 : q = 1 ∧ s = []
      · obtain ⟨rfl, rfl⟩ := c1
        have HN := Lib.hid (HM.out.trans (by rw [HD.out, linM_one ⟨rfl, rfl⟩]))
        go_wp2_with fail
        go_roundw
        case rel => exact ⟨k + 1, nm, mi, by omega, by go_num, HN, Lib.hid (HX.out.sym nm), Lib.hid (HBW.out.setCell (p := ⟨w.heap.size + 2, 0, none⟩) (by show w.heap.size ≤ w.heap.size + 2; omega) _)⟩
        case measure => simp [intOf]; omega
      · have HS : Hid ((q == 1) = false ∨ ((q == 1) = true ∧ s.isEmpty = false)) := Lib.hid (by
          by_cases h1 : q = 1
          · right; refine ⟨by simp [h1], ?_⟩; cases s with | nil => exact absurd ⟨h1, rfl⟩ c1 | cons a r => rfl
          · left; exact beq_eq_false_iff_ne.2 h1)
        by_cases c2 : q = -1 ∧ mi = []
        · obtain ⟨rfl, rfl⟩ := c2
          have HN := Lib.hid (HM.out.trans (by rw [HD.out, linM_neg c1 ⟨rfl, rfl⟩]))
          clear c1 HS
          go_wp2_with fail
          go_roundw
          case rel => exact ⟨k + 1, s, nm, by omega, by go_num, HN, Lib.hid (HX.out.min nm), Lib.hid (HBW.out.setCell (p := ⟨w.heap.size + 2, 1, none⟩) (by show w.heap.size ≤ w.heap.size + 2; omega) _)⟩
          case measure => simp [intOf]; omega
        · have HN := Lib.hid (HM.out.trans (by rw [HD.out, linM_not c1 c2]))
          have HS2 : Hid ((q == -1) = false ∨ ((q == -1) = true ∧ mi.isEmpty = false)) := Lib.hid (by
            by_cases h1 : q = -1
            · right; refine ⟨by simp [h1], ?_⟩; cases mi with | nil => exact absurd ⟨h1, rfl⟩ c2 | cons a r => rfl
            · left; exact beq_eq_false_iff_ne.2 h1)
          clear c1 c2
          rcases HS.out with h1 | ⟨h1, h2⟩ <;> rcases HS2.out with h3 | ⟨h3, h4⟩
          all_goals
            first
            | (exfalso; have e1 := beq_iff_eq.1 h1; have e3 := beq_iff_eq.1 h3; omega)
            | (clear HS HS2
               go_wp2_with fail
               refine bodyPost_ret (v := .tuple #[zeroL.v, .bool false]) (by unfold Ln.v zeroL; simp [results, Tryd.results87, go_sem, r0, r1, r2]) rfl ⟨?_, ?_⟩
               · unfold linV; rw [HN.out]; rfl
               · exact three_set (R := w.heap.size + 1) HBW.out (by omega) _ _ _)
    · obtain rfl : k = m := by omega
      have HN := Lib.hid (HM.out.trans (by rw [List.drop_eq_nil_of_le (by rw [Hm.out]; exact Nat.le_refl _)]; rfl : linM (l.drop k) s mi = some (s, mi)))
      go_wp2_with fail
      refine bodyPost_ret (v := .tuple #[.agg #[strV s, strV mi, .int .i64 n], .bool true]) (by simp [results, Tryd.results87, go_sem, r0, r1, r2]) rfl ⟨?_, ?_⟩
      · unfold linV; rw [HN.out]; rfl
      · exact three_set (R := w.heap.size + 1) HBW.out (by omega) _ _ _
end Go.Proofs.YtchpkdpefpiegaaDoor.Tok
