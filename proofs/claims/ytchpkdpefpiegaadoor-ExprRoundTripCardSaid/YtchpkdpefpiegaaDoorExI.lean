/- Contracts of the functions over linear values: negative, isNumber, omitEqual, sum, operate. Conditions: numbers within the range of values, symbols of at most 16 bytes. -/
import Derived.Deep.RegionHeld3
import Derived.Test.YtchpkdpefpiegaaDoorExH
namespace Go.Proofs.YtchpkdpefpiegaaDoor.Tok
open Go Go.RowKit

structure Ln where
  sym : List UInt8
  minus : List UInt8
  num : Int
def zeroL : Ln := ⟨[], [], 0⟩
def Ln.v (a : Ln) : Value := .agg #[strV a.sym, strV a.minus, .int .i64 a.num]
/-- what every value within an expression keeps -/
def Ln.Ok (a : Ln) : Prop := InR a.num ∧ a.sym.length ≤ 140737488351232 ∧ a.minus.length ≤ 140737488351232
def negL (a : Ln) : Ln := ⟨a.minus, a.sym, -a.num⟩
def isNumL (a : Ln) : Bool := a.sym.isEmpty && a.minus.isEmpty
def omitL (x y : List UInt8) : List UInt8 := if x = y then [] else x
def sumL (a b : Ln) : Ln × Int :=
  if ((!(omitL a.sym b.minus).isEmpty && !(omitL b.sym a.minus).isEmpty) || (!(omitL a.minus b.sym).isEmpty && !(omitL b.minus a.sym).isEmpty)) = true then (zeroL, 8)
  else (⟨omitL a.sym b.minus ++ omitL b.sym a.minus, omitL a.minus b.sym ++ omitL b.minus a.sym, a.num + b.num⟩, 0)
theorem ba_app (x y : List UInt8) : (⟨x.toArray⟩ : ByteArray) ++ ⟨y.toArray⟩ = ⟨(x ++ y).toArray⟩ := by
  apply ByteArray.ext
  simp
def lnObj (a : Ln) : Obj := .cells #[strV a.sym, strV a.minus, .int .i64 a.num] 40
theorem ln_new (w : World) (x y z : Value) (t : TypeId) : (w.alloc (.cells #[x, y, z] t)).cell? ⟨w.heap.size, 0, none⟩ = some x ∧ (w.alloc (.cells #[x, y, z] t)).cell? ⟨w.heap.size, 1, none⟩ = some y ∧ (w.alloc (.cells #[x, y, z] t)).cell? ⟨w.heap.size, 2, none⟩ = some z :=
  ⟨cells_new 0 _ rfl, cells_new 1 _ rfl, cells_new 2 _ rfl⟩
theorem empty_iff (l : List UInt8) : (l == []) = l.isEmpty := by cases l <;> rfl
set_option maxRecDepth 100000 in
set_option maxHeartbeats 1000000 in
theorem neg_any (a : Ln) (w : World) (h : InR a.num) : Calls Tryd.prog 81 #[a.v] w fun e w' => e = .returned (negL a).v ∧ Below w.heap.size w w' := by
  obtain ⟨s, m, n⟩ := a
  obtain ⟨h1, h2⟩ := h
  unfold negL Ln.v
  dsimp only at h1 h2 ⊢
  have hb := ((Below.refl w.heap.size w).alloc (Nat.le_refl _) (.cells #[strV s, strV m, .int .i64 n] 40))
  have HB := Lib.hid ((hb.alloc (by simp) (.cells #[strV m, strV s, .int .i64 (-n)] 40)))
  clear hb
  go_enter Tryd.func81, Tryd.ntmps81
  go_wp2_with fail
  obtain ⟨r0, r1, r2⟩ := ln_new (w.alloc (.cells #[strV s, strV m, .int .i64 n] 40)) (strV m) (strV s) (.int .i64 (-n)) 40
  rw [World.size_alloc] at r0 r1 r2
  refine bodyPost_ret (v := .agg #[strV m, strV s, .int .i64 (-n)]) (by simp [results, Tryd.results81, go_sem, r0, r1, r2]) rfl ⟨rfl, HB.out⟩
set_option maxRecDepth 100000 in
set_option maxHeartbeats 1000000 in
theorem isNum_any (a : Ln) (w : World) : Calls Tryd.prog 83 #[a.v] w fun e w' => e = .returned (.bool (isNumL a)) ∧ Below w.heap.size w w' := by
  obtain ⟨s, m, n⟩ := a
  have HB := Lib.hid ((Below.refl w.heap.size w).alloc (Nat.le_refl _) (.cells #[strV s, strV m, .int .i64 n] 40))
  have E := Lib.hid (show isNumL ⟨s, m, n⟩ = (s.isEmpty && m.isEmpty) from rfl)
  unfold Ln.v
  dsimp only
  cases hs : s.isEmpty <;> cases hm : m.isEmpty
  all_goals
    rw [hs, hm] at E
    go_enter Tryd.func83, Tryd.ntmps83
    go_wp2_with fail
    go_ret
    exact ⟨ret_bool E.out.symm, HB.out⟩
set_option maxRecDepth 100000 in
set_option maxHeartbeats 1000000 in
theorem omit_ne (A i B j : Nat) (x y : List UInt8) (w : World) (h1 : w.cell? ⟨A, i, none⟩ = some (strV x)) (h2 : w.cell? ⟨B, j, none⟩ = some (strV y)) (h : x ≠ y) :
    Calls Tryd.prog 95 #[.pointer (some ⟨A, i, none⟩), .pointer (some ⟨B, j, none⟩)] w fun e w' => e = .returned (.tuple #[]) ∧ ∃ n, w' = w.drewN n := by
  have hne : (x == y) = false := beq_eq_false_iff_ne.2 h
  clear h
  go_enter Tryd.func95, Tryd.ntmps95
  go_wp2_with fail
  go_quiet (fail)
  go_wp2_with fail
  go_end0
  exact ⟨rfl, _, rfl⟩
set_option maxRecDepth 100000 in
set_option maxHeartbeats 1000000 in
theorem omit_eq (A i B j : Nat) (x : List UInt8) (w : World) (h1 : w.cell? ⟨A, i, none⟩ = some (strV x)) (h2 : w.cell? ⟨B, j, none⟩ = some (strV x)) (f1 : w.frozen? ⟨A, i, none⟩ = false) (f2 : w.frozen? ⟨B, j, none⟩ = false) (hAB : A ≠ B) :
    Calls Tryd.prog 95 #[.pointer (some ⟨A, i, none⟩), .pointer (some ⟨B, j, none⟩)] w fun e w' => e = .returned (.tuple #[]) ∧ ∃ n, w' = ((w.drewN n).setCell ⟨A, i, none⟩ (strV [])).setCell ⟨B, j, none⟩ (strV []) := by
  go_enter Tryd.func95, Tryd.ntmps95
  go_wp2_with fail
  go_quiet (fail)
  go_wp2_with fail
  go_end0
  exact ⟨rfl, _, rfl⟩
/-- the boxes of sum: both arguments and the result -/
def Bx (A B R : Nat) (a b : Ln) (w : World) : Prop :=
  w.heap[A]? = some (.cells #[strV a.sym, strV a.minus, .int .i64 a.num] 40 (0, 0)) ∧ w.heap[B]? = some (.cells #[strV b.sym, strV b.minus, .int .i64 b.num] 40 (0, 0)) ∧ w.heap[R]? = some (.cells #[strV [], strV [], .int .i64 0] 40 (0, 0))
theorem Bx.set {A B R : Nat} {a b : Ln} {w : World} (h : Bx A B R a b w) (hAB : A ≠ B) (hAR : A ≠ R) (hBR : B ≠ R) (n : Nat) :
    Bx A B R ⟨[], a.minus, a.num⟩ ⟨b.sym, [], b.num⟩ (((w.drewN n).setCell ⟨A, 0, none⟩ (strV [])).setCell ⟨B, 1, none⟩ (strV [])) := by
  obtain ⟨h1, h2, h3⟩ := h
  refine ⟨?_, ?_, ?_⟩
  · rw [heap_setCell_other _ _ _ _ hAB]
    exact heap_setCell_same (w.drewN n) A 0 _ _ _ h1
  · have h4 : ((w.drewN n).setCell ⟨A, 0, none⟩ (strV [])).heap[B]? = some (.cells #[strV b.sym, strV b.minus, .int .i64 b.num] 40 (0, 0)) := by
      rw [heap_setCell_other _ _ _ _ hAB.symm]
      exact h2
    exact heap_setCell_same _ B 1 _ _ _ h4
  · rw [heap_setCell_other _ _ _ _ hBR.symm, heap_setCell_other _ _ _ _ hAR.symm]
    exact h3
theorem Bx.swap {A B R : Nat} {a b : Ln} {w : World} (h : Bx A B R a b w) : Bx B A R b a w := ⟨h.2.1, h.1, h.2.2⟩
theorem omit_box (A B R K : Nat) (a b : Ln) (w : World) (h : Bx A B R a b w) (hAB : A ≠ B) (hAR : A ≠ R) (hBR : B ≠ R) (hA : K ≤ A) (hB : K ≤ B) :
    Calls Tryd.prog 95 #[.pointer (some ⟨A, 0, none⟩), .pointer (some ⟨B, 1, none⟩)] w fun e w' => e = .returned (.tuple #[]) ∧ Bx A B R ⟨omitL a.sym b.minus, a.minus, a.num⟩ ⟨b.sym, omitL b.minus a.sym, b.num⟩ w' ∧ Below K w w' := by
  have c1 := (cells_of h.1).1 0 _ rfl
  have c2 := (cells_of h.2.1).1 1 _ rfl
  by_cases he : a.sym = b.minus
  · have e1 : omitL a.sym b.minus = [] := if_pos he
    have e2 : omitL b.minus a.sym = [] := if_pos he.symm
    rw [e1, e2]
    rw [← he] at c2
    refine (omit_eq A 0 B 1 a.sym w c1 c2 ((cells_of h.1).2.1 0) ((cells_of h.2.1).2.1 1) hAB).mono ?_
    rintro e w' ⟨rfl, n, rfl⟩
    exact ⟨rfl, h.set hAB hAR hBR n, ((below_drewN (Below.refl _ _) n).setCell (p := ⟨A, 0, none⟩) hA _).setCell (p := ⟨B, 1, none⟩) hB _⟩
  · have e1 : omitL a.sym b.minus = a.sym := if_neg he
    have e2 : omitL b.minus a.sym = b.minus := if_neg (fun h => he h.symm)
    rw [e1, e2]
    refine (omit_ne A 0 B 1 a.sym b.minus w c1 c2 he).mono ?_
    rintro e w' ⟨rfl, n, rfl⟩
    exact ⟨rfl, h, below_drewN (Below.refl _ _) n⟩
theorem omit_len (x y : List UInt8) : (omitL x y).length ≤ x.length := by unfold omitL; split <;> simp
set_option maxRecDepth 100000 in
set_option maxHeartbeats 4000000 in
theorem sum_any (a b : Ln) (w : World) (ha : a.Ok) (hb : b.Ok) : Calls Tryd.prog 82 #[a.v, b.v] w fun e w' => e = .returned (.tuple #[(sumL a b).1.v, .int .i64 (sumL a b).2]) ∧ Below w.heap.size w w' := by
  obtain ⟨⟨na1, na2⟩, la1, la2⟩ := ha
  obtain ⟨⟨nb1, nb2⟩, lb1, lb2⟩ := hb
  have E0 := Lib.hid (show sumL a b = if ((!(omitL a.sym b.minus).isEmpty && !(omitL b.sym a.minus).isEmpty) || (!(omitL a.minus b.sym).isEmpty && !(omitL b.minus a.sym).isEmpty)) = true then (zeroL, 8)
  else (⟨omitL a.sym b.minus ++ omitL b.sym a.minus, omitL a.minus b.sym ++ omitL b.minus a.sym, a.num + b.num⟩, 0) from rfl)
  have hb0 := (((Below.refl w.heap.size w).alloc (Nat.le_refl _) (.cells #[strV a.sym, strV a.minus, .int .i64 a.num] 40)).alloc (by simp) (.cells #[strV b.sym, strV b.minus, .int .i64 b.num] 40)).alloc (by simp; omega) (.cells #[strV [], strV [], .int .i64 0] 40)
  have hbx : Bx w.heap.size (w.heap.size + 1) (w.heap.size + 1 + 1) a b (((w.alloc (.cells #[strV a.sym, strV a.minus, .int .i64 a.num] 40)).alloc (.cells #[strV b.sym, strV b.minus, .int .i64 b.num] 40)).alloc (.cells #[strV [], strV [], .int .i64 0] 40)) := by
    refine ⟨heap_allocL _ (heap_allocL _ (heap_alloc_new _ _)), heap_allocL _ ?_, ?_⟩
    · have := heap_alloc_new (w.alloc (.cells #[strV a.sym, strV a.minus, .int .i64 a.num] 40)) (.cells #[strV b.sym, strV b.minus, .int .i64 b.num] 40)
      rw [World.size_alloc] at this
      exact this
    · have := heap_alloc_new ((w.alloc (.cells #[strV a.sym, strV a.minus, .int .i64 a.num] 40)).alloc (.cells #[strV b.sym, strV b.minus, .int .i64 b.num] 40)) (.cells #[strV [], strV [], .int .i64 0] 40)
      rw [World.size_alloc, World.size_alloc] at this
      exact this
  have HBX := Lib.hid hbx
  have HB0 := Lib.hid hb0
  unfold Ln.v
  clear hbx hb0
  go_enter Tryd.func82, Tryd.ntmps82
  go_wp2_with fail
  refine (omit_box _ _ (w.heap.size + 1 + 1) w.heap.size a b _ HBX.out (by omega) (by omega) (by omega) (Nat.le_refl _) (by omega)).mono ?_
  rintro e W1 ⟨rfl, hx1, hb1⟩
  have HX1 := Lib.hid hx1.swap
  have HB1 := Lib.hid (HB0.out.trans hb1)
  clear hx1 hb1
  go_wp2_with fail
  refine (omit_box _ _ (w.heap.size + 1 + 1) w.heap.size _ _ _ HX1.out (by omega) (by omega) (by omega) (by omega) (by omega)).mono ?_
  rintro e W2 ⟨rfl, hx2, hb2⟩
  have HB2 := Lib.hid (HB1.out.trans hb2)
  obtain ⟨y1, y2, y3⟩ := hx2
  obtain ⟨p1, p2, p3⟩ := cells_of y1
  obtain ⟨q1, q2, q3⟩ := cells_of y2
  obtain ⟨r1, r2, r3⟩ := cells_of y3
  have a0 : W2.cell? ⟨w.heap.size, 0, none⟩ = some (strV (omitL a.sym b.minus)) := q1 0 _ rfl
  have a1 : W2.cell? ⟨w.heap.size, 1, none⟩ = some (strV (omitL a.minus b.sym)) := q1 1 _ rfl
  have a2 : W2.cell? ⟨w.heap.size, 2, none⟩ = some (.int .i64 a.num) := q1 2 _ rfl
  have b0 : W2.cell? ⟨w.heap.size + 1, 0, none⟩ = some (strV (omitL b.sym a.minus)) := p1 0 _ rfl
  have b1 : W2.cell? ⟨w.heap.size + 1, 1, none⟩ = some (strV (omitL b.minus a.sym)) := p1 1 _ rfl
  have b2 : W2.cell? ⟨w.heap.size + 1, 2, none⟩ = some (.int .i64 b.num) := p1 2 _ rfl
  have z0 : W2.cell? ⟨w.heap.size + 1 + 1, 0, none⟩ = some (strV []) := r1 0 _ rfl
  have z1 : W2.cell? ⟨w.heap.size + 1 + 1, 1, none⟩ = some (strV []) := r1 1 _ rfl
  have z2 : W2.cell? ⟨w.heap.size + 1 + 1, 2, none⟩ = some (.int .i64 0) := r1 2 _ rfl
  have f0 := r2 0
  have f1 := r2 1
  have f2 := r2 2
  have l1 := omit_len a.sym b.minus
  have l2 := omit_len b.sym a.minus
  have l3 := omit_len a.minus b.sym
  have l4 := omit_len b.minus a.sym
  generalize omitL a.sym b.minus = s1 at a0 E0 l1
  generalize omitL b.sym a.minus = s2 at b0 E0 l2
  generalize omitL a.minus b.sym = m1 at a1 E0 l3
  generalize omitL b.minus a.sym = m2 at b1 E0 l4
  have hc1 : ¬ 9223372036854775807 < s1.length + s2.length := by omega
  have hc2 : ¬ 9223372036854775807 < m1.length + m2.length := by omega
  clear hb2 y1 y2 y3 p1 p2 q1 q2 r1 r2 l1 l2 l3 l4 la1 la2 lb1 lb2
  cases hs1 : s1.isEmpty <;> cases hs2 : s2.isEmpty <;> cases hm1 : m1.isEmpty <;> cases hm2 : m2.isEmpty
  all_goals
    rw [hs1, hs2, hm1, hm2] at E0
    first
      | (have E := Lib.hid (E0.out.trans (if_pos (by decide)))
         clear E0
         go_wp2_with fail
         refine bodyPost_ret (v := .tuple #[zeroL.v, .int .i64 8]) (by unfold Ln.v zeroL; simp [results, Tryd.results82, go_sem, z0, z1, z2]) rfl ⟨?_, ?_⟩
         · rw [E.out]; rfl
         · exact ((HB2.out.setCell (p := ⟨w.heap.size + 1 + 1, 0, none⟩) (by show w.heap.size ≤ w.heap.size + 1 + 1; omega) _).setCell (p := ⟨w.heap.size + 1 + 1, 1, none⟩) (by show w.heap.size ≤ w.heap.size + 1 + 1; omega) _).setCell (p := ⟨w.heap.size + 1 + 1, 2, none⟩) (by show w.heap.size ≤ w.heap.size + 1 + 1; omega) _)
      | (have E := Lib.hid (E0.out.trans (if_neg (by decide)))
         clear E0
         go_wp2_with fail
         refine bodyPost_ret (v := .tuple #[.agg #[.string (⟨s1.toArray⟩ ++ ⟨s2.toArray⟩), .string (⟨m1.toArray⟩ ++ ⟨m2.toArray⟩), .int .i64 (a.num + b.num)], .int .i64 0]) (by simp [results, Tryd.results82, go_sem, z0, z1, z2]) rfl ⟨?_, ?_⟩
         · rw [E.out, ba_app, ba_app]
         · exact ((HB2.out.setCell (p := ⟨w.heap.size + 1 + 1, 0, none⟩) (by show w.heap.size ≤ w.heap.size + 1 + 1; omega) _).setCell (p := ⟨w.heap.size + 1 + 1, 1, none⟩) (by show w.heap.size ≤ w.heap.size + 1 + 1; omega) _).setCell (p := ⟨w.heap.size + 1 + 1, 2, none⟩) (by show w.heap.size ≤ w.heap.size + 1 + 1; omega) _)
end Go.Proofs.YtchpkdpefpiegaaDoor.Tok
