/- Contracts of check and Validate. Conditions: the reading; the table of kinds. -/
import Derived.Test.YtchpkdpefpiegaaDoorExM
import Derived.Test.YtchpkdpefpiegaaDoorExG
namespace Go.Proofs.YtchpkdpefpiegaaDoor.Tok
open Go Go.RowKit

def knownB (k : Int) : Bool := decide (0 < k) && decide (k < 15)
set_option maxHeartbeats 1000000 in
theorem known_any (k : Int) (w : World) : Calls Tryd.prog 61 #[.int .i64 k] w fun e w' => e = .returned (.bool (knownB k)) ∧ w = w' := by
  by_cases h1 : 0 < k
  · have E := Lib.hid (show knownB k = decide (k < 15) by unfold knownB; rw [decide_eq_true h1]; rfl)
    go_enter Tryd.func61, Tryd.ntmps61
    go_wp2_with fail
    go_ret
    exact ⟨ret_bool (by rw [E.out]), rfl⟩
  · have E := Lib.hid (show knownB k = false by unfold knownB; rw [decide_eq_false h1]; rfl)
    go_enter Tryd.func61, Tryd.ntmps61
    go_wp2_with fail
    go_ret
    exact ⟨ret_bool E.out.symm, rfl⟩
/-- the error code of a node at a place -/
def chkL (n : Nd) (pos : Nat) : Int :=
  if knownB n.kind = false then 4 else if n.kind = 1 ∧ (n.val < 0 ∨ 4294967295 < n.val) then 3 else if n.kind = 2 ∧ isName n.name = false then 12
  else if (chN n).any (lateB pos) = true then 5 else 0
theorem chN_len (n : Nd) : (chN n).length ≤ 2 := by unfold chN; rw [List.length_take]; show min _ 2 ≤ 2; omega
theorem chN_length {n : Nd} (h : childL n.kind.toNat ≤ 2) : (chN n).length = childL n.kind.toNat := by unfold chN; rw [List.length_take]; show min _ 2 = _; omega
theorem chN_at {n : Nd} {w : World} {R : Nat} (h : w.heap[R]? = some (.cells #[.int .i64 n.left, .int .i64 n.right] 3 (0, 0))) : ∀ (j : Nat) x, (chN n)[j]? = some x → w.cell? ⟨R, j, none⟩ = some (.int .i64 x) := by
  intro j x hx
  unfold chN at hx
  have h2 : [n.left, n.right][j]? = some x := by
    rw [List.getElem?_take] at hx
    split at hx
    · exact hx
    · cases hx
  match j, h2 with
  | 0, h2 => cases h2; exact (cells_of h).1 0 _ rfl
  | 1, h2 => cases h2; exact (cells_of h).1 1 _ rfl
  | j + 2, h2 => simp at h2
/-- the world of check: the node's box, the place's -/
def ckW (w : World) (n : Nd) (pos : Nat) : World := (w.alloc (.cells #[.int .i64 n.kind, .int .i64 n.val, strV n.name, .int .i64 n.left, .int .i64 n.right] 59)).alloc (.cells #[.int .i64 (pos : Int)] 3)
theorem ckW_below (w : World) (n : Nd) (pos : Nat) : Below w.heap.size w (ckW w n pos) := ((Below.refl _ _).alloc (Nat.le_refl _) _).alloc (by simp) _
set_option maxRecDepth 100000 in
set_option maxHeartbeats 4000000 in
theorem check_node (n : Nd) (pos : Nat) (w : World) (hK : KindsAt w) (hnm : n.name.length ≤ 140737488351232) : Calls Tryd.prog 40 #[n.v, .int .i64 (pos : Int)] w fun e w' => e = .returned (.int .i64 (chkL n pos)) ∧ Below w.heap.size w w' := by
  have hb0 := ckW_below w n pos
  have E0 := Lib.hid (show chkL n pos = if knownB n.kind = false then 4 else if n.kind = 1 ∧ (n.val < 0 ∨ 4294967295 < n.val) then 3 else if n.kind = 2 ∧ isName n.name = false then 12
    else if (chN n).any (lateB pos) = true then 5 else 0 from rfl)
  have C1 := Lib.hid (fun W => known_any n.kind W)
  have C2 := Lib.hid (fun W => isName_any n.name W (by omega))
  have C3 := Lib.hid (fun (h : 0 < n.kind ∧ n.kind < 15) => children_any n (ckW w n pos) h (hK.up hb0))
  have C4 := Lib.hid (fun R W (h : W.heap[R]? = some (.cells #[.int .i64 n.left, .int .i64 n.right] 3 (0, 0))) (hb : W.heap[w.heap.size + 1]? = some (.cells #[.int .i64 (pos : Int)] 3 (0, 0))) => contains_any (chN n) R 2 pos (w.heap.size + 1) W (chN_len n) (chN_at h) hb)
  have CL := Lib.hid (fun (h : 0 < n.kind ∧ n.kind < 15) => chN_length (n := n) (child_le _ (by omega)))
  have HBX : Hid ((ckW w n pos).heap[w.heap.size + 1]? = some (.cells #[.int .i64 (pos : Int)] 3 (0, 0))) := Lib.hid (heap_newM _ _ _)
  have HB0 := Lib.hid hb0
  have hq0 : (ckW w n pos).heap[w.heap.size]? = some (.cells #[.int .i64 n.kind, .int .i64 n.val, strV n.name, .int .i64 n.left, .int .i64 n.right] 59 (0, 0)) := heap_allocL _ (heap_alloc_new _ _)
  generalize (chN n).any (lateB pos) = late at E0 C4
  obtain ⟨k, vl, nm, le, ri⟩ := n
  unfold ckW at C3 HBX HB0 hq0
  unfold Nd.v at C3 ⊢
  dsimp only at E0 C1 C2 C3 C4 CL HBX HB0 hq0 hnm ⊢
  clear hb0 hK hnm
  by_cases hk : 0 < k ∧ k < 15
  · have hkn : knownB k = true := by unfold knownB; rw [decide_eq_true hk.1, decide_eq_true hk.2]; rfl
    have C3' := Lib.hid (C3.out hk)
    have CL' := Lib.hid (CL.out hk)
    have E1 := Lib.hid (E0.out.trans (if_neg (by rw [hkn]; simp)))
    rw [hkn] at C1
    clear C3 CL E0 hkn hq0
    obtain ⟨hk1, hk2⟩ := hk
    -- what follows once the first tests have passed
    by_cases h1 : k = 1
    · subst h1
      by_cases hv : vl < 0 ∨ 4294967295 < vl
      · have E := Lib.hid (E1.out.trans (if_pos ⟨rfl, hv⟩))
        clear E1 C2 C3' C4 CL'
        rcases hv with hv | hv
        · go_enter Tryd.func40, Tryd.ntmps40
          go_wp2_with fail
          refine (C1.out _).mono ?_
          rintro e w' ⟨rfl, rfl⟩
          go_wp2_with fail
          go_ret
          exact ⟨by rw [E.out]; rfl, HB0.out⟩
        · have hv0 : ¬ vl < 0 := by omega
          go_enter Tryd.func40, Tryd.ntmps40
          go_wp2_with fail
          refine (C1.out _).mono ?_
          rintro e w' ⟨rfl, rfl⟩
          go_wp2_with fail
          go_ret
          exact ⟨by rw [E.out]; rfl, HB0.out⟩
      · have E := Lib.hid (E1.out.trans ((if_neg (fun h => hv h.2)).trans (if_neg (fun h => absurd h.1 (by decide)))))
        have hv0 : ¬ vl < 0 := fun h => hv (.inl h)
        have hv1 : ¬ 4294967295 < vl := fun h => hv (.inr h)
        clear hv E1 C2
        go_enter Tryd.func40, Tryd.ntmps40
        go_wp2_with fail
        refine (C1.out _).mono ?_
        rintro e w' ⟨rfl, rfl⟩
        go_wp2_with fail
        refine C3'.out.mono ?_
        rintro e W1 ⟨⟨R, rfl, hR, hRc⟩, hb1⟩
        rw [← CL'.out]
        have HX1 := Lib.hid ((hb1.block _ (lt_of_block HBX.out)).trans HBX.out)
        have HB1 := Lib.hid (HB0.out.trans (hb1.mono HB0.out.size))
        have C5 := Lib.hid (C4.out R W1 hRc HX1.out)
        clear hb1 hR hRc C4 C3' CL'
        go_wp2_with fail
        refine C5.out.mono ?_
        rintro e w' ⟨rfl, rfl⟩
        clear C5
        cases late with
        | true =>
          go_wp2_with fail
          go_ret
          exact ⟨by rw [E.out]; rfl, HB1.out⟩
        | false =>
          go_wp2_with fail
          go_ret
          exact ⟨by rw [E.out]; rfl, HB1.out⟩
    · have n1 : (k == 1) = false := beq_eq_false_iff_ne.2 h1
      have E2 := Lib.hid (E1.out.trans (if_neg (fun h => h1 h.1)))
      clear E1
      by_cases h2 : k = 2
      · subst h2
        cases hn : isName nm with
        | false =>
          have E := Lib.hid (E2.out.trans (if_pos ⟨rfl, hn⟩))
          rw [hn] at C2
          clear E2 hn C3' C4 CL'
          go_enter Tryd.func40, Tryd.ntmps40
          go_wp2_with fail
          refine (C1.out _).mono ?_
          rintro e w' ⟨rfl, rfl⟩
          go_wp2_with fail
          refine (C2.out _).mono ?_
          rintro e w' ⟨rfl, rfl⟩
          go_wp2_with fail
          go_ret
          exact ⟨by rw [E.out]; rfl, HB0.out⟩
        | true =>
          have E := Lib.hid (E2.out.trans (if_neg (fun h => absurd h.2 (by rw [hn]; simp))))
          rw [hn] at C2
          clear E2 hn
          go_enter Tryd.func40, Tryd.ntmps40
          go_wp2_with fail
          refine (C1.out _).mono ?_
          rintro e w' ⟨rfl, rfl⟩
          go_wp2_with fail
          refine (C2.out _).mono ?_
          rintro e w' ⟨rfl, rfl⟩
          go_wp2_with fail
          refine C3'.out.mono ?_
          rintro e W1 ⟨⟨R, rfl, hR, hRc⟩, hb1⟩
          rw [← CL'.out]
          have HX1 := Lib.hid ((hb1.block _ (lt_of_block HBX.out)).trans HBX.out)
          have HB1 := Lib.hid (HB0.out.trans (hb1.mono HB0.out.size))
          have C5 := Lib.hid (C4.out R W1 hRc HX1.out)
          clear hb1 hR hRc C4 C3' CL'
          go_wp2_with fail
          refine C5.out.mono ?_
          rintro e w' ⟨rfl, rfl⟩
          clear C5
          cases late with
          | true =>
            go_wp2_with fail
            go_ret
            exact ⟨by rw [E.out]; rfl, HB1.out⟩
          | false =>
            go_wp2_with fail
            go_ret
            exact ⟨by rw [E.out]; rfl, HB1.out⟩
      · have n2 : (k == 2) = false := beq_eq_false_iff_ne.2 h2
        have E := Lib.hid (E2.out.trans (if_neg (fun h => h2 h.1)))
        clear E2 C2
        go_enter Tryd.func40, Tryd.ntmps40
        go_wp2_with fail
        refine (C1.out _).mono ?_
        rintro e w' ⟨rfl, rfl⟩
        go_wp2_with fail
        refine C3'.out.mono ?_
        rintro e W1 ⟨⟨R, rfl, hR, hRc⟩, hb1⟩
        rw [← CL'.out]
        have HX1 := Lib.hid ((hb1.block _ (lt_of_block HBX.out)).trans HBX.out)
        have HB1 := Lib.hid (HB0.out.trans (hb1.mono HB0.out.size))
        have C5 := Lib.hid (C4.out R W1 hRc HX1.out)
        clear hb1 hR hRc C4 C3' CL'
        go_wp2_with fail
        refine C5.out.mono ?_
        rintro e w' ⟨rfl, rfl⟩
        clear C5
        cases late with
        | true =>
          go_wp2_with fail
          go_ret
          exact ⟨by rw [E.out]; rfl, HB1.out⟩
        | false =>
          go_wp2_with fail
          go_ret
          exact ⟨by rw [E.out]; rfl, HB1.out⟩
  · have hkn : knownB k = false := by
      unfold knownB
      by_cases h1 : 0 < k
      · rw [decide_eq_false (fun h => hk ⟨h1, h⟩)]; simp
      · rw [decide_eq_false h1]; rfl
    have E := Lib.hid (E0.out.trans (if_pos hkn))
    rw [hkn] at C1
    clear hk hkn E0 C2 C3 C4 CL
    go_enter Tryd.func40, Tryd.ntmps40
    go_wp2_with fail
    refine (C1.out _).mono ?_
    rintro e w' ⟨rfl, rfl⟩
    go_wp2_with fail
    go_ret
    exact ⟨by rw [E.out]; rfl, HB0.out⟩
/-- the first error of a list, with its place; (0, 0): none -/
def scanL {α : Type} (f : α → Nat → Int) : Nat → List α → Int × Nat
  | _, [] => (0, 0)
  | k, x :: r => if f x k ≠ 0 then (f x k, k) else scanL f (k + 1) r
/-- of the first k elements none has an error -/
def fineYet {α : Type} (f : α → Nat → Int) (l : List α) (k : Nat) : Prop := ∀ j x, j < k → l[j]? = some x → f x j = 0
theorem fineYet_zero {α : Type} (f : α → Nat → Int) (l : List α) : fineYet f l 0 := fun _ _ h => absurd h (Nat.not_lt_zero _)
theorem fineYet_succ {α : Type} {f : α → Nat → Int} {l : List α} {k : Nat} {x : α} (h : fineYet f l k) (hx : l[k]? = some x) (hp : f x k = 0) : fineYet f l (k + 1) := fun j y hj hy => by
  rcases Nat.lt_succ_iff_lt_or_eq.1 hj with hlt | rfl
  · exact h j y hlt hy
  · rw [hx] at hy; injection hy with hy; subst hy; exact hp
theorem scanL_hit {α : Type} {f : α → Nat → Int} : ∀ {l : List α} {b k : Nat} {x : α}, (∀ j y, j < k → l[j]? = some y → f y (b + j) = 0) → l[k]? = some x → f x (b + k) ≠ 0 → scanL f b l = (f x (b + k), b + k)
  | [], b, k, x, _, hx, _ => by simp at hx
  | y :: r, b, 0, x, _, hx, hf => by
    have : y = x := by simpa using hx
    subst this
    rw [scanL, if_pos (by simpa using hf)]
    rfl
  | y :: r, b, k + 1, x, h, hx, hf => by
    have h0 : f y b = 0 := h 0 y (Nat.succ_pos _) rfl
    rw [scanL, if_neg (by simpa using h0)]
    rw [show b + (k + 1) = b + 1 + k by omega] at hf ⊢
    exact scanL_hit (fun j z hj hz => by
      have := h (j + 1) z (by omega) (by simpa using hz)
      rw [show b + 1 + j = b + (j + 1) by omega]
      exact this) (by simpa using hx) hf
theorem scanL_none {α : Type} {f : α → Nat → Int} : ∀ {l : List α} {b : Nat}, (∀ j y, l[j]? = some y → f y (b + j) = 0) → scanL f b l = (0, 0)
  | [], _, _ => rfl
  | y :: r, b, h => by
    have h0 : f y b = 0 := h 0 y rfl
    rw [scanL, if_neg (by simpa using h0)]
    exact scanL_none fun j z hz => by
      have := h (j + 1) z (by simpa using hz)
      rw [show b + 1 + j = b + (j + 1) by omega]
      exact this
theorem scan_hit {α : Type} {f : α → Nat → Int} {l : List α} {k : Nat} {x : α} (h : fineYet f l k) (hx : l[k]? = some x) (hf : f x k ≠ 0) : scanL f 0 l = (f x k, k) := by
  have := scanL_hit (f := f) (b := 0) (l := l) (k := k) (x := x) (fun j y hj hy => by rw [Nat.zero_add]; exact h j y hj hy) hx (by rw [Nat.zero_add]; exact hf)
  rw [Nat.zero_add] at this
  exact this
theorem scan_none {α : Type} {f : α → Nat → Int} {l : List α} {n : Nat} (hn : l.length ≤ n) (h : fineYet f l n) : scanL f 0 l = (0, 0) :=
  scanL_none fun j y hy => by rw [Nat.zero_add]; exact h j y (by have := (List.getElem?_eq_some_iff.1 hy).1; omega) hy
/-- the fault of an expression -/
def validL (ns : List Nd) : Int × Int := if ns.length = 0 ∨ 60 < ns.length then (2, -1) else ((scanL chkL 0 ns).1, ((scanL chkL 0 ns).2 : Int))
def faultV (f : Int × Int) : Value := .agg #[.int .i64 f.1, .int .i64 f.2]
theorem flt_lit (w : World) (a b : Int) : (w.alloc (.cells #[.int .i64 a, .int .i64 b] 26)).cell? ⟨w.heap.size, 0, none⟩ = some (.int .i64 a) ∧ (w.alloc (.cells #[.int .i64 a, .int .i64 b] 26)).cell? ⟨w.heap.size, 1, none⟩ = some (.int .i64 b) :=
  ⟨cells_new (xs := [.int .i64 a, .int .i64 b]) 0 _ rfl, cells_new (xs := [.int .i64 a, .int .i64 b]) 1 _ rfl⟩
theorem flt_low (w : World) (a b : Int) : Below w.heap.size w (w.alloc (.cells #[.int .i64 a, .int .i64 b] 26)) := (Below.refl _ _).alloc (Nat.le_refl _) _
def ndW (w : World) (n : Nd) : World := w.alloc (.cells #[.int .i64 n.kind, .int .i64 n.val, strV n.name, .int .i64 n.left, .int .i64 n.right] 59)
theorem ndW_below (w : World) (n : Nd) : Below w.heap.size w (ndW w n) := (Below.refl _ _).alloc (Nat.le_refl _) _
set_option maxRecDepth 100000 in
set_option maxHeartbeats 4000000 in
theorem validate_any (B : Nat) (v : Value) (ns : List Nd) (w : World) (h : NdsAt B w v ns) (hB : B ≤ w.heap.size) (hK : KindsAt w) :
    Calls Tryd.prog 18 #[v] w fun e w' => e = .returned (faultV (validL ns)) ∧ Below w.heap.size w w' := by
  obtain ⟨A, n, c, rfl, Hn, ⟨hl, -⟩, HT, HC⟩ := h.opens
  have HKD := Lib.hid hK
  have E0 := Lib.hid (show validL ns = if ns.length = 0 ∨ 60 < ns.length then (2, -1) else ((scanL chkL 0 ns).1, ((scanL chkL 0 ns).2 : Int)) from rfl)
  rw [Hn.out] at E0
  have HF0 := Lib.hid (fltW_below w)
  have HFB := Lib.hid (fun W (hb : Below (fltW w).heap.size (fltW w) W) => fault_cells (w := w) (W := W) hb)
  clear h hK
  by_cases h0 : n = 0
  · subst h0
    have E := Lib.hid (E0.out.trans (if_pos (.inl rfl)))
    obtain ⟨z0, z1⟩ := flt_lit w 2 (-1)
    go_enter Tryd.func18, Tryd.ntmps18
    go_wp2_with fail
    refine bodyPost_ret (v := faultV (2, -1)) (by unfold faultV; simp [results, Tryd.results18, go_sem, z0, z1]) rfl ⟨by rw [E.out], flt_low _ _ _⟩
  · by_cases h60 : 60 < n
    · have E := Lib.hid (E0.out.trans (if_pos (.inr h60)))
      have h01 : ((n : Int) == 0) = false := beq_eq_false_iff_ne.2 (by omega)
      obtain ⟨z0, z1⟩ := flt_lit w 2 (-1)
      go_enter Tryd.func18, Tryd.ntmps18
      go_wp2_with fail
      refine bodyPost_ret (v := faultV (2, -1)) (by unfold faultV; simp [results, Tryd.results18, go_sem, z0, z1]) rfl ⟨by rw [E.out], flt_low _ _ _⟩
    · have E1 := Lib.hid (E0.out.trans (if_neg (fun h => h.elim h0 h60)))
      have h01 : ((n : Int) == 0) = false := beq_eq_false_iff_ne.2 (by omega)
      have h0' : 0 < n := by omega
      have h60' : n ≤ 60 := by omega
      clear h0 h60 E0
      go_enter Tryd.func18, Tryd.ntmps18
      go_wp2_with fail
      have HBS := Lib.hid (show Below (fltW w).heap.size (fltW w) (fltW w) from Below.refl _ _)
      unfold fltW at HBS
      go_loopw [17] (fun i wr => ∃ k : Nat, k ≤ n ∧ i = .int .i64 k ∧ Hid (fineYet chkL ns k) ∧ Hid (Below (fltW w).heap.size (fltW w) wr)) (fun i _ => n - (intOf i).toNat)
      case atStart => exact ⟨0, Nat.zero_le _, rfl, Lib.hid (fineYet_zero _ _), HBS⟩
      case round =>
        obtain ⟨k, hk, rfl, HN, HB⟩ := hrel
        have hbw := HF0.out.trans (HB.out.mono HF0.out.size)
        by_cases hlt : k < n
        · obtain ⟨b1, o1, rfl, hb1, g1⟩ := HC.out (by omega)
          obtain ⟨x, hx⟩ := getElem?_of_lt Hn.out hlt
          have HX := Lib.hid hx
          obtain ⟨p0, p1, p2, p3, p4⟩ := (g1 k x hx).below (hbw.mono hB) hb1
          have C := Lib.hid (check_node x k (ndW wr x) ((HKD.out.up hbw).up (ndW_below wr x)) (HT.out x (List.mem_of_getElem? hx)))
          have HB1 := Lib.hid (HB.out.trans ((ndW_below wr x).mono HB.out.size))
          unfold ndW at C HB1
          unfold Nd.v at C
          clear HC g1 hx hbw
          by_cases hm : chkL x k = 0
          · have HM := Lib.hid (fineYet_succ HN.out HX.out hm)
            rw [hm] at C
            clear hm
            go_wp2_with fail
            refine C.out.mono ?_
            rintro e W ⟨rfl, hb⟩
            have HB2 := Lib.hid (HB1.out.trans (hb.mono HB1.out.size))
            clear hb C
            go_wp2_with fail
            go_roundw
            case rel => exact ⟨k + 1, by omega, by go_num, HM, HB2⟩
            case measure => simp [intOf]; omega
          · have HM := Lib.hid (scan_hit HN.out HX.out hm)
            generalize chkL x k = cd at C HM hm
            have hm1 : (cd == 0) = false := beq_eq_false_iff_ne.2 hm
            have hm2 : (cd != 0) = true := by simp [bne, hm1]
            clear hm
            go_wp2_with fail
            refine C.out.mono ?_
            rintro e W ⟨rfl, hb⟩
            have HB2 := Lib.hid (HB1.out.trans (hb.mono HB1.out.size))
            obtain ⟨c0, c1, f0, f1, hsz⟩ := HFB.out W HB2.out
            clear hb C
            go_wp2_with fail
            refine bodyPost_ret (v := faultV (cd, (k : Int))) (by unfold faultV; simp [results, Tryd.results18, go_sem, c0, c1]) rfl ⟨by rw [E1.out, HM.out], flt_sets HB2.out _ _⟩
        · obtain rfl : k = n := by omega
          obtain ⟨c0, c1, f0, f1, hsz⟩ := HFB.out wr HB.out
          have HM := Lib.hid (scan_none (by rw [Hn.out]; exact Nat.le_refl _) HN.out)
          clear hbw
          go_wp2_with fail
          refine bodyPost_ret (v := faultV (0, 0)) (by unfold faultV; simp [results, Tryd.results18, go_sem, c0, c1]) rfl ⟨by rw [E1.out, HM.out]; rfl, flt_sets HB.out _ _⟩
end Go.Proofs.YtchpkdpefpiegaaDoor.Tok
