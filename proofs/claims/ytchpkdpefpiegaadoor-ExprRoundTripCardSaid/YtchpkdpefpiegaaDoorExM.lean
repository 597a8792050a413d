/- What a slice of nodes reads as; contracts of children, check and Validate. Conditions: the reading; the table of kinds. -/
import Derived.Test.YtchpkdpefpiegaaDoorExF
namespace Go.Proofs.YtchpkdpefpiegaaDoor.Tok
open Go Go.RowKit

def NdCells (w : World) (b o : Nat) (n : Nd) : Prop :=
  w.cell? ⟨b, o, none⟩ = some (.int .i64 n.kind) ∧ w.cell? ⟨b, o + 1, none⟩ = some (.int .i64 n.val) ∧ w.cell? ⟨b, o + 2, none⟩ = some (strV n.name) ∧ w.cell? ⟨b, o + 3, none⟩ = some (.int .i64 n.left) ∧ w.cell? ⟨b, o + 4, none⟩ = some (.int .i64 n.right)
/-- the slice value v reads as the nodes ns; its cells lie below block B -/
def NdsAt (B : Nat) (w : World) (v : Value) (ns : List Nd) : Prop :=
  ∃ A c, v = .slice A ns.length c ∧ (ns.length * 48 ≤ 140737488351232 ∧ ns.length ≤ c) ∧ (∀ n ∈ ns, n.name.length ≤ 140737488351232) ∧
   (0 < ns.length → ∃ b off, A = some ⟨b, off, none⟩ ∧ b < B ∧ ∀ j n, ns[j]? = some n → NdCells w b (off + j * 5) n)
theorem NdsAt.opens {B : Nat} {w : World} {v : Value} {ns : List Nd} (h : NdsAt B w v ns) : ∃ A n c, v = .slice A n c ∧ Hid (ns.length = n) ∧ (n * 48 ≤ 140737488351232 ∧ n ≤ c) ∧ Hid (∀ n ∈ ns, n.name.length ≤ 140737488351232) ∧
    Hid (0 < n → ∃ b off, A = some ⟨b, off, none⟩ ∧ b < B ∧ ∀ j n, ns[j]? = some n → NdCells w b (off + j * 5) n) := by
  obtain ⟨A, c, h1, h2, h3, h4⟩ := h
  exact ⟨A, _, c, h1, Lib.hid rfl, h2, Lib.hid h3, Lib.hid h4⟩
theorem NdCells.below {B : Nat} {w w' : World} {b o : Nat} {n : Nd} (h : NdCells w b o n) (hb : Below B w w') (hlt : b < B) : NdCells w' b o n :=
  ⟨(hb.cell (p := ⟨b, o, none⟩) hlt).trans h.1, (hb.cell (p := ⟨b, o + 1, none⟩) hlt).trans h.2.1, (hb.cell (p := ⟨b, o + 2, none⟩) hlt).trans h.2.2.1, (hb.cell (p := ⟨b, o + 3, none⟩) hlt).trans h.2.2.2.1, (hb.cell (p := ⟨b, o + 4, none⟩) hlt).trans h.2.2.2.2⟩
theorem NdsAt.below {B : Nat} {w w' : World} {v : Value} {ns : List Nd} (h : NdsAt B w v ns) (hb : Below B w w') : NdsAt B w' v ns := by
  obtain ⟨A, c, h1, h2, h3, h4⟩ := h
  refine ⟨A, c, h1, h2, h3, fun hn => ?_⟩
  obtain ⟨b, off, ha, hlt, hc⟩ := h4 hn
  exact ⟨b, off, ha, hlt, fun j m hj => (hc j m hj).below hb hlt⟩
theorem NdsAt.more {B B' : Nat} {w : World} {v : Value} {ns : List Nd} (h : NdsAt B w v ns) (hB : B ≤ B') : NdsAt B' w v ns := by
  obtain ⟨A, c, h1, h2, h3, h4⟩ := h
  refine ⟨A, c, h1, h2, h3, fun hn => ?_⟩
  obtain ⟨b, off, ha, hlt, hc⟩ := h4 hn
  exact ⟨b, off, ha, by omega, hc⟩
theorem ndv_length (ns : List Nd) : (ndv ns).length = ns.length * 5 := by
  induction ns with
  | nil => rfl
  | cons t r ih => rw [show ndv (t :: r) = ndC t ++ ndv r from rfl, List.length_append, ih, List.length_cons]; show 5 + _ = _; omega
theorem ndv_at : ∀ {ns : List Nd} {j : Nat} {t : Nd}, ns[j]? = some t → ∀ i, i < 5 → (ndv ns)[j * 5 + i]? = (ndC t)[i]?
  | [], j, t, h, i, _ => by simp at h
  | x :: r, 0, t, h, i, hi => by
    have : x = t := by simpa using h
    subst this
    rw [show ndv (x :: r) = ndC x ++ ndv r from rfl, Nat.zero_mul, Nat.zero_add, List.getElem?_append_left (by show i < 5; exact hi)]
  | x :: r, j + 1, t, h, i, hi => by
    rw [show ndv (x :: r) = ndC x ++ ndv r from rfl, List.getElem?_append_right (by show 5 ≤ _; omega)]
    rw [show (j + 1) * 5 + i - (ndC x).length = j * 5 + i by show (j + 1) * 5 + i - 5 = _; omega]
    exact ndv_at (by simpa using h) i hi
/-- a row of nodes that the call owns, read -/
theorem nds_of_row {w : World} {B n : Nat} {v : Value} {ns : List Nd} (h : w.ownsRow B 59 5 v n (ndv ns)) (hn : ns.length ≤ 1000000) (hr : ∀ t ∈ ns, t.name.length ≤ 140737488351232) : NdsAt w.heap.size w v ns := by
  have hl : ns.length = n := by have := h.1; rw [ndv_length] at this; omega
  rcases h.2 with ⟨rfl, h0⟩ | ⟨g, cap, cur, rfl, hB, hcap, h3, h4⟩
  · subst h0
    have hl : ns = [] := List.eq_nil_of_length_eq_zero hl
    subst hl
    exact ⟨none, 0, rfl, by simp, by simp, fun h => absurd h (by simp)⟩
  · refine ⟨_, cap, by rw [hl], ⟨by omega, ?_⟩, hr, fun _ => ⟨g, 0, rfl, (h.lt g rfl).2, fun j t hj => ?_⟩⟩
    · omega
    · have hj2 : j < ns.length := (List.getElem?_eq_some_iff.1 hj).1
      have hat := ndv_at hj
      have g0 := hat 0 (by decide)
      have g1 := hat 1 (by decide)
      have g2 := hat 2 (by decide)
      have g3 := hat 3 (by decide)
      have g4 := hat 4 (by decide)
      rw [Nat.zero_add]
      exact ⟨(h.cellAt (j * 5) (by omega)).trans g0, (h.cellAt (j * 5 + 1) (by omega)).trans g1, (h.cellAt (j * 5 + 2) (by omega)).trans g2, (h.cellAt (j * 5 + 3) (by omega)).trans g3, (h.cellAt (j * 5 + 4) (by omega)).trans g4⟩

/-! ## children -/
theorem kinds_child {w : World} (h : KindsAt w) {k : Nat} (hk : k < 15) : w.cell? ⟨0, k * 3, none⟩ = some (.int .i64 (childL k : Int)) := by
  obtain ⟨fr, h⟩ := h
  have hv : ∀ k, k < 15 → kcs[k * 3]? = some (.int .i64 (childL k : Int)) := by
    intro k hk
    have : k = 0 ∨ k = 1 ∨ k = 2 ∨ k = 3 ∨ k = 4 ∨ k = 5 ∨ k = 6 ∨ k = 7 ∨ k = 8 ∨ k = 9 ∨ k = 10 ∨ k = 11 ∨ k = 12 ∨ k = 13 ∨ k = 14 := by omega
    rcases this with rfl | rfl | rfl | rfl | rfl | rfl | rfl | rfl | rfl | rfl | rfl | rfl | rfl | rfl | rfl <;> rfl
  simp [World.cell?, h, hv k hk]
theorem kinds_sign {w : World} (h : KindsAt w) {k : Nat} (hk : k < 15) : w.cell? ⟨0, k * 3 + 1, none⟩ = some (strV (signL k)) := by
  obtain ⟨fr, h⟩ := h
  have hv : ∀ k, k < 15 → kcs[k * 3 + 1]? = some (strV (signL k)) := by
    intro k hk
    have : k = 0 ∨ k = 1 ∨ k = 2 ∨ k = 3 ∨ k = 4 ∨ k = 5 ∨ k = 6 ∨ k = 7 ∨ k = 8 ∨ k = 9 ∨ k = 10 ∨ k = 11 ∨ k = 12 ∨ k = 13 ∨ k = 14 := by omega
    rcases this with rfl | rfl | rfl | rfl | rfl | rfl | rfl | rfl | rfl | rfl | rfl | rfl | rfl | rfl | rfl <;> rfl
  simp [World.cell?, h, hv k hk]
theorem child_le : ∀ k, k < 15 → childL k ≤ 2 := by decide
def chN (n : Nd) : List Int := [n.left, n.right].take (childL n.kind.toNat)
def ChildPost (n : Nd) (w : World) (e : Ending) (w' : World) : Prop :=
  (∃ R, e = .returned (.slice (some ⟨R, 0, none⟩) (childL n.kind.toNat) 2) ∧ w.heap.size ≤ R ∧ w'.heap[R]? = some (.cells #[.int .i64 n.left, .int .i64 n.right] 3 (0, 0))) ∧ Below w.heap.size w w'
theorem heap_newM (w : World) (o1 o2 : Obj) : ((w.alloc o1).alloc o2).heap[w.heap.size + 1]? = some o2 := by
  have := heap_alloc_new (w.alloc o1) o2
  rw [World.size_alloc] at this
  exact this
set_option maxRecDepth 100000 in
set_option maxHeartbeats 2000000 in
theorem children_any (n : Nd) (w : World) (hk : 0 < n.kind ∧ n.kind < 15) (hK : KindsAt w) : Calls Tryd.prog 36 #[n.v] w (ChildPost n w) := by
  obtain ⟨k, vl, nm, le, ri⟩ := n
  obtain ⟨K, rfl⟩ : ∃ K : Nat, k = K := ⟨k.toNat, by have := hk.1; dsimp only at this; omega⟩
  have hK15 : K < 15 := by have := hk.2; dsimp only at this; omega
  have hc := kinds_child hK hK15
  have hle := child_le K hK15
  have hlt := hK.lt
  unfold Nd.v
  dsimp only
  have HE := Lib.hid (show ∀ e w', (∃ R, e = .returned (.slice (some ⟨R, 0, none⟩) (childL K) 2) ∧ w.heap.size ≤ R ∧ w'.heap[R]? = some (.cells #[.int .i64 le, .int .i64 ri] 3 (0, 0))) ∧ Below w.heap.size w w' → ChildPost ⟨K, vl, nm, le, ri⟩ w e w' from fun e w' h => h)
  generalize childL K = C at hc hle HE
  clear hk hK
  go_enter Tryd.func36, Tryd.ntmps36
  go_wp2_with fail
  go_ret
  exact HE.out _ _ ⟨⟨w.heap.size + 1, rfl, by omega, heap_newM _ _ _⟩, ((Below.refl _ _).alloc (Nat.le_refl _) _).alloc (by simp) _⟩
/-- a child that is no earlier node -/
def lateB (pos : Nat) (x : Int) : Bool := decide (x < 0) || decide ((pos : Int) ≤ x)
set_option maxHeartbeats 1000000 in
theorem late_any (x : Int) (pos b : Nat) (w : World) (h : w.heap[b]? = some (.cells #[.int .i64 (pos : Int)] 3 (0, 0))) :
    Calls Tryd.prog 60 #[.int .i64 x, .pointer (some ⟨b, 0, none⟩)] w fun e w' => e = .returned (.bool (lateB pos x)) ∧ w = w' := by
  have c0 := (cells_of h).1 0 _ rfl
  clear h
  by_cases h1 : x < 0
  · have E := Lib.hid (show lateB pos x = true by unfold lateB; rw [decide_eq_true h1]; rfl)
    go_enter Tryd.func60, Tryd.ntmps60
    go_wp2_with fail
    go_ret
    exact ⟨ret_bool E.out.symm, rfl⟩
  · have E := Lib.hid (show lateB pos x = decide ((pos : Int) ≤ x) by unfold lateB; rw [decide_eq_false h1]; rfl)
    go_enter Tryd.func60, Tryd.ntmps60
    go_wp2_with fail
    go_ret
    exact ⟨ret_bool (by rw [E.out]), rfl⟩
/-- how the search ends -/
def LateIdx (pos : Nat) (xs : List Int) (w : World) (e : Ending) (w' : World) : Prop :=
  ((∃ k : Nat, e = .returned (.int .i64 (k : Int)) ∧ xs.any (lateB pos) = true) ∨ (e = .returned (.int .i64 (-1)) ∧ xs.any (lateB pos) = false)) ∧ w = w'
theorem any_hit {α : Type} {p : α → Bool} {l : List α} {k : Nat} {x : α} (hx : l[k]? = some x) (h : p x = true) : l.any p = true := List.any_eq_true.2 ⟨x, List.mem_of_getElem? hx, h⟩
theorem any_none {α : Type} {p : α → Bool} {l : List α} (h : noneYet p l l.length) : l.any p = false := by
  rw [List.any_eq_false]
  intro x hx
  obtain ⟨j, hj, rfl⟩ := List.getElem_of_mem hx
  rw [h j _ hj (List.getElem?_eq_getElem hj)]
  simp
set_option maxRecDepth 100000 in
set_option maxHeartbeats 1000000 in
theorem late_idx (xs : List Int) (R c pos b : Nat) (w : World) (hn : xs.length ≤ 2) (hc : ∀ (j : Nat) x, xs[j]? = some x → w.cell? ⟨R, j, none⟩ = some (.int .i64 x)) (hb : w.heap[b]? = some (.cells #[.int .i64 (pos : Int)] 3 (0, 0))) :
    Calls Tryd.prog 85 #[.slice (some ⟨R, 0, none⟩) xs.length c, .func (.func 60) #[] #[.pointer (some ⟨b, 0, none⟩)]] w (LateIdx pos xs w) := by
  have C := Lib.hid (fun x => late_any x pos b w hb)
  have HC := Lib.hid hc
  have HE := Lib.hid (show ∀ e, ((∃ k : Nat, e = .returned (.int .i64 (k : Int)) ∧ xs.any (lateB pos) = true) ∨ (e = .returned (.int .i64 (-1)) ∧ xs.any (lateB pos) = false)) → LateIdx pos xs w e w from fun e h => ⟨h, rfl⟩)
  obtain ⟨n, hnx⟩ : ∃ n, xs.length = n := ⟨_, rfl⟩
  have Hn := Lib.hid hnx
  rw [hnx] at hn ⊢
  clear hc hb hnx
  go_enter Tryd.func85, Tryd.ntmps85
  go_wp2
  go_loop [8] (fun i => ∃ k : Nat, k ≤ n ∧ i = .int .i64 k ∧ Hid (noneYet (lateB pos) xs k)) (fun i => n - (intOf i).toNat)
  case atStart => exact ⟨0, Nat.zero_le _, rfl, Lib.hid (noneYet_zero _ _)⟩
  case round =>
    obtain ⟨k, hk, rfl, HN⟩ := hrel
    by_cases hlt : k < n
    · obtain ⟨x, hx⟩ := getElem?_of_lt Hn.out hlt
      have HX := Lib.hid hx
      have c0 := HC.out k x hx
      have C2 := Lib.hid (C.out x)
      clear hx
      cases hm : lateB pos x with
      | true =>
        rw [hm] at C2
        have HM := Lib.hid (any_hit HX.out hm)
        clear hm
        go_wp2_with fail
        refine C2.out.mono ?_
        rintro e w' ⟨rfl, rfl⟩
        go_wp2_with fail
        go_ret
        exact HE.out _ (.inl ⟨k, rfl, HM.out⟩)
      | false =>
        rw [hm] at C2
        have HM := Lib.hid (noneYet_succ HN.out HX.out hm)
        clear hm
        go_wp2_with fail
        refine C2.out.mono ?_
        rintro e w' ⟨rfl, rfl⟩
        go_wp2_with fail
        go_round
        case rel => exact ⟨k + 1, by omega, by go_num, HM⟩
        case measure => simp [intOf]; omega
    · obtain rfl : k = n := by omega
      go_wp2
      go_ret
      exact HE.out _ (.inr ⟨rfl, by rw [← Hn.out] at HN; exact any_none HN.out⟩)
set_option maxRecDepth 100000 in
set_option maxHeartbeats 1000000 in
theorem contains_any (xs : List Int) (R c pos b : Nat) (w : World) (hn : xs.length ≤ 2) (hc : ∀ (j : Nat) x, xs[j]? = some x → w.cell? ⟨R, j, none⟩ = some (.int .i64 x)) (hb : w.heap[b]? = some (.cells #[.int .i64 (pos : Int)] 3 (0, 0))) :
    Calls Tryd.prog 62 #[.slice (some ⟨R, 0, none⟩) xs.length c, .func (.func 60) #[] #[.pointer (some ⟨b, 0, none⟩)]] w fun e w' => e = .returned (.bool (xs.any (lateB pos))) ∧ w = w' := by
  have C := Lib.hid (late_idx xs R c pos b w hn hc hb)
  clear hn hc hb
  go_enter Tryd.func62, Tryd.ntmps62
  go_wp2_with fail
  refine C.out.mono ?_
  rintro e w' ⟨⟨k, rfl, hm⟩ | ⟨rfl, hm⟩, rfl⟩
  · have E := Lib.hid hm
    clear hm C
    go_wp2_with fail
    go_ret
    exact ⟨ret_bool (by rw [E.out]), rfl⟩
  · have E := Lib.hid hm
    clear hm C
    go_wp2_with fail
    go_ret
    exact ⟨ret_bool (by rw [E.out]), rfl⟩
end Go.Proofs.YtchpkdpefpiegaaDoor.Tok
