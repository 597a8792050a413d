/- What a slice of tokens reads as; contract of the reference's SameTokens where the tokens are the same. Conditions: the readings. -/
import Derived.Test.YtchpkdpefpiegaaDoorTokI
namespace Go.Proofs.YtchpkdpefpiegaaDoor.Tok
open Go Go.RowKit

/-- the cells of a token from offset o of block b on -/
def TkCells (w : World) (b o : Nat) (t : Tk) : Prop :=
  w.cell? ⟨b, o, none⟩ = some (.int .i64 t.kind) ∧ w.cell? ⟨b, o + 1, none⟩ = some (strV t.text) ∧ w.cell? ⟨b, o + 2, none⟩ = some (.int .i64 t.val) ∧ w.cell? ⟨b, o + 3, none⟩ = some (.int .i64 t.pos)
/-- the slice value v reads as the tokens ts; its cells lie below block B -/
def TksAt (B : Nat) (w : World) (v : Value) (ts : List Tk) : Prop :=
  ∃ A c, v = .slice A ts.length c ∧ (ts.length * 40 ≤ 140737488355328 ∧ ts.length ≤ c) ∧ (∀ t ∈ ts, t.text.length ≤ 140737488351232) ∧
   (0 < ts.length → ∃ b off, A = some ⟨b, off, none⟩ ∧ b < B ∧ ∀ j t, ts[j]? = some t → TkCells w b (off + j * 4) t)
theorem TksAt.opens {B : Nat} {w : World} {v : Value} {ts : List Tk} (h : TksAt B w v ts) : ∃ A n c, v = .slice A n c ∧ Hid (ts.length = n) ∧ (n * 40 ≤ 140737488355328 ∧ n ≤ c) ∧ Hid (∀ t ∈ ts, t.text.length ≤ 140737488351232) ∧
    Hid (0 < n → ∃ b off, A = some ⟨b, off, none⟩ ∧ b < B ∧ ∀ j t, ts[j]? = some t → TkCells w b (off + j * 4) t) := by
  obtain ⟨A, c, h1, h2, h3, h4⟩ := h
  exact ⟨A, _, c, h1, Lib.hid rfl, h2, Lib.hid h3, Lib.hid h4⟩
theorem TkCells.below {B : Nat} {w w' : World} {b o : Nat} {t : Tk} (h : TkCells w b o t) (hb : Below B w w') (hlt : b < B) : TkCells w' b o t :=
  ⟨(hb.cell (p := ⟨b, o, none⟩) hlt).trans h.1, (hb.cell (p := ⟨b, o + 1, none⟩) hlt).trans h.2.1, (hb.cell (p := ⟨b, o + 2, none⟩) hlt).trans h.2.2.1, (hb.cell (p := ⟨b, o + 3, none⟩) hlt).trans h.2.2.2⟩
theorem TksAt.below {B : Nat} {w w' : World} {v : Value} {ts : List Tk} (h : TksAt B w v ts) (hb : Below B w w') : TksAt B w' v ts := by
  obtain ⟨A, c, h1, h2, h3, h4⟩ := h
  refine ⟨A, c, h1, h2, h3, fun hn => ?_⟩
  obtain ⟨b, off, ha, hlt, hc⟩ := h4 hn
  exact ⟨b, off, ha, hlt, fun j t hj => (hc j t hj).below hb hlt⟩
theorem TksAt.more {B B' : Nat} {w : World} {v : Value} {ts : List Tk} (h : TksAt B w v ts) (hB : B ≤ B') : TksAt B' w v ts := by
  obtain ⟨A, c, h1, h2, h3, h4⟩ := h
  refine ⟨A, c, h1, h2, h3, fun hn => ?_⟩
  obtain ⟨b, off, ha, hlt, hc⟩ := h4 hn
  exact ⟨b, off, ha, by omega, hc⟩
theorem tkv_length (ts : List Tk) : (tkv ts).length = ts.length * 4 := by
  induction ts with
  | nil => rfl
  | cons t r ih => rw [show tkv (t :: r) = tkC t ++ tkv r from rfl, List.length_append, ih, List.length_cons]; show 4 + _ = _; omega
theorem tkv_at : ∀ {ts : List Tk} {j : Nat} {t : Tk}, ts[j]? = some t → ∀ i, i < 4 → (tkv ts)[j * 4 + i]? = (tkC t)[i]?
  | [], j, t, h, i, _ => by simp at h
  | x :: r, 0, t, h, i, hi => by
    have : x = t := by simpa using h
    subst this
    rw [show tkv (x :: r) = tkC x ++ tkv r from rfl, Nat.zero_mul, Nat.zero_add, List.getElem?_append_left (by show i < 4; exact hi)]
  | x :: r, j + 1, t, h, i, hi => by
    rw [show tkv (x :: r) = tkC x ++ tkv r from rfl, List.getElem?_append_right (by show 4 ≤ _; omega)]
    rw [show (j + 1) * 4 + i - (tkC x).length = j * 4 + i by show (j + 1) * 4 + i - 4 = _; omega]
    exact tkv_at (by simpa using h) i hi
/-- a row of tokens that the call owns, read -/
theorem toks_of_row {w : World} {B n : Nat} {v : Value} {ts : List Tk} (h : w.ownsRow B 31 4 v n (tkv ts)) (hn : ts.length ≤ 1000000) (hr : ∀ t ∈ ts, t.text.length ≤ 140737488351232) : TksAt w.heap.size w v ts := by
  have hl : ts.length = n := by have := h.1; rw [tkv_length] at this; omega
  rcases h.2 with ⟨rfl, h0⟩ | ⟨g, cap, cur, rfl, hB, hcap, h3, h4⟩
  · subst h0
    have hl : ts = [] := List.eq_nil_of_length_eq_zero hl
    subst hl
    exact ⟨none, 0, rfl, by simp, by simp, fun h => absurd h (by simp)⟩
  · refine ⟨_, cap, by rw [hl], ⟨by omega, ?_⟩, hr, fun _ => ⟨g, 0, rfl, (h.lt g rfl).2, fun j t hj => ?_⟩⟩
    · omega
    · have hj2 : j < ts.length := (List.getElem?_eq_some_iff.1 hj).1
      have hat := tkv_at hj
      have g0 := hat 0 (by decide)
      have g1 := hat 1 (by decide)
      have g2 := hat 2 (by decide)
      have g3 := hat 3 (by decide)
      rw [Nat.zero_add]
      exact ⟨(h.cellAt (j * 4) (by omega)).trans g0, (h.cellAt (j * 4 + 1) (by omega)).trans g1, (h.cellAt (j * 4 + 2) (by omega)).trans g2, (h.cellAt (j * 4 + 3) (by omega)).trans g3⟩
/-- two lists of tokens are the same, with their offsets where b holds -/
def SameTks (b : Bool) (xs ys : List Tk) : Prop :=
  xs.length = ys.length ∧ ∀ (j : Nat) x y, xs[j]? = some x → ys[j]? = some y → x.kind = y.kind ∧ x.text = y.text ∧ x.val = y.val ∧ (b = true → x.pos = y.pos)
theorem sameTks_refl (b : Bool) (xs : List Tk) : SameTks b xs xs := ⟨rfl, fun j x y h1 h2 => by rw [h1] at h2; cases h2; exact ⟨rfl, rfl, rfl, fun _ => rfl⟩⟩
theorem getElem?_of_lt {α : Type} {l : List α} {k n : Nat} (h : l.length = n) (hk : k < n) : ∃ x, l[k]? = some x := ⟨l[k], List.getElem?_eq_getElem (by omega)⟩
set_option maxRecDepth 100000 in
set_option maxHeartbeats 4000000 in
theorem same_any (B : Nat) (v1 v2 : Value) (b : Bool) (xs ys : List Tk) (w : World) (h1 : TksAt B w v1 xs) (h2 : TksAt B w v2 ys) (h : SameTks b xs ys) :
    Calls Tryd.prog 23 #[v1, v2, .bool b] w fun e w' => e = .returned (.bool true) ∧ ∃ q, w' = w.drewN q := by
  obtain ⟨A1, n, c1, rfl, Hn1, ⟨hl1, -⟩, -, HC1⟩ := h1.opens
  obtain ⟨A2, n2, c2, rfl, Hn2, ⟨hl2, -⟩, -, HC2⟩ := h2.opens
  obtain rfl : n = n2 := by rw [← Hn1.out, ← Hn2.out]; exact h.1
  have HS := Lib.hid h.2
  clear h h1 h2
  go_enter Tryd.func23, Tryd.ntmps23
  go_wp2
  go_loopw [7] (fun i wr => ∃ k q : Nat, k ≤ n ∧ i = .int .i64 k ∧ wr = w.drewN q) (fun i _ => n - (intOf i).toNat)
  case atStart => exact ⟨0, 0, Nat.zero_le _, rfl, rfl⟩
  case round =>
    obtain ⟨k, q, hk, rfl, rfl⟩ := hrel
    by_cases hlt : k < n
    · obtain ⟨b1, o1, rfl, -, g1⟩ := HC1.out (by omega)
      obtain ⟨b2, o2, rfl, -, g2⟩ := HC2.out (by omega)
      obtain ⟨x, hx⟩ := getElem?_of_lt Hn1.out hlt
      obtain ⟨y, hy⟩ := getElem?_of_lt Hn2.out hlt
      obtain ⟨e1, e2, e3, e4⟩ := HS.out k x y hx hy
      obtain ⟨p0, p1, p2, p3⟩ := g1 k x hx
      obtain ⟨q0, q1, q2, q3⟩ := g2 k y hy
      rw [← e1] at q0
      rw [← e2] at q1
      rw [← e3] at q2
      obtain ⟨s, hs⟩ : ∃ s : ByteArray, s = ⟨x.text.toArray⟩ := ⟨_, rfl⟩
      rw [show strV x.text = .string s from by rw [hs]] at p1 q1
      have t1 : (x.kind != x.kind) = false := by simp
      have t2 : (!(s.toList == s.toList)) = false := by simp
      have t3 : (x.val != x.val) = false := by simp
      clear HC1 HC2 HS g1 g2 hx hy e1 e2 e3 hs
      cases b with
      | true =>
        rw [← e4 rfl] at q3
        have t4 : (x.pos != x.pos) = false := by simp
        clear e4
        go_wp2
        go_quiet (fail)
        go_wp2
        go_roundw
        case rel => exact ⟨k + 1, _, by omega, by go_num, rfl⟩
        case measure => simp [intOf]; omega
      | false =>
        clear e4
        go_wp2
        go_quiet (fail)
        go_wp2
        go_roundw
        case rel => exact ⟨k + 1, _, by omega, by go_num, rfl⟩
        case measure => simp [intOf]; omega
    · obtain rfl : k = n := by omega
      go_wp2
      go_ret
      exact ⟨rfl, _, rfl⟩
end Go.Proofs.YtchpkdpefpiegaaDoor.Tok
