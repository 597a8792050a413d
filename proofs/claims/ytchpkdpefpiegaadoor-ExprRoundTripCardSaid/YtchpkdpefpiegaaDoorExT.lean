/- Pure facts: what Parse accepts is a tree of the grammar; parentheses and two signs of negation change nothing. -/
import Derived.Test.YtchpkdpefpiegaaDoorExG
import Derived.Test.YtchpkdpefpiegaaDoorExS
import Derived.Test.YtchpkdpefpiegaaDoorExW
namespace Go.Proofs.YtchpkdpefpiegaaDoor.Tok
open Go Go.RowKit

theorem parsed_sound {ts : List Tk} {ns : List Nd} (h : parsed ts = some ns) : ∃ x, Gr 8 0 1 ts x ∧ ns = flat x [] := by
  unfold parsed at h
  split at h
  · rename_i h0
    injection h with h
    obtain ⟨h1, h2⟩ := h0
    obtain ⟨r, hr⟩ : ∃ r, parseS ts = (0, r) := ⟨_, Prod.ext h1 rfl⟩
    rw [hr] at h2 h
    have hr' := hr
    unfold parseS at hr'
    obtain ⟨l, x, g1, g2, g3, -⟩ := (sound ts _).2.1 ⟨0, 0, []⟩ 1 r ⟨Nat.zero_le _, Nat.zero_le _, Nat.zero_le _⟩ (Nat.le_refl 1) (by decide) hr'
    have e : l = ts := by
      have g2' : ts = l ++ ts.drop r.pos := g2
      rw [show r.pos = ts.length from h2, List.drop_length, List.append_nil] at g2'
      exact g2'.symm
    subst e
    exact ⟨x, g1, by rw [← h]; exact g3⟩
  · cases h
def parT (o c : Tk) (l : List Tk) : List Tk := o :: (l ++ [c])
theorem Gr.more {M d c : Nat} {l : List Tk} {x : Ex} (h : Gr M d c l x) (k : Nat) : Gr (M + k) d c l x := h.deeper k 0 (Nat.zero_le _)
theorem gr_par {M : Nat} {o c : Tk} {l : List Tk} {x : Ex} (h : Gr M 0 1 l x) (ho : o.text = [40]) (hc : c.text = [41]) (h2 : o.kind ≠ 2) (h1 : o.kind ≠ 1) (b : Nat) : Gr (M + 1) 0 b (parT o c l) x :=
  .par (Nat.succ_pos M) h2 h1 ho hc (h.deeper 1 1 (Nat.le_refl 1))
/-- an expression in parentheses has the same nodes -/
theorem same_par {o c : Tk} {l : List Tk} {a b : List Nd} (ha : parsed l = some a) (hb : parsed (parT o c l) = some b) (ho : o.text = [40]) (hc : c.text = [41]) (h2 : o.kind ≠ 2) (h1 : o.kind ≠ 1) : a = b := by
  obtain ⟨x, gx, rfl⟩ := parsed_sound ha
  obtain ⟨y, gy, rfl⟩ := parsed_sound hb
  exact (gr_par gx ho hc h2 h1 1).unique (gy.more 1)
theorem kind_minus : kindL [45] 1 = 3 := by decide
/-- two signs of negation in front of parentheses: two nodes more -/
theorem neg_par {m1 m2 o c : Tk} {l : List Tk} {a n : List Nd} (ha : parsed l = some a) (hn : parsed (m1 :: m2 :: parT o c l) = some n) (ho : o.text = [40]) (hc : c.text = [41]) (h2 : o.kind ≠ 2) (h1 : o.kind ≠ 1)
    (e1 : m1.text = [45]) (e2 : m2.text = [45]) (k12 : m1.kind ≠ 2) (k11 : m1.kind ≠ 1) (k22 : m2.kind ≠ 2) (k21 : m2.kind ≠ 1) :
    a ≠ [] ∧ n = (a ++ [unN 3 ((a.length : Int) - 1)]) ++ [unN 3 (a.length : Int)] := by
  obtain ⟨x, gx, rfl⟩ := parsed_sound ha
  obtain ⟨z, gz, rfl⟩ := parsed_sound hn
  have g0 : Gr 9 0 7 (parT o c l) x := gr_par gx ho hc h2 h1 7
  have g1 : Gr 10 0 7 (m2 :: parT o c l) (.un 3 x) := by
    have := Gr.un (M := 10) (d := 0) (c := 7) (t := m2) (l := parT o c l) (x := x) (by omega) k22 k21 (by rw [e2, kind_minus]; decide) (g0.deeper 1 1 (Nat.le_refl 1))
    rw [e2, kind_minus] at this
    exact this
  have g2 : Gr 11 0 1 (m1 :: m2 :: parT o c l) (.un 3 (.un 3 x)) := by
    have := Gr.un (M := 11) (d := 0) (c := 1) (t := m1) (l := m2 :: parT o c l) (x := .un 3 x) (by omega) k12 k11 (by rw [e1, kind_minus]; decide) (g1.deeper 1 1 (Nat.le_refl 1))
    rw [e1, kind_minus] at this
    exact this
  have hlen := flat_len x []
  refine ⟨fun e => ?_, ?_⟩
  · rw [e] at hlen; exact absurd hlen (Nat.lt_irrefl _)
  · rw [← g2.unique (gz.more 3)]
    show flat (.un 3 x) [] ++ [unN 3 (((flat (.un 3 x) []).length : Int) - 1)] = _
    rw [flat, List.length_append]
    congr 2
    show unN 3 ((((flat x []).length + 1 : Nat) : Int) - 1) = _
    rw [show ((((flat x []).length + 1 : Nat) : Int) - 1) = ((flat x []).length : Int) by omega]
theorem runL_snoc : ∀ (ns : List Nd) (vs : List Ln) (n : Nd), (runL [] vs ns).2 = 0 → runL [] vs (ns ++ [n]) = runL [] (runL [] vs ns).1 [n]
  | [], vs, n, _ => rfl
  | x :: r, vs, n, h => by
    by_cases e1 : (evalL x (opA vs x) (opB vs x) []).2 = 0
    · rw [List.cons_append, runL_next e1, runL_next e1]
      rw [runL_next e1] at h
      exact runL_snoc r _ n h
    · rw [runL_hit e1] at h; exact absurd h e1
theorem runL_len : ∀ (ns : List Nd) (vs : List Ln), (runL [] vs ns).2 = 0 → (runL [] vs ns).1.length = vs.length + ns.length
  | [], vs, _ => rfl
  | x :: r, vs, h => by
    by_cases e1 : (evalL x (opA vs x) (opB vs x) []).2 = 0
    · rw [runL_next e1] at h ⊢
      rw [runL_len r _ h, List.length_append, List.length_cons, List.length_cons, List.length_nil]
      omega
    · rw [runL_hit e1] at h; exact absurd h e1
theorem scanL_clean {α : Type} {f : α → Nat → Int} : ∀ {l : List α} {b : Nat}, (∀ (j : Nat) y, l[j]? = some y → f y (b + j) = 0) → scanL f b l = (0, 0)
  | [], _, _ => rfl
  | x :: r, b, h => by
    rw [scanL, if_neg (by have := h 0 x rfl; rw [Nat.add_zero] at this; simp [this])]
    exact scanL_clean fun j y hj => by have := h (j + 1) y hj; rw [show b + (j + 1) = b + 1 + j by omega] at this; exact this
theorem chk_neg {k pos : Nat} (h : k < pos) : chkL (unN 3 (k : Int)) pos = 0 := by
  have e : chN (unN 3 (k : Int)) = [(k : Int)] := rfl
  unfold chkL
  rw [e, if_neg (show ¬ knownB (unN 3 (k : Int)).kind = false by show ¬ knownB 3 = false; decide), if_neg (show ¬ ((unN 3 (k : Int)).kind = 1 ∧ _) from fun h => absurd h.1 (by show ¬ (3 : Int) = 1; decide)), if_neg (show ¬ ((unN 3 (k : Int)).kind = 2 ∧ _) from fun h => absurd h.1 (by show ¬ (3 : Int) = 2; decide))]
  rw [if_neg]
  simp [lateB]
  omega
theorem valid_snoc {a : List Nd} (h : validL a = (0, 0)) (hl : a.length < 60) {n : Nd} (hn : chkL n a.length = 0) : validL (a ++ [n]) = (0, 0) := by
  obtain ⟨⟨h1, h2⟩, h3⟩ := validL_all h
  unfold validL
  rw [if_neg (by rw [List.length_append, List.length_singleton]; omega), scanL_clean]
  · rfl
  · intro j y hj
    rw [Nat.zero_add]
    by_cases hja : j < a.length
    · rw [List.getElem?_append_left hja] at hj
      exact h3 j y hj
    · rw [List.getElem?_append_right (by omega)] at hj
      have hj0 : j - a.length = 0 := by
        have := (List.getElem?_eq_some_iff.1 hj).1
        simpa using this
      rw [hj0] at hj
      cases hj
      rw [show j = a.length by omega]
      exact hn
theorem run_neg {vs : List Ln} {v : Ln} {k : Nat} (hv : vs[k]? = some v) (hr : InR v.num) : runL [] vs [unN 3 (k : Int)] = (vs ++ [negL v], 0) := by
  have ea : opA vs (unN 3 (k : Int)) = v := by
    show valAt vs (some (k : Int)) = v
    unfold valAt
    dsimp only
    rw [Int.toNat_natCast, hv]
    rfl
  have e : evalL (unN 3 (k : Int)) (opA vs (unN 3 (k : Int))) (opB vs (unN 3 (k : Int))) [] = (negL v, 0) := by
    rw [ea]
    unfold evalL
    rw [if_neg (show ¬ (unN 3 (k : Int)).kind = 1 by show ¬ (3 : Int) = 1; decide), if_neg (show ¬ (unN 3 (k : Int)).kind = 2 by show ¬ (3 : Int) = 2; decide)]
    have eo : operL (unN 3 (k : Int)).kind v (opB vs (unN 3 (k : Int))) = (negL v, 0) := if_pos (show (3 : Int) = 3 from rfl)
    rw [eo]
    dsimp only
    rw [if_neg]
    rintro ⟨-, h⟩
    unfold isOutL at h
    obtain ⟨h1, h2⟩ := hr
    simp only [Bool.or_eq_true, decide_eq_true_eq] at h
    have e1 : (negL v).num = -v.num := rfl
    rw [e1] at h
    omega
  rw [runL_next (by rw [e]), e]
  rfl
/-- the value, with two signs of negation more -/
theorem value_neg {a n : List Nd} (h : (valueL a []).2.1 = 0) (hs : ∀ x ∈ a, x.name.length ≤ 140737488351232) (hne : a ≠ []) (hn : n = (a ++ [unN 3 ((a.length : Int) - 1)]) ++ [unN 3 (a.length : Int)]) (hl : n.length ≤ 60) : valueL n [] = valueL a [] := by
  obtain ⟨v1, v2, r1, e1⟩ := value_run h
  have hok := value_ok (l := []) (fun m hm => absurd hm (by simp)) hs h
  have hlen := runL_len a [] r1
  have hpos : 0 < a.length := by cases a with | nil => exact absurd rfl hne | cons x r => simp
  rw [e1] at hok ⊢
  dsimp only at hok
  generalize hvs : (runL [] [] a).1 = vs at hok hlen ⊢
  have hlen' : vs.length = a.length := by rw [hlen]; simp
  obtain ⟨v, hv⟩ : ∃ v, vs[a.length - 1]? = some v := ⟨_, List.getElem?_eq_getElem (by omega)⟩
  have hlast : lastL vs = v := by
    unfold lastL
    rw [List.getLast?_eq_getElem?, hlen', hv]
    rfl
  rw [hlast] at hok ⊢
  have hn2 : n.length = a.length + 1 + 1 := by rw [hn]; simp
  have k1 : ((a.length : Int) - 1) = ((a.length - 1 : Nat) : Int) := by omega
  rw [k1] at hn
  have w1 := valid_snoc v1 (by omega) (chk_neg (show a.length - 1 < a.length by omega))
  have w2 := valid_snoc w1 (by rw [List.length_append, List.length_singleton]; omega) (n := unN 3 (a.length : Int)) (chk_neg (by rw [List.length_append, List.length_singleton]; omega))
  rw [← hn] at w2
  have q1 : runL [] [] (a ++ [unN 3 ((a.length - 1 : Nat) : Int)]) = (vs ++ [negL v], 0) := by
    rw [runL_snoc a [] _ r1, hvs]
    exact run_neg hv hok.1
  have q2 : runL [] [] n = ((vs ++ [negL v]) ++ [negL (negL v)], 0) := by
    rw [hn, runL_snoc _ [] _ (by rw [q1]), q1]
    exact run_neg (by rw [List.getElem?_append_right (by omega), hlen', Nat.sub_self]; rfl) (negL_ok hok).1
  unfold valueL
  rw [w2, v2, q2]
  simp only [ne_eq, not_true_eq_false, if_false]
  unfold lastL
  simp [negL]
theorem gr_names {M d c : Nat} {l : List Tk} {x : Ex} (h : Gr M d c l x) : ∀ (o : List Nd), ∀ n ∈ flat x o, n ∈ o ∨ n.name = [] ∨ ∃ t ∈ l, n.name = t.text := by
  induction h with
  | num h =>
    intro o n hn
    rw [flat, List.mem_append, List.mem_singleton] at hn
    rcases hn with hn | rfl
    · exact .inl hn
    · exact .inr (.inl rfl)
  | name h =>
    intro o n hn
    rw [flat, List.mem_append, List.mem_singleton] at hn
    rcases hn with hn | rfl
    · exact .inl hn
    · exact .inr (.inr ⟨_, List.mem_singleton.2 rfl, rfl⟩)
  | un h1 h2 h3 h4 _ ih =>
    intro o n hn
    rw [flat, List.mem_append, List.mem_singleton] at hn
    rcases hn with hn | rfl
    · rcases ih o n hn with h | h | ⟨t, ht, h⟩
      · exact .inl h
      · exact .inr (.inl h)
      · exact .inr (.inr ⟨t, List.mem_cons_of_mem _ ht, h⟩)
    · exact .inr (.inl rfl)
  | par h1 h2 h3 h4 h5 _ ih =>
    intro o n hn
    rcases ih o n hn with h | h | ⟨t, ht, h⟩
    · exact .inl h
    · exact .inr (.inl h)
    · exact .inr (.inr ⟨t, List.mem_cons_of_mem _ (List.mem_append.2 (.inl ht)), h⟩)
  | bin h1 h2 _ _ ih1 ih2 =>
    intro o n hn
    rw [flat, List.mem_append, List.mem_singleton] at hn
    rcases hn with hn | rfl
    · rcases ih2 _ n hn with h | h | ⟨t, ht, h⟩
      · rcases ih1 o n h with h | h | ⟨t, ht, h⟩
        · exact .inl h
        · exact .inr (.inl h)
        · exact .inr (.inr ⟨t, List.mem_append.2 (.inl ht), h⟩)
      · exact .inr (.inl h)
      · exact .inr (.inr ⟨t, List.mem_append.2 (.inr (List.mem_cons_of_mem _ ht)), h⟩)
    · exact .inr (.inl rfl)
theorem parsed_short {ts : List Tk} {ns : List Nd} (h : parsed ts = some ns) (ht : ∀ t ∈ ts, t.text.length ≤ 140737488351232) : ∀ n ∈ ns, n.name.length ≤ 140737488351232 := by
  obtain ⟨x, g, rfl⟩ := parsed_sound h
  intro n hn
  rcases gr_names g [] n hn with h | h | ⟨t, h1, h2⟩
  · simp at h
  · rw [h]; exact Nat.zero_le _
  · rw [h2]; exact ht t h1
/-- what Parse answers, with the nodes read -/
def ParseG (ts : List Tk) (w : World) (e : Ending) (w' : World) : Prop :=
  (∃ v c j ns, e = .returned (.tuple #[v, .agg #[.int .i64 c, .int .i64 j]]) ∧ NdsAt w'.heap.size w' v ns ∧ (c ≠ 0 → v = .slice none 0 0) ∧ (c = 0 → parsed ts = some ns ∧ ns.length ≤ 60)) ∧ Below w.heap.size w w'
theorem parse_gen (B : Nat) (v : Value) (ts : List Tk) (w : World) (h : TksAt B w v ts) (hB : B ≤ w.heap.size) (hK : KindsAt w) : Calls Tryd.prog 10 #[v] w (ParseG ts w) := by
  obtain ⟨-, -, -, -, -, -, hs, -⟩ := h.opens
  refine (parse_any B v ts w h hB hK).mono ?_
  rintro e w' ⟨h1, hb⟩
  refine ⟨?_, hb⟩
  rcases h1 with ⟨k, t, -, -, -, rfl⟩ | ⟨-, -, c, j, hc, -, -, rfl⟩ | ⟨-, u, ns, hp, hl, -, rfl, hr⟩
  · exact ⟨_, _, _, [], rfl, ⟨none, 0, rfl, by simp, by simp, fun h => absurd h (by simp)⟩, fun _ => rfl, fun h => absurd h (by decide)⟩
  · exact ⟨_, _, _, [], rfl, ⟨none, 0, rfl, by simp, by simp, fun h => absurd h (by simp)⟩, fun _ => rfl, fun h => absurd h (by omega)⟩
  · exact ⟨_, _, _, ns, rfl, nds_of_row hr (by omega) (parsed_short hp hs.out), fun h => absurd rfl h, fun _ => ⟨hp, hl⟩⟩
end Go.Proofs.YtchpkdpefpiegaaDoor.Tok
