/- Tokens appended, func4, and R.SameNodes on the same nodes. -/
import Derived.Deep.Upon
import Derived.Test.YtchpkdpefpiegaaDoorExR
namespace Go.Proofs.YtchpkdpefpiegaaDoor.Tok
open Go Go.RowKit

/-! ## append of tokens -/
theorem tkv_append (xs ys : List Tk) : tkv (xs ++ ys) = tkv xs ++ tkv ys := by simp [tkv]
theorem tkv_one (ts : List Tk) : ∀ u ∈ tkv ts, u.oneCell' = true := by
  intro u hu
  simp only [tkv, List.mem_flatMap] at hu
  obtain ⟨t, -, hu⟩ := hu
  exact tkC_one t u hu
theorem tkv_cells {B : Nat} {w : World} {ts : List Tk} {b off : Nat} {n c : Nat} (_ : TksAt B w (.slice (some ⟨b, off, none⟩) n c) ts) (hc : ∀ j t, ts[j]? = some t → TkCells w b (off + j * 4) t) :
    ∀ j u, (tkv ts)[j]? = some u → w.cell? ((⟨b, off, none⟩ : Addr).add j) = some u := by
  intro j u hu
  have hj : j < ts.length * 4 := by have := (List.getElem?_eq_some_iff.1 hu).1; rwa [tkv_length] at this
  have hq : j / 4 < ts.length := by omega
  have ht : ts[j / 4]? = some ts[j / 4] := List.getElem?_eq_getElem hq
  obtain ⟨c0, c1, c2, c3⟩ := hc _ _ ht
  have ha := tkv_at ht (j % 4) (Nat.mod_lt _ (by decide))
  rw [show j / 4 * 4 + j % 4 = j by omega, hu] at ha
  have ea : (⟨b, off, none⟩ : Addr).add j = ⟨b, off + j, none⟩ := by
    unfold Addr.add
    split
    · rename_i h0; rw [h0]; rfl
    · rfl
  rw [ea, ha]
  have hm : j % 4 = 0 ∨ j % 4 = 1 ∨ j % 4 = 2 ∨ j % 4 = 3 := by omega
  rcases hm with h | h | h | h
  · rw [show off + j = off + j / 4 * 4 by omega, c0, h]; rfl
  · rw [show off + j = off + j / 4 * 4 + 1 by omega, c1, h]; rfl
  · rw [show off + j = off + j / 4 * 4 + 2 by omega, c2, h]; rfl
  · rw [show off + j = off + j / 4 * 4 + 3 by omega, c3, h]; rfl
set_option maxRecDepth 100000 in
theorem wp_append_toks {ops : Array Oper} {rest : List Oper} {o : Oper} {a : Act} {Q : Exit → Act → World → Prop} {w : World} (hgd : o.guard = none) (s x : Operand) (ho : o.op = .call { callee := .builtin .append, args := #[s, x], argTypes := #[22, 22] })
    (base : Nat) (v : Value) (xs : List Tk) (hs : a.eval s = v) (hown : w.ownsRow base 31 4 v xs.length (tkv xs)) (B : Nat) (xv : Value) (ts : List Tk) (hx : a.eval x = xv) (hl : TksAt B w xv ts) (hn : (xs.length + ts.length) * 40 ≤ 140737488355328) (hbase : base ≤ w.heap.size)
    (h : ∀ v' w', w'.ownsRow base 31 4 v' (xs ++ ts).length (tkv (xs ++ ts)) → w.grownBy w' v.ownBlock → wpList Tryd.prog ops Q rest (a.put o.dst v') w') : wpList Tryd.prog ops Q (o :: rest) a w := by
  obtain ⟨i0, hi, hz0, hz1, hz2⟩ := info_parts infoTok
  obtain ⟨A, m, c, rfl, Hl, ⟨hm, hc⟩, -, hcc⟩ := hl.opens
  have hlm : ts.length = m := Hl.out
  cases A with
  | none =>
    have hl0 : ts = [] := by
      cases ts with
      | nil => rfl
      | cons y ys =>
        obtain ⟨b, off, e, _⟩ := hcc.out (by rw [← hlm]; simp)
        simp at e
    subst hl0
    obtain rfl : m = 0 := by simpa using hlm.symm
    obtain ⟨base', sLen, sCap, rfl, hle⟩ : ∃ base' sLen sCap, v = .slice base' sLen sCap ∧ sLen ≤ sCap := by
      rcases hown.2 with ⟨h1, h2⟩ | ⟨g, cap, cur, h1, _, _, h4, _⟩
      · exact ⟨_, _, _, h1, by omega⟩
      · exact ⟨_, _, _, h1, h4⟩
    refine wpList_plain hgd fun K hK => ?_
    have hr := run_append_nothing (P := Tryd.prog) w 22 22 o.type 31 i0 Tryd.underlying22 hi base' sLen sCap hle (.slice none 0 c) (Src.ofNil w Tryd.underlying22 c)
    unfold Oper.wp execOp
    simp only [ho, resolve, invoke, builtin, Sem.run_bind, Sem.run_pure, Result.andThen_ok, List.map_toArray, List.map_cons, List.map_nil, hs, hx, hr]
    exact hK _ _ (h _ _ (by simpa using hown) ((⟨rfl, rfl, rfl, Nat.le_refl _, fun _ _ _ => rfl⟩ : w.grownBy w _)))
  | some ad =>
    refine wpList_append_own _ hgd s x 22 ho base 31 i0 _ 4 40 Tryd.underlying22 hi hz0 hz1 hz2 (by rfl) (by decide) v xs.length (tkv xs) hs hown ad m c (tkv ts) hx (by rw [tkv_length]; omega) ?_ (tkv_one ts) (by unfold maxLen; omega) (by rw [hlm] at hn; exact hn) hbase ?_
    · intro j u hu
      have hj : j < ts.length * 4 := by have := (List.getElem?_eq_some_iff.1 hu).1; rwa [tkv_length] at this
      obtain ⟨b, off, e, _, hcs⟩ := hcc.out (by omega)
      injection e with e
      subst e
      exact tkv_cells hl hcs j u hu
    · intro v' w' h1 h2 _
      exact h v' w' (by rw [List.length_append, tkv_append, hlm]; exact h1) h2
theorem toks_of_rowB {w : World} {B n : Nat} {v : Value} {ts : List Tk} (h : w.ownsRow B 31 4 v n (tkv ts)) (hn : ts.length * 40 ≤ 140737488355328) (hr : ∀ t ∈ ts, t.text.length ≤ 140737488351232) : TksAt w.heap.size w v ts := by
  have hl : ts.length = n := by have := h.1; rw [tkv_length] at this; omega
  rcases h.2 with ⟨rfl, h0⟩ | ⟨g, cap, cur, rfl, hB, hcap, h3, h4⟩
  · subst h0
    have hl : ts = [] := List.eq_nil_of_length_eq_zero hl
    subst hl
    exact ⟨none, 0, rfl, by simp, by simp, fun h => absurd h (by simp)⟩
  · refine ⟨_, cap, by rw [hl], ⟨hn, ?_⟩, hr, fun _ => ⟨g, 0, rfl, (h.lt g rfl).2, fun j t hj => ?_⟩⟩
    · omega
    · have hj2 : j < ts.length := (List.getElem?_eq_some_iff.1 hj).1
      have hat := tkv_at hj
      have g0 := hat 0 (by decide)
      have g1 := hat 1 (by decide)
      have g2 := hat 2 (by decide)
      have g3 := hat 3 (by decide)
      rw [Nat.zero_add]
      exact ⟨(h.cellAt (j * 4) (by omega)).trans g0, (h.cellAt (j * 4 + 1) (by omega)).trans g1, (h.cellAt (j * 4 + 2) (by omega)).trans g2, (h.cellAt (j * 4 + 3) (by omega)).trans g3⟩
set_option maxHeartbeats 1000000 in
set_option maxRecDepth 100000 in
theorem func4_any (s : List UInt8) (w : World) : Calls Tryd.prog 25 #[strV s] w fun e w' => e = .returned (Tk.v ⟨3, s, 0, 0⟩) ∧ Below w.heap.size w w' := by
  go_enter Tryd.func25, Tryd.ntmps25
  go_wp2_with fail
  have r0 : (w.alloc (.cells #[.int .i64 3, strV s, .int .i64 0, .int .i64 0] 31)).cell? ⟨w.heap.size, 0, none⟩ = some (.int .i64 3) := cells_new 0 _ rfl
  have r1 : (w.alloc (.cells #[.int .i64 3, strV s, .int .i64 0, .int .i64 0] 31)).cell? ⟨w.heap.size, 1, none⟩ = some (strV s) := cells_new 1 _ rfl
  have r2 : (w.alloc (.cells #[.int .i64 3, strV s, .int .i64 0, .int .i64 0] 31)).cell? ⟨w.heap.size, 2, none⟩ = some (.int .i64 0) := cells_new 2 _ rfl
  have r3 : (w.alloc (.cells #[.int .i64 3, strV s, .int .i64 0, .int .i64 0] 31)).cell? ⟨w.heap.size, 3, none⟩ = some (.int .i64 0) := cells_new 3 _ rfl
  refine bodyPost_ret (v := .agg #[.int .i64 3, strV s, .int .i64 0, .int .i64 0]) (by simp [results, Tryd.results25, go_sem, r0, r1, r2, r3]) rfl ⟨rfl, (Below.refl _ _).alloc (Nat.le_refl _) _⟩
set_option maxRecDepth 100000 in
set_option maxHeartbeats 4000000 in
theorem nodes_any (B : Nat) (v1 v2 : Value) (xs : List Nd) (w : World) (h1 : NdsAt B w v1 xs) (h2 : NdsAt B w v2 xs) :
    Calls Tryd.prog 15 #[v1, v2] w fun e w' => e = .returned (.bool true) ∧ ∃ q, w' = w.drewN q := by
  obtain ⟨A1, n, c1, rfl, Hn1, ⟨hl1, -⟩, -, HC1⟩ := h1.opens
  obtain ⟨A2, n2, c2, rfl, Hn2, ⟨hl2, -⟩, -, HC2⟩ := h2.opens
  obtain rfl : n = n2 := by rw [← Hn1.out, ← Hn2.out]
  clear h1 h2
  go_enter Tryd.func15, Tryd.ntmps15
  go_wp2
  go_loopw [5] (fun i wr => ∃ k q : Nat, k ≤ n ∧ i = .int .i64 k ∧ wr = w.drewN q) (fun i _ => n - (intOf i).toNat)
  case atStart => exact ⟨0, 0, Nat.zero_le _, rfl, rfl⟩
  case round =>
    obtain ⟨k, q, hk, rfl, rfl⟩ := hrel
    by_cases hlt : k < n
    · obtain ⟨b1, o1, rfl, -, g1⟩ := HC1.out (by omega)
      obtain ⟨b2, o2, rfl, -, g2⟩ := HC2.out (by omega)
      obtain ⟨x, hx⟩ := getElem?_of_lt Hn1.out hlt
      obtain ⟨p0, p1, p2, p3, p4⟩ := g1 k x hx
      obtain ⟨q0, q1, q2, q3, q4⟩ := g2 k x hx
      clear HC1 HC2 g1 g2 hx
      go_wp2
      go_quiet (fail)
      go_wp2
      exact ⟨⟨k + 1, _, by omega, by go_num, rfl⟩, by simp [intOf]; omega⟩
    · obtain rfl : k = n := by omega
      go_wp2
      go_ret
      exact ⟨rfl, _, rfl⟩
end Go.Proofs.YtchpkdpefpiegaaDoor.Tok
