/- Appending bytes that read as a list, nil or not, to a row of one's own; the reference's copy of a list of bytes. -/
import Derived.Deep.Upon
import Derived.Test.YtcngpciblbdgbaaGreatDoorEncT
namespace Go.Proofs.YtcngpciblbdgbaaGreatDoor
open Go Go.RowKit Go.Shelf
theorem bv_app (a b : List UInt8) : bv (a ++ b) = bv a ++ bv b := by simp [bv]
set_option maxRecDepth 100000 in
theorem wp_append_bytes {ops : Array Oper} {rest : List Oper} {o : Oper} {a : Act} {Q : Exit → Act → World → Prop} {w : World} (hgd : o.guard = none) (s x : Operand) (ho : o.op = .call { callee := .builtin .append, args := #[s, x], argTypes := #[23, 23] })
    (base : Nat) (v : Value) (n : Nat) (xs : List UInt8) (hs : a.eval s = v) (hown : w.ownsRow base 5 1 v n (bv xs)) (B : Nat) (xv : Value) (l : List UInt8) (hx : a.eval x = xv) (hl : BytesAt B w xv l) (hn : n + l.length ≤ 2000) (hbase : base ≤ w.heap.size)
    (h : ∀ v' w', w'.ownsRow base 5 1 v' (n + l.length) (bv (xs ++ l)) → w.grownBy w' v.ownBlock → wpList Tryz.prog ops Q rest (a.put o.dst v') w') : wpList Tryz.prog ops Q (o :: rest) a w := by
  obtain ⟨i0, hi, hz0, hz1, hz2⟩ := info_parts infoByte
  obtain ⟨A, m, c, rfl, Hl, ⟨hm, hc⟩, hcc⟩ := hl.opens
  have hlm : l.length = m := Hl.out
  cases A with
  | none =>
    have hl0 : l = [] := by
      cases l with
      | nil => rfl
      | cons y ys =>
        obtain ⟨b, off, e, _⟩ := hcc (by rw [← hlm]; simp)
        simp at e
    subst hl0
    obtain rfl : m = 0 := by simpa using hlm.symm
    obtain ⟨base', sLen, sCap, rfl, hle⟩ : ∃ base' sLen sCap, v = .slice base' sLen sCap ∧ sLen ≤ sCap := by
      rcases hown.2 with ⟨h1, h2⟩ | ⟨g, cap, cur, h1, _, _, h4, _⟩
      · exact ⟨_, _, _, h1, by omega⟩
      · exact ⟨_, _, _, h1, h4⟩
    refine wpList_plain hgd fun K hK => ?_
    have hr := run_append_nothing (P := Tryz.prog) w 23 23 o.type 5 i0 Tryz.underlying23 hi base' sLen sCap hle (.slice none 0 c) (Src.ofNil w Tryz.underlying23 c)
    unfold Oper.wp execOp
    simp only [ho, resolve, invoke, builtin, Sem.run_bind, Sem.run_pure, Result.andThen_ok, List.map_toArray, List.map_cons, List.map_nil, hs, hx, hr]
    exact hK _ _ (h _ _ (by simpa using hown) ((grown_none (Below.refl _ _)).but _))
  | some ad =>
    refine wpList_append_own _ hgd s x 23 ho base 5 i0 _ 1 1 Tryz.underlying23 hi hz0 hz1 hz2 (by rfl) (by decide) v n (bv xs) hs hown ad m c (bv l) hx (by rw [bv_length]; omega) ?_ (bv_one l) (by unfold maxLen; omega) (by omega) hbase ?_
    · intro j u hu
      have hj : j < l.length := by have := (List.getElem?_eq_some_iff.1 hu).1; rwa [bv_length] at this
      obtain ⟨b, off, e, _⟩ := hcc (by omega)
      injection e with e
      subst e
      exact bv_cells hl j u hu
    · intro v' w' h1 h2 _
      exact h v' w' (by rw [hlm, bv_app]; exact h1) h2
end Go.Proofs.YtcngpciblbdgbaaGreatDoor
