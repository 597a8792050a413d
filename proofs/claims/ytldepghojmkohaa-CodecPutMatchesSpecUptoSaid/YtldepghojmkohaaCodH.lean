/- What a slice of bytes reads as; its bytes appended to a row of one's own; compared; copied. Conditions: the readings. -/
import Derived.Laws.IdiomStrings
import Derived.Laws.BytesArg
import Derived.Deep.Upon
import Derived.Test.YtldepghojmkohaaCodG
namespace Go.Proofs.Ytldepghojmkohaa.Cod
open Go Go.RowKit Go.Lib

/-- the slice value v reads as the bytes l; its cells lie below block B -/
def BytesAt (B : Nat) (w : World) (v : Value) (l : List UInt8) : Prop :=
  ∃ A c, v = .slice A l.length c ∧ (l.length ≤ 140737488355328 ∧ l.length ≤ c) ∧
   (0 < l.length → ∃ b off, A = some ⟨b, off, none⟩ ∧ b < B ∧ ∀ j, j < l.length → w.cell? ⟨b, off + j, none⟩ = some (.int .u8 ((l[j]?.getD 0).toNat : Int)))
theorem BytesAt.opens {B : Nat} {w : World} {v : Value} {l : List UInt8} (h : BytesAt B w v l) : ∃ A n c, v = .slice A n c ∧ Hid (l.length = n) ∧ (n ≤ 140737488355328 ∧ n ≤ c) ∧
    Hid (0 < n → ∃ b off, A = some ⟨b, off, none⟩ ∧ b < B ∧ ∀ j, j < n → w.cell? ⟨b, off + j, none⟩ = some (.int .u8 ((l[j]?.getD 0).toNat : Int))) := by
  obtain ⟨A, c, h1, h2, h3⟩ := h
  exact ⟨A, _, c, h1, Lib.hid rfl, h2, Lib.hid h3⟩
theorem BytesAt.below {B : Nat} {w w' : World} {v : Value} {l : List UInt8} (h : BytesAt B w v l) (hb : Below B w w') : BytesAt B w' v l := by
  obtain ⟨A, c, h1, h2, h3⟩ := h
  refine ⟨A, c, h1, h2, fun hn => ?_⟩
  obtain ⟨b, off, ha, hlt, hc⟩ := h3 hn
  exact ⟨b, off, ha, hlt, fun j hj => (hb.cell (p := ⟨b, off + j, none⟩) hlt).trans (hc j hj)⟩
theorem BytesAt.more {B B' : Nat} {w : World} {v : Value} {l : List UInt8} (h : BytesAt B w v l) (hB : B ≤ B') : BytesAt B' w v l := by
  obtain ⟨A, c, h1, h2, h3⟩ := h
  refine ⟨A, c, h1, h2, fun hn => ?_⟩
  obtain ⟨b, off, ha, hlt, hc⟩ := h3 hn
  exact ⟨b, off, ha, by omega, hc⟩
theorem bv_at (l : List UInt8) (j : Nat) (h : j < l.length) : (bv l)[j]? = some (.int .u8 ((l[j]?.getD 0).toNat : Int)) := by
  simp [bv, h]
theorem bv_cell {w : World} {B R n c : Nat} {e : TypeId} {l : List UInt8} (h : w.ownsRow B e 1 (.slice (some ⟨R, 0, none⟩) n c) n (bv l)) (j : Nat) (hj : j < l.length) : w.cell? ⟨R, j, none⟩ = some (.int .u8 ((l[j]?.getD 0).toNat : Int)) := by
  have hl := h.1
  rw [bv_length] at hl
  rw [h.cellAt j (by omega), bv_at l j hj]
/-- a row of one's own reads as its bytes -/
theorem bytes_of_row {w : World} {B n : Nat} {v : Value} {l : List UInt8} (h : w.ownsRow B 5 1 v n (bv l)) (hn : l.length ≤ 140737488355328) : BytesAt w.heap.size w v l := by
  have hl : l.length = n := by have := h.1; rw [bv_length] at this; omega
  rcases h.2 with ⟨rfl, h0⟩ | ⟨g, cap, cur, rfl, _, _, h3, _⟩
  · subst h0
    have hl : l = [] := List.eq_nil_of_length_eq_zero hl
    subst hl
    exact ⟨none, 0, rfl, ⟨by simp, Nat.le_refl _⟩, fun h => absurd h (by simp)⟩
  · refine ⟨_, cap, by rw [hl], ⟨hn, by omega⟩, fun _ => ⟨g, 0, rfl, (h.lt g rfl).2, fun j hj => ?_⟩⟩
    rw [Nat.zero_add]
    exact bv_cell h j hj
theorem bv_cells {B : Nat} {w : World} {b o n c : Nat} {l : List UInt8} (h : BytesAt B w (.slice (some ⟨b, o, none⟩) n c) l) : ∀ j u, (bv l)[j]? = some u → w.cell? ((⟨b, o, none⟩ : Addr).add j) = some u := by
  intro j u hu
  have hj : j < l.length := by have := (List.getElem?_eq_some_iff.1 hu).1; rwa [bv_length] at this
  obtain ⟨A, c', e, _, h3⟩ := h
  injection e with e1
  subst e1
  obtain ⟨b', o', e, _, hc⟩ := h3 (by omega)
  injection e with e
  injection e with e4 e5
  subst e4
  subst e5
  have ea : (⟨b, o, none⟩ : Addr).add j = ⟨b, o + j, none⟩ := by
    unfold Addr.add
    split
    · rename_i h0; rw [h0]; rfl
    · rfl
  rw [ea, hc j hj, ← hu, bv_at l j hj]
set_option maxRecDepth 100000 in
theorem wp_append_bytes {ops : Array Oper} {rest : List Oper} {o : Oper} {a : Act} {Q : Exit → Act → World → Prop} {w : World} (hgd : o.guard = none) (s x : Operand) (ho : o.op = .call { callee := .builtin .append, args := #[s, x], argTypes := #[25, 25] })
    (base : Nat) (v : Value) (n : Nat) (xs : List UInt8) (hs : a.eval s = v) (hown : w.ownsRow base 5 1 v n (bv xs)) (B : Nat) (xv : Value) (l : List UInt8) (hx : a.eval x = xv) (hl : BytesAt B w xv l) (hn : n + l.length ≤ 140737488355328) (hbase : base ≤ w.heap.size)
    (h : ∀ v' w', w'.ownsRow base 5 1 v' (n + l.length) (bv xs ++ bv l) → w.grownBy w' v.ownBlock → wpList Try.prog ops Q rest (a.put o.dst v') w') : wpList Try.prog ops Q (o :: rest) a w := by
  obtain ⟨i0, hi, hz0, hz1, hz2⟩ := info_parts infoByte
  obtain ⟨A, m, c, rfl, Hl, ⟨hm, hc⟩, hcc⟩ := hl.opens
  have hlm : l.length = m := Hl.out
  cases A with
  | none =>
    have hl0 : l = [] := by
      cases l with
      | nil => rfl
      | cons y ys =>
        obtain ⟨b, off, e, _⟩ := hcc.out (by rw [← hlm]; simp)
        simp at e
    subst hl0
    obtain rfl : m = 0 := by simpa using hlm.symm
    obtain ⟨base', sLen, sCap, rfl, hle⟩ : ∃ base' sLen sCap, v = .slice base' sLen sCap ∧ sLen ≤ sCap := by
      rcases hown.2 with ⟨h1, h2⟩ | ⟨g, cap, cur, h1, _, _, h4, _⟩
      · exact ⟨_, _, _, h1, by omega⟩
      · exact ⟨_, _, _, h1, h4⟩
    refine wpList_plain hgd fun K hK => ?_
    have hr := run_append_nothing (P := Try.prog) w 25 25 o.type 5 i0 Try.underlying25 hi base' sLen sCap hle (.slice none 0 c) (Src.ofNil w Try.underlying25 c)
    unfold Oper.wp execOp
    simp only [ho, resolve, invoke, builtin, Sem.run_bind, Sem.run_pure, Result.andThen_ok, List.map_toArray, List.map_cons, List.map_nil, hs, hx, hr]
    exact hK _ _ (h _ _ (by simpa [bv] using hown) ((⟨rfl, rfl, rfl, Nat.le_refl _, fun _ _ _ => rfl⟩ : w.grownBy w _)))
  | some ad =>
    refine wpList_append_own _ hgd s x 25 ho base 5 i0 _ 1 1 Try.underlying25 hi hz0 hz1 hz2 (by rfl) (by decide) v n (bv xs) hs hown ad m c (bv l) hx (by rw [bv_length]; omega) ?_ (bv_one l) (by unfold maxLen; omega) (by omega) hbase ?_
    · intro j u hu
      have hj : j < l.length := by have := (List.getElem?_eq_some_iff.1 hu).1; rwa [bv_length] at this
      obtain ⟨b, off, e, _⟩ := hcc.out (by omega)
      injection e with e
      subst e
      exact bv_cells hl j u hu
    · intro v' w' h1 h2 _
      exact h v' w' (by rw [hlm]; exact h1) h2

/-- 'string(b)' -/
theorem conv_bytes {B : Nat} {w : World} {v : Value} {l : List UInt8} (h : BytesAt B w v l) : (convert 25 9 v).run Try.prog w = .ok (.string ⟨l.toArray⟩) w := by
  obtain ⟨A, c, rfl, _, hc⟩ := h
  cases A with
  | none =>
    have hl : l = [] := by
      cases l with
      | nil => rfl
      | cons x l =>
        obtain ⟨_, _, e, _⟩ := hc (by simp)
        cases e
    subst hl
    exact run_convert_bytes_nil w 25 5 Try.underlying25 Try.underlying5 0 c 9 Try.underlying9
  | some a =>
    refine run_convert_bytes_back w 25 9 5 a c l Try.underlying25 Try.underlying5 Try.underlying9 (fun j hj => ?_)
    obtain ⟨b, off, e, _, hcell⟩ := hc (by omega)
    injection e with e
    subst e
    have e : (⟨b, off, none⟩ : Addr).add j = ⟨b, off + j, none⟩ := by
      unfold Addr.add
      split
      · rename_i h0; rw [h0]; rfl
      · rfl
    rw [e, hcell j hj, List.getElem?_eq_getElem hj]
    rfl
theorem bytes_eq (l1 l2 : List UInt8) : ((⟨l1.toArray⟩ : ByteArray).toList == (⟨l2.toArray⟩ : ByteArray).toList) = decide (l1 = l2) := by
  rw [ByteArray.toList_eq, ByteArray.toList_eq]
  exact Bool.eq_iff_iff.2 (by simp)
theorem ret_bool {a b : Bool} (h : a = b) : Ending.returned (.bool a) = .returned (.bool b) := by rw [h]
set_option maxRecDepth 100000 in
set_option maxHeartbeats 400000 in
theorem bytes_any (B : Nat) (v1 v2 : Value) (l1 l2 : List UInt8) (w : World) (h1 : BytesAt B w v1 l1) (h2 : BytesAt B w v2 l2) :
    Calls Try.prog 12 #[v1, v2] w fun e w' => e = .returned (.bool (decide (l1 = l2))) ∧ w = w' := by
  have k1 := conv_bytes h1
  have k2 := conv_bytes h2
  have hb := bytes_eq l1 l2
  obtain ⟨A1, n1, c1, rfl, _⟩ := h1.opens
  obtain ⟨A2, n2, c2, rfl, _⟩ := h2.opens
  generalize (⟨l1.toArray⟩ : ByteArray) = s1 at *
  generalize (⟨l2.toArray⟩ : ByteArray) = s2 at *
  have Hb := Lib.hid hb
  clear h1 h2 hb
  go_enter Try.func12, Try.ntmps12
  go_wp2
  go_ret
  exact ⟨ret_bool Hb.out, rfl⟩
set_option maxRecDepth 100000 in
set_option maxHeartbeats 400000 in
theorem copy_any (B : Nat) (v : Value) (l : List UInt8) (w : World) (h : BytesAt B w v l) :
    Calls Try.prog 20 #[v] w fun e w' => ∃ v', e = .returned v' ∧ w'.ownsRow w.heap.size 5 1 v' l.length (bv l) ∧ Below w.heap.size w w' := by
  obtain ⟨A, n, c, rfl, -⟩ := h.opens
  have hown : w.ownsRow w.heap.size 5 1 (.slice none 0 0) 0 (bv []) := ⟨rfl, .inl ⟨rfl, rfl⟩⟩
  have H20 := Lib.hid (show 0 + l.length ≤ 140737488355328 by obtain ⟨_, _, _, h2, _⟩ := h; omega)
  have H := Lib.hid h
  have Hown := Lib.hid hown
  clear h hown
  go_enter Try.func20, Try.ntmps20
  go_wp2_with (at_builtin; refine wp_append_bytes rfl (.tmp 4) (.tmp 5) rfl w.heap.size (.slice none 0 0) 0 [] rfl Hown.out _ _ l rfl H.out H20.out (Nat.le_refl _) ?_; intro v' W2 hrow hg)
  have hgb := ((Below.refl w.heap.size w).grown hg (Nat.le_refl _) (fun r e => by simp [Value.ownBlock] at e))
  rw [Nat.zero_add] at hrow
  refine bodyPost_ret (v := v') (by simp [results, Try.results20, go_sem]) rfl ⟨v', rfl, hrow, hgb⟩
end Go.Proofs.Ytldepghojmkohaa.Cod
