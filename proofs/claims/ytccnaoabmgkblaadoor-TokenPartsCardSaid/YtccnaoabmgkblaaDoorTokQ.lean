/- Contract of Join: the line of tokens. Conditions: the reading of the tokens; the library's listed variables. -/
import Derived.Test.YtccnaoabmgkblaaDoorTokN
import Derived.Test.YtccnaoabmgkblaaDoorTokO
namespace Go.Proofs.YtccnaoabmgkblaaDoor.Tok
open Go Go.RowKit

/-- the texts, each behind a space -/
def preL (ts : List Tk) : List UInt8 := ts.flatMap fun t => 32 :: textL t
def joinL (ts : List Tk) : List UInt8 := (preL ts).drop 1
theorem preL_snoc (ts : List Tk) (t : Tk) : preL (ts ++ [t]) = preL ts ++ 32 :: textL t := by simp [preL]
theorem preL_ne {ts : List Tk} (h : ts ≠ []) : ∃ r, preL ts = 32 :: r := by
  cases ts with
  | nil => exact absurd rfl h
  | cons t r => exact ⟨textL t ++ preL r, by simp [preL]⟩
theorem joinL_first (t : Tk) : joinL [t] = textL t := by simp [joinL, preL]
theorem joinL_snoc {ts : List Tk} (h : ts ≠ []) (t : Tk) : joinL (ts ++ [t]) = (joinL ts ++ [32]) ++ textL t := by
  obtain ⟨r, hr⟩ := preL_ne h
  unfold joinL
  rw [preL_snoc, hr]
  simp
theorem take_snoc {α : Type} {l : List α} {k : Nat} {x : α} (h : l[k]? = some x) : l.take (k + 1) = l.take k ++ [x] := by
  obtain ⟨hk, he⟩ := List.getElem?_eq_some_iff.1 h
  rw [List.take_succ_eq_append_getElem hk, he]
theorem ok_facts {t : Tk} (h : okT t = true) : I64 t.val ∧ (textL t).length ≤ 30 := by
  obtain ⟨k, s, v, p⟩ := t
  simp only [okT, Bool.or_eq_true, Bool.and_eq_true, beq_iff_eq, decide_eq_true_eq] at h
  rcases h with (⟨⟨h1, h2⟩, h3⟩ | ⟨⟨⟨h1, h2⟩, h3⟩, h4⟩) | ⟨⟨h1, h2⟩, h3⟩
  · subst h1 h3
    refine ⟨(⟨by decide, by decide⟩ : I64 0), ?_⟩
    unfold textL
    rw [if_neg (by show ¬ (_ : Int) = 2; simp)]
    have : s.length ≤ 16 := by
      simp only [isName, Bool.and_eq_true, decide_eq_true_eq] at h2
      exact h2.1.1.2
    show s.length ≤ 30
    omega
  · subst h1
    have h5 : I64 v := ⟨by omega, by omega⟩
    refine ⟨h5, ?_⟩
    unfold textL
    rw [if_pos rfl]
    have := Lib.itoa_length_le v h5.1 h5.2
    show (Lib.itoa v).length ≤ 30
    omega
  · subst h1 h3
    refine ⟨(⟨by decide, by decide⟩ : I64 0), ?_⟩
    unfold textL
    rw [if_neg (by show ¬ (_ : Int) = 2; simp)]
    have : s.length ≤ 2 := by
      simp only [isSign, Bool.and_eq_true, decide_eq_true_eq] at h2
      have := (signSz_le s).1
      omega
    show s.length ≤ 30
    omega
theorem preL_len : ∀ (ts : List Tk), (∀ t ∈ ts, (textL t).length ≤ 30) → (preL ts).length ≤ 31 * ts.length
  | [], _ => by simp [preL]
  | t :: r, h => by
    have h1 := preL_len r (fun x hx => h x (List.mem_cons_of_mem _ hx))
    have h2 := h t List.mem_cons_self
    rw [show preL (t :: r) = 32 :: textL t ++ preL r by simp [preL], List.length_append, List.length_cons, List.length_cons]
    omega
theorem joinL_len (ts : List Tk) (h : ∀ t ∈ ts, (textL t).length ≤ 30) : (joinL ts).length ≤ 31 * ts.length := by
  have := preL_len ts h
  unfold joinL
  rw [List.length_drop]
  omega
/-- what Join answers -/
def JoinPost (ts : List Tk) (w : World) (e : Ending) (w' : World) : Prop :=
  ((4000 < ts.length ∧ e = .returned (.tuple #[strV [], .agg #[.int .i64 2, .int .i64 (-1)]])) ∨
   (ts.length ≤ 4000 ∧ (∃ (k : Nat) (t : Tk), ts[k]? = some t ∧ malT t = true ∧ noneYet malT ts k ∧ e = .returned (.tuple #[strV [], .agg #[.int .i64 5, .int .i64 (k : Int)]]))) ∨
   (ts.length ≤ 4000 ∧ noneYet malT ts ts.length ∧ 8000 < (joinL ts).length ∧ e = .returned (.tuple #[strV [], .agg #[.int .i64 10, .int .i64 (-2)]])) ∨
   (ts.length ≤ 4000 ∧ noneYet malT ts ts.length ∧ (joinL ts).length ≤ 8000 ∧ e = .returned (.tuple #[strV (joinL ts), .agg #[.int .i64 0, .int .i64 0]]))) ∧ Below w.heap.size w w'
theorem flt_end {w W : World} (hb : Below (fltW w).heap.size (fltW w) W) (u0 u1 : Value) : Below w.heap.size w ((W.setCell ⟨w.heap.size, 0, none⟩ u0).setCell ⟨w.heap.size, 1, none⟩ u1) :=
  (((fltW_below w).trans (hb.mono (fltW_below w).size)).setCell (p := ⟨w.heap.size, 0, none⟩) (Nat.le_refl _) _).setCell (p := ⟨w.heap.size, 1, none⟩) (Nat.le_refl _) _
set_option maxHeartbeats 1000000 in
theorem join_long (B : Nat) (v : Value) (ts : List Tk) (w : World) (h : TksAt B w v ts) (hl : 4000 < ts.length) : Calls Tryd.prog 13 #[v] w (JoinPost ts w) := by
  obtain ⟨A, n, c, rfl, Hn, ⟨hn, -⟩, -, -⟩ := h.opens
  have HL := Lib.hid hl
  have hl2 : 4000 < n := by rw [← Hn.out]; exact hl
  clear h hl
  go_enter Tryd.func13, Tryd.ntmps13
  go_wp2_with fail
  refine bodyPost_ret (v := .tuple #[strV [], .agg #[.int .i64 2, .int .i64 (-1)]]) (by simp [results, Tryd.results13, go_sem]) rfl ?_
  exact ⟨.inl ⟨HL.out, rfl⟩, ((Below.refl _ _).alloc (Nat.le_refl _) _)⟩
theorem Bld.alloc {X : Nat} {q : List UInt8} {w : World} (h : Bld X q w) (o : Obj) : Bld X q (w.alloc o) := by
  have hk : ∀ p, Lib.BuilderAt 52 5 X X p (Lib.byteCells q) w → Lib.BuilderAt 52 5 X X p (Lib.byteCells q) (w.alloc o) := by
    rintro p ⟨h1, v, hb, hown, hne⟩
    exact ⟨h1, v, heap_alloc_l o hb, hown.alloc o, hne⟩
  exact h.elim (fun x => .inl (hk _ x)) (fun x => .inr (hk _ x))
theorem Bld.below {X : Nat} {q : List UInt8} {w w' : World} (h : Bld X q w) (hb : Below w.heap.size w w') : Bld X q w' := by
  have hk : ∀ p, Lib.BuilderAt 52 5 X X p (Lib.byteCells q) w → Lib.BuilderAt 52 5 X X p (Lib.byteCells q) w' := by
    rintro p ⟨h1, v, hbk, hown, hne⟩
    exact ⟨h1, v, (hb.block X (lt_of_block hbk)).trans hbk, ownsRow_below hown hb, hne⟩
  exact h.elim (fun x => .inl (hk _ x)) (fun x => .inr (hk _ x))
theorem Bld.lt {X : Nat} {q : List UInt8} {w : World} (h : Bld X q w) : X < w.heap.size := h.elim (fun x => x.lt) (fun x => x.lt)
theorem Bld.new (w : World) : Bld w.heap.size [] (w.alloc (.cells #[.pointer none, .slice none 0 0] 52)) := Lib.fresh_isBuilder _ _ _
/-- a token's box -/
def TkBox (T : Nat) (t : Tk) (w : World) : Prop := w.heap[T]? = some (.cells #[.int .i64 t.kind, strV t.text, .int .i64 t.val, .int .i64 t.pos] 37 (0, 0))
theorem TkBox.new (w : World) (t : Tk) : TkBox w.heap.size t (tokBW w t) := heap_alloc_new w _
theorem TkBox.kept {T X : Nat} {t : Tk} {w w' : World} (h : TkBox T t w) (hF : BldF X w w') (hne : T ≠ X) : TkBox T t w' :=
  hF.2 T _ h (fun e => hne (Option.some.inj e)) (fun c fz e => by injection e with e1 e2; exact absurd e2 (by decide))
theorem TkBox.cells {T : Nat} {t : Tk} {w : World} (h : TkBox T t w) : w.cell? ⟨T, 0, none⟩ = some (.int .i64 t.kind) ∧ w.cell? ⟨T, 1, none⟩ = some (strV t.text) ∧ w.cell? ⟨T, 2, none⟩ = some (.int .i64 t.val) ∧ w.cell? ⟨T, 3, none⟩ = some (.int .i64 t.pos) := by
  unfold TkBox at h
  exact ⟨by simp [World.cell?, h], by simp [World.cell?, h], by simp [World.cell?, h], by simp [World.cell?, h]⟩
set_option maxHeartbeats 4000000 in
set_option maxRecDepth 100000 in
theorem join_short (B : Nat) (v : Value) (ts : List Tk) (w : World) (h : TksAt B w v ts) (hB : B ≤ w.heap.size) (hl : ts.length ≤ 4000) (hV : VarsAt w.heap.size w) : Calls Tryd.prog 13 #[v] w (JoinPost ts w) := by
  have HL := Lib.hid hl
  have HV := Lib.hid hV
  have C1 := Lib.hid (idx_any B v ts (fltW w) (h.below ((fltW_below w).mono hB)) (Nat.le_trans hB (fltW_below w).size))
  have H := Lib.hid h
  obtain ⟨A, n, c, rfl, Hn, ⟨hn, -⟩, HT, HC⟩ := h.opens
  have hn4 : n ≤ 4000 := by rw [← Hn.out]; exact hl
  unfold fltW at C1
  clear h hl hV
  go_enter Tryd.func13, Tryd.ntmps13
  go_wp2_with fail
  refine C1.out.mono ?_
  rintro e W0 ⟨⟨k, t, rfl, hk, hm, hnn⟩ | ⟨rfl, hnn⟩, hb0⟩
  · obtain ⟨hc0, hc1, hf0, hf1, hlt⟩ := fault_cells hb0
    have HB0 := Lib.hid hb0
    have HK := Lib.hid (And.intro hk (And.intro hm hnn))
    clear hb0 hk hm hnn C1
    go_wp2_with fail
    refine bodyPost_ret (v := .tuple #[strV [], .agg #[.int .i64 5, .int .i64 (k : Int)]]) (by simp [results, Tryd.results13, go_sem, hc0, hc1]) rfl ?_
    exact ⟨.inr (.inl ⟨HL.out, k, t, HK.out.1, HK.out.2.1, HK.out.2.2, rfl⟩), flt_end HB0.out _ _⟩
  · have HB0 := Lib.hid hb0
    have HNN := Lib.hid hnn
    have HOK := Lib.hid (show ∀ (j : Nat) x, ts[j]? = some x → okT x = true from fun j x hx => by
      have := hnn j x (List.getElem?_eq_some_iff.1 hx).1 hx
      unfold malT at this
      simpa using this)
    clear hb0 hnn C1
    go_wp2_with fail
    have hBx : Bld W0.heap.size [] (W0.alloc (.cells #[.pointer none, .slice none 0 0] 52)) := Bld.new W0
    have hbx : Below W0.heap.size W0 (W0.alloc (.cells #[.pointer none, .slice none 0 0] 52)) := (Below.refl _ _).alloc (Nat.le_refl _) _
    obtain ⟨X, hX⟩ : ∃ X, X = W0.heap.size := ⟨_, rfl⟩
    obtain ⟨W1, hW1⟩ : ∃ W1, W1 = W0.alloc (.cells #[.pointer none, .slice none 0 0] 52) := ⟨_, rfl⟩
    rw [← hX, ← hW1] at hBx hbx
    rw [← hW1, ← hX]
    have HX := Lib.hid hX
    have HBX := Lib.hid hBx
    have Hbx := Lib.hid hbx
    have hNX : w.heap.size < X := by rw [hX]; have := HB0.out.size; rw [World.size_alloc] at this; omega
    have HWX := Lib.hid (show ∀ W, Below X W0 W → Below w.heap.size w W from fun W hb => (fltW_below w).trans ((HB0.out.mono (fltW_below w).size).trans (hb.mono (Nat.le_of_lt hNX))))
    have HFX := Lib.hid (show ∀ W, Below X W0 W → Below (fltW w).heap.size (fltW w) W from fun W hb => HB0.out.trans (hb.mono (by rw [hX]; exact HB0.out.size)))
    clear hX hW1 hBx hbx
    go_loopw [22] (fun i wr => ∃ k : Nat, k ≤ n ∧ i = .int .i64 k ∧ Hid (Bld X (joinL (ts.take k)) wr) ∧ Hid (Below X W0 wr)) (fun i _ => n - (intOf i).toNat)
    case atStart => exact ⟨0, Nat.zero_le _, rfl, HBX, Hbx⟩
    case round =>
      obtain ⟨k, hk, rfl, HQ, HB⟩ := hrel
      by_cases hlt : k < n
      · obtain ⟨b1, o1, rfl, hb1, g1⟩ := HC.out (by omega)
        obtain ⟨x, hx⟩ := getElem?_of_lt Hn.out hlt
        obtain ⟨p0, p1, p2, p3⟩ := (g1 k x hx).below ((HWX.out _ HB.out).mono hB) hb1
        obtain ⟨hi, hl30⟩ := ok_facts (HOK.out k x hx)
        have HI := Lib.hid hi
        have HL30 := Lib.hid hl30
        have HTX := Lib.hid hx
        have HQL := Lib.hid (show (joinL (ts.take k)).length ≤ 124000 by
          have h1 := joinL_len (ts.take k) (fun t ht => by
            obtain ⟨j, hj⟩ := List.getElem?_of_mem (List.mem_of_mem_take ht)
            exact (ok_facts (HOK.out j t hj)).2)
          rw [List.length_take] at h1
          omega)
        have HBt := Lib.hid (TkBox.new wr x)
        have HQ1 := Lib.hid (HQ.out.alloc (.cells #[.int .i64 x.kind, strV x.text, .int .i64 x.val, .int .i64 x.pos] 37))
        have hXr := HQ.out.lt
        have HB1 := Lib.hid (HB.out.alloc (Nat.le_of_lt hXr) (.cells #[.int .i64 x.kind, strV x.text, .int .i64 x.val, .int .i64 x.pos] 37))
        obtain ⟨V, hV⟩ : ∃ V, V = wr.alloc (.cells #[.int .i64 x.kind, strV x.text, .int .i64 x.val, .int .i64 x.pos] 37) := ⟨_, rfl⟩
        unfold tokBW at HBt
        rw [← hV] at HBt HQ1 HB1
        have HVe := Lib.hid hV
        clear HC g1 hx hi hl30 hV
        by_cases hk0 : k = 0
        · have hk1 : ¬ 0 < k := by omega
          have HN := Lib.hid (show joinL (ts.take (k + 1)) = joinL (ts.take k) ++ textL x by
            rw [take_snoc HTX.out, hk0]
            rw [show ts.take 0 = [] from rfl, List.nil_append, joinL_first]
            rfl)
          have C2 := Lib.hid (textOf_any x HI.out V (HV.out.up (HWX.out _ HB1.out)))
          unfold Tk.v at C2
          clear hk0
          go_wp2_with fail
          rw [← HVe.out]
          refine C2.out.mono ?_
          rintro e V2 ⟨rfl, hb2⟩
          have HB2 := Lib.hid (HB1.out.trans (hb2.mono (Nat.le_of_lt HQ1.out.lt)))
          have HQ2 := Lib.hid (HQ1.out.below hb2)
          have C3 := Lib.hid (writeString_any X (joinL (ts.take k)) (textL x) V2 HQ2.out (by have := HQL.out; have := HL30.out; omega))
          clear hb2 C2
          go_wp2_with fail
          refine C3.out.mono ?_
          rintro e V3 ⟨rfl, hu3, hf3⟩
          have HQ3 := Lib.hid hu3.bld
          have HB3 := Lib.hid (HB2.out.trans hf3.1)
          clear hu3 hf3 C3
          go_wp2_with fail
          go_roundw
          case rel => exact ⟨k + 1, by omega, by go_num, Lib.hid (by rw [HN.out]; exact HQ3.out), HB3⟩
          case measure => simp [intOf]; omega
        · have hk1 : 0 < k := by omega
          have HN := Lib.hid (show joinL (ts.take (k + 1)) = (joinL (ts.take k) ++ [32]) ++ textL x by
            rw [take_snoc HTX.out]
            refine joinL_snoc (fun e => ?_) x
            have h3 : (ts.take k).length = 0 := by rw [e]; rfl
            rw [List.length_take, Hn.out] at h3
            omega)
          have C1 := Lib.hid (writeByte_any X (joinL (ts.take k)) 32 V HQ1.out (by have := HQL.out; omega))
          clear hk0
          go_wp2_with fail
          rw [← HVe.out]
          refine C1.out.mono ?_
          rintro e V1 ⟨rfl, hu1, hf1⟩
          have HB1' := Lib.hid (HB1.out.trans hf1.1)
          have hbt1 := HBt.out.kept hf1 (by omega)
          obtain ⟨q0, q1, q2, q3⟩ := hbt1.cells
          have HQ1' := Lib.hid hu1.bld
          have C2 := Lib.hid (textOf_any x HI.out V1 (HV.out.up (HWX.out _ HB1'.out)))
          unfold Tk.v at C2
          clear hu1 hf1 hbt1 C1
          go_wp2_with fail
          refine C2.out.mono ?_
          rintro e V2 ⟨rfl, hb2⟩
          have HB2 := Lib.hid (HB1'.out.trans (hb2.mono (Nat.le_of_lt HQ1'.out.lt)))
          have HQ2 := Lib.hid (HQ1'.out.below hb2)
          have C3 := Lib.hid (writeString_any X (joinL (ts.take k) ++ [32]) (textL x) V2 HQ2.out (by have := HQL.out; have := HL30.out; rw [List.length_append]; simp; omega))
          clear hb2 C2
          go_wp2_with fail
          refine C3.out.mono ?_
          rintro e V3 ⟨rfl, hu3, hf3⟩
          have HQ3 := Lib.hid hu3.bld
          have HB3 := Lib.hid (HB2.out.trans hf3.1)
          clear hu3 hf3 C3
          go_wp2_with fail
          go_roundw
          case rel => exact ⟨k + 1, by omega, by go_num, Lib.hid (by rw [HN.out]; exact HQ3.out), HB3⟩
          case measure => simp [intOf]; omega
      · obtain rfl : k = n := by omega
        have HJ := Lib.hid (show Bld X (joinL ts) wr by have := HQ.out; rw [List.take_of_length_le (by rw [Hn.out]; omega)] at this; exact this)
        have C1 := Lib.hid (Tryd.Builder_Len X X (Lib.byteCells (joinL ts)) wr HJ.out)
        rw [Lib.byteCells_length] at C1
        obtain ⟨hc0, hc1, hf0, hf1, hlt2⟩ := fault_cells (HFX.out _ HB.out)
        clear HQ HC HBX Hbx
        by_cases h8 : 8000 < (joinL ts).length
        · have H8 := Lib.hid h8
          go_wp2_with fail
          refine C1.out.mono ?_
          rintro e w' ⟨rfl, rfl⟩
          go_wp2_with fail
          refine bodyPost_ret (v := .tuple #[strV [], .agg #[.int .i64 10, .int .i64 (-2)]]) (by simp [results, Tryd.results13, go_sem, hc0, hc1]) rfl ?_
          exact ⟨.inr (.inr (.inl ⟨HL.out, HNN.out, H8.out, rfl⟩)), flt_end (HFX.out _ HB.out) _ _⟩
        · have H8 := Lib.hid (show (joinL ts).length ≤ 8000 by omega)
          have C2 := Lib.hid (Tryd.Builder_String_any X X (joinL ts) wr HJ.out (Nat.le_of_lt HJ.out.lt))
          go_wp2_with fail
          refine C1.out.mono ?_
          rintro e w' ⟨rfl, rfl⟩
          go_wp2_with fail
          refine C2.out.mono ?_
          rintro e W2 ⟨rfl, hb2⟩
          have HB2 := Lib.hid (HB.out.trans hb2)
          obtain ⟨dc0, dc1, df0, df1, dlt2⟩ := fault_cells (HFX.out _ HB2.out)
          clear hb2 C1 C2 hc0 hc1 hf0 hf1 hlt2
          go_wp2_with fail
          refine bodyPost_ret (v := .tuple #[strV (joinL ts), .agg #[.int .i64 0, .int .i64 0]]) (by simp [results, Tryd.results13, go_sem, dc0, dc1]) rfl ?_
          exact ⟨.inr (.inr (.inr ⟨HL.out, HNN.out, H8.out, rfl⟩)), flt_end (HFX.out _ HB2.out) _ _⟩
theorem join_any (B : Nat) (v : Value) (ts : List Tk) (w : World) (h : TksAt B w v ts) (hB : B ≤ w.heap.size) (hV : VarsAt w.heap.size w) : Calls Tryd.prog 13 #[v] w (JoinPost ts w) := by
  by_cases hl : 4000 < ts.length
  · exact join_long B v ts w h hl
  · exact join_short B v ts w h hB (by omega) hV
end Go.Proofs.YtccnaoabmgkblaaDoor.Tok
