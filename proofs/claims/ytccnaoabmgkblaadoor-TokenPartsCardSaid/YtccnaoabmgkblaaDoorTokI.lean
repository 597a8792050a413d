/- Contract of Split: the tokens of a line. Conditions: the library's listed variables. -/
import Derived.OneCell
import Derived.Maps.AppendAt
import Derived.Deep.AppendLies
import Derived.Lib.IndexBytes
import Derived.Lib.IndexLaws
import Derived.Test.YtccnaoabmgkblaaDoorTokH
namespace Go.Proofs.YtccnaoabmgkblaaDoor.Tok
open Go Go.RowKit

/-! ## rows of tokens in memory -/
theorem infoTok : (Tryd.prog.info? 37).map (fun i => (i.zero, i.size, i.bytes)) = some (some (.agg #[.int .i64 0, strV [], .int .i64 0, .int .i64 0]), 4, 40) := by kernel_rfl
theorem row_is {w : World} {B n size : Nat} {e : TypeId} {v : Value} {xs : List Value} (h : w.ownsRow B e size v n xs) : ∃ A c, v = .slice A n c := by
  rcases h.2 with ⟨rfl, rfl⟩ | ⟨g, cap, cur, rfl, _⟩
  · exact ⟨_, _, rfl⟩
  · exact ⟨_, _, rfl⟩
theorem ownsRow_base {w : World} {B B' : Nat} {e : TypeId} {size n : Nat} {v : Value} {xs : List Value} (h : w.ownsRow B e size v n xs) (hB : B' ≤ B) : w.ownsRow B' e size v n xs := by
  refine ⟨h.1, ?_⟩
  rcases h.2 with h2 | ⟨g, cap, cur, h3, h4, r⟩
  · exact .inl h2
  · exact .inr ⟨g, cap, cur, h3, by omega, r⟩
theorem ownsRow_below {w w' : World} {B : Nat} {e : TypeId} {size n : Nat} {v : Value} {xs : List Value} (h : w.ownsRow B e size v n xs) (hb : Below w.heap.size w w') : w'.ownsRow B e size v n xs := by
  refine ⟨h.1, ?_⟩
  rcases h.2 with h2 | ⟨g, cap, cur, h3, h4, h5, r⟩
  · exact .inl h2
  · exact .inr ⟨g, cap, cur, h3, h4, (hb.block g (lt_of_block h5)).trans h5, r⟩
theorem ownsRow_sets {w : World} {B k : Nat} {e : TypeId} {size n : Nat} {v : Value} {xs : List Value} (h : w.ownsRow B e size v n xs) (hk : k < B) (u0 u1 : Value) : ((w.setCell ⟨k, 0, none⟩ u0).setCell ⟨k, 1, none⟩ u1).ownsRow B e size v n xs :=
  ownsRow_setCell_other (ownsRow_setCell_other h (fun e => by have := (h.lt k e).1; omega) u0) (fun e => by have := (h.lt k e).1; omega) u1
def tkC (t : Tk) : List Value := [.int .i64 t.kind, strV t.text, .int .i64 t.val, .int .i64 t.pos]
def tkv (ts : List Tk) : List Value := ts.flatMap tkC
theorem tkv_snoc (ts : List Tk) (t : Tk) : tkv (ts ++ [t]) = tkv ts ++ tkC t := by simp [tkv]
theorem tkC_one (t : Tk) : ∀ u ∈ tkC t, u.oneCell' = true := by
  intro u hu
  simp only [tkC, List.mem_cons, List.not_mem_nil, or_false] at hu
  rcases hu with rfl | rfl | rfl | rfl <;> rfl
theorem tok_news (W : World) (x1 x2 x3 x4 : Value) (t : TypeId) : ∀ j u, [x1, x2, x3, x4][j]? = some u → (W.alloc (.cells #[x1, x2, x3, x4] t)).cell? ((⟨W.heap.size, 0, none⟩ : Addr).add j) = some u :=
  World.news_of_block (cs := #[x1, x2, x3, x4]) (t := t) (fr := (0, 0)) (heap_alloc_new W _)
theorem tok_news2 (W : World) (o : Obj) (x1 x2 x3 x4 : Value) (t : TypeId) : ∀ j u, [x1, x2, x3, x4][j]? = some u → ((W.alloc o).alloc (.cells #[x1, x2, x3, x4] t)).cell? ((⟨W.heap.size + 1, 0, none⟩ : Addr).add j) = some u := by
  have h := tok_news (W.alloc o) x1 x2 x3 x4 t
  rw [World.size_alloc] at h
  exact h
theorem fault_cells {w W : World} (hb : Below (w.alloc (.cells #[.int .i64 0, .int .i64 0] 25)).heap.size (w.alloc (.cells #[.int .i64 0, .int .i64 0] 25)) W) :
    W.cell? ⟨w.heap.size, 0, none⟩ = some (.int .i64 0) ∧ W.cell? ⟨w.heap.size, 1, none⟩ = some (.int .i64 0) ∧ W.frozen? ⟨w.heap.size, 0, none⟩ = false ∧ W.frozen? ⟨w.heap.size, 1, none⟩ = false ∧ w.heap.size < W.heap.size := by
  have hfc : W.heap[w.heap.size]? = some (.cells #[.int .i64 0, .int .i64 0] 25 (0, 0)) := (hb.block w.heap.size (by simp)).trans (heap_alloc_new w _)
  exact ⟨by simp [World.cell?, hfc], by simp [World.cell?, hfc], by simp [World.frozen?, hfc], by simp [World.frozen?, hfc], lt_of_block hfc⟩
theorem cell_alloc_l {W : World} {p : Addr} {v : Value} (o : Obj) (h : W.cell? p = some v) : (W.alloc o).cell? p = some v := (World.cell?_alloc_lt _ _ _ (block_lt_of_cell h)).trans h
theorem two_set {W : World} {R : Nat} {x y u v : Value} (h0 : W.cell? ⟨R, 0, none⟩ = some u) (h1 : W.cell? ⟨R, 1, none⟩ = some v) :
    ((W.setCell ⟨R, 0, none⟩ x).setCell ⟨R, 1, none⟩ y).cell? ⟨R, 0, none⟩ = some x ∧ ((W.setCell ⟨R, 0, none⟩ x).setCell ⟨R, 1, none⟩ y).cell? ⟨R, 1, none⟩ = some y :=
  ⟨(World.cell?_setCell_other _ _ _ _ (by simp)).trans (World.cell?_setCell_same' _ _ _ (by rw [h0]; rfl)), World.cell?_setCell_same' _ _ _ (by rw [World.cell?_setCell_other _ _ _ _ (by simp), h1]; rfl)⟩
/-- the world with a box for a fault -/
def fltW (w : World) : World := w.alloc (.cells #[.int .i64 0, .int .i64 0] 25)
theorem fltW_below (w : World) : Below w.heap.size w (fltW w) := (Below.refl _ _).alloc (Nat.le_refl _) _
theorem fltW_size (w : World) : (fltW w).heap.size = w.heap.size + 1 := by simp [fltW]
/-- what Split answers -/
def SplitPost (l : List UInt8) (w : World) (e : Ending) (w' : World) : Prop :=
  ((8000 < l.length ∧ e = .returned (.tuple #[.slice none 0 0, .agg #[.int .i64 2, .int .i64 (-1)]])) ∨
   (l.length ≤ 8000 ∧ 0 ≤ (lex 0 (body l)).2 ∧ e = .returned (.tuple #[.slice none 0 0, .agg #[.int .i64 1, .int .i64 (lex 0 (body l)).2]])) ∨
   (l.length ≤ 8000 ∧ (lex 0 (body l)).2 = -1 ∧ ∃ v, e = .returned (.tuple #[v, .agg #[.int .i64 0, .int .i64 0]]) ∧ w'.ownsRow w.heap.size 37 4 v (lex 0 (body l)).1.length (tkv (lex 0 (body l)).1))) ∧ Below w.heap.size w w'
theorem body_index : ∀ (l : List UInt8), (if 0 ≤ Lib.indexByte l 59 then l.take (Lib.indexByte l 59).toNat else l) = body l
  | [] => rfl
  | c :: r => by
    have ih := body_index r
    have hge := Lib.indexByte_ge r 59
    by_cases hc : c = 59
    · subst hc; simp [Lib.indexByte, body]
    · have hi : Lib.indexByte (c :: r) 59 = if Lib.indexByte r 59 = -1 then -1 else Lib.indexByte r 59 + 1 := by simp [Lib.indexByte, hc]
      have hb : body (c :: r) = c :: body r := by
        unfold body
        rw [List.takeWhile_cons, if_pos (by simpa using hc)]
      rw [hi, hb, ← ih]
      by_cases h1 : Lib.indexByte r 59 = -1
      · rw [h1]; simp
      · rw [if_neg h1, if_pos (show 0 ≤ Lib.indexByte r 59 + 1 by omega), if_pos (show 0 ≤ Lib.indexByte r 59 by omega)]
        rw [show (Lib.indexByte r 59 + 1).toNat = (Lib.indexByte r 59).toNat + 1 by omega]
        simp
theorem body_cut (l : List UInt8) : (Lib.cut l [59]).1 = body l := by
  rw [← body_index l]
  unfold Lib.cut
  rw [Lib.index_one]
  split <;> rfl
set_option maxHeartbeats 1000000 in
theorem split_long (l : List UInt8) (w : World) (h : 8000 < l.length) (hl : l.length ≤ 9223372036854775807) : Calls Tryd.prog 9 #[strV l] w (SplitPost l w) := by
  have H := Lib.hid h
  go_enter Tryd.func9, Tryd.ntmps9
  go_wp2_with fail
  refine bodyPost_ret (v := .tuple #[.slice none 0 0, .agg #[.int .i64 2, .int .i64 (-1)]]) (by simp [results, Tryd.results9, go_sem]) rfl ?_
  exact ⟨.inl ⟨H.out, rfl⟩, (((Below.refl _ _).alloc (Nat.le_refl _) _))⟩
theorem sp_two {c : UInt8} (h : spB c = true) : c = 32 ∨ c = 9 := by
  unfold spB at h
  simpa using h
theorem sp_not {c : UInt8} (h : spB c = false) : (((c.toNat : Int)) == 32) = false ∧ (((c.toNat : Int)) == 9) = false := by
  unfold spB at h
  simp at h
  exact ⟨byte_ne (n := 32) (fun e => h.1 e), byte_ne (n := 9) (fun e => h.2 e)⟩
theorem body_le (l : List UInt8) : (body l).length ≤ l.length := (List.takeWhile_prefix _).length_le
/-- where the loop of Split stands: at k, with the tokens ts found -/
def At (t : List UInt8) (k : Nat) (ts : List Tk) : Prop := lex 0 t = (ts ++ (lex k (t.drop k)).1, (lex k (t.drop k)).2)
theorem at_start (t : List UInt8) : At t 0 [] := by unfold At; simp
theorem at_sp {t : List UInt8} {k : Nat} {ts : List Tk} (h : At t k ts) (hk : k < t.length) (hs : spB t[k] = true) : At t (k + 1) ts := by
  unfold At at *
  rw [h, drop_at hk, lex_sp hs]
theorem at_bad {t : List UInt8} {k : Nat} {ts : List Tk} (h : At t k ts) (hk : k < t.length) (hs : spB t[k] = false) (hf : first (t.drop k) = none) : (lex 0 t).2 = (k : Int) := by
  unfold At at h
  rw [h]
  rw [drop_at hk] at hf ⊢
  rw [lex_bad hs hf]
theorem at_tok {t : List UInt8} {k z : Nat} {ts : List Tk} {x : Tk} (h : At t k ts) (hk : k < t.length) (hs : spB t[k] = false) (hf : first (t.drop k) = some (x, z)) : At t (k + z) (ts ++ [{ x with pos := (k : Int) }]) := by
  have hd : (t[k] :: t.drop (k + 1)).drop z = t.drop (k + z) := by rw [← drop_at hk, List.drop_drop]
  unfold At at *
  rw [h]
  rw [drop_at hk] at hf ⊢
  rw [lex_tok hs hf, hd, List.append_assoc]
  rfl
theorem at_end {t : List UInt8} {k : Nat} {ts : List Tk} (h : At t k ts) (hk : t.length ≤ k) : (lex 0 t).1 = ts ∧ (lex 0 t).2 = -1 := by
  unfold At at h
  rw [List.drop_eq_nil_of_le hk, lex_nil] at h
  rw [h]
  exact ⟨by simp, rfl⟩
set_option maxRecDepth 100000 in
set_option maxHeartbeats 4000000 in
theorem split_short (l : List UInt8) (w : World) (h : l.length ≤ 8000) (hv : VarsAt w.heap.size w) : Calls Tryd.prog 9 #[strV l] w (SplitPost l w) := by
  have H := Lib.hid h
  have HV := Lib.hid hv
  obtain ⟨m, hm⟩ := (hv.up (fltW_below w)).max
  have C1 := Lib.hid (cut_any l m (fltW w) h hm)
  rw [body_cut] at C1
  have hbl := body_le l
  obtain ⟨i0, hi, hz0, hz1', hz2'⟩ := info_parts infoTok
  obtain ⟨t, ht⟩ : ∃ t, t = body l := ⟨_, rfl⟩
  have HT := Lib.hid ht
  rw [← ht] at C1 hbl
  have ht8 : t.length ≤ 8000 := by omega
  clear hv hm ht hbl
  go_enter Tryd.func9, Tryd.ntmps9
  go_wp2_with fail
  refine C1.out.mono ?_
  rintro e W0 ⟨rfl, hb0⟩
  have HB0 := Lib.hid hb0
  clear hb0 C1
  obtain ⟨s, hs⟩ : ∃ s : ByteArray, s = ⟨t.toArray⟩ := ⟨_, rfl⟩
  have hsd : s.data.toList = t := by rw [hs]
  have hsz : s.size = t.length := by rw [← len_data, hsd]
  rw [show strV t = .string s from by rw [hs]]
  have hs8 : s.size ≤ 8000 := by omega
  have HSD := Lib.hid hsd
  have HSZ := Lib.hid hsz
  have HS := Lib.hid hs
  clear hs hsd hsz ht8
  go_wp2_with fail
  go_loopw [7, 8] (fun u7 u8 wr => ∃ (k : Nat) (ts : List Tk), u8 = .int .i64 (k : Int) ∧ k ≤ s.size ∧ Hid (At t k ts ∧ ts.length ≤ k) ∧ Hid (wr.ownsRow (w.heap.size + 1) 37 4 u7 ts.length (tkv ts)) ∧ Hid (Below (fltW w).heap.size (fltW w) wr)) (fun _ i _ => s.size - (intOf i).toNat)
  case atStart => exact ⟨0, [], rfl, Nat.zero_le _, Lib.hid ⟨at_start t, Nat.le_refl _⟩, Lib.hid (World.ownsRow_nil _ _ _ _), HB0⟩
  case round =>
    obtain ⟨k, ts, rfl, hk, HA, HO, HB⟩ := hrel
    by_cases hlt : k < s.size
    · have htk : k < t.length := by rw [← HSZ.out]; exact hlt
      have hget : s[k] = t[k] := by have := HS.out; subst this; rfl
      cases hsp : spB t[k] with
      | true =>
        have HN := Lib.hid (at_sp HA.out.1 htk hsp)
        have HL := Lib.hid HA.out.2
        rcases sp_two hsp with hc | hc
        all_goals
          rw [← hget] at hc
          clear hsp hget htk HA
          go_wp2_with fail
          go_roundw
          case rel => exact ⟨k + 1, ts, by go_num, by omega, Lib.hid ⟨HN.out, by have := HL.out; omega⟩, HO, HB⟩
          case measure => simp [intOf]; omega
      | false =>
        obtain ⟨n1, n2⟩ := sp_not hsp
        rw [← hget] at n1 n2
        have HTK := Lib.hid htk
        have HSP := Lib.hid hsp
        have HE : Hid (Value.string (s.extract k s.size) = strV (t.drop k)) := Lib.hid (by
          rw [HS.out, show (⟨t.toArray⟩ : ByteArray).size = t.length from rfl, ba_drop])
        have C2 := Lib.hid (first_any (t.drop k) wr (by rw [List.length_drop, ← HSZ.out]; omega) (HV.out.up ((fltW_below w).trans (HB.out.mono (fltW_below w).size))))
        clear hget hsp
        go_wp2_with fail
        rw [HE.out]
        refine C2.out.mono ?_
        rintro e W1 ⟨⟨x, z, hf, rfl⟩ | ⟨hf, rfl⟩, hb1⟩
        · obtain ⟨hz1, hz2⟩ := first_size hf
          have hzn : ((z : Int) == 0) = false := beq_eq_false_iff_ne.2 (by omega)
          have hzs : k + z ≤ s.size := by rw [List.length_drop] at hz2; have := HSZ.out; omega
          have HN := Lib.hid (at_tok HA.out.1 htk HSP.out hf)
          have HLS := Lib.hid (show ts.length + 1 ≤ 8000 by have := HA.out.2; omega)
          have HB1 := Lib.hid (HB.out.trans (hb1.mono HB.out.size))
          have HO1 := Lib.hid (ownsRow_below HO.out hb1)
          have HSZ1 := Lib.hid (show w.heap.size + 1 ≤ W1.heap.size by have := HB1.out.size; rw [fltW_size] at this; exact this)
          obtain ⟨xk, xt, xv, xp⟩ := x
          obtain ⟨A, c, rfl⟩ := row_is HO1.out
          clear hf hb1 hz2 HSP htk C2
          unfold Tk.v
          go_wp2_with (at_builtin; refine wpList_append_own _ rfl (.tmp 50) (.tmp 52) 23 rfl (w.heap.size + 1) 37 i0 _ 4 40 Tryd.underlying23 hi hz0 hz1' hz2' (by rfl) (by decide) (.slice A ts.length c) ts.length _ rfl ((HO1.out.alloc _).alloc _) ⟨W1.heap.size + 1, 0, none⟩ 1 1 (tkC ⟨xk, xt, xv, (k : Int)⟩) rfl rfl (tok_news2 _ _ _ _ _ _ _) (tkC_one _) (by have := HLS.out; unfold maxLen; omega) (by have := HLS.out; omega) (by have := HSZ1.out; simp; omega) ?_; intro v' w1 hown1 hgrow hnil; clear hnil; have HO2 := Lib.hid hown1; have HG := Lib.hid hgrow; clear hown1 hgrow)
          go_roundw
          case rel =>
            refine ⟨k + z, ts ++ [⟨xk, xt, xv, (k : Int)⟩], by go_num, hzs, Lib.hid ⟨HN.out, ?_⟩, Lib.hid ?_, Lib.hid ?_⟩
            · have := HA.out.2
              rw [List.length_append]
              simp
              omega
            · rw [List.length_append, tkv_snoc]
              exact HO2.out
            · have h3 : Below (fltW w).heap.size (fltW w) ((W1.alloc (.cells #[.int .i64 xk, strV xt, .int .i64 xv, .int .i64 (k : Int)] 37)).alloc (.cells #[.int .i64 xk, strV xt, .int .i64 xv, .int .i64 (k : Int)] 37)) :=
                ((HB1.out.alloc (HB1.out.size) _).alloc (by rw [World.size_alloc]; have := HB1.out.size; omega) _)
              exact h3.grown HG.out (by rw [World.size_alloc, World.size_alloc]; have := HB1.out.size; omega) (fun q e => by rw [fltW_size]; exact (HO1.out.lt q e).1)
          case measure => simp [intOf]; omega
        · have HN := Lib.hid (at_bad HA.out.1 htk HSP.out hf)
          have HB1 := Lib.hid (HB.out.trans (hb1.mono HB.out.size))
          obtain ⟨hc0, hc1, hf0, hf1, hlt1⟩ := fault_cells HB1.out
          clear hf hb1 HSP htk C2
          unfold zeroTk Tk.v
          go_wp2_with fail
          have r0 := cell_alloc_l (.cells #[.int .i64 0, strV [], .int .i64 0, .int .i64 0] 37) (two_set (x := .int .i64 1) (y := .int .i64 (k : Int)) hc0 hc1).1
          have r1 := cell_alloc_l (.cells #[.int .i64 0, strV [], .int .i64 0, .int .i64 0] 37) (two_set (x := .int .i64 1) (y := .int .i64 (k : Int)) hc0 hc1).2
          refine bodyPost_ret (v := .tuple #[.slice none 0 0, .agg #[.int .i64 1, .int .i64 (k : Int)]]) (by simp [results, Tryd.results9, go_sem, r0, r1]) rfl ?_
          refine ⟨.inr (.inl ⟨H.out, by rw [← HT.out, HN.out]; omega, by rw [← HT.out, HN.out]⟩), ?_⟩
          exact ((((fltW_below w).trans (HB1.out.mono (fltW_below w).size)).setCell (p := ⟨w.heap.size, 0, none⟩) (Nat.le_refl _) _).setCell (p := ⟨w.heap.size, 1, none⟩) (Nat.le_refl _) _).alloc (by simp; omega) _
    · obtain rfl : k = s.size := by omega
      have HN := Lib.hid (at_end HA.out.1 (by rw [← HSZ.out]; exact Nat.le_refl _))
      obtain ⟨hc0, hc1, hf0, hf1, hlt⟩ := fault_cells HB.out
      obtain ⟨A, c, rfl⟩ := row_is HO.out
      clear hlt
      go_wp2_with fail
      refine bodyPost_ret (v := .tuple #[.slice A ts.length c, .agg #[.int .i64 0, .int .i64 0]]) (by simp [results, Tryd.results9, go_sem, hc0, hc1]) rfl ?_
      refine ⟨.inr (.inr ⟨H.out, by rw [← HT.out]; exact HN.out.2, _, rfl, ?_⟩), (((fltW_below w).trans (HB.out.mono (fltW_below w).size)).setCell (p := ⟨w.heap.size, 0, none⟩) (Nat.le_refl _) _).setCell (p := ⟨w.heap.size, 1, none⟩) (Nat.le_refl _) _⟩
      rw [← HT.out, HN.out.1]
      exact ownsRow_base (ownsRow_sets HO.out (Nat.lt_succ_self _) _ _) (Nat.le_succ _)
theorem split_any (l : List UInt8) (w : World) (hl : l.length ≤ 9223372036854775807) (hv : VarsAt w.heap.size w) : Calls Tryd.prog 9 #[strV l] w (SplitPost l w) := by
  by_cases h : 8000 < l.length
  · exact split_long l w h hl
  · exact split_short l w (by omega) hv
end Go.Proofs.YtccnaoabmgkblaaDoor.Tok
