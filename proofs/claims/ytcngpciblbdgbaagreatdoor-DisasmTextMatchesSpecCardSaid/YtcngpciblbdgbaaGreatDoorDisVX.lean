/- The examples of the document on disassembly hold. Condition: the library's variables are laid. -/
import Derived.Test.YtcngpciblbdgbaaGreatDoorDisIU
/-! Contract of Read for a valid table and a text that is short enough. Conditions: the table reads as forms, the library's variables are laid. -/
namespace Go.Proofs.YtcngpciblbdgbaaGreatDoor
open Go Go.RowKit Go.Shelf
attribute [local go_sem] Oper.semAt_some
theorem ins_any (B : Nat) (v : Value) (fs : List Frm) (s : List UInt8) (w : World) (h : FormsAt B w v fs) (hB : B ≤ w.heap.size) (hV : VarsAt B w) (ht : tableFault fs = (0, 0)) (hs : s.length ≤ 8000) :
    Calls Tryz.prog 31 #[v, strV s] w (InsPost fs s w) := by
  cases hc : (Lib.cut s [32]).2.2 with
  | false => exact ins_plain B v fs s w h hB hV ht hs hc
  | true => exact ins_ops B v fs s w h hB hV ht hs hc
/-- no instruction has this text -/
def ReadBad (fs : List Frm) (s : List UInt8) : Prop := NoReads s ∨ ∃ ks xs, Reads s ks xs ∧ (namedAt fs s ks < 0 ∨ ∃ p i, p ≠ 0 ∧ encFault fs (namedAt fs s ks) xs = (p, i))
def ReadPost (fs : List Frm) (s : List UInt8) (w : World) (e : Ending) (w' : World) : Prop :=
  Below w.heap.size w w' ∧ ((e = .returned (.tuple #[noIns, faultV (1, -5)]) ∧ ReadBad fs s) ∨
    ∃ (ks xs : List Int) (k : Nat) (f : Frm) (A : Option Addr) (c : Nat), Reads s ks xs ∧ namedAt fs s ks = (k : Int) ∧ EncOk fs k xs f ∧ e = .returned (.tuple #[.agg #[.int .i64 (k : Int), .slice A xs.length c], faultV (0, 0)]) ∧ w'.ownsRow w.heap.size 3 1 (.slice A xs.length c) xs.length (iv xs))
theorem rowset_at {W : World} {base b j n : Nat} {v u : Value} {ys : List Value} (h : W.ownsRow base 3 1 v n ys) (hb : b < base) : (W.setCell ⟨b, j, none⟩ u).ownsRow base 3 1 v n ys :=
  h.kept (grown_set W b j u) (.inr fun e => by have := (h.lt b e).1; omega)
set_option maxRecDepth 100000 in
set_option maxHeartbeats 1000000 in
theorem read_ok (B : Nat) (v : Value) (fs : List Frm) (s : List UInt8) (w : World) (h : FormsAt B w v fs) (hB : B ≤ w.heap.size) (hV : VarsAt B w) (ht : tableFault fs = (0, 0)) (hs : s.length ≤ 8000) :
    Calls Tryz.prog 17 #[v, strV s] w (ReadPost fs s w) := by
  have HBX := Lib.hid (rdW_below w)
  have HT1 := Lib.hid (rdW_ins w)
  have HT2 := Lib.hid (rdW_fault w)
  have C := validate_any B v fs (rdW w) (h.below (HBX.out.mono hB)) (Nat.le_trans hB HBX.out.size)
  rw [ht] at C
  obtain ⟨A, n, c, rfl, -, -, -⟩ := h.opens
  have HC := Lib.hid C
  obtain ⟨sb, hsb⟩ : ∃ sb : ByteArray, sb = ⟨s.toArray⟩ := ⟨_, rfl⟩
  have hz : sb.size = s.length := by rw [hsb]; rfl
  have hd : decide ((8000 : Int) < (sb.size : Int)) = false := decide_eq_false (by omega)
  have hd2 : decide ((sb.size : Int) > (8000 : Int)) = false := decide_eq_false (by omega)
  have HF := Lib.hid h
  have HB := Lib.hid hB
  have HV := Lib.hid hV
  have HT := Lib.hid ht
  have HS := Lib.hid hs
  have HSB := Lib.hid (show strV s = .string sb by rw [hsb])
  rw [show strV s = .string sb by rw [hsb]]
  clear C h ht hs hB hV hz hsb
  go_enter Tryz.func17, Tryz.ntmps17
  go_wp2_with fail
  refine HC.out.mono ?_
  rintro e W1 ⟨rfl, hb1⟩
  have a3 := one_more W1 (.cells #[.int .i64 0, .int .i64 0] 27)
  have g := hb1.trans (a3.mono hb1.size)
  have hw := HBX.out.trans (g.mono HBX.out.size)
  have q1 := HT1.out.below g
  have q2 := HT2.out.below g
  have u := Two.new W1 (.int .i64 0) (.int .i64 0) 27
  have hz3 := u.lt
  obtain ⟨u0, u1, u2, u3⟩ := u
  have Q1 := Lib.hid q1
  have Q2 := Lib.hid q2
  have HW := Lib.hid hw
  have C := ins_any B _ fs s _ (HF.out.below (hw.mono HB.out)) (Nat.le_trans HB.out hw.size) (HV.out.below (hw.mono HB.out)) HT.out HS.out
  rw [HSB.out] at C
  have HC2 := Lib.hid C
  clear C a3 g hb1 q1 q2 hw HC HBX HT1 HT2
  go_wp2_with fail
  refine HC2.out.mono ?_
  rintro e W3 ⟨hb3, ⟨j, A2, m, c2, rfl, hbad⟩ | ⟨ks, xs, k, f, av, h1, h2, h3, rfl, h4⟩⟩
  · have b4 := one_more W3 (.cells #[.int .i64 j, .slice A2 m c2] 34)
    have b5 := hb3.trans (b4.mono hb3.size)
    have q1 := Q1.out.below b5
    have q2 := Q2.out.below b5
    have hz1 := q1.lt
    have hz2 := q2.lt
    have HFN := Lib.hid (HW.out.trans (b5.mono HW.out.size))
    have HBAD : Hid (ReadBad fs s) := Lib.hid hbad
    obtain ⟨q0, q1', q2', q3⟩ := q1
    obtain ⟨t0, t1, t2, t3⟩ := q2
    clear hb3 b4 b5 hbad u0 u1 u2 u3 hz3 HC2
    go_wp2_with fail
    refine bodyPost_ret (v := .tuple #[noIns, faultV (1, -5)]) ?_ rfl ⟨?_, .inl ⟨rfl, HBAD.out⟩⟩
    · simp [results, Tryz.results17, go_sem, q0, q1', t0, t1]
    · exact (((HFN.out.setCell (p := ⟨w.heap.size, 0, none⟩) (Nat.le_refl _) _).setCell (p := ⟨w.heap.size, 1, none⟩) (Nat.le_refl _) _).setCell (p := ⟨w.heap.size + 1, 0, none⟩) (Nat.le_succ _) _).setCell (p := ⟨w.heap.size + 1, 1, none⟩) (Nat.le_succ _) _
  · obtain ⟨A2, c2, rfl⟩ := row_is h4
    have b4 := one_more W3 (.cells #[.int .i64 (k : Int), .slice A2 xs.length c2] 34)
    have b5 := hb3.trans (b4.mono hb3.size)
    have q1 := Q1.out.below b5
    have q2 := Q2.out.below b5
    have hz1 := q1.lt
    have hz2 := q2.lt
    have x := Two.new W3 (.int .i64 (k : Int)) (.slice A2 xs.length c2) 34
    have HFN := Lib.hid (HW.out.trans (b5.mono HW.out.size))
    have HRW := Lib.hid (rows_below h4 b4)
    have HX := Lib.hid (show w.heap.size + 1 < W3.heap.size from (Q2.out.below hb3).lt)
    have HLW := Lib.hid (show w.heap.size + 1 < (W1.alloc (.cells #[.int .i64 0, .int .i64 0] 27)).heap.size from Q2.out.lt)
    have H1 := Lib.hid h1
    have H2 := Lib.hid h2
    have H3 := Lib.hid h3
    obtain ⟨q0, q1', q2', q3⟩ := q1
    obtain ⟨t0, t1, t2, t3⟩ := q2
    have hz4 := x.lt
    obtain ⟨x0, x1, x2, x3⟩ := x
    clear hb3 b4 b5 u0 u1 u2 u3 hz3 HC2 h1 h2 h3 h4
    go_wp2_with fail
    refine bodyPost_ret (v := .tuple #[.agg #[.int .i64 (k : Int), .slice A2 xs.length c2], faultV (0, 0)]) ?_ rfl ⟨?_, .inr ⟨ks, xs, k, f, A2, c2, H1.out, H2.out, H3.out, rfl, ?_⟩⟩
    · simp [results, Tryz.results17, go_sem, q0, q1', t0, t1]
    · exact (((HFN.out.setCell (p := ⟨w.heap.size, 0, none⟩) (Nat.le_refl _) _).setCell (p := ⟨w.heap.size, 1, none⟩) (Nat.le_refl _) _).setCell (p := ⟨w.heap.size + 1, 0, none⟩) (Nat.le_succ _) _).setCell (p := ⟨w.heap.size + 1, 1, none⟩) (Nat.le_succ _) _
    · have := HLW.out
      exact ownsRow_base (rowset_at (rowset_at (rowset_at (rowset_at HRW.out (by omega)) (by omega)) (by omega)) (by omega)) (by omega)
end Go.Proofs.YtcngpciblbdgbaaGreatDoor

/-! Plain mathematics: the text of an instruction is read as this instruction, and what is read from a text has this text. Condition: a valid table. -/
namespace Go.Proofs.YtcngpciblbdgbaaGreatDoor
open Go Go.RowKit Go.Shelf
theorem idxOf_get {α : Type} {p : α → Bool} {l : List α} {k : Nat} (h : idxOf p l = (k : Int)) : ∃ x, l[k]? = some x ∧ p x = true := by
  unfold idxOf at h
  cases e : l.findIdx? p with
  | none => rw [e] at h; simp at h
  | some i =>
    rw [e] at h
    have hi : i = k := by
      have h' : (i : Int) = (k : Int) := h
      omega
    subst hi
    obtain ⟨h1, h2, -⟩ := List.findIdx?_eq_some_iff_getElem.1 e
    exact ⟨l[i], List.getElem?_eq_getElem h1, h2⟩
theorem name_free {nm : ByteArray} (h : nameOk nm = true) : ∀ c ∈ nm.data.toList, c ≠ 32 := by
  intro c hc e
  subst e
  unfold nameOk at h
  rw [Bool.and_eq_true] at h
  have h1 := h.1
  unfold lowB at h1
  have h2 := List.all_eq_true.1 h1 32 hc
  revert h2
  decide
theorem ops_free {ks xs : List Int} (hk : Known ks) (hl : xs.length = ks.length) : ∀ x ∈ opsT ks xs, ∀ c ∈ x, c ≠ 44 := by
  intro x hx
  obtain ⟨j, hj, rfl⟩ := List.getElem_of_mem hx
  rw [opsT_at hl hj]
  exact opT_free (known_at hk (by rw [← opsT_length hl]; exact hj))
theorem ops_read {ks xs : List Int} (hk : Known ks) (hl : xs.length = ks.length) (hi : insideAll ks xs) : (opsT ks xs).map readOp = (ks.zip xs).map some := by
  refine List.ext_getElem (by simp [opsT_length hl]; omega) fun j h1 h2 => ?_
  have hj : j < ks.length := by rw [List.length_map, opsT_length hl] at h1; exact h1
  rw [List.getElem_map, List.getElem_map, opsT_at hl (by rw [opsT_length hl]; exact hj), readOp_own (known_at hk hj) (hi j hj)]
  simp only [List.getElem_zip, List.getElem?_eq_getElem hj, List.getElem?_eq_getElem (show j < xs.length by omega), Option.getD_some]
theorem zip_same {ks xs ks' xs' : List Int} (h : (ks'.zip xs').map some = (ks.zip xs).map some) (h1 : xs.length = ks.length) (h2 : xs'.length = ks'.length) : ks' = ks ∧ xs' = xs := by
  have e : ks'.zip xs' = ks.zip xs := by
    have := congrArg (List.map (fun o : Option (Int × Int) => o.getD (0, 0))) h
    simpa [List.map_map, Function.comp_def] using this
  have a := congrArg (List.map Prod.fst) e
  have b := congrArg (List.map Prod.snd) e
  rw [List.map_fst_zip (by omega), List.map_fst_zip (by omega)] at a
  rw [List.map_snd_zip (by omega), List.map_snd_zip (by omega)] at b
  exact ⟨a, b⟩
theorem cut_own {nl : List UInt8} {ops : List (List UInt8)} (hn : ∀ c ∈ nl, c ≠ 32) : Lib.cut (insT nl ops) [32] = (nl, joinS ops, decide (ops ≠ [])) := by
  unfold insT
  by_cases h : ops = []
  · rw [if_pos h, cut_none hn, h]
    rfl
  · rw [if_neg h, cut_some hn, decide_eq_true h]
theorem own_text {fs : List Frm} {k : Nat} {xs : List Int} {f : Frm} (o : EncOk fs k xs f) :
    (∀ ks' xs', Reads (insT f.name.data.toList (opsT f.kinds xs)) ks' xs' → ks' = f.kinds ∧ xs' = xs) ∧ ¬ NoReads (insT f.name.data.toList (opsT f.kinds xs)) ∧ namedAt fs (insT f.name.data.toList (opsT f.kinds xs)) f.kinds = (k : Int) ∧ (insT f.name.data.toList (opsT f.kinds xs)).length ≤ 8000 := by
  obtain ⟨ht, hx, hl, ho⟩ := o
  have hok := valid_form ht (List.mem_of_getElem? hx)
  have hi := inside_of_idx hl ho
  have hc := cut_own (ops := opsT f.kinds xs) (name_free hok.name)
  have hne : opsT f.kinds xs ≠ [] → pieces (joinS (opsT f.kinds xs)).length (joinS (opsT f.kinds xs)) = opsT f.kinds xs := fun h => pieces_join _ _ h (ops_free hok.known hl) (Nat.le_refl _)
  have hr := ops_read hok.known hl hi
  refine ⟨fun ks' xs' h => ?_, fun h => ?_, ?_, ?_⟩
  · unfold Reads at h
    rw [hc] at h
    dsimp only at h
    rcases h with ⟨h1, rfl, rfl⟩ | ⟨h1, h2⟩
    · have h3 : opsT f.kinds xs = [] := by simpa using h1
      have h4 : f.kinds.length = 0 := by rw [← opsT_length hl, h3]; rfl
      exact ⟨(List.eq_nil_of_length_eq_zero h4).symm, (List.eq_nil_of_length_eq_zero (by omega)).symm⟩
    · rw [hne (by simpa using h1)] at h2
      obtain ⟨a, b, c⟩ := h2
      rw [hr] at c
      exact zip_same c.symm hl (by omega)
  · unfold NoReads at h
    rw [hc] at h
    dsimp only at h
    obtain ⟨h1, y, h2, h3⟩ := h
    rw [hne (by simpa using h1)] at h2
    have h4 := List.mem_map_of_mem (f := readOp) h2
    rw [hr, h3] at h4
    simp at h4
  · unfold namedAt
    rw [hc]
    exact own_idx ht hx
  · have h4 := textT_len hl hi (show f.name.data.toList.length ≤ 16 by
      have h := hok.name
      unfold nameOk at h
      simp only [Bool.and_eq_true, decide_eq_true_eq] at h
      exact h.2.2) f.kinds.length (Nat.le_refl _)
    rw [textT_all hl] at h4
    have := hok.short
    omega
theorem ops_from {ps : List (List UInt8)} {ks xs : List Int} (h : Got ps ks xs) : ps = opsT ks xs := by
  obtain ⟨h1, h2, h3⟩ := h
  have hl : xs.length = ks.length := by omega
  refine List.ext_getElem (by rw [opsT_length hl]; omega) fun j hj hj' => ?_
  have hk : j < ks.length := by omega
  have hx : j < xs.length := by omega
  have h4 := congrArg (fun l : List (Option (Int × Int)) => l[j]?) h3
  simp only [List.getElem?_map, List.getElem?_eq_getElem hj, List.getElem?_eq_getElem (show j < (ks.zip xs).length by rw [List.length_zip]; omega), Option.map_some, List.getElem_zip] at h4
  injection h4 with h4
  rw [opsT_at hl hj', List.getElem?_eq_getElem hk, List.getElem?_eq_getElem hx]
  exact (readOp_sound h4).2.symm
theorem sound_text {fs : List Frm} {s : List UInt8} {ks xs : List Int} {k : Nat} {f : Frm} (hr : Reads s ks xs) (hn : namedAt fs s ks = (k : Int)) (o : EncOk fs k xs f) : s = insT f.name.data.toList (opsT f.kinds xs) := by
  obtain ⟨g, hg, hp⟩ := idxOf_get hn
  rw [o.2.1] at hg
  injection hg with hg
  subst hg
  unfold hasB at hp
  rw [Bool.and_eq_true] at hp
  have hk : f.kinds = ks := by simpa using hp.2
  have hnm : f.name.data.toList = (Lib.cut s [32]).1 := by
    have h1 := eq_of_beq hp.1
    rw [ByteArray.toList_eq, ByteArray.toList_eq] at h1
    exact h1
  rw [hk, hnm]
  rcases e : Lib.cut s [32] with ⟨a, b, t⟩
  unfold Reads at hr
  rw [e] at hr
  dsimp only at hr ⊢
  rcases hr with ⟨rfl, rfl, rfl⟩ | ⟨rfl, hg⟩
  · exact cut_whole e
  · have hps := ops_from hg
    unfold insT
    rw [← hps, if_neg (pieces_ne _ _), join_pieces]
    exact cut_join e
end Go.Proofs.YtcngpciblbdgbaaGreatDoor

/-! The examples of the document on disassembly hold. Condition: the library's variables are laid. -/
namespace Go.Proofs.YtcngpciblbdgbaaGreatDoor
open Go Go.RowKit Go.Shelf
attribute [local go_sem] Oper.semAt_some
def bT : List UInt8 := [98, 32, 114, 53, 44, 32, 45, 50]
def fA : Frm := ⟨⟨#[97]⟩, 7, .slice none 0 0, []⟩
def fB (kv : Value) : Frm := ⟨⟨#[98]⟩, 9, kv, [1, 3]⟩
theorem ex_text : insT [98] (opsT [1, 3] [5, -2]) = bT := by kernel_rfl
theorem ex_ok (kv : Value) : EncOk (tinyF kv) 1 [5, -2] (fB kv) := ⟨tiny_fault kv, rfl, rfl, ex_in⟩
theorem ex_good0 (kv : Value) : GoodAt (tinyF kv) exP 0 fA [] := by
  refine ⟨?_, rfl, by decide, rfl, by kernel_rfl, rfl⟩
  show idxOf (codeB exP) (tinyF (.slice none 0 0)) = 0
  kernel_rfl
theorem ex_list (kv : Value) : listing (tinyF kv) exP exP.length 0 = [.ok 0 0 fA [], .ok 1 1 (fB kv) [5, -2]] := by
  obtain ⟨n1, e1, h1, -, -⟩ := listing_ok (fs := tinyF kv) (l := exP) (n := exP.length) (a := 0) (by decide) (by decide) (ex_good0 kv)
  have s0 : sizeOf fA.kinds = 1 := rfl
  rw [s0] at e1 h1
  obtain ⟨n2, e2, h2, -, -⟩ := listing_ok (fs := tinyF kv) (l := exP) (n := n1) (a := 0 + 1) (by decide) h1 (ex_good2 kv)
  rw [e1, e2, listing_end (by show ¬ (0 + 1 + sizeOf [1, 3] < exP.length); decide)]
  rfl
theorem encOk_fault {fs : List Frm} {k : Nat} {xs : List Int} {f : Frm} (o : EncOk fs k xs f) : encFault fs (k : Int) xs = (0, 0) := by
  obtain ⟨ht, hx, hl, ho⟩ := o
  have hk : k < fs.length := (List.getElem?_eq_some_iff.1 hx).1
  unfold encFault insFault
  rw [if_neg (by rw [ht]; decide), if_neg (by omega)]
  simp only [Int.toNat_natCast, hx]
  rw [if_neg (by simpa using hl), if_neg (by omega)]
/-- what Read gives for the text of an instruction -/
theorem read_own {fs : List Frm} {k : Nat} {xs : List Int} {f : Frm} (o : EncOk fs k xs f) {w w' : World} {e : Ending} (h : ReadPost fs (insT f.name.data.toList (opsT f.kinds xs)) w e w') :
    Below w.heap.size w w' ∧ ∃ (A : Option Addr) (c : Nat), e = .returned (.tuple #[.agg #[.int .i64 (k : Int), .slice A xs.length c], faultV (0, 0)]) ∧ w'.ownsRow w.heap.size 3 1 (.slice A xs.length c) xs.length (iv xs) := by
  obtain ⟨o1, o2, o3, -⟩ := own_text o
  obtain ⟨hb, ⟨-, hbad⟩ | ⟨ks', xs', k', f', A, c, h1, h2, -, h4, h5⟩⟩ := h
  · exfalso
    rcases hbad with hbad | ⟨ks', xs', h1, h2⟩
    · exact o2 hbad
    · obtain ⟨rfl, rfl⟩ := o1 _ _ h1
      rw [o3] at h2
      rcases h2 with h2 | ⟨p, i, hp, h2⟩
      · omega
      · rw [encOk_fault o] at h2
        injection h2 with h3 h4
        exact hp h3.symm
  · obtain ⟨rfl, rfl⟩ := o1 _ _ h1
    rw [o3] at h2
    have hk : k = k' := by omega
    subst hk
    exact ⟨hb, A, c, h4, h5⟩
theorem VarsAt.more {B B' : Nat} {w : World} (h : VarsAt B w) (hB : B ≤ B') : VarsAt B' w := ⟨h.tab, h.syn, h.rng, h.max, Nat.le_trans h.low hB⟩
set_option maxRecDepth 100000 in
set_option maxHeartbeats 2000000 in
theorem disExample_any (B : Nat) (w : World) (hB : B ≤ w.heap.size) (hV : VarsAt B w) : Calls Tryz.prog 8 #[] w fun e w' => e = .returned (.bool true) ∧ Below w.heap.size w w' := by
  have HV := Lib.hid hV
  have HB := Lib.hid hB
  clear hV hB
  go_enter Tryz.func8, Tryz.ntmps8
  go_wp2_with fail
  refine (tiny_any _).mono ?_
  rintro e W1 ⟨v1, kv1, rfl, hf1, hb1⟩
  obtain ⟨A1, n1, c1, rfl, _⟩ := hf1.opens
  have F1 := Lib.hid hf1
  clear hf1
  go_wp2_with fail
  have g1 := one_more W1 (.cells #[.int .u8 7, .int .u8 9, .int .u8 5, .int .u8 254] 5)
  refine (all_good _ _ _ (tinyF kv1) exP _ ((F1.out.below g1).more g1.size) (bytes_lit4 W1 7 9 5 254) (Nat.le_refl _) (tiny_fault kv1) (by decide)).mono ?_
  rintro e W2 ⟨hb2, ⟨a, pre, hpre, -⟩ | ⟨ys, lv, hys, hcore, rfl, hrow⟩⟩
  · exfalso
    rw [ex_list] at hpre
    have := congrArg List.getLast? hpre
    simp at this
  rw [ex_list] at hcore
  obtain ⟨R0, Y0, R1, Y1, rfl⟩ : ∃ R0 Y0 R1 Y1, ys = [.ok 0 0 fA [] R0 Y0, .ok 1 1 (fB kv1) [5, -2] R1 Y1] := by
    match ys, hcore with
    | [.ok a k f xs R Y, .ok a' k' f' xs' R' Y'], h =>
      simp only [List.map_cons, List.map_nil, Item.core, List.cons.injEq, Core.ok.injEq, and_true] at h
      obtain ⟨⟨rfl, rfl, rfl, rfl⟩, rfl, rfl, rfl, rfl⟩ := h
      exact ⟨R, Y, R', Y', rfl⟩
    | [.bad a Y], h => simp [Item.core] at h
    | [.ok a k f xs R Y, .bad a' Y'], h => simp [Item.core] at h
    | [], h => simp at h
    | [.ok a k f xs R Y], h => simp at h
    | .bad a Y :: _ :: _, h => simp [Item.core] at h
    | _ :: _ :: _ :: _, h => simp at h
  obtain ⟨A2, c2, rfl⟩ := row_is hrow
  obtain ⟨g2, rfl⟩ : ∃ g2, A2 = some ⟨g2, 0, none⟩ := by
    rcases hrow.2 with ⟨-, h0⟩ | ⟨g, cap, cur, h0, -⟩
    · simp at h0
    · injection h0 with h0
      exact ⟨g, h0⟩
  have l4 : W2.cell? ⟨g2, 4, none⟩ = some (.int .i64 1) := (hrow.cellAt 4 (by show 4 < 2 * 4; decide)).trans rfl
  have l5 : W2.cell? ⟨g2, 5, none⟩ = some (.int .i64 3) := (hrow.cellAt 5 (by show 5 < 2 * 4; decide)).trans (by show some (Value.int .i64 ((sizeOf [1, 3] : Nat) : Int)) = _; rfl)
  have hw2 : Below w.heap.size w W2 := hb1.trans ((g1.trans (hb2.mono g1.size)).mono hb1.size)
  simp only [List.length_cons, List.length_nil, Nat.zero_add, Nat.reduceAdd]
  clear hrow hys hcore hb1 g1 hb2 F1
  have L4 := Lib.hid l4
  have L5 := Lib.hid l5
  have HW2 := Lib.hid hw2
  clear l4 l5 hw2
  go_wp2_with fail
  refine (tiny_any _).mono ?_
  rintro e W3 ⟨v3, kv3, rfl, hf3, hb3⟩
  obtain ⟨A3, n3, c3, rfl, _⟩ := hf3.opens
  have F3 := Lib.hid hf3
  clear hf3
  go_wp2_with fail
  have a2 := one_more W2 (.cells #[.int .i64 0, .int .i64 0] 27)
  have g3 := one_more W3 (.cells #[.int .i64 5, .int .i64 (-2)] 3)
  have b3 : Below W2.heap.size W2 (W3.alloc (.cells #[.int .i64 5, .int .i64 (-2)] 3)) := (a2.trans (hb3.mono a2.size)).trans (g3.mono (Nat.le_trans a2.size hb3.size))
  have f2 : W3.cell? ⟨W2.heap.size, 0, none⟩ = some (.int .i64 0) := (hb3.cell (p := ⟨W2.heap.size, 0, none⟩) (by simp)).trans (by simp)
  have f2' : (W3.alloc (.cells #[.int .i64 5, .int .i64 (-2)] 3)).cell? ⟨W2.heap.size, 0, none⟩ = some (.int .i64 0) := (g3.cell (p := ⟨W2.heap.size, 0, none⟩) (block_lt_of_cell f2)).trans f2
  have hw3 := HW2.out.trans (b3.mono HW2.out.size)
  refine (text_ok _ _ _ (tinyF kv3) 1 (fB kv3) [5, -2] _ ((F3.out.below g3).more g3.size) (kinds_lit W3 5 (-2)) (Nat.le_refl _) ((HV.out.below (hw3.mono HB.out)).more (Nat.le_trans HB.out hw3.size)) (ex_ok kv3)).mono ?_
  rintro e W4 ⟨rfl, hb4⟩
  rw [show insT (fB kv3).name.data.toList (opsT (fB kv3).kinds [5, -2]) = bT from ex_text]
  have b4 := b3.trans (hb4.mono b3.size)
  have F2 := Lib.hid ((hb4.cell (p := ⟨W2.heap.size, 0, none⟩) (block_lt_of_cell f2')).trans f2')
  have B4 := Lib.hid b4
  clear a2 g3 b3 f2 f2' hw3 hb3 hb4 b4 F3
  go_wp2_with fail
  refine (tiny_any _).mono ?_
  rintro e W5 ⟨v5, kv5, rfl, hf5, hb5⟩
  obtain ⟨A5, n5, c5, rfl, _⟩ := hf5.opens
  have a4 := one_more W4 (.cells #[.int .i64 0, .int .i64 0] 27)
  have b5 := a4.trans (hb5.mono a4.size)
  have f4 : W5.cell? ⟨W4.heap.size, 0, none⟩ = some (.int .i64 0) := (hb5.cell (p := ⟨W4.heap.size, 0, none⟩) (by simp)).trans (by simp)
  have w5 : Below W2.heap.size W2 W5 := B4.out.trans (b5.mono B4.out.size)
  have hw5 := HW2.out.trans (w5.mono HW2.out.size)
  have C : Calls Tryz.prog 17 #[.slice A5 n5 c5, strV bT] W5 (ReadPost (tinyF kv5) (insT (fB kv5).name.data.toList (opsT (fB kv5).kinds [5, -2])) W5) := by
    rw [show insT (fB kv5).name.data.toList (opsT (fB kv5).kinds [5, -2]) = bT from ex_text]
    exact read_ok _ _ (tinyF kv5) bT W5 hf5 (Nat.le_refl _) ((HV.out.below (hw5.mono HB.out)).more (Nat.le_trans HB.out hw5.size)) (tiny_fault kv5) (by decide)
  have C' := C.mono fun e w' h => read_own (ex_ok kv5) h
  have HC := Lib.hid (show Calls Tryz.prog 17 #[.slice A5 n5 c5, .string ⟨#[98, 32, 114, 53, 44, 32, 45, 50]⟩] W5 _ from C')
  have F2' := Lib.hid ((b5.cell (p := ⟨W2.heap.size, 0, none⟩) (block_lt_of_cell F2.out)).trans F2.out)
  have F4 := Lib.hid f4
  have B5 := Lib.hid w5
  clear hf5 hb5 a4 b5 f4 w5 hw5 C C' F2 B4
  go_wp2_with fail
  refine HC.out.mono ?_
  rintro e W6 ⟨hb6, A6, c6, rfl, hrow6⟩
  dsimp only [List.length_cons, List.length_nil, Nat.zero_add, Nat.reduceAdd] at hrow6 ⊢
  have hk6 := kinds_of_row' hrow6 (by decide)
  have w6 := B5.out.trans (hb6.mono B5.out.size)
  have c1 : W6.cell? ⟨W2.heap.size, 0, none⟩ = some (.int .i64 0) := (hb6.cell (p := ⟨W2.heap.size, 0, none⟩) (block_lt_of_cell F2'.out)).trans F2'.out
  have c2' : W6.cell? ⟨W4.heap.size, 0, none⟩ = some (.int .i64 0) := (hb6.cell (p := ⟨W4.heap.size, 0, none⟩) (block_lt_of_cell F4.out)).trans F4.out
  have c4 : W6.cell? ⟨g2, 4, none⟩ = some (.int .i64 1) := (w6.cell (p := ⟨g2, 4, none⟩) (block_lt_of_cell L4.out)).trans L4.out
  have c5' : W6.cell? ⟨g2, 5, none⟩ = some (.int .i64 3) := (w6.cell (p := ⟨g2, 5, none⟩) (block_lt_of_cell L5.out)).trans L5.out
  have z1 := block_lt_of_cell c1
  have z2 := block_lt_of_cell c2'
  have z3 := block_lt_of_cell c4
  have b7 : Below W6.heap.size W6 (((W6.alloc (.cells #[.int .i64 1, .slice A6 2 c6] 34)).alloc (.cells #[.int .i64 0, .int .i64 0] 27)).alloc (.cells #[.int .i64 5, .int .i64 (-2)] 3)) := (two_more _ _ _).alloc (by simp; omega) _
  have hw6 := HW2.out.trans (w6.mono HW2.out.size)
  have HFN := Lib.hid (hw6.trans (b7.mono hw6.size))
  have K1 := Lib.hid ((hk6.below b7).more b7.size)
  have l2 := kinds_lit ((W6.alloc (.cells #[.int .i64 1, .slice A6 2 c6] 34)).alloc (.cells #[.int .i64 0, .int .i64 0] 27)) 5 (-2)
  rw [show ((W6.alloc (.cells #[.int .i64 1, .slice A6 2 c6] 34)).alloc (.cells #[.int .i64 0, .int .i64 0] 27)).heap.size = W6.heap.size + 1 + 1 by simp] at l2
  have K2 := Lib.hid l2
  clear hb6 hrow6 hk6 b7 hw6 w6 l2 HC F2' F4 B5 L4 L5 HW2
  go_wp2_with (go_at_call 22; refine (ints_any _ _ _ [5, -2] [5, -2] _ K1.out K2.out).mono ?_; rintro e W8 ⟨rfl, nd, rfl⟩; rw [decide_eq_true rfl])
  refine bodyPost_ret (v := .bool true) (by simp [results, Tryz.results8, go_sem]) rfl ⟨rfl, ?_⟩
  exact below_drewN HFN.out _
end Go.Proofs.YtcngpciblbdgbaaGreatDoor
