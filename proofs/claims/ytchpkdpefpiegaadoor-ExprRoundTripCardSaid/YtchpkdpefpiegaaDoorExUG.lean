/- The reference's ExprTokens: the tokens of a node. By induction on the node's number. -/
import Derived.Test.YtchpkdpefpiegaaDoorExUC
import Derived.Test.YtchpkdpefpiegaaDoorExLP
namespace Go.Proofs.YtchpkdpefpiegaaDoor.Tok
open Go Go.RowKit

theorem app_toks {ops : Array Oper} {rest : List Oper} {o : Oper} {a : Act} {Q : Exit → Act → World → Prop} {w w0 : World} (hgd : o.guard = none) (s x : Operand) (ho : o.op = .call { callee := .builtin .append, args := #[s, x], argTypes := #[22, 22] })
    (base : Nat) (v : Value) (xs : List Tk) (hs : a.eval s = v) (hown : w.ownsRow base 31 4 v xs.length (tkv xs)) (B : Nat) (xv : Value) (ts : List Tk) (hx : a.eval x = xv) (hl : TksAt B w xv ts) (hn : (xs.length + ts.length) * 40 ≤ 140737488355328) (hb : Below base w0 w) (hbase : base ≤ w.heap.size)
    (h : ∀ v' w', w'.ownsRow base 31 4 v' (xs ++ ts).length (tkv (xs ++ ts)) → Below base w0 w' → wpList Tryd.prog ops Q rest (a.put o.dst v') w') : wpList Tryd.prog ops Q (o :: rest) a w :=
  wp_append_toks hgd s x ho base v xs hs hown B xv ts hx hl hn hbase fun v' w' h6 h7 => h v' w' h6 (hb.grown h7 hbase (fun k e => (hown.lt k e).1))
def RefPost (ns : List Nd) (i : Nat) (w : World) (e : Ending) (W : World) : Prop := (∃ v', e = .returned v' ∧ W.ownsRow w.heap.size 31 4 v' (toksL ns i).length (tkv (toksL ns i))) ∧ Below w.heap.size w W
def RefIH (B : Nat) (v : Value) (ns : List Nd) (i : Nat) : Prop := ∀ (j : Nat) (y : Nd), j < i → ns[j]? = some y → ∀ (w : World), NdsAt B w v ns → B ≤ w.heap.size → Calls Tryd.prog 24 #[v, .int .i64 j] w (RefPost ns j w)
def allO : Obj := .cells #[strV [43], strV [45], strV [42], strV [47], strV [37], strV [60, 60], strV [62, 62], strV [38], strV [94], strV [124]] 9
theorem all_at (q : Nat) (h : q ≤ 9) : (#[strV [43], strV [45], strV [42], strV [47], strV [37], strV [60, 60], strV [62, 62], strV [38], strV [94], strV [124]] : Array Value)[q]? = some (strV (signL (q + 5))) := by
  have : q = 0 ∨ q = 1 ∨ q = 2 ∨ q = 3 ∨ q = 4 ∨ q = 5 ∨ q = 6 ∨ q = 7 ∨ q = 8 ∨ q = 9 := by omega
  rcases this with rfl | rfl | rfl | rfl | rfl | rfl | rfl | rfl | rfl | rfl <;> rfl
set_option maxRecDepth 100000 in
set_option maxHeartbeats 4000000 in
theorem rtok_1 (B : Nat) (v : Value) (ns : List Nd) (i : Nat) (x : Nd) (w : World) (h : NdsAt B w v ns) (hB : B ≤ w.heap.size) (hx : ns[i]? = some x) (hk : x.kind = 1) (ht : toksL ns i = [leafT x]) :
    Calls Tryd.prog 24 #[v, .int .i64 i] w (RefPost ns i w) := by
  obtain ⟨A, n, c, rfl, Hn, -, -, HC⟩ := h.opens
  have hin : i < n := by rw [← Hn.out]; exact (List.getElem?_eq_some_iff.1 hx).1
  obtain ⟨b1, o1, rfl, hb1, g1⟩ := HC.out (by omega)
  obtain ⟨p0, p1, p2, p3, p4⟩ := g1 i x hx
  have hb1w : b1 < w.heap.size := Nat.lt_of_lt_of_le hb1 hB
  have HT := Lib.hid ht
  obtain ⟨k, vl, nm, le, ri⟩ := x
  dsimp only at hk p0 p1 p2 p3 p4
  subst hk
  have hbl : Below w.heap.size w (w.alloc (.cells #[.int .i64 1, .int .i64 vl, strV nm, .int .i64 le, .int .i64 ri] 59)) := (Below.refl _ _).alloc (Nat.le_refl _) _
  have HO := Lib.hid (own_lit2 w (.cells #[.int .i64 1, .int .i64 vl, strV nm, .int .i64 le, .int .i64 ri] 59) w.heap.size [⟨2, [], vl, 0⟩] (Nat.le_refl _) (by show 1 ≤ 1000; decide))
  have HB := Lib.hid (hbl.alloc hbl.size (.cells (tkv [⟨2, [], vl, 0⟩]).toArray 31))
  clear h HC g1 hx ht hbl hb1 hB
  go_enter Tryd.func24, Tryd.ntmps24
  go_wp2_with fail
  go_ret
  refine ⟨⟨_, rfl, ?_⟩, HB.out⟩
  rw [HT.out]
  exact HO.out
set_option maxRecDepth 100000 in
set_option maxHeartbeats 4000000 in
theorem rtok_2 (B : Nat) (v : Value) (ns : List Nd) (i : Nat) (x : Nd) (w : World) (h : NdsAt B w v ns) (hB : B ≤ w.heap.size) (hx : ns[i]? = some x) (hk : x.kind = 2) (ht : toksL ns i = [leafT x]) :
    Calls Tryd.prog 24 #[v, .int .i64 i] w (RefPost ns i w) := by
  obtain ⟨A, n, c, rfl, Hn, -, -, HC⟩ := h.opens
  have hin : i < n := by rw [← Hn.out]; exact (List.getElem?_eq_some_iff.1 hx).1
  obtain ⟨b1, o1, rfl, hb1, g1⟩ := HC.out (by omega)
  obtain ⟨p0, p1, p2, p3, p4⟩ := g1 i x hx
  have hb1w : b1 < w.heap.size := Nat.lt_of_lt_of_le hb1 hB
  have HT := Lib.hid ht
  obtain ⟨k, vl, nm, le, ri⟩ := x
  dsimp only at hk p0 p1 p2 p3 p4
  subst hk
  have hbl : Below w.heap.size w (w.alloc (.cells #[.int .i64 2, .int .i64 vl, strV nm, .int .i64 le, .int .i64 ri] 59)) := (Below.refl _ _).alloc (Nat.le_refl _) _
  have HO := Lib.hid (own_lit2 w (.cells #[.int .i64 2, .int .i64 vl, strV nm, .int .i64 le, .int .i64 ri] 59) w.heap.size [⟨1, nm, 0, 0⟩] (Nat.le_refl _) (by show 1 ≤ 1000; decide))
  have HB := Lib.hid (hbl.alloc hbl.size (.cells (tkv [⟨1, nm, 0, 0⟩]).toArray 31))
  clear h HC g1 hx ht hbl hb1 hB
  go_enter Tryd.func24, Tryd.ntmps24
  go_wp2_with fail
  go_ret
  refine ⟨⟨_, rfl, ?_⟩, HB.out⟩
  rw [HT.out]
  exact HO.out
set_option maxRecDepth 100000 in
set_option maxHeartbeats 4000000 in
theorem rtok_3 (B : Nat) (v : Value) (ns : List Nd) (i : Nat) (x : Nd) (w : World) (h : NdsAt B w v ns) (hB : B ≤ w.heap.size) (hx : ns[i]? = some x) (hk : x.kind = 3) (IH : RefIH B v ns i) (hsh : ∀ x ∈ ns, x.name.length ≤ 140737488351232) (j : Nat) (hj : x.left = (j : Int)) (hji : j < i) (y : Nd) (hy : ns[j]? = some y) (hc : cntL ns j ≤ 8000) (ht : toksL ns i = sgS (signL x.kind.toNat) :: toksL ns j) :
    Calls Tryd.prog 24 #[v, .int .i64 i] w (RefPost ns i w) := by
  have HNA := Lib.hid h
  obtain ⟨A, n, c, rfl, Hn, -, -, HC⟩ := h.opens
  have hin : i < n := by rw [← Hn.out]; exact (List.getElem?_eq_some_iff.1 hx).1
  obtain ⟨b1, o1, rfl, hb1, g1⟩ := HC.out (by omega)
  obtain ⟨p0, p1, p2, p3, p4⟩ := g1 i x hx
  have hb1w : b1 < w.heap.size := Nat.lt_of_lt_of_le hb1 hB
  have HB0 := Lib.hid hB
  have HSH := Lib.hid (tok_short hsh (j + 1) j)
  have HLEN := Lib.hid (show (toksL ns j).length ≤ 8000 from hc)
  have HI := Lib.hid (IH j y hji hy)
  obtain ⟨k, vl, nm, le, ri⟩ := x
  dsimp only at hk hj p0 p1 p2 p3 p4 ht
  subst hk hj
  have HT := Lib.hid ht
  have hbl : Below w.heap.size w (w.alloc (.cells #[.int .i64 3, .int .i64 vl, strV nm, .int .i64 (j : Int), .int .i64 ri] 59)) := (Below.refl _ _).alloc (Nat.le_refl _) _
  have HO := Lib.hid (own_lit2 w (.cells #[.int .i64 3, .int .i64 vl, strV nm, .int .i64 (j : Int), .int .i64 ri] 59) w.heap.size [sgS [45]] (Nat.le_refl _) (by decide))
  have HB := Lib.hid (hbl.alloc hbl.size (.cells (tkv [sgS [45]]).toArray 31))
  clear h HC g1 hx ht hbl hb1 hB IH hsh hc hy
  go_enter Tryd.func24, Tryd.ntmps24
  go_wp2_with fail
  refine (HI.out _ (HNA.out.below (HB.out.mono HB0.out)) (Nat.le_trans HB0.out HB.out.size)).mono ?_
  rintro e W1 ⟨⟨v1, rfl, hr1⟩, hb1⟩
  have HO1 := Lib.hid (ownsRow_below HO.out hb1)
  have HB1 := Lib.hid (HB.out.trans (hb1.mono HB.out.size))
  have HT1 := Lib.hid (toks_of_rowB hr1 (by have := HLEN.out; omega) HSH.out)
  clear hr1 hb1
  go_wp2_with (at_builtin; refine app_toks rfl (.tmp 30) (.tmp 34) rfl w.heap.size _ [sgS [45]] rfl HO1.out _ _ _ rfl HT1.out (by have := HLEN.out; show (1 + _) * 40 ≤ _; omega) HB1.out HB1.out.size ?_; intro v2 W2 hr2 hb2; have HR2 := Lib.hid hr2; have HB2 := Lib.hid hb2; clear hr2 hb2)
  go_ret
  refine ⟨⟨_, rfl, ?_⟩, HB2.out⟩
  rw [HT.out]
  exact HR2.out
set_option maxRecDepth 100000 in
set_option maxHeartbeats 4000000 in
theorem rtok_4 (B : Nat) (v : Value) (ns : List Nd) (i : Nat) (x : Nd) (w : World) (h : NdsAt B w v ns) (hB : B ≤ w.heap.size) (hx : ns[i]? = some x) (hk : x.kind = 4) (IH : RefIH B v ns i) (hsh : ∀ x ∈ ns, x.name.length ≤ 140737488351232) (j : Nat) (hj : x.left = (j : Int)) (hji : j < i) (y : Nd) (hy : ns[j]? = some y) (hc : cntL ns j ≤ 8000) (ht : toksL ns i = sgS (signL x.kind.toNat) :: toksL ns j) :
    Calls Tryd.prog 24 #[v, .int .i64 i] w (RefPost ns i w) := by
  have HNA := Lib.hid h
  obtain ⟨A, n, c, rfl, Hn, -, -, HC⟩ := h.opens
  have hin : i < n := by rw [← Hn.out]; exact (List.getElem?_eq_some_iff.1 hx).1
  obtain ⟨b1, o1, rfl, hb1, g1⟩ := HC.out (by omega)
  obtain ⟨p0, p1, p2, p3, p4⟩ := g1 i x hx
  have hb1w : b1 < w.heap.size := Nat.lt_of_lt_of_le hb1 hB
  have HB0 := Lib.hid hB
  have HSH := Lib.hid (tok_short hsh (j + 1) j)
  have HLEN := Lib.hid (show (toksL ns j).length ≤ 8000 from hc)
  have HI := Lib.hid (IH j y hji hy)
  obtain ⟨k, vl, nm, le, ri⟩ := x
  dsimp only at hk hj p0 p1 p2 p3 p4 ht
  subst hk hj
  have HT := Lib.hid ht
  have hbl : Below w.heap.size w (w.alloc (.cells #[.int .i64 4, .int .i64 vl, strV nm, .int .i64 (j : Int), .int .i64 ri] 59)) := (Below.refl _ _).alloc (Nat.le_refl _) _
  have HO := Lib.hid (own_lit2 w (.cells #[.int .i64 4, .int .i64 vl, strV nm, .int .i64 (j : Int), .int .i64 ri] 59) w.heap.size [sgS [126]] (Nat.le_refl _) (by decide))
  have HB := Lib.hid (hbl.alloc hbl.size (.cells (tkv [sgS [126]]).toArray 31))
  clear h HC g1 hx ht hbl hb1 hB IH hsh hc hy
  go_enter Tryd.func24, Tryd.ntmps24
  go_wp2_with fail
  refine (HI.out _ (HNA.out.below (HB.out.mono HB0.out)) (Nat.le_trans HB0.out HB.out.size)).mono ?_
  rintro e W1 ⟨⟨v1, rfl, hr1⟩, hb1⟩
  have HO1 := Lib.hid (ownsRow_below HO.out hb1)
  have HB1 := Lib.hid (HB.out.trans (hb1.mono HB.out.size))
  have HT1 := Lib.hid (toks_of_rowB hr1 (by have := HLEN.out; omega) HSH.out)
  clear hr1 hb1
  go_wp2_with (at_builtin; refine app_toks rfl (.tmp 40) (.tmp 44) rfl w.heap.size _ [sgS [126]] rfl HO1.out _ _ _ rfl HT1.out (by have := HLEN.out; show (1 + _) * 40 ≤ _; omega) HB1.out HB1.out.size ?_; intro v2 W2 hr2 hb2; have HR2 := Lib.hid hr2; have HB2 := Lib.hid hb2; clear hr2 hb2)
  go_ret
  refine ⟨⟨_, rfl, ?_⟩, HB2.out⟩
  rw [HT.out]
  exact HR2.out
set_option maxRecDepth 100000 in
set_option maxHeartbeats 8000000 in
theorem rtok_bin (B : Nat) (v : Value) (ns : List Nd) (i : Nat) (x : Nd) (w : World) (h : NdsAt B w v ns) (hB : B ≤ w.heap.size) (hx : ns[i]? = some x) (q : Nat) (hq : q ≤ 9) (hk : x.kind = ((q + 5 : Nat) : Int)) (IH : RefIH B v ns i) (hsh : ∀ x ∈ ns, x.name.length ≤ 140737488351232) (j j2 : Nat) (hj : x.left = (j : Int)) (hj2 : x.right = (j2 : Int)) (hji : j < i) (hji2 : j2 < i) (y y2 : Nd) (hy : ns[j]? = some y) (hy2 : ns[j2]? = some y2)
    (hc : cntL ns j ≤ 8000) (hc2 : cntL ns j2 ≤ 8000) (ht : toksL ns i = sgS [40] :: (toksL ns j ++ sgS (signL (q + 5)) :: (toksL ns j2 ++ [sgS [41]]))) :
    Calls Tryd.prog 24 #[v, .int .i64 i] w (RefPost ns i w) := by
  have HNA := Lib.hid h
  obtain ⟨A, n, c, rfl, Hn, -, -, HC⟩ := h.opens
  have hin : i < n := by rw [← Hn.out]; exact (List.getElem?_eq_some_iff.1 hx).1
  obtain ⟨b1, o1, rfl, hb1, g1⟩ := HC.out (by omega)
  obtain ⟨p0, p1, p2, p3, p4⟩ := g1 i x hx
  have hb1w : b1 < w.heap.size := Nat.lt_of_lt_of_le hb1 hB
  have HB0 := Lib.hid hB
  have HSH := Lib.hid (And.intro (tok_short hsh (j + 1) j) (tok_short hsh (j2 + 1) j2))
  have HLEN := Lib.hid (show (toksL ns j).length ≤ 8000 ∧ (toksL ns j2).length ≤ 8000 from ⟨hc, hc2⟩)
  have HI := Lib.hid (And.intro (IH j y hji hy) (IH j2 y2 hji2 hy2))
  have HAL := Lib.hid (all_at q hq)
  have SGS := Lib.hid (show ∀ t ∈ [sgS (signL (q + 5))], t.text.length ≤ 140737488351232 from fun t ht => by
    rw [List.mem_singleton] at ht; subst ht
    have : ∀ q, q ≤ 9 → (signL (q + 5)).length ≤ 2 := by decide
    exact Nat.le_trans (this q hq) (by decide))
  obtain ⟨k, vl, nm, le, ri⟩ := x
  dsimp only at hk hj hj2 p0 p1 p2 p3 p4 ht
  subst hk hj hj2
  have HT := Lib.hid ht
  have n1 : (((q + 5 : Nat) : Int) == 1) = false := beq_eq_false_iff_ne.2 (by omega)
  have n2 : (((q + 5 : Nat) : Int) == 2) = false := beq_eq_false_iff_ne.2 (by omega)
  have n3 : (((q + 5 : Nat) : Int) == 3) = false := beq_eq_false_iff_ne.2 (by omega)
  have n4 : (((q + 5 : Nat) : Int) == 4) = false := beq_eq_false_iff_ne.2 (by omega)
  obtain ⟨K, hK⟩ : ∃ K : Int, K = ((q + 5 : Nat) : Int) := ⟨_, rfl⟩
  rw [← hK] at p0 n1 n2 n3 n4
  have hKq : wrap64 (K - 5) = (q : Int) := by rw [hK, show (((q + 5 : Nat) : Int) - 5) = (q : Int) by omega]; exact IntWalk.wrap64_in (q : Int) ⟨by omega, by omega⟩
  have hKs : K - 5 = (q : Int) := by omega
  have hKb : 5 ≤ K ∧ K ≤ 14 := by omega
  obtain ⟨hK5, hK14⟩ := hKb
  have hq10 : (q : Int) < 10 := by omega
  obtain ⟨N, hN⟩ : ∃ N, N = w.heap.size := ⟨_, rfl⟩
  have hbl : Below w.heap.size w (w.alloc (.cells #[.int .i64 K, .int .i64 vl, strV nm, .int .i64 (j : Int), .int .i64 (j2 : Int)] 59)) := (Below.refl _ _).alloc (Nat.le_refl _) _
  have hbl2 := hbl.alloc hbl.size allO
  obtain ⟨V, hV⟩ : ∃ V, V = ((w.alloc (.cells #[.int .i64 K, .int .i64 vl, strV nm, .int .i64 (j : Int), .int .i64 (j2 : Int)] 59)).alloc allO) := ⟨_, rfl⟩
  rw [← hV] at hbl2
  have hsz : V.heap.size = w.heap.size + 2 := by rw [hV]; simp
  have HND := Lib.hid (show V.heap[w.heap.size]? = some (.cells #[.int .i64 K, .int .i64 vl, strV nm, .int .i64 (j : Int), .int .i64 (j2 : Int)] 59 (0, 0)) by rw [hV]; exact heap_allocL _ (heap_alloc_new _ _))
  have HAO := Lib.hid (show V.heap[w.heap.size + 1]? = some allO by rw [hV]; exact heap_newM _ _ _)
  have HW := Lib.hid hbl2
  have HSZ := Lib.hid hsz
  have HO := Lib.hid (show (V.alloc (.cells (tkv [sgS [40]]).toArray 31)).ownsRow (w.heap.size + 2) 31 4 (.slice (some ⟨w.heap.size + 2, 0, none⟩) 1 1) 1 (tkv [sgS [40]]) by have h := own_lit V V.heap.size [sgS [40]] (Nat.le_refl _) (by decide); rw [hsz] at h; exact h)
  have HLV := Lib.hid (show Below (w.heap.size + 2) V (V.alloc (.cells (tkv [sgS [40]]).toArray 31)) from (Below.refl _ _).alloc (Nat.le_of_eq hsz.symm) _)
  have HVQ := Lib.hid hV
  have HKQ := Lib.hid hK
  have hVz := Lib.hid (show w.heap.size + 2 ≤ (V.alloc (.cells (tkv [sgS [40]]).toArray 31)).heap.size by rw [World.size_alloc, hsz]; omega)
  have hVw : w.heap.size ≤ w.heap.size + 2 := by omega
  have KN := Lib.hid (show ∀ W', Below (w.heap.size + 2) V W' → ((W'.cell? ⟨w.heap.size, 0, none⟩ = some (.int .i64 K) ∧ W'.cell? ⟨w.heap.size, 3, none⟩ = some (.int .i64 (j : Int)) ∧ W'.cell? ⟨w.heap.size, 4, none⟩ = some (.int .i64 (j2 : Int))) ∧ W'.cell? ⟨w.heap.size + 1, q, none⟩ = some (strV (signL (q + 5)))) from fun W' hb => by
    obtain ⟨⟨a0, -, -⟩, ⟨a3, a4⟩, -⟩ := nd_cells (x := ⟨K, vl, nm, (j : Int), (j2 : Int)⟩) ((hb.block w.heap.size (by omega)).trans HND.out)
    obtain ⟨c1, -, -⟩ := cells_of ((hb.block (w.heap.size + 1) (by omega)).trans HAO.out)
    exact ⟨⟨a0, a3, a4⟩, c1 q _ HAL.out⟩)
  unfold allO at HVQ
  have hKw := Lib.hid (And.intro hKq hKs)
  clear h HC g1 hx ht hbl hbl2 hb1 hB IH hsh hc hc2 hy hy2 hV hK hKq hKs
  go_enter Tryd.func24, Tryd.ntmps24
  go_wp2_with fail
  rw [show ((w.alloc (.cells #[.int .i64 K, .int .i64 vl, .string { data := nm.toArray }, .int .i64 (j : Int), .int .i64 (j2 : Int)] 59)).alloc (.cells #[.string { data := #[43] }, .string { data := #[45] }, .string { data := #[42] }, .string { data := #[47] }, .string { data := #[37] }, .string { data := #[60, 60] }, .string { data := #[62, 62] }, .string { data := #[38] }, .string { data := #[94] }, .string { data := #[124] }] 9)) = V from HVQ.out.symm]
  refine (HI.out.1 (V.alloc (.cells (tkv [sgS [40]]).toArray 31)) (HNA.out.below ((HW.out.trans (HLV.out.mono hVw)).mono HB0.out)) (Nat.le_trans HB0.out (HW.out.trans (HLV.out.mono hVw)).size)).mono ?_
  rintro e W1 ⟨⟨v1, rfl, hr1⟩, hb1⟩
  have HO1 := Lib.hid (ownsRow_below HO.out hb1)
  have HB1 := Lib.hid (HLV.out.trans (hb1.mono hVz.out))
  have HT1 := Lib.hid (toks_of_rowB hr1 (by have := HLEN.out.1; omega) HSH.out.1)
  have hw64 := hKw.out.1
  have hKsub := hKw.out.2
  clear hr1 hb1
  go_wp2_with (first | (at_builtin; refine app_toks rfl (.tmp 48) (.tmp 52) rfl (w.heap.size + 2) _ [sgS [40]] rfl HO1.out _ _ _ rfl HT1.out (by have := HLEN.out.1; show (1 + _) * 40 ≤ _; omega) HB1.out (Nat.le_trans (Nat.le_of_eq HSZ.out.symm) HB1.out.size) ?_; intro v2 W2 hr2 hb2; obtain ⟨⟨a0, a3, a4⟩, a5⟩ := KN.out _ hb2; have hz2 := block_lt_of_cell a0; have hz3 := block_lt_of_cell a5; have HR2 := Lib.hid hr2; have HB2 := Lib.hid hb2; clear hr2 hb2) | (at_builtin; refine app_toks rfl (.tmp 54) (.tmp 62) rfl (w.heap.size + 2) v2 ([sgS [40]] ++ toksL ns j) rfl (HR2.out.alloc _) _ _ [sgS (signL (q + 5))] rfl (tks_new W2 [sgS (signL (q + 5))] (by show 1 ≤ 1000; decide) SGS.out) (by have := HLEN.out.1; rw [List.length_append]; show (1 + _ + 1) * 40 ≤ _; omega) (HB2.out.alloc (Nat.le_trans (Nat.le_of_eq HSZ.out.symm) HB2.out.size) _) (by rw [World.size_alloc]; exact Nat.le_succ_of_le (Nat.le_trans (Nat.le_of_eq HSZ.out.symm) HB2.out.size)) ?_; intro v3 W3 hr3 hb3; obtain ⟨⟨d0, d3, d4⟩, -⟩ := KN.out _ hb3; have HR3 := Lib.hid hr3; have HB3 := Lib.hid hb3; clear hr3 hb3))
  have hW3 := HW.out.trans (HB3.out.mono hVw)
  have h23 : w.heap.size + 2 ≤ W3.heap.size := Nat.le_trans (Nat.le_of_eq HSZ.out.symm) HB3.out.size
  have HW3 := Lib.hid hW3
  clear hW3 d0 d3 d4 a0 a3 a4 a5 hz2 hz3
  refine (HI.out.2 W3 (HNA.out.below (HW3.out.mono HB0.out)) (Nat.le_trans HB0.out HW3.out.size)).mono ?_
  rintro e W4 ⟨⟨v4, rfl, hr4⟩, hb4⟩
  have HO4 := Lib.hid (ownsRow_below HR3.out hb4)
  have HB4 := Lib.hid (HB3.out.trans (hb4.mono h23))
  have HT4 := Lib.hid (toks_of_rowB hr4 (by have := HLEN.out.2; omega) HSH.out.2)
  clear hr4 hb4
  go_wp2_with (first | (at_builtin; refine app_toks rfl (.tmp 64) (.tmp 68) rfl (w.heap.size + 2) v3 ([sgS [40]] ++ toksL ns j ++ [sgS (signL (q + 5))]) rfl HO4.out _ _ _ rfl HT4.out (by have h1 := HLEN.out.1; have h2 := HLEN.out.2; rw [List.length_append, List.length_append]; show (1 + _ + 1 + _) * 40 ≤ _; omega) HB4.out (Nat.le_trans (Nat.le_of_eq HSZ.out.symm) HB4.out.size) ?_; intro v5 W5 hr5 hb5; have HR5 := Lib.hid hr5; have HB5 := Lib.hid hb5; clear hr5 hb5) | (at_builtin; refine app_toks rfl (.tmp 70) (.tmp 72) rfl (w.heap.size + 2) v5 ([sgS [40]] ++ toksL ns j ++ [sgS (signL (q + 5))] ++ toksL ns j2) rfl (HR5.out.alloc _) _ _ [sgS [41]] rfl (tks_new W5 [sgS [41]] (by decide) (fun t ht => by rw [List.mem_singleton] at ht; subst ht; show 1 ≤ _; decide)) (by have h1 := HLEN.out.1; have h2 := HLEN.out.2; rw [List.length_append, List.length_append, List.length_append]; show (1 + _ + 1 + _ + 1) * 40 ≤ _; omega) (HB5.out.alloc (Nat.le_trans (Nat.le_of_eq HSZ.out.symm) HB5.out.size) _) (by rw [World.size_alloc]; exact Nat.le_succ_of_le (Nat.le_trans (Nat.le_of_eq HSZ.out.symm) HB5.out.size)) ?_; intro v6 W6 hr6 hb6; have HR6 := Lib.hid hr6; have HB6 := Lib.hid hb6; clear hr6 hb6))
  go_ret
  refine ⟨⟨_, rfl, ?_⟩, HW.out.trans (HB6.out.mono hVw)⟩
  have h6 := ownsRow_base (B' := w.heap.size) HR6.out hVw
  rw [HT.out]
  simp only [List.append_assoc, List.cons_append, List.nil_append] at h6
  exact h6
/-- the reference's tokens of a node -/
theorem refToks_any (B : Nat) (v : Value) (ns : List Nd) (hF : Fine ns) (hS : ∀ x ∈ ns, x.name.length ≤ 140737488351232) (hc : ∀ j, j < ns.length → cntL ns j ≤ 8000) : ∀ i, RefIH B v ns i := by
  intro i
  induction i with
  | zero => intro j y hj; omega
  | succ i ih =>
    intro j y hj hy w h hB
    by_cases hji : j < i
    · exact ih j y hji hy w h hB
    · obtain rfl : j = i := by omega
      obtain ⟨⟨k1, k14⟩, hlf, hrt⟩ := hF j y hy
      have hjl := (List.getElem?_eq_some_iff.1 hy).1
      by_cases k3 : y.kind < 3
      · have ht := toks_leaf hF hy k3
        by_cases e1 : y.kind = 1
        · exact rtok_1 B v ns j y w h hB hy e1 ht
        · exact rtok_2 B v ns j y w h hB hy (by omega) ht
      · obtain ⟨l1, l2⟩ := hlf (by omega)
        obtain ⟨a, ha⟩ : ∃ a : Nat, y.left = a := ⟨y.left.toNat, by omega⟩
        have hat : y.left.toNat = a := by omega
        obtain ⟨ya, hya⟩ : ∃ ya, ns[a]? = some ya := ⟨_, List.getElem?_eq_getElem (by omega)⟩
        by_cases k5 : y.kind < 5
        · have ht := toks_unary hF hy (by omega) k5
          rw [hat] at ht
          by_cases e3 : y.kind = 3
          · exact rtok_3 B v ns j y w h hB hy e3 ih hS a ha (by omega) ya hya (hc a (by omega)) ht
          · exact rtok_4 B v ns j y w h hB hy (by omega) ih hS a ha (by omega) ya hya (hc a (by omega)) ht
        · obtain ⟨r1, r2⟩ := hrt (by omega)
          obtain ⟨b, hb⟩ : ∃ b : Nat, y.right = b := ⟨y.right.toNat, by omega⟩
          have hbt : y.right.toNat = b := by omega
          obtain ⟨yb, hyb⟩ : ∃ yb, ns[b]? = some yb := ⟨_, List.getElem?_eq_getElem (by omega)⟩
          obtain ⟨q, hq⟩ : ∃ q : Nat, y.kind = ((q + 5 : Nat) : Int) := ⟨(y.kind - 5).toNat, by omega⟩
          have ht := toks_binary hF hy (by omega)
          rw [hat, hbt, hq, Int.toNat_natCast] at ht
          exact rtok_bin B v ns j y w h hB hy q (by omega) hq ih hS a b ha hb (by omega) (by omega) ya yb hya hyb (hc a (by omega)) (hc b (by omega)) ht
end Go.Proofs.YtchpkdpefpiegaaDoor.Tok
