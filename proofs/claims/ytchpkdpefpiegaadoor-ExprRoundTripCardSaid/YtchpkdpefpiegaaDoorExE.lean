/- Contract of operand where it reads a sign in front of an operand, or a parenthesis. Conditions: the readings. -/
import Derived.Test.YtchpkdpefpiegaaDoorExD
namespace Go.Proofs.YtchpkdpefpiegaaDoor.Tok
open Go Go.RowKit

set_option maxRecDepth 100000 in
set_option maxHeartbeats 4000000 in
theorem op_un (X : Nat) (tv : Value) (ts : List Tk) (s : St) (w : World) (hI : Inv X tv ts w) (hS : PSt X tv s w) (hG : Good ts s) (hL : ts.length ≤ 9223372036854775800) (f : Nat) (hO : OpC X tv ts f) (hk1 : (nextT ts s.pos).kind ≠ 1) (hk2 : (nextT ts s.pos).kind ≠ 2) (hn : 0 < kindL (nextT ts s.pos).text 1) (hlt : s.pos < ts.length) (hd : s.dep ≠ 8) (hf : 2 * (ts.length - s.pos) ≤ f) :
    Calls Tryd.prog 46 #[.pointer (some ⟨X, 0, none⟩)] w (PPost X tv (outR (unR (kindL (nextT ts s.pos).text 1) (opS ts f (inS s)))) w) := by
  have HL := Lib.hid hL
  clear hL
  have hX := hS.lt
  have hb0 := ptrW_below w X
  have C1 := Lib.hid (next_any X tv ts s (ptrW w X) (hI.up hb0 (Nat.le_of_lt hX)).1 (hS.up hb0) hG.1)
  have HBX := Lib.hid (show (ptrW w X).heap[w.heap.size]? = some (.cells #[.pointer (some ⟨X, 0, none⟩)] 81 (0, 0)) from heap_alloc_new w _)
  have HI := Lib.hid hI
  have HS := Lib.hid hS
  have HG := Lib.hid hG
  have H0 := Lib.hid hb0
  have HXw := Lib.hid hX
  have HLT := Lib.hid hlt
  have HD := Lib.hid hd
  have HO := Lib.hid hO
  have HF := Lib.hid hf
  generalize nextT ts s.pos = t at C1 hk1 hk2 hn ⊢
  obtain ⟨k, txt, v, p⟩ := t
  dsimp only at hk1 hk2 hn ⊢
  have hk1 : (k == 1) = false := beq_eq_false_iff_ne.2 hk1
  have hk2 : (k == 2) = false := beq_eq_false_iff_ne.2 hk2
  have hn2 : 0 < (kindL txt 1 : Int) := by omega
  unfold ptrW at C1 HBX H0
  unfold Tk.v at C1
  dsimp only at C1
  clear hI hS hG hb0
  go_enter Tryd.func46, Tryd.ntmps46
  go_wp2_with fail
  refine C1.out.mono ?_
  rintro e W1 ⟨rfl, hb1⟩
  have hX1 := (hb1.block _ (lt_of_block HBX.out)).trans HBX.out
  have H1 := Lib.hid (H0.out.trans (hb1.mono H0.out.size))
  have C2 := Lib.hid (kindOf_any txt 1 (tokBW W1 ⟨k, txt, v, p⟩) ((HI.out.up H1.out (Nat.le_of_lt HXw.out)).2.1.up (tokBW_below W1 _)))
  have h2 := (H1.out.trans ((tokBW_below W1 ⟨k, txt, v, p⟩).mono H1.out.size))
  have hx2 := heap_allocL (.cells #[.int .i64 k, strV txt, .int .i64 v, .int .i64 p] 31) hX1
  have ht2 : (tokBW W1 ⟨k, txt, v, p⟩).heap[W1.heap.size]? = some (.cells #[.int .i64 k, strV txt, .int .i64 v, .int .i64 p] 31 (0, 0)) := heap_alloc_new W1 _
  unfold tokBW at C2 h2 ht2
  have H2 := Lib.hid h2
  have HX2 := Lib.hid hx2
  have HT2 := Lib.hid ht2
  clear hb1 C1 h2 hx2 ht2 hX1
  go_wp2_with fail
  refine C2.out.mono ?_
  rintro e W2 ⟨rfl, hb2⟩
  have hx3 := (hb2.block _ (lt_of_block HX2.out)).trans HX2.out
  have ht3 := (hb2.block _ (lt_of_block HT2.out)).trans HT2.out
  have H3 := Lib.hid (H2.out.trans (hb2.mono H2.out.size))
  have HS3 := Lib.hid (HS.out.up H3.out)
  have HI3 := Lib.hid (HI.out.up H3.out (Nat.le_of_lt HXw.out))
  obtain ⟨nv, -, c1, c2, -, f1, f2, -, hX3, -⟩ := HS3.out.opens
  have e1 := (cells_of hx3).1 0 _ rfl
  have e2 := (cells_of hx3).2.2
  have t0 := (cells_of ht3).1 0 _ rfl
  have t1 := (cells_of ht3).1 1 _ rfl
  have t2 := (cells_of ht3).1 2 _ rfl
  have t3 := (cells_of ht3).2.2
  have HX3 := Lib.hid hx3
  have HT3 := Lib.hid ht3
  have hpos := HG.out.1
  have hlim := HL.out
  clear hx3 ht3 hb2 C2
  have hb4 := intW_below W2 (kindL txt 1)
  have h4 := (PF.of H3.out (Nat.le_of_lt HXw.out)).up hb4 (Nat.le_of_lt hX3)
  have hst := HS3.out.up hb4
  have hiv := HI3.out.up hb4 (Nat.le_of_lt hX3)
  have k4 : PF X W2 (intW W2 (kindL txt 1)) := PF.of hb4 (Nat.le_of_lt hX3)
  have hkx := k4.kept HX3.out (by omega) (by decide)
  have hk4 : (intW W2 (kindL txt 1)).heap[W2.heap.size]? = some (.cells #[.int .i64 (kindL txt 1 : Int)] 3 (0, 0)) := heap_alloc_new W2 _
  have C3 := Lib.hid (cont_un X tv ts f HO.out s (kindL txt 1) _ hiv hst HG.out HL.out HLT.out HD.out HF.out w.heap.size W2.heap.size hkx hk4 (by omega) (by omega))
  have H4 := Lib.hid h4
  unfold intW at C3 H4
  clear hb4 h4 hst hiv k4 hkx hk4 hO hf hd hlt
  go_wp2_with fail
  refine C3.out.mono ?_
  rintro e W3 ⟨rfl, hS3, hF3⟩
  have HR := Lib.hid (And.intro hS3 (H4.out.trans hF3))
  clear hS3 hF3 C3
  go_wp2_with fail
  go_ret
  exact ⟨rfl, HR.out.1, HR.out.2⟩
set_option maxRecDepth 100000 in
set_option maxHeartbeats 4000000 in
theorem op_un8 (X : Nat) (tv : Value) (ts : List Tk) (s : St) (w : World) (hI : Inv X tv ts w) (hS : PSt X tv s w) (hG : Good ts s) (hL : ts.length ≤ 9223372036854775800) (hk1 : (nextT ts s.pos).kind ≠ 1) (hk2 : (nextT ts s.pos).kind ≠ 2) (hn : 0 < kindL (nextT ts s.pos).text 1) (hlt : s.pos < ts.length) (hd : s.dep = 8) :
    Calls Tryd.prog 46 #[.pointer (some ⟨X, 0, none⟩)] w (PPost X tv ((10, s)) w) := by
  have HL := Lib.hid hL
  clear hL
  have hX := hS.lt
  have hb0 := ptrW_below w X
  have C1 := Lib.hid (next_any X tv ts s (ptrW w X) (hI.up hb0 (Nat.le_of_lt hX)).1 (hS.up hb0) hG.1)
  have HBX := Lib.hid (show (ptrW w X).heap[w.heap.size]? = some (.cells #[.pointer (some ⟨X, 0, none⟩)] 81 (0, 0)) from heap_alloc_new w _)
  have HI := Lib.hid hI
  have HS := Lib.hid hS
  have HG := Lib.hid hG
  have H0 := Lib.hid hb0
  have HXw := Lib.hid hX
  have HLT := Lib.hid hlt
  have HD := Lib.hid hd
  generalize nextT ts s.pos = t at C1 hk1 hk2 hn ⊢
  obtain ⟨k, txt, v, p⟩ := t
  dsimp only at hk1 hk2 hn ⊢
  have hk1 : (k == 1) = false := beq_eq_false_iff_ne.2 hk1
  have hk2 : (k == 2) = false := beq_eq_false_iff_ne.2 hk2
  have hn2 : 0 < (kindL txt 1 : Int) := by omega
  unfold ptrW at C1 HBX H0
  unfold Tk.v at C1
  dsimp only at C1
  clear hI hS hG hb0
  go_enter Tryd.func46, Tryd.ntmps46
  go_wp2_with fail
  refine C1.out.mono ?_
  rintro e W1 ⟨rfl, hb1⟩
  have hX1 := (hb1.block _ (lt_of_block HBX.out)).trans HBX.out
  have H1 := Lib.hid (H0.out.trans (hb1.mono H0.out.size))
  have C2 := Lib.hid (kindOf_any txt 1 (tokBW W1 ⟨k, txt, v, p⟩) ((HI.out.up H1.out (Nat.le_of_lt HXw.out)).2.1.up (tokBW_below W1 _)))
  have h2 := (H1.out.trans ((tokBW_below W1 ⟨k, txt, v, p⟩).mono H1.out.size))
  have hx2 := heap_allocL (.cells #[.int .i64 k, strV txt, .int .i64 v, .int .i64 p] 31) hX1
  have ht2 : (tokBW W1 ⟨k, txt, v, p⟩).heap[W1.heap.size]? = some (.cells #[.int .i64 k, strV txt, .int .i64 v, .int .i64 p] 31 (0, 0)) := heap_alloc_new W1 _
  unfold tokBW at C2 h2 ht2
  have H2 := Lib.hid h2
  have HX2 := Lib.hid hx2
  have HT2 := Lib.hid ht2
  clear hb1 C1 h2 hx2 ht2 hX1
  go_wp2_with fail
  refine C2.out.mono ?_
  rintro e W2 ⟨rfl, hb2⟩
  have hx3 := (hb2.block _ (lt_of_block HX2.out)).trans HX2.out
  have ht3 := (hb2.block _ (lt_of_block HT2.out)).trans HT2.out
  have H3 := Lib.hid (H2.out.trans (hb2.mono H2.out.size))
  have HS3 := Lib.hid (HS.out.up H3.out)
  have HI3 := Lib.hid (HI.out.up H3.out (Nat.le_of_lt HXw.out))
  obtain ⟨nv, -, c1, c2, -, f1, f2, -, hX3, -⟩ := HS3.out.opens
  have e1 := (cells_of hx3).1 0 _ rfl
  have e2 := (cells_of hx3).2.2
  have t0 := (cells_of ht3).1 0 _ rfl
  have t1 := (cells_of ht3).1 1 _ rfl
  have t2 := (cells_of ht3).1 2 _ rfl
  have t3 := (cells_of ht3).2.2
  have HX3 := Lib.hid hx3
  have HT3 := Lib.hid ht3
  have hpos := HG.out.1
  have hlim := HL.out
  clear hx3 ht3 hb2 C2
  have hb4 := intW_below W2 (kindL txt 1)
  have h4 := (PF.of H3.out (Nat.le_of_lt HXw.out)).up hb4 (Nat.le_of_lt hX3)
  have hst := HS3.out.up hb4
  have hiv := HI3.out.up hb4 (Nat.le_of_lt hX3)
  have k4 : PF X W2 (intW W2 (kindL txt 1)) := PF.of hb4 (Nat.le_of_lt hX3)
  have hkx := k4.kept HX3.out (by omega) (by decide)
  have hk4 : (intW W2 (kindL txt 1)).heap[W2.heap.size]? = some (.cells #[.int .i64 (kindL txt 1 : Int)] 3 (0, 0)) := heap_alloc_new W2 _
  have C3 := Lib.hid (full_any X tv (.func (.func 73) #[] #[.pointer (some ⟨w.heap.size, 0, none⟩), .pointer (some ⟨W2.heap.size, 0, none⟩)]) s _ hst HD.out)
  have H4 := Lib.hid h4
  unfold intW at C3 H4
  clear hb4 h4 hst hiv k4 hkx hk4 hd hlt
  go_wp2_with fail
  refine C3.out.mono ?_
  rintro e W3 ⟨rfl, hS3, hF3⟩
  have HR := Lib.hid (And.intro hS3 (H4.out.trans hF3))
  clear hS3 hF3 C3
  go_wp2_with fail
  go_ret
  exact ⟨rfl, HR.out.1, HR.out.2⟩
set_option maxRecDepth 100000 in
set_option maxHeartbeats 4000000 in
theorem op_par (X : Nat) (tv : Value) (ts : List Tk) (s : St) (w : World) (hI : Inv X tv ts w) (hS : PSt X tv s w) (hG : Good ts s) (hL : ts.length ≤ 9223372036854775800) (f : Nat) (hO : ExC X tv ts f) (hk1 : (nextT ts s.pos).kind ≠ 1) (hk2 : (nextT ts s.pos).kind ≠ 2) (hp : (nextT ts s.pos).text = [40]) (hlt : s.pos < ts.length) (hd : s.dep ≠ 8) (hf : 2 * (ts.length - s.pos) ≤ f) :
    Calls Tryd.prog 46 #[.pointer (some ⟨X, 0, none⟩)] w (PPost X tv (outR (parR ts (exS ts f (inS s) 1))) w) := by
  have HL := Lib.hid hL
  clear hL
  have hX := hS.lt
  have hb0 := ptrW_below w X
  have C1 := Lib.hid (next_any X tv ts s (ptrW w X) (hI.up hb0 (Nat.le_of_lt hX)).1 (hS.up hb0) hG.1)
  have HBX := Lib.hid (show (ptrW w X).heap[w.heap.size]? = some (.cells #[.pointer (some ⟨X, 0, none⟩)] 81 (0, 0)) from heap_alloc_new w _)
  have HI := Lib.hid hI
  have HS := Lib.hid hS
  have HG := Lib.hid hG
  have H0 := Lib.hid hb0
  have HXw := Lib.hid hX
  have HLT := Lib.hid hlt
  have HD := Lib.hid hd
  have HO := Lib.hid hO
  have HF := Lib.hid hf
  generalize nextT ts s.pos = t at C1 hk1 hk2 hp ⊢
  obtain ⟨k, txt, v, p⟩ := t
  dsimp only at hk1 hk2 hp ⊢
  have hk1 : (k == 1) = false := beq_eq_false_iff_ne.2 hk1
  have hk2 : (k == 2) = false := beq_eq_false_iff_ne.2 hk2
  subst hp
  have hn2 : ¬ 0 < (kindL [40] 1 : Int) := by decide
  unfold ptrW at C1 HBX H0
  unfold Tk.v at C1
  dsimp only at C1
  clear hI hS hG hb0
  go_enter Tryd.func46, Tryd.ntmps46
  go_wp2_with fail
  refine C1.out.mono ?_
  rintro e W1 ⟨rfl, hb1⟩
  have hX1 := (hb1.block _ (lt_of_block HBX.out)).trans HBX.out
  have H1 := Lib.hid (H0.out.trans (hb1.mono H0.out.size))
  have C2 := Lib.hid (kindOf_any [40] 1 (tokBW W1 ⟨k, [40], v, p⟩) ((HI.out.up H1.out (Nat.le_of_lt HXw.out)).2.1.up (tokBW_below W1 _)))
  have h2 := (H1.out.trans ((tokBW_below W1 ⟨k, [40], v, p⟩).mono H1.out.size))
  have hx2 := heap_allocL (.cells #[.int .i64 k, strV [40], .int .i64 v, .int .i64 p] 31) hX1
  have ht2 : (tokBW W1 ⟨k, [40], v, p⟩).heap[W1.heap.size]? = some (.cells #[.int .i64 k, strV [40], .int .i64 v, .int .i64 p] 31 (0, 0)) := heap_alloc_new W1 _
  unfold tokBW at C2 h2 ht2
  have H2 := Lib.hid h2
  have HX2 := Lib.hid hx2
  have HT2 := Lib.hid ht2
  clear hb1 C1 h2 hx2 ht2 hX1
  go_wp2_with fail
  refine C2.out.mono ?_
  rintro e W2 ⟨rfl, hb2⟩
  have hx3 := (hb2.block _ (lt_of_block HX2.out)).trans HX2.out
  have ht3 := (hb2.block _ (lt_of_block HT2.out)).trans HT2.out
  have H3 := Lib.hid (H2.out.trans (hb2.mono H2.out.size))
  have HS3 := Lib.hid (HS.out.up H3.out)
  have HI3 := Lib.hid (HI.out.up H3.out (Nat.le_of_lt HXw.out))
  obtain ⟨nv, -, c1, c2, -, f1, f2, -, hX3, -⟩ := HS3.out.opens
  have e1 := (cells_of hx3).1 0 _ rfl
  have e2 := (cells_of hx3).2.2
  have t0 := (cells_of ht3).1 0 _ rfl
  have t1 := (cells_of ht3).1 1 _ rfl
  have t2 := (cells_of ht3).1 2 _ rfl
  have t3 := (cells_of ht3).2.2
  have HX3 := Lib.hid hx3
  have HT3 := Lib.hid ht3
  have hpos := HG.out.1
  have hlim := HL.out
  clear hx3 ht3 hb2 C2
  have hb4 := intW_below W2 (kindL [40] 1)
  have h4 := (PF.of H3.out (Nat.le_of_lt HXw.out)).up hb4 (Nat.le_of_lt hX3)
  have hst := HS3.out.up hb4
  have hiv := HI3.out.up hb4 (Nat.le_of_lt hX3)
  have k4 : PF X W2 (intW W2 (kindL [40] 1)) := PF.of hb4 (Nat.le_of_lt hX3)
  have hkx := k4.kept HX3.out (by omega) (by decide)
  have hk4 : (intW W2 (kindL [40] 1)).heap[W2.heap.size]? = some (.cells #[.int .i64 (kindL [40] 1 : Int)] 3 (0, 0)) := heap_alloc_new W2 _
  have C3 := Lib.hid (cont_par X tv ts f HO.out s _ hiv hst HG.out HL.out HLT.out HD.out HF.out)
  have H4 := Lib.hid h4
  unfold intW at C3 H4
  clear hb4 h4 hst hiv k4 hkx hk4 hO hf hd hlt
  go_wp2_with fail
  refine C3.out.mono ?_
  rintro e W3 ⟨rfl, hS3, hF3⟩
  have HR := Lib.hid (And.intro hS3 (H4.out.trans hF3))
  clear hS3 hF3 C3
  go_wp2_with fail
  go_ret
  exact ⟨rfl, HR.out.1, HR.out.2⟩
set_option maxRecDepth 100000 in
set_option maxHeartbeats 4000000 in
theorem op_par8 (X : Nat) (tv : Value) (ts : List Tk) (s : St) (w : World) (hI : Inv X tv ts w) (hS : PSt X tv s w) (hG : Good ts s) (hL : ts.length ≤ 9223372036854775800) (hk1 : (nextT ts s.pos).kind ≠ 1) (hk2 : (nextT ts s.pos).kind ≠ 2) (hp : (nextT ts s.pos).text = [40]) (hlt : s.pos < ts.length) (hd : s.dep = 8) :
    Calls Tryd.prog 46 #[.pointer (some ⟨X, 0, none⟩)] w (PPost X tv ((10, s)) w) := by
  have HL := Lib.hid hL
  clear hL
  have hX := hS.lt
  have hb0 := ptrW_below w X
  have C1 := Lib.hid (next_any X tv ts s (ptrW w X) (hI.up hb0 (Nat.le_of_lt hX)).1 (hS.up hb0) hG.1)
  have HBX := Lib.hid (show (ptrW w X).heap[w.heap.size]? = some (.cells #[.pointer (some ⟨X, 0, none⟩)] 81 (0, 0)) from heap_alloc_new w _)
  have HI := Lib.hid hI
  have HS := Lib.hid hS
  have HG := Lib.hid hG
  have H0 := Lib.hid hb0
  have HXw := Lib.hid hX
  have HLT := Lib.hid hlt
  have HD := Lib.hid hd
  generalize nextT ts s.pos = t at C1 hk1 hk2 hp ⊢
  obtain ⟨k, txt, v, p⟩ := t
  dsimp only at hk1 hk2 hp ⊢
  have hk1 : (k == 1) = false := beq_eq_false_iff_ne.2 hk1
  have hk2 : (k == 2) = false := beq_eq_false_iff_ne.2 hk2
  subst hp
  have hn2 : ¬ 0 < (kindL [40] 1 : Int) := by decide
  unfold ptrW at C1 HBX H0
  unfold Tk.v at C1
  dsimp only at C1
  clear hI hS hG hb0
  go_enter Tryd.func46, Tryd.ntmps46
  go_wp2_with fail
  refine C1.out.mono ?_
  rintro e W1 ⟨rfl, hb1⟩
  have hX1 := (hb1.block _ (lt_of_block HBX.out)).trans HBX.out
  have H1 := Lib.hid (H0.out.trans (hb1.mono H0.out.size))
  have C2 := Lib.hid (kindOf_any [40] 1 (tokBW W1 ⟨k, [40], v, p⟩) ((HI.out.up H1.out (Nat.le_of_lt HXw.out)).2.1.up (tokBW_below W1 _)))
  have h2 := (H1.out.trans ((tokBW_below W1 ⟨k, [40], v, p⟩).mono H1.out.size))
  have hx2 := heap_allocL (.cells #[.int .i64 k, strV [40], .int .i64 v, .int .i64 p] 31) hX1
  have ht2 : (tokBW W1 ⟨k, [40], v, p⟩).heap[W1.heap.size]? = some (.cells #[.int .i64 k, strV [40], .int .i64 v, .int .i64 p] 31 (0, 0)) := heap_alloc_new W1 _
  unfold tokBW at C2 h2 ht2
  have H2 := Lib.hid h2
  have HX2 := Lib.hid hx2
  have HT2 := Lib.hid ht2
  clear hb1 C1 h2 hx2 ht2 hX1
  go_wp2_with fail
  refine C2.out.mono ?_
  rintro e W2 ⟨rfl, hb2⟩
  have hx3 := (hb2.block _ (lt_of_block HX2.out)).trans HX2.out
  have ht3 := (hb2.block _ (lt_of_block HT2.out)).trans HT2.out
  have H3 := Lib.hid (H2.out.trans (hb2.mono H2.out.size))
  have HS3 := Lib.hid (HS.out.up H3.out)
  have HI3 := Lib.hid (HI.out.up H3.out (Nat.le_of_lt HXw.out))
  obtain ⟨nv, -, c1, c2, -, f1, f2, -, hX3, -⟩ := HS3.out.opens
  have e1 := (cells_of hx3).1 0 _ rfl
  have e2 := (cells_of hx3).2.2
  have t0 := (cells_of ht3).1 0 _ rfl
  have t1 := (cells_of ht3).1 1 _ rfl
  have t2 := (cells_of ht3).1 2 _ rfl
  have t3 := (cells_of ht3).2.2
  have HX3 := Lib.hid hx3
  have HT3 := Lib.hid ht3
  have hpos := HG.out.1
  have hlim := HL.out
  clear hx3 ht3 hb2 C2
  have hb4 := intW_below W2 (kindL [40] 1)
  have h4 := (PF.of H3.out (Nat.le_of_lt HXw.out)).up hb4 (Nat.le_of_lt hX3)
  have hst := HS3.out.up hb4
  have hiv := HI3.out.up hb4 (Nat.le_of_lt hX3)
  have k4 : PF X W2 (intW W2 (kindL [40] 1)) := PF.of hb4 (Nat.le_of_lt hX3)
  have hkx := k4.kept HX3.out (by omega) (by decide)
  have hk4 : (intW W2 (kindL [40] 1)).heap[W2.heap.size]? = some (.cells #[.int .i64 (kindL [40] 1 : Int)] 3 (0, 0)) := heap_alloc_new W2 _
  have C3 := Lib.hid (full_any X tv (.func (.func 75) #[.pointer (some ⟨X, 0, none⟩)] #[]) s _ hst HD.out)
  have H4 := Lib.hid h4
  unfold intW at C3 H4
  clear hb4 h4 hst hiv k4 hkx hk4 hd hlt
  go_wp2_with fail
  refine C3.out.mono ?_
  rintro e W3 ⟨rfl, hS3, hF3⟩
  have HR := Lib.hid (And.intro hS3 (H4.out.trans hF3))
  clear hS3 hF3 C3
  go_wp2_with fail
  go_ret
  exact ⟨rfl, HR.out.1, HR.out.2⟩
end Go.Proofs.YtchpkdpefpiegaaDoor.Tok
