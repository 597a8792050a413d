/- The encoding of a list of numbers, and of a list of strings: codec.encoding, Put, PutText. Conditions: what is written stays within the reach. -/
import Derived.Test.YtldepghojmkohaaCodD
import Derived.Test.YtldepghojmkohaaCodE
namespace Go.Proofs.Ytldepghojmkohaa.Cod
open Go Go.RowKit Go.Lib

theorem But.setCell {B X : Nat} {a b : World} (h : But B X a b) {k : Nat} (hk : B ≤ k) (j : Nat) (u : Value) : But B X a (b.setCell ⟨k, j, none⟩ u) :=
  h.trans ⟨rfl, rfl, rfl, by simp [World.setCell], fun i hi _ => Below.heap_setCell _ _ _ _ (by show i ≠ k; omega)⟩
theorem ownsRow_base {w : World} {B B' : Nat} {e : TypeId} {size n : Nat} {v : Value} {xs : List Value} (h : w.ownsRow B e size v n xs) (hB : B' ≤ B) : w.ownsRow B' e size v n xs := by
  refine ⟨h.1, ?_⟩
  rcases h.2 with h2 | ⟨g, cap, cur, h3, h4, r⟩
  · exact .inl h2
  · exact .inr ⟨g, cap, cur, h3, by omega, r⟩
theorem ownsRow_sets {w : World} {B k : Nat} {e : TypeId} {size n : Nat} {v : Value} {xs : List Value} (h : w.ownsRow B e size v n xs) (hk : k < B) (u0 u1 : Value) : ((w.setCell ⟨k, 0, none⟩ u0).setCell ⟨k, 1, none⟩ u1).ownsRow B e size v n xs :=
  ownsRow_setCell_other (ownsRow_setCell_other h (fun e => by have := (h.lt k e).1; omega) u0) (fun e => by have := (h.lt k e).1; omega) u1
theorem enc_end {N X : Nat} {w W : World} {o : Obj} {v u0 u1 : Value} {l : List UInt8} (hN : N = w.heap.size) (h : W.ownsRow (N + 1) 5 1 v l.length (bv l)) (hb : But (N + 1) X (w.alloc o) W) :
    ((W.setCell ⟨N, 0, none⟩ u0).setCell ⟨N, 1, none⟩ u1).ownsRow N 5 1 v l.length (bv l) ∧ But N X w ((W.setCell ⟨N, 0, none⟩ u0).setCell ⟨N, 1, none⟩ u1) := by
  have h1 : Below N w (w.alloc o) := by rw [hN]; exact lit_below w o
  exact ⟨ownsRow_base (ownsRow_sets h (Nat.lt_succ_self _) u0 u1) (Nat.le_succ _), (((But.of_below h1).trans (hb.mono (Nat.le_succ _))).setCell (Nat.le_refl _) 0 u0).setCell (Nat.le_refl _) 1 u1⟩
/-- the world behind Put's two boxes -/
def putW (w : World) : World := (w.alloc (.cells #[.int .i64 0, .int .i64 0] 27)).alloc (.cells #[.slice none 0 0] 48)
theorem putW_below {w : World} : Below w.heap.size w (putW w) := (lit_below w _).trans ((lit_below _ _).mono (by simp))
theorem putW_size {w : World} : (putW w).heap.size = w.heap.size + 1 + 1 := by simp [putW]
theorem put_cells {w W : World} (hb : But (putW w).heap.size (w.heap.size + 1) (putW w) W) : W.cell? ⟨w.heap.size, 0, none⟩ = some (.int .i64 0) ∧ W.cell? ⟨w.heap.size, 1, none⟩ = some (.int .i64 0) ∧ W.frozen? ⟨w.heap.size, 0, none⟩ = false ∧ W.frozen? ⟨w.heap.size, 1, none⟩ = false ∧ w.heap.size < W.heap.size := by
  have hfc : W.heap[w.heap.size]? = some (.cells #[.int .i64 0, .int .i64 0] 27 (0, 0)) := (hb.block w.heap.size (by rw [putW_size]; omega) (by omega)).trans ((Below.heap_alloc _ _ _ (by simp)).trans (heap_alloc_new w _))
  exact ⟨by simp [World.cell?, hfc], by simp [World.cell?, hfc], by simp [World.frozen?, hfc], by simp [World.frozen?, hfc], lt_of_block hfc⟩
theorem put_end {w W : World} {v u0 u1 : Value} {l : List UInt8} (h : W.ownsRow (putW w).heap.size 5 1 v l.length (bv l)) (hb : But (putW w).heap.size (w.heap.size + 1) (putW w) W) :
    ((W.setCell ⟨w.heap.size, 0, none⟩ u0).setCell ⟨w.heap.size, 1, none⟩ u1).ownsRow w.heap.size 5 1 v l.length (bv l) ∧ Below w.heap.size w ((W.setCell ⟨w.heap.size, 0, none⟩ u0).setCell ⟨w.heap.size, 1, none⟩ u1) := by
  rw [putW_size] at h hb
  exact ⟨ownsRow_base (ownsRow_sets h (by omega) u0 u1) (by omega), ((putW_below.trans (hb.below (by omega) (by omega))).setCell (Nat.le_refl _) u0).setCell (Nat.le_refl _) u1⟩

theorem encodingI_ok (X B0 : Nat) (v : Value) (xs : List Int) (w : World) (hb : w.heap[X]? = some (.cells #[.slice none 0 0] 48 (0, 0))) (hv : IntsAt B0 w v xs) (h0 : B0 ≤ X) (hn : xs.length ≤ 100000) :
    Calls Try.prog 21 #[.pointer (some ⟨X, 0, none⟩), .func (.func 22) #[.pointer (some ⟨X, 0, none⟩)] #[], v] w fun e w' => ∃ v', e = .returned (.tuple #[v', .agg #[.int .i64 0, .int .i64 0]]) ∧ w'.ownsRow w.heap.size 5 1 v' (numsL xs).length (bv (numsL xs)) ∧ But w.heap.size X w w' := by
  obtain ⟨A, n, c, rfl, Hn, hn0, -, -⟩ := hv.opens
  have hn' : n ≤ 100000 := by rw [← Hn.out]; exact hn
  have hXw := lt_of_block hb
  have hW0 : WrAt (w.heap.size + 1) X (w.alloc (.cells #[.int .i64 0, .int .i64 0] 27)) [] := ⟨.slice none 0 0, (Below.heap_alloc _ _ _ hXw).trans hb, World.ownsRow_nil _ _ _ _⟩
  have C := Lib.hid (putListI_any (w.heap.size + 1) X B0 _ xs (w.alloc (.cells #[.int .i64 0, .int .i64 0] 27)) (by omega) (by simp) hW0 (hv.below ((lit_below w _).mono (by omega))) h0 hn)
  generalize numsL xs = l at C ⊢
  clear hv hn hb hW0 h0
  go_enter Try.func21, Try.ntmps21
  go_wp2_with fail
  refine C.out.mono ?_
  rintro e W ⟨rfl, hw, hb⟩
  obtain ⟨v, hob, hown⟩ := hw
  obtain ⟨A1, c1, rfl⟩ := row_is hown
  have hc := cell_of_one hob
  have hXr := block_lt_of_cell hc
  have hfc : W.heap[w.heap.size]? = some (.cells #[.int .i64 0, .int .i64 0] 27 (0, 0)) := (hb.block w.heap.size (by omega) (by omega)).trans (heap_alloc_new w _)
  have hc0 : W.cell? ⟨w.heap.size, 0, none⟩ = some (.int .i64 0) := by simp [World.cell?, hfc]
  have hc1 : W.cell? ⟨w.heap.size, 1, none⟩ = some (.int .i64 0) := by simp [World.cell?, hfc]
  have hf0 : W.frozen? ⟨w.heap.size, 0, none⟩ = false := by simp [World.frozen?, hfc]
  have hf1 : W.frozen? ⟨w.heap.size, 1, none⟩ = false := by simp [World.frozen?, hfc]
  have hFr := block_lt_of_cell hc0
  have HOW := Lib.hid hown
  have HBU := Lib.hid hb
  clear hob hown hb hfc C
  go_wp2_with fail
  refine bodyPost_ret (v := .tuple #[.slice A1 l.length c1, .agg #[.int .i64 0, .int .i64 0]]) (by simp [results, Try.results21, go_sem, hc0, hc1]) rfl ?_
  exact ⟨_, rfl, enc_end rfl HOW.out HBU.out⟩

set_option maxRecDepth 100000 in
set_option maxHeartbeats 1000000 in
theorem putI_any (B0 : Nat) (v : Value) (xs : List Int) (w : World) (hv : IntsAt B0 w v xs) (h0 : B0 ≤ w.heap.size) (hn : xs.length ≤ 100000) :
    Calls Try.prog 9 #[v] w fun e w' => ∃ v', e = .returned (.tuple #[v', .agg #[.int .i64 0, .int .i64 0]]) ∧ w'.ownsRow w.heap.size 5 1 v' (numsL xs).length (bv (numsL xs)) ∧ Below w.heap.size w w' := by
  obtain ⟨A, n, c, rfl, Hn, hn0, -, -⟩ := hv.opens
  have C := Lib.hid (encodingI_ok (w.heap.size + 1) B0 _ xs (putW w) (by unfold putW; rw [← World.size_alloc w (.cells #[.int .i64 0, .int .i64 0] 27)]; exact heap_alloc_new _ _) (hv.below (putW_below.mono h0)) (by omega) hn)
  generalize numsL xs = l at C ⊢
  unfold putW at C
  clear hv hn
  go_enter Try.func9, Try.ntmps9
  go_wp2_with fail
  refine C.out.mono ?_
  rintro e W ⟨v', rfl, hown, hb⟩
  obtain ⟨hc0, hc1, hf0, hf1, hFr⟩ := put_cells hb
  have HOW := Lib.hid hown
  have HBU := Lib.hid hb
  obtain ⟨A1, c1, rfl⟩ := row_is hown
  clear hown hb C
  go_wp2_with fail
  refine bodyPost_ret (v := .tuple #[.slice A1 l.length c1, .agg #[.int .i64 0, .int .i64 0]]) (by simp [results, Try.results9, go_sem, hc0, hc1]) rfl ?_
  exact ⟨_, rfl, put_end HOW.out HBU.out⟩

set_option maxRecDepth 100000 in
set_option maxHeartbeats 1000000 in
theorem putI_many (B0 : Nat) (v : Value) (xs : List Int) (w : World) (hv : IntsAt B0 w v xs) (hn : 100000 < xs.length) :
    Calls Try.prog 9 #[v] w fun e w' => e = .returned (.tuple #[.slice none 0 0, .agg #[.int .i64 2, .int .i64 (-1)]]) ∧ Below w.heap.size w w' := by
  obtain ⟨A, n, c, rfl, Hn, hn0, -, -⟩ := hv.opens
  have C := Lib.hid (encodingI_many (w.heap.size + 1) A n c (.func (.func 22) #[.pointer (some ⟨w.heap.size + 1, 0, none⟩)] #[]) (putW w) (by rw [← Hn.out]; exact hn) (by omega))
  unfold putW at C
  clear hv hn hn0
  go_enter Try.func9, Try.ntmps9
  go_wp2_with fail
  refine C.out.mono ?_
  rintro e W ⟨rfl, hb⟩
  obtain ⟨hc0, hc1, hf0, hf1, hFr⟩ := put_cells (But.of_below (X := w.heap.size + 1) hb)
  have HBU := Lib.hid hb
  clear hb C
  go_wp2_with fail
  refine bodyPost_ret (v := .tuple #[.slice none 0 0, .agg #[.int .i64 2, .int .i64 (-1)]]) (by simp [results, Try.results9, go_sem, hc0, hc1]) rfl ?_
  exact ⟨rfl, (put_end (World.ownsRow_nil W _ 5 1) (l := []) (But.of_below HBU.out)).2⟩

theorem encodingS_ok (X B0 : Nat) (v : Value) (xs : List (List UInt8)) (w : World) (hb : w.heap[X]? = some (.cells #[.slice none 0 0] 48 (0, 0))) (hv : StrsAt B0 w v xs) (h0 : B0 ≤ X) (hn : xs.length ≤ 100000) (hsum : (flatT xs).length ≤ 140737488300000) :
    Calls Try.prog 23 #[.pointer (some ⟨X, 0, none⟩), .func (.func 24) #[.pointer (some ⟨X, 0, none⟩)] #[], v] w fun e w' => ∃ v', e = .returned (.tuple #[v', .agg #[.int .i64 0, .int .i64 0]]) ∧ w'.ownsRow w.heap.size 5 1 v' (textsL xs).length (bv (textsL xs)) ∧ But w.heap.size X w w' := by
  obtain ⟨A, n, c, rfl, Hn, hn0, -, -⟩ := hv.opens
  have hn' : n ≤ 100000 := by rw [← Hn.out]; exact hn
  have hXw := lt_of_block hb
  have hW0 : WrAt (w.heap.size + 1) X (w.alloc (.cells #[.int .i64 0, .int .i64 0] 27)) [] := ⟨.slice none 0 0, (Below.heap_alloc _ _ _ hXw).trans hb, World.ownsRow_nil _ _ _ _⟩
  have C := Lib.hid (putListS_any (w.heap.size + 1) X B0 _ xs (w.alloc (.cells #[.int .i64 0, .int .i64 0] 27)) (by omega) (by simp) hW0 (hv.below ((lit_below w _).mono (by omega))) h0 hn hsum)
  generalize textsL xs = l at C ⊢
  clear hv hn hb hW0 h0 hsum
  go_enter Try.func23, Try.ntmps23
  go_wp2_with fail
  refine C.out.mono ?_
  rintro e W ⟨rfl, hw, hb⟩
  obtain ⟨v, hob, hown⟩ := hw
  obtain ⟨A1, c1, rfl⟩ := row_is hown
  have hc := cell_of_one hob
  have hXr := block_lt_of_cell hc
  have hfc : W.heap[w.heap.size]? = some (.cells #[.int .i64 0, .int .i64 0] 27 (0, 0)) := (hb.block w.heap.size (by omega) (by omega)).trans (heap_alloc_new w _)
  have hc0 : W.cell? ⟨w.heap.size, 0, none⟩ = some (.int .i64 0) := by simp [World.cell?, hfc]
  have hc1 : W.cell? ⟨w.heap.size, 1, none⟩ = some (.int .i64 0) := by simp [World.cell?, hfc]
  have hf0 : W.frozen? ⟨w.heap.size, 0, none⟩ = false := by simp [World.frozen?, hfc]
  have hf1 : W.frozen? ⟨w.heap.size, 1, none⟩ = false := by simp [World.frozen?, hfc]
  have hFr := block_lt_of_cell hc0
  have HOW := Lib.hid hown
  have HBU := Lib.hid hb
  clear hob hown hb hfc C
  go_wp2_with fail
  refine bodyPost_ret (v := .tuple #[.slice A1 l.length c1, .agg #[.int .i64 0, .int .i64 0]]) (by simp [results, Try.results23, go_sem, hc0, hc1]) rfl ?_
  exact ⟨_, rfl, enc_end rfl HOW.out HBU.out⟩

set_option maxRecDepth 100000 in
set_option maxHeartbeats 1000000 in
theorem putS_any (B0 : Nat) (v : Value) (xs : List (List UInt8)) (w : World) (hv : StrsAt B0 w v xs) (h0 : B0 ≤ w.heap.size) (hn : xs.length ≤ 100000) (hsum : (flatT xs).length ≤ 140737488300000) :
    Calls Try.prog 10 #[v] w fun e w' => ∃ v', e = .returned (.tuple #[v', .agg #[.int .i64 0, .int .i64 0]]) ∧ w'.ownsRow w.heap.size 5 1 v' (textsL xs).length (bv (textsL xs)) ∧ Below w.heap.size w w' := by
  obtain ⟨A, n, c, rfl, Hn, hn0, -, -⟩ := hv.opens
  have C := Lib.hid (encodingS_ok (w.heap.size + 1) B0 _ xs (putW w) (by unfold putW; rw [← World.size_alloc w (.cells #[.int .i64 0, .int .i64 0] 27)]; exact heap_alloc_new _ _) (hv.below (putW_below.mono h0)) (by omega) hn hsum)
  generalize textsL xs = l at C ⊢
  unfold putW at C
  clear hv hn hsum
  go_enter Try.func10, Try.ntmps10
  go_wp2_with fail
  refine C.out.mono ?_
  rintro e W ⟨v', rfl, hown, hb⟩
  obtain ⟨hc0, hc1, hf0, hf1, hFr⟩ := put_cells hb
  have HOW := Lib.hid hown
  have HBU := Lib.hid hb
  obtain ⟨A1, c1, rfl⟩ := row_is hown
  clear hown hb C
  go_wp2_with fail
  refine bodyPost_ret (v := .tuple #[.slice A1 l.length c1, .agg #[.int .i64 0, .int .i64 0]]) (by simp [results, Try.results10, go_sem, hc0, hc1]) rfl ?_
  exact ⟨_, rfl, put_end HOW.out HBU.out⟩

set_option maxRecDepth 100000 in
set_option maxHeartbeats 1000000 in
theorem putS_many (B0 : Nat) (v : Value) (xs : List (List UInt8)) (w : World) (hv : StrsAt B0 w v xs) (hn : 100000 < xs.length) :
    Calls Try.prog 10 #[v] w fun e w' => e = .returned (.tuple #[.slice none 0 0, .agg #[.int .i64 2, .int .i64 (-1)]]) ∧ Below w.heap.size w w' := by
  obtain ⟨A, n, c, rfl, Hn, hn0, -, -⟩ := hv.opens
  have C := Lib.hid (encodingS_many (w.heap.size + 1) A n c (.func (.func 24) #[.pointer (some ⟨w.heap.size + 1, 0, none⟩)] #[]) (putW w) (by rw [← Hn.out]; exact hn) (by omega))
  unfold putW at C
  clear hv hn hn0
  go_enter Try.func10, Try.ntmps10
  go_wp2_with fail
  refine C.out.mono ?_
  rintro e W ⟨rfl, hb⟩
  obtain ⟨hc0, hc1, hf0, hf1, hFr⟩ := put_cells (But.of_below (X := w.heap.size + 1) hb)
  have HBU := Lib.hid hb
  clear hb C
  go_wp2_with fail
  refine bodyPost_ret (v := .tuple #[.slice none 0 0, .agg #[.int .i64 2, .int .i64 (-1)]]) (by simp [results, Try.results10, go_sem, hc0, hc1]) rfl ?_
  exact ⟨rfl, (put_end (World.ownsRow_nil W _ 5 1) (l := []) (But.of_below HBU.out)).2⟩
end Go.Proofs.Ytldepghojmkohaa.Cod
