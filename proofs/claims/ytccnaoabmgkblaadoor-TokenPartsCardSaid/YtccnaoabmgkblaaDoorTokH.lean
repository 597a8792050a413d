/- Contract of first: the token at the beginning of a text. Conditions: the text is short; the library's listed variables. -/
import Derived.Test.YtccnaoabmgkblaaDoorTokG
namespace Go.Proofs.YtccnaoabmgkblaaDoor.Tok
open Go Go.RowKit

theorem ba_take (l : List UInt8) (i : Nat) : (⟨l.toArray⟩ : ByteArray).extract 0 i = ⟨(l.take i).toArray⟩ := by
  apply ByteArray.ext
  simp
theorem ba_drop (l : List UInt8) (i : Nat) : (⟨l.toArray⟩ : ByteArray).extract i l.length = ⟨(l.drop i).toArray⟩ := by
  apply ByteArray.ext
  simp
  rw [List.take_of_length_le (by rw [List.length_drop]; omega)]
def Tk.v (t : Tk) : Value := .agg #[.int .i64 t.kind, strV t.text, .int .i64 t.val, .int .i64 t.pos]
def zeroTk : Tk := ⟨0, [], 0, 0⟩
/-- what the search for the first token answers -/
def FirstPost (l : List UInt8) (w : World) (e : Ending) (w' : World) : Prop :=
  ((∃ t k, first l = some (t, k) ∧ e = .returned (.tuple #[t.v, .int .i64 (k : Int)])) ∨ (first l = none ∧ e = .returned (.tuple #[zeroTk.v, .int .i64 0]))) ∧ Below w.heap.size w w'
/-- the world with a box for a token -/
def tokW (w : World) : World := w.alloc (.cells #[.int .i64 0, strV [], .int .i64 0, .int .i64 0] 37)
theorem tokW_below (w : World) : Below w.heap.size w (tokW w) := (Below.refl _ _).alloc (Nat.le_refl _) _
theorem tok_cells {w W : World} (hb : Below (tokW w).heap.size (tokW w) W) :
    W.cell? ⟨w.heap.size, 0, none⟩ = some (.int .i64 0) ∧ W.cell? ⟨w.heap.size, 1, none⟩ = some (strV []) ∧ W.cell? ⟨w.heap.size, 2, none⟩ = some (.int .i64 0) ∧ W.cell? ⟨w.heap.size, 3, none⟩ = some (.int .i64 0) ∧
    W.frozen? ⟨w.heap.size, 0, none⟩ = false ∧ W.frozen? ⟨w.heap.size, 1, none⟩ = false ∧ W.frozen? ⟨w.heap.size, 2, none⟩ = false ∧ W.frozen? ⟨w.heap.size, 3, none⟩ = false ∧ w.heap.size < W.heap.size := by
  have hfc : W.heap[w.heap.size]? = some (.cells #[.int .i64 0, strV [], .int .i64 0, .int .i64 0] 37 (0, 0)) := (hb.block w.heap.size (by simp [tokW])).trans (heap_alloc_new w _)
  exact ⟨by simp [World.cell?, hfc], by simp [World.cell?, hfc], by simp [World.cell?, hfc], by simp [World.cell?, hfc], by simp [World.frozen?, hfc], by simp [World.frozen?, hfc], by simp [World.frozen?, hfc], by simp [World.frozen?, hfc], lt_of_block hfc⟩
theorem tok_end {w W : World} (hb : Below (tokW w).heap.size (tokW w) W) (u0 u1 u2 u3 : Value) : Below w.heap.size w ((((W.setCell ⟨w.heap.size, 0, none⟩ u0).setCell ⟨w.heap.size, 1, none⟩ u1).setCell ⟨w.heap.size, 2, none⟩ u2).setCell ⟨w.heap.size, 3, none⟩ u3) :=
  (((((tokW_below w).trans (hb.mono (tokW_below w).size)).setCell (Nat.le_refl _) u0).setCell (Nat.le_refl _) u1).setCell (Nat.le_refl _) u2).setCell (Nat.le_refl _) u3
theorem first_sign {l : List UInt8} (h : 0 < signSz l) : first l = some (⟨3, l.take (signSz l), 0, 0⟩, signSz l) := by unfold first; rw [if_pos h]
theorem first_num {l : List UInt8} {v : Nat} (h : ¬ 0 < signSz l) (hn : num (word l) = some v) : first l = some (⟨2, [], v, 0⟩, (word l).length) := by unfold first; rw [if_neg h, hn]
theorem first_name {l : List UInt8} (h : ¬ 0 < signSz l) (hn : num (word l) = none) (hm : isName (word l) = true) : first l = some (⟨1, word l, 0, 0⟩, (word l).length) := by unfold first; rw [if_neg h, hn]; simp only; rw [if_pos hm]
theorem first_no {l : List UInt8} (h : ¬ 0 < signSz l) (hn : num (word l) = none) (hm : isName (word l) = false) : first l = none := by unfold first; rw [if_neg h, hn]; simp only; rw [if_neg (by simp [hm])]
set_option maxHeartbeats 1000000 in
theorem first_s (l : List UInt8) (w : World) (h : 0 < signSz l) :
    Calls Tryd.prog 17 #[strV l] w (FirstPost l w) := by
  have HF := Lib.hid (first_sign h)
  have hz := signSz_le l
  obtain ⟨hz1, hz2⟩ := hz
  have C1 := Lib.hid (signSize_any l)
  have C2 := Lib.hid (fun w => clone_any (l.take (signSz l)) w (by rw [List.length_take]; omega))
  generalize signSz l = z at *
  go_enter Tryd.func17, Tryd.ntmps17
  go_wp2_with fail
  refine (C1.out _).mono ?_
  rintro e w' ⟨rfl, rfl⟩
  go_wp2_with fail
  rw [show Value.string ((⟨l.toArray⟩ : ByteArray).extract 0 z) = strV (l.take z) from congrArg Value.string (ba_take l z)]
  refine (C2.out _).mono ?_
  rintro e W ⟨rfl, hb⟩
  obtain ⟨c0, c1, c2, c3, f0, f1, f2, f3, hlt⟩ := tok_cells hb
  have HB := Lib.hid hb
  clear hb C1 C2
  go_wp2_with fail
  refine bodyPost_ret (v := .tuple #[.agg #[.int .i64 3, strV (l.take z), .int .i64 0, .int .i64 0], .int .i64 (z : Int)]) (by simp [results, Tryd.results17, go_sem, c0, c1, c2, c3]) rfl ?_
  exact ⟨.inl ⟨_, _, HF.out, rfl⟩, tok_end HB.out _ _ _ _⟩
theorem word_ba (l : List UInt8) : Value.string ((⟨l.toArray⟩ : ByteArray).extract 0 (word l).length) = strV (word l) := by
  rw [ba_take, word_take]
theorem VarsAt.up {w W : World} (h : VarsAt w.heap.size w) (hb : Below w.heap.size w W) : VarsAt W.heap.size W :=
  have h1 := h.below hb
  ⟨h1.tab, h1.syn, h1.rng, h1.max, Nat.le_trans h1.low hb.size⟩
set_option maxHeartbeats 2000000 in
theorem first_w (l : List UInt8) (w : World) (hl : l.length ≤ 8000) (hv : VarsAt w.heap.size w) (h : ¬ 0 < signSz l) :
    Calls Tryd.prog 17 #[strV l] w (FirstPost l w) := by
  have H0 := Lib.hid h
  have hwl := word_len l
  have C1 := Lib.hid (signSize_any l)
  have C2 := Lib.hid (fun w => wordSize_any ⟨l.toArray⟩ w (by show l.length ≤ _; omega))
  have C3 := Lib.hid (fun w h => number_any (word l) w (by omega) h)
  have C4 := Lib.hid (fun w => isName_any (word l) w (by omega))
  have C5 := Lib.hid (fun w => clone_any (word l) w (by omega))
  have HW := Lib.hid (word_ba l)
  have HV := Lib.hid (hv.up (tokW_below w))
  have hz : signSz l = 0 := by omega
  rw [hz] at C1
  have hle : (word l).length ≤ l.length := hwl
  obtain ⟨n, hn⟩ : ∃ n, n = (word l).length := ⟨_, rfl⟩
  have HN := Lib.hid hn
  have hn8 : n ≤ 8000 := by omega
  have hnl : n ≤ l.length := by omega
  rw [show (word (⟨l.toArray⟩ : ByteArray).data.toList).length = n from hn.symm] at C2
  rw [← hn] at HW
  clear h hz hwl hle hn hv
  go_enter Tryd.func17, Tryd.ntmps17
  go_wp2_with fail
  refine (C1.out _).mono ?_
  rintro e w' ⟨rfl, rfl⟩
  go_wp2_with fail
  refine (C2.out _).mono ?_
  rintro e w' ⟨rfl, rfl⟩
  go_wp2_with fail
  rw [HW.out]
  refine (C3.out _ HV.out).mono ?_
  rintro e W ⟨⟨v, hv, hv2, rfl⟩ | ⟨hv, rfl⟩, hb⟩
  · have HF := Lib.hid (first_num H0.out hv)
    obtain ⟨c0, c1, c2, c3, f0, f1, f2, f3, hlt⟩ := tok_cells hb
    have HB := Lib.hid hb
    clear hb C1 C2 C3 C4 C5 hv
    go_wp2_with fail
    refine bodyPost_ret (v := .tuple #[.agg #[.int .i64 2, strV [], .int .i64 (v : Int), .int .i64 0], .int .i64 ((word l).length : Int)]) (by simp [results, Tryd.results17, go_sem, c0, c1, c2, c3]) rfl ?_
    exact ⟨.inl ⟨_, _, HF.out, rfl⟩, tok_end HB.out _ _ _ _⟩
  · have HNu := Lib.hid hv
    have HB := Lib.hid hb
    clear hb hv C1 C2 C3
    cases hm : isName (word l) with
    | false =>
      rw [hm] at C4
      have HF := Lib.hid (first_no H0.out HNu.out hm)
      obtain ⟨c0, c1, c2, c3, f0, f1, f2, f3, hlt⟩ := tok_cells HB.out
      clear hm C5
      go_wp2_with fail
      refine (C4.out _).mono ?_
      rintro e w' ⟨rfl, rfl⟩
      go_wp2_with fail
      refine bodyPost_ret (v := .tuple #[.agg #[.int .i64 0, strV [], .int .i64 0, .int .i64 0], .int .i64 0]) (by simp [results, Tryd.results17, go_sem, c0, c1, c2, c3]) rfl ?_
      exact ⟨.inr ⟨HF.out, rfl⟩, tok_end HB.out _ _ _ _⟩
    | true =>
      rw [hm] at C4
      have HF := Lib.hid (first_name H0.out HNu.out hm)
      clear hm
      go_wp2_with fail
      refine (C4.out _).mono ?_
      rintro e w' ⟨rfl, rfl⟩
      go_wp2_with fail
      refine (C5.out _).mono ?_
      rintro e W2 ⟨rfl, hb2⟩
      have HB2 := Lib.hid (HB.out.trans (hb2.mono HB.out.size))
      obtain ⟨c0, c1, c2, c3, f0, f1, f2, f3, hlt⟩ := tok_cells HB2.out
      clear hb2 C4 C5
      go_wp2_with fail
      refine bodyPost_ret (v := .tuple #[.agg #[.int .i64 1, strV (word l), .int .i64 0, .int .i64 0], .int .i64 ((word l).length : Int)]) (by simp [results, Tryd.results17, go_sem, c0, c1, c2, c3]) rfl ?_
      exact ⟨.inl ⟨_, _, HF.out, rfl⟩, tok_end HB2.out _ _ _ _⟩
theorem first_any (l : List UInt8) (w : World) (hl : l.length ≤ 8000) (hv : VarsAt w.heap.size w) : Calls Tryd.prog 17 #[strV l] w (FirstPost l w) := by
  by_cases h : 0 < signSz l
  · exact first_s l w h
  · exact first_w l w hl hv h
end Go.Proofs.YtccnaoabmgkblaaDoor.Tok
