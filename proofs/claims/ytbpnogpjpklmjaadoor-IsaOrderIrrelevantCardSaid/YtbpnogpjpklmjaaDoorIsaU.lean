/- The law that the order of a table's forms matters nothing. Conditions: the table reads as forms; the library's table of white space reads as its text lays it. -/
import Derived.Maps.AppendAt
import Derived.OwnWalk
import Derived.Deep.CutRange
import Derived.Test.YtbpnogpjpklmjaaDoorIsaN
import Derived.Test.YtbpnogpjpklmjaaDoorIsaS
namespace Go.Proofs.YtbpnogpjpklmjaaDoor
open Go Go.RowKit Go.Shelf

theorem back_succ {fs : List Frm} {j : Nat} {f : Frm} (h : fs[j]? = some f) : (fs.drop j).reverse = (fs.drop (j + 1)).reverse ++ [f] := by
  obtain ⟨hj, rfl⟩ := List.getElem?_eq_some_iff.1 h
  rw [List.drop_eq_getElem_cons hj, List.reverse_cons]
/-- the forms that were gathered from the table's end read as the table's reverse -/
theorem back_at {B : Nat} {w0 w : World} {A : Option Addr} {n c b : Nat} {fs : List Frm} {v : Value} (h : FormsAt B w0 (.slice A n c) fs) (hb : Below B w0 w) (hBw : B ≤ w.heap.size) (hl : fs.length = n) (hn : n * 48 ≤ 140737488351232)
    (hr : w.ownsRow b 34 3 v n (cellsOf fs.reverse)) : ∃ A2 c2, v = .slice A2 n c2 ∧ FormsAt w.heap.size w (.slice A2 n c2) fs.reverse := by
  obtain ⟨_, _, h1, h2, hk, _⟩ := h
  rcases hr.2 with ⟨rfl, h0⟩ | ⟨g, cap, cur, rfl, _, h3, h4, _⟩
  · subst h0
    have : fs = [] := List.length_eq_zero_iff.1 hl
    subst this
    exact ⟨none, 0, rfl, none, 0, rfl, by simp, by simp, by simp⟩
  · refine ⟨_, cap, rfl, _, cap, by rw [List.length_reverse, hl], ⟨by rw [List.length_reverse, hl]; exact hn, by rw [List.length_reverse, hl]; exact h4⟩, fun f hf => ?_, fun _ => ⟨g, 0, rfl, (Array.getElem?_eq_some_iff.1 h3).1, fun j f hj => ?_⟩⟩
    · have := hk f (List.mem_reverse.1 hf)
      exact ⟨(this.1.below hb).more hBw, this.2⟩
    · have hj' := (List.getElem?_eq_some_iff.1 hj).1
      rw [List.length_reverse, hl] at hj'
      have hc : ∀ i, i < 3 → w.cell? ⟨g, 0 + j * 3 + i, none⟩ = [Value.string f.name, .int .i64 f.code, f.kv][i]? := fun i hi => by
        rw [Nat.zero_add, hr.cellAt (j * 3 + i) (by omega)]
        exact cells_at _ j i f hj hi
      exact ⟨hc 0 (by omega), hc 1 (by omega), hc 2 (by omega)⟩

theorem fault_zero_idx {fs : List Frm} {i : Int} (h : tableFault fs = (0, i)) : i = 0 := by
  have h1 := fault_pair (fs := fs) (by rw [h])
  rw [h] at h1
  exact (Prod.mk.inj h1).2
theorem new_cells (W : World) (x y z : Value) (t : TypeId) (j : Nat) (u : Value) (h : [x, y, z][j]? = some u) : (W.alloc (.cells #[x, y, z] t)).cell? ((⟨W.heap.size, 0, none⟩ : Addr).add j) = some u := by
  match j, h with
  | 0, h => injection h with h; subst h; simp [Addr.add]
  | 1, h => injection h with h; subst h; simp [Addr.add]
  | 2, h => injection h with h; subst h; simp [Addr.add]
  | j + 3, h => simp at h

set_option maxHeartbeats 2000000 in
theorem law_order (B : Nat) (v : Value) (fs : List Frm) (w : World) (h : FormsAt B w v fs) (hB : B ≤ w.heap.size) (hsp : SpaceAt w) (hg : 0 < w.heap.size) :
    Calls Tryd.prog 7 #[v] w fun e w' => e = .returned (.bool true) ∧ Below w.heap.size w w' := by
  obtain ⟨i0, hi, hi0, hi1, hi2⟩ := info_parts infoForm
  have H := Lib.hid h
  obtain ⟨A, n, c, rfl, hl, ⟨hn, hnc⟩, hks, hc⟩ := h.opens
  have Hks := Lib.hid hks
  have Hc := Lib.hid hc
  have Hsp := Lib.hid hsp
  clear h hsp hks hc
  go_enter Tryd.func7, Tryd.ntmps7
  go_wp2_with (first
    | (go_at_call 8; refine (example_any _ Hsp.out hg).mono ?_; rintro e W1 ⟨rfl, hb1⟩))
  go_loopw [3, 4] (fun v i wr => ∃ k : Nat, k ≤ n ∧ i = .int .i64 ((k : Int) - 1) ∧ Hid (wr.ownsRow W1.heap.size 34 3 v (n - k) (cellsOf (fs.drop k).reverse)) ∧ Below W1.heap.size W1 wr) (fun _ i _ => (intOf i + 1).toNat)
  case atStart => exact ⟨n, Nat.le_refl _, rfl, Lib.hid (by rw [Nat.sub_self, List.drop_of_length_le (Nat.le_of_eq hl.out)]; exact ⟨rfl, .inl ⟨rfl, rfl⟩⟩), Below.refl _ _⟩
  case round =>
    obtain ⟨k, hkn, rfl, Hrow, hbw⟩ := hrel
    obtain ⟨gA, gc, hv⟩ : ∃ A c, u3 = .slice A (n - k) c := by
      rcases Hrow.out.2 with ⟨h1, h2⟩ | ⟨g, cap, cur, h1, _⟩
      · exact ⟨_, _, by rw [h1, h2]⟩
      · exact ⟨_, _, h1⟩
    subst hv
    have hbww : Below w.heap.size w wr := hb1.trans (hbw.mono hb1.size)
    obtain rfl | ⟨j, rfl⟩ : k = 0 ∨ ∃ j, k = j + 1 := by
      cases k with
      | zero => exact .inl rfl
      | succ j => exact .inr ⟨j, rfl⟩
    · obtain ⟨A2, c2, hv, hf2⟩ := back_at (H.out.below (hb1.mono hB)) (hbw.mono (Nat.le_trans hB hb1.size)) (Nat.le_trans hB hbww.size) hl.out hn (show wr.ownsRow W1.heap.size 34 3 (.slice gA (n - 0) gc) n (cellsOf fs.reverse) from Hrow.out)
      rw [hv]
      obtain ⟨p, i, ht, D⟩ : ∃ p i, tableFault fs = (p, i) ∧ ∀ W, Below wr.heap.size wr W → Calls Tryd.prog 10 #[.slice A n c] W fun e w' => e = .returned (.agg #[.int .i64 p, .int .i64 i]) ∧ Below W.heap.size W w' :=
        ⟨_, _, rfl, fun W hW => validate_any B _ fs W (H.out.below ((hbww.trans (hW.mono hbww.size)).mono hB)) (Nat.le_trans hB (Nat.le_trans hbww.size hW.size))⟩
      obtain ⟨p2, i2, ht2, D2⟩ : ∃ p2 i2, tableFault fs.reverse = (p2, i2) ∧ ∀ W, Below wr.heap.size wr W → Calls Tryd.prog 10 #[.slice A2 n c2] W fun e w' => e = .returned (.agg #[.int .i64 p2, .int .i64 i2]) ∧ Below W.heap.size W w' :=
        ⟨_, _, rfl, fun W hW => validate_any wr.heap.size _ fs.reverse W (hf2.below hW) hW.size⟩
      have hpp : p2 = 0 ↔ p = 0 := by
        have := valid_reverse fs
        rwa [ht, ht2] at this
      have HD := Lib.hid D
      have HD2 := Lib.hid D2
      have HF2 := Lib.hid hf2
      have Ht := Lib.hid ht
      have Ht2 := Lib.hid ht2
      clear D D2 hf2 ht ht2 hv Hrow hkn
      by_cases hp0 : p = 0
      · have hp2 := hpp.2 hp0
        subst hp0
        subst hp2
        have h1 := fault_zero_idx Ht.out
        have h2 := fault_zero_idx Ht2.out
        subst h1
        subst h2
        clear hpp
        go_wp2_with (first
          | (go_at_call 10; refine (HD2.out _ hb2).mono ?_; rintro e W3 ⟨rfl, hb3⟩; have hb23 := hb2.trans (hb3.mono hb2.size))
          | (go_at_call 10; refine (HD.out _ (Below.refl _ _)).mono ?_; rintro e W2 ⟨rfl, hb2⟩))
        obtain ⟨Wl, rfl⟩ : ∃ Wl, Wl = wr := ⟨_, rfl⟩
        obtain ⟨X, hX⟩ : ∃ X, X = W3.heap.size := ⟨_, rfl⟩
        obtain ⟨V, hV⟩ : ∃ V, V = (W3.alloc (.cells #[.int .i64 0, .int .i64 0] 25)).alloc (.cells #[.int .i64 0, .int .i64 0] 25) := ⟨_, rfl⟩
        have hbV : Below Wl.heap.size Wl V := by rw [hV]; exact (hb23.alloc hb23.size _).alloc (by simp; exact Nat.le_succ_of_le hb23.size) _
        have tV : Two V X (.int .i64 0) (.int .i64 0) := by rw [hV, hX]; exact (Two.new W3 _ _ _).below ((Below.refl _ _).alloc (Nat.le_refl _) _)
        rw [← hV, ← hX]
        clear hV hX hb2 hb3 hb23 HD HD2
        have TV := Lib.hid tV
        clear tV
        have H0 := Lib.hid Ht.out
        have H1 := Lib.hid Ht2.out
        clear Ht Ht2
        go_loopw [7] (fun i wx => ∃ k : Nat, k ≤ n ∧ i = .int .i64 (k : Int) ∧ Below Wl.heap.size Wl wx ∧ Hid (Two wx X (.int .i64 0) (.int .i64 0))) (fun i _ => n - (intOf i).toNat)
        case atStart => exact ⟨0, Nat.zero_le _, rfl, hbV, TV⟩
        case round =>
          obtain ⟨k, hkn, rfl, hbx, TX⟩ := hrel
          obtain ⟨t0, t1, t2, t3⟩ := TX.out
          have hbB : Below w.heap.size w wr := hbww.trans (hbx.mono hbww.size)
          by_cases hlt : k < n
          · obtain ⟨f, hx, hm⟩ := getElem?_of_lt hl hlt
            have hx2 : fs.reverse[n - 1 - k]? = some f := by
              rw [List.getElem?_reverse (by rw [hl.out]; omega), hl.out, show n - 1 - (n - 1 - k) = k by omega]; exact hx
            have S1 : ∀ W, Below wr.heap.size wr W → Calls Tryd.prog 13 #[.slice A n c, .int .i64 (k : Int)] W fun e w' => e = .returned (.tuple #[.int .i64 (sizeOf f.kinds : Nat), faultV (0, 0)]) ∧ Below W.heap.size W w' := fun W hW =>
              size_ok B _ fs k f W (H.out.below ((hbB.trans (hW.mono hbB.size)).mono hB)) (Nat.le_trans hB (Nat.le_trans hbB.size hW.size)) H0.out hx
            have S2 : ∀ W, Below wr.heap.size wr W → Calls Tryd.prog 13 #[.slice A2 n c2, .int .i64 ((n : Int) - 1 - (k : Int))] W fun e w' => e = .returned (.tuple #[.int .i64 (sizeOf f.kinds : Nat), faultV (0, 0)]) ∧ Below W.heap.size W w' := fun W hW => by
              have hbl := hbx.trans (hW.mono hbx.size)
              have := size_ok Wl.heap.size _ fs.reverse (n - 1 - k) f W (HF2.out.below hbl) hbl.size H1.out hx2
              rwa [show (((n - 1 - k : Nat)) : Int) = (n : Int) - 1 - (k : Int) by omega] at this
            have hz : 1 ≤ sizeOf f.kinds := by unfold sizeOf; omega
            generalize sizeOf f.kinds = z at *
            have HS1 := Lib.hid S1
            have HS2 := Lib.hid S2
            clear S1 S2 hx hx2 hm
            go_wp2_with (first
              | (go_at_call 13; refine (HS2.out _ (hb6.alloc hb6.size _)).mono ?_; rintro e W7 ⟨rfl, hb7⟩; obtain ⟨q0, q1, q2, q3⟩ := (Two.new W6 (.int .i64 0) (.int .i64 0) 25).below hb7; have hX7 : W6.heap.size < W7.heap.size := block_lt_of_cell q0)
              | (go_at_call 13; refine (HS1.out _ (Below.refl _ _)).mono ?_; rintro e W6 ⟨rfl, hb6⟩))
            have h6 := hb6.alloc hb6.size (.cells #[.int .i64 0, .int .i64 0] 25)
            have h7 := h6.trans (hb7.mono h6.size)
            have h8 := h7.alloc h7.size (.cells #[.int .i64 0, .int .i64 0] 25)
            exact ⟨⟨k + 1, by omega, by push_cast; rfl, hbx.trans (h8.mono hbx.size), Lib.hid (TX.out.below h8)⟩, by simp [intOf]; omega⟩
          · obtain rfl : k = n := by omega
            go_wp2
            exact bodyPost_ret (v := .bool true) (by simp [results, Tryd.results7, go_sem]) rfl ⟨rfl, hbB⟩
      · have hp2 : ¬ p2 = 0 := fun e => hp0 (hpp.1 e)
        have hq : (p == 0) = false := by simpa using hp0
        have hq2 : (p2 == 0) = false := by simpa using hp2
        clear hpp hp0 hp2
        go_wp2_with (first
          | (go_at_call 10; refine (HD2.out _ hb2).mono ?_; rintro e W3 ⟨rfl, hb3⟩; have hb23 := hb2.trans (hb3.mono hb2.size))
          | (go_at_call 10; refine (HD.out _ (Below.refl _ _)).mono ?_; rintro e W2 ⟨rfl, hb2⟩))
        obtain ⟨Wl, rfl⟩ : ∃ Wl, Wl = wr := ⟨_, rfl⟩
        obtain ⟨X, hX⟩ : ∃ X, X = W3.heap.size := ⟨_, rfl⟩
        obtain ⟨V, hV⟩ : ∃ V, V = (W3.alloc (.cells #[.int .i64 p, .int .i64 i] 25)).alloc (.cells #[.int .i64 p2, .int .i64 i2] 25) := ⟨_, rfl⟩
        have hbV : Below Wl.heap.size Wl V := by rw [hV]; exact (hb23.alloc hb23.size _).alloc (by simp; exact Nat.le_succ_of_le hb23.size) _
        have tV : Two V X (.int .i64 p) (.int .i64 i) := by rw [hV, hX]; exact (Two.new W3 _ _ _).below ((Below.refl _ _).alloc (Nat.le_refl _) _)
        rw [← hV, ← hX]
        clear hV hX hb2 hb3 hb23 HD HD2
        have TV := Lib.hid tV
        clear tV
        go_loopw [7] (fun z wx => z = .int .i64 0 ∧ Below Wl.heap.size Wl wx ∧ Hid (Two wx X (.int .i64 p) (.int .i64 i))) (fun i _ => 0)
        case atStart => exact ⟨rfl, hbV, TV⟩
        case round =>
          obtain ⟨rfl, hbx, TX⟩ := hrel
          obtain ⟨t0, t1, t2, t3⟩ := TX.out
          have hXw := TX.out.lt
          by_cases hn0 : 0 < n
          · go_wp2
            exact bodyPost_ret (v := .bool true) (by simp [results, Tryd.results7, go_sem]) rfl ⟨rfl, hbww.trans (hbx.mono hbww.size)⟩
          · obtain rfl : n = 0 := by omega
            go_wp2
            exact bodyPost_ret (v := .bool true) (by simp [results, Tryd.results7, go_sem]) rfl ⟨rfl, hbww.trans (hbx.mono hbww.size)⟩
    · rw [show (((j + 1 : Nat) : Int) - 1) = (j : Int) by omega]
      obtain ⟨f, hx, hm⟩ := getElem?_of_lt hl (show j < n by omega)
      obtain ⟨b1, o1, rfl, hb1', g1⟩ := Hc.out (by omega)
      have hcell := (g1 j f hx).below (hbww.mono hB) hb1'
      have kf := (Hks.out f hm).1
      obtain ⟨fA, fm, fc, fkv, _⟩ := kf.opens
      obtain ⟨fn, fq, fv, fks⟩ := f
      dsimp only at fkv
      subst fkv
      obtain ⟨d1, d2, d3⟩ := hcell
      dsimp only at d1 d2 d3
      have hjn : j < n := by omega
      have Hx := Lib.hid hx
      clear hx hm kf g1
      go_wp2_with (at_builtin; refine wpList_append_own _ rfl (.tmp 21) (.tmp 26) 22 rfl W1.heap.size 34 i0 _ 3 48 Tryd.underlying22 hi hi0 hi1 hi2 (by rfl) (by decide) (.slice gA (n - (j + 1)) gc) (n - (j + 1)) (cellsOf (fs.drop (j + 1)).reverse) rfl (Hrow.out.alloc _) ⟨wr.heap.size, 0, none⟩ 1 1 [.string fn, .int .i64 fq, .slice fA fm fc] rfl rfl (new_cells wr _ _ _ _) (by simp [Value.oneCell']) (by unfold maxLen; omega) (by omega) (by simp; exact Nat.le_succ_of_le hbw.size) ?_; intro v' W9 hrow9 hg9 hnil9)
      have hb9 := (hbw.alloc hbw.size (.cells #[.string fn, .int .i64 fq, .slice fA fm fc] 34)).grown hg9 (by simp; exact Nat.le_succ_of_le hbw.size) (fun r e => ((Hrow.out.alloc (.cells #[.string fn, .int .i64 fq, .slice fA fm fc] 34)).lt r e).1)
      refine ⟨⟨j, by omega, rfl, Lib.hid ?_, hb9⟩, by simp [intOf]⟩
      rw [back_succ Hx.out, cellsOf_snoc, show n - j = n - (j + 1) + 1 by omega]
      exact hrow9
end Go.Proofs.YtbpnogpjpklmjaaDoor
