/- The reference's with: a name that occurs more often. -/
import Derived.Deep.RegionHeld3
import Derived.Deep.AppendLies
import Derived.Deep.RegionLaw
import Derived.Test.YtchpkdpefpiegaaDoorExZI
namespace Go.Proofs.YtchpkdpefpiegaaDoor.Tok
open Go Go.RowKit

theorem take_at {α : Type} {l : List α} {k : Nat} {x : α} (h : l[k]? = some x) : l.take (k + 1) = l.take k ++ [x] := by
  obtain ⟨h1, h2⟩ := List.getElem?_eq_some_iff.1 h
  rw [List.take_succ_eq_append_getElem h1, h2]
theorem ne_of_beq {α : Type} [BEq α] [LawfulBEq α] {a b : α} (h : (a == b) = false) : ¬ a = b := fun e => by rw [e] at h; simp at h
theorem infoStr1 : (Tryd.prog.info? 9).map (fun i => (i.zero, i.size, i.bytes)) = some (some (strV []), 1, 16) := by kernel_rfl
theorem infoInt1 : (Tryd.prog.info? 3).map (fun i => (i.zero, i.size, i.bytes)) = some (some (.int .i64 0), 1, 8) := by kernel_rfl
/-- the boxes of with: its sum, the result's, the sum that grows -/
def wiW (w : World) (x y z : Value) (n : Int) : World := ((w.alloc (.cells #[x, y, z] 119)).alloc (.cells #[.slice none 0 0, .slice none 0 0, .int .i64 0] 119)).alloc (.cells #[.slice none 0 0, .slice none 0 0, .int .i64 n] 119)
theorem wiW_below (w : World) (x y z : Value) (n : Int) : Below w.heap.size w (wiW w x y z n) := (((Below.refl _ _).alloc (Nat.le_refl _) _).alloc (by simp) _).alloc (by simp; omega) _
theorem wiW_size (w : World) (x y z : Value) (n : Int) : (wiW w x y z n).heap.size = w.heap.size + 3 := by unfold wiW; simp
theorem wiW_sumB (w : World) (x y z : Value) (n : Int) : SumB (w.heap.size + 2) (w.heap.size + 3) (wiW w x y z n) [] [] n (.slice none 0 0) (.slice none 0 0) :=
  ⟨heap_new2 w _ _ _, by omega, World.ownsRow_nil _ _ _ _, World.ownsRow_nil _ _ _ _, fun r e => by cases e⟩
/-- the other two boxes -/
def WiB (w0 : World) (x y z : Value) (w : World) : Prop := w.heap[w0.heap.size]? = some (.cells #[x, y, z] 119 (0, 0)) ∧ w.heap[w0.heap.size + 1]? = some (.cells #[.slice none 0 0, .slice none 0 0, .int .i64 0] 119 (0, 0))
theorem wiW_box (w : World) (x y z : Value) (n : Int) : WiB w x y z (wiW w x y z n) := ⟨heap_allocL _ (heap_allocL _ (heap_alloc_new _ _)), heap_allocL _ (heap_new1 _ _ _)⟩
theorem WiB.opens {w0 w : World} {x y z : Value} (h : WiB w0 x y z w) : (w.cell? ⟨w0.heap.size, 0, none⟩ = some x ∧ w.cell? ⟨w0.heap.size, 1, none⟩ = some y ∧ w.cell? ⟨w0.heap.size, 2, none⟩ = some z) ∧
    (w.cell? ⟨w0.heap.size + 1, 0, none⟩ = some (.slice none 0 0) ∧ w.cell? ⟨w0.heap.size + 1, 1, none⟩ = some (.slice none 0 0) ∧ w.cell? ⟨w0.heap.size + 1, 2, none⟩ = some (.int .i64 0)) ∧
    (w.frozen? ⟨w0.heap.size + 1, 0, none⟩ = false ∧ w.frozen? ⟨w0.heap.size + 1, 1, none⟩ = false ∧ w.frozen? ⟨w0.heap.size + 1, 2, none⟩ = false) ∧ w0.heap.size + 1 < w.heap.size := by
  obtain ⟨r1, r2, r3⟩ := cells_of h.1
  obtain ⟨q1, q2, q3⟩ := cells_of h.2
  exact ⟨⟨r1 0 _ rfl, r1 1 _ rfl, r1 2 _ rfl⟩, ⟨q1 0 _ rfl, q1 1 _ rfl, q1 2 _ rfl⟩, ⟨q2 0, q2 1, q2 2⟩, q3⟩
theorem SumB.boxn {O base : Nat} {w U : World} {ns : List (List UInt8)} {ts : List Int} {n : Int} {nv tv : Value} (h : SumB O base w ns ts n nv tv) (hg : w.grownBy U nv.ownBlock) : ((U.cell? ⟨O, 0, none⟩ = some nv ∧ U.frozen? ⟨O, 0, none⟩ = false) ∧ O < U.heap.size) ∧ U.cell? ⟨O, 1, none⟩ = some tv := by
  obtain ⟨r1, r2, r3⟩ := cells_of ((hg.block O (lt_of_block h.box) (fun e => row_far h.r1 h.low e.symm)).trans h.box)
  exact ⟨⟨⟨r1 0 _ rfl, r2 0⟩, r3⟩, r1 1 _ rfl⟩
theorem SumB.boxt {O base : Nat} {w U : World} {ns : List (List UInt8)} {ts : List Int} {n : Int} {nv tv : Value} (h : SumB O base w ns ts n nv tv) (hg : w.grownBy U tv.ownBlock) : (U.cell? ⟨O, 1, none⟩ = some tv ∧ U.frozen? ⟨O, 1, none⟩ = false) ∧ O < U.heap.size ∧ U.cell? ⟨O, 0, none⟩ = some nv ∧ U.cell? ⟨O, 2, none⟩ = some (.int .i64 n) := by
  obtain ⟨r1, r2, r3⟩ := cells_of ((hg.block O (lt_of_block h.box) (fun e => row_far h.r2 h.low e.symm)).trans h.box)
  exact ⟨⟨r1 1 _ rfl, r2 1⟩, r3, r1 0 _ rfl, r1 2 _ rfl⟩
theorem hat_name {H g n cap : Nat} {nv : Value} (h : nv.ownBlock = some g ∨ g = H) : (Value.slice (some ⟨g, 0, none⟩) n cap).ownBlock = nv.ownBlock ∨ (Value.slice (some ⟨g, 0, none⟩) n cap).ownBlock = some H := by
  rcases h with h | h
  · exact .inl h.symm
  · exact .inr (by rw [h]; rfl)
theorem take_len {l : List (List UInt8 × Int)} {k : Nat} {nm : List UInt8} {t : Int} (h : k ≤ 8) : (keepM (l.take k) nm t).length ≤ 8 := Nat.le_trans (keep_len _ _ _) (by rw [List.length_take]; omega)
/-- all boxes of with -/
structure WiS (w0 : World) (x y z : Value) (n : Int) (ns : List (List UInt8)) (ts : List Int) (nv tv : Value) (w : World) : Prop where
  s : SumB (w0.heap.size + 2) (w0.heap.size + 3) w ns ts n nv tv
  b : WiB w0 x y z w
  low : Below w0.heap.size w0 w
section
variable {w0 w U : World} {x y z : Value} {n : Int} {ns : List (List UInt8)} {ts : List Int} {nv tv : Value}
theorem WiS.up {w' : World} (h : WiS w0 x y z n ns ts nv tv w) (hb : Below w.heap.size w w') : WiS w0 x y z n ns ts nv tv w' :=
  ⟨h.s.below hb, ⟨(hb.block _ (lt_of_block h.b.1)).trans h.b.1, (hb.block _ (lt_of_block h.b.2)).trans h.b.2⟩, h.low.trans (hb.mono h.low.size)⟩
theorem WiB.step {v v' : Value} {i : Nat} (h : WiB w0 x y z w) (hg : w.grownBy U v.ownBlock) (hv : ∀ r, v.ownBlock = some r → w0.heap.size + 3 ≤ r) : WiB w0 x y z (U.setCell ⟨w0.heap.size + 1 + 1, i, none⟩ v') := by
  refine ⟨?_, ?_⟩
  · rw [heap_setCell_other _ _ _ _ (by dsimp only; omega)]
    exact (hg.block _ (lt_of_block h.1) (fun e => by have := hv _ e.symm; omega)).trans h.1
  · rw [heap_setCell_other _ _ _ _ (by dsimp only; omega)]
    exact (hg.block _ (lt_of_block h.2) (fun e => by have := hv _ e.symm; omega)).trans h.2
theorem WiB.far {v : Value} (h : WiB w0 x y z w) (hg : w.grownBy U v.ownBlock) (hv : ∀ r, v.ownBlock = some r → w0.heap.size + 3 ≤ r) : WiB w0 x y z U :=
  ⟨(hg.block _ (lt_of_block h.1) (fun e => by have := hv _ e.symm; omega)).trans h.1, (hg.block _ (lt_of_block h.2) (fun e => by have := hv _ e.symm; omega)).trans h.2⟩
theorem WiS.name {v' : Value} {s : List UInt8} (h : WiS w0 x y z n ns ts nv tv w) (hrow : U.ownsRow (w0.heap.size + 3) 9 1 v' (ns.length + 1) (nmv ns ++ [strV s])) (hg : w.grownBy U nv.ownBlock) (hat : v'.ownBlock = nv.ownBlock ∨ v'.ownBlock = some w.heap.size) :
    WiS w0 x y z n (ns ++ [s]) ts v' tv (U.setCell ⟨w0.heap.size + 1 + 1, 0, none⟩ v') :=
  ⟨h.s.name hrow hg hat, h.b.step hg (fun r e => (h.s.r1.lt r e).1), (h.low.grown hg h.low.size (fun r e => by have := (h.s.r1.lt r e).1; omega)).setCell (p := ⟨w0.heap.size + 1 + 1, 0, none⟩) (by show w0.heap.size ≤ w0.heap.size + 1 + 1; omega) _⟩
theorem WiS.time {v' : Value} {q : Int} (h : WiS w0 x y z n ns ts nv tv w) (hrow : U.ownsRow (w0.heap.size + 3) 3 1 v' (ts.length + 1) (tiv ts ++ [.int .i64 q])) (hg : w.grownBy U tv.ownBlock) (hat : v'.ownBlock = tv.ownBlock ∨ v'.ownBlock = some w.heap.size) :
    WiS w0 x y z n ns (ts ++ [q]) nv v' (U.setCell ⟨w0.heap.size + 1 + 1, 1, none⟩ v') :=
  ⟨h.s.time hrow hg hat, h.b.step hg (fun r e => (h.s.r2.lt r e).1), (h.low.grown hg h.low.size (fun r e => by have := (h.s.r2.lt r e).1; omega)).setCell (p := ⟨w0.heap.size + 1 + 1, 1, none⟩) (by show w0.heap.size ≤ w0.heap.size + 1 + 1; omega) _⟩
theorem WiS.done {l : List (List UInt8 × Int)} (h : WiS w0 x y z n (l.map (·.1)) (l.map (·.2)) nv tv w) :
    SumAt w0.heap.size (((w.setCell ⟨w0.heap.size + 1, 0, none⟩ nv).setCell ⟨w0.heap.size + 1, 1, none⟩ tv).setCell ⟨w0.heap.size + 1, 2, none⟩ (.int .i64 n)).heap.size (((w.setCell ⟨w0.heap.size + 1, 0, none⟩ nv).setCell ⟨w0.heap.size + 1, 1, none⟩ tv).setCell ⟨w0.heap.size + 1, 2, none⟩ (.int .i64 n)) (.agg #[nv, tv, .int .i64 n]) n l ∧
    Below w0.heap.size w0 (((w.setCell ⟨w0.heap.size + 1, 0, none⟩ nv).setCell ⟨w0.heap.size + 1, 1, none⟩ tv).setCell ⟨w0.heap.size + 1, 2, none⟩ (.int .i64 n)) := by
  refine ⟨?_, three_set h.low (by omega) _ _ _⟩
  rw [World.size_setCell, World.size_setCell, World.size_setCell]
  exact ((((h.s.sum (Nat.le_refl _)).set (S := w0.heap.size + 1) (by omega) _ _).set (S := w0.heap.size + 1) (by omega) _ _).set (S := w0.heap.size + 1) (by omega) _ _).since (by omega)
end
set_option maxRecDepth 100000 in
set_option maxHeartbeats 4000000 in
theorem with_any (L B : Nat) (v : Value) (n t : Int) (l : List (List UInt8 × Int)) (nm : List UInt8) (w : World) (h : SumAt L B w v n l) (hB : B ≤ w.heap.size) (hl : l.length ≤ 8) (hK : ∀ x ∈ l, -8 ≤ x.2 ∧ x.2 ≤ 8) (ht : -1 ≤ t ∧ t ≤ 1) :
    Calls Tryd.prog 86 #[v, strV nm, .int .i64 t] w fun e W => (∃ v', e = .returned v' ∧ SumAt w.heap.size W.heap.size W v' n (addM l nm t)) ∧ Below w.heap.size w W := by
  obtain ⟨i0, hi0, hz0, hz1, hz2⟩ := info_parts infoStr1
  obtain ⟨i1, hi1, hy0, hy1, hy2⟩ := info_parts infoInt1
  obtain ⟨A, c, A2, c2, m, rfl, Hm, ⟨hc1, hc2⟩, HC⟩ := h.opens
  have hm8 : m ≤ 8 := by rw [← Hm.out]; exact hl
  obtain ⟨ht1, ht2⟩ := ht
  have HK := Lib.hid hK
  have HB := Lib.hid hB
  have HW := Lib.hid (And.intro (wiW_sumB w (.slice A m c) (.slice A2 m c2) (.int .i64 n) n) (And.intro (wiW_box w (.slice A m c) (.slice A2 m c2) (.int .i64 n) n) (wiW_below w (.slice A m c) (.slice A2 m c2) (.int .i64 n) n)))
  unfold wiW at HW
  clear h hl hK hB
  go_enter Tryd.func86, Tryd.ntmps86
  go_wp2_with fail
  go_loopw [8, 9] (fun u8 u9 wr => ∃ (k : Nat) (nv tv : Value), k ≤ m ∧ u9 = .int .i64 k ∧ u8 = .bool (hasM (l.take k) nm) ∧ Hid (WiS w (.slice A m c) (.slice A2 m c2) (.int .i64 n) n ((keepM (l.take k) nm t).map (·.1)) ((keepM (l.take k) nm t).map (·.2)) nv tv wr)) (fun _ i _ => m - (intOf i).toNat)
  case atStart => exact ⟨0, _, _, Nat.zero_le _, rfl, rfl, Lib.hid ⟨HW.out.1, HW.out.2.1, HW.out.2.2⟩⟩
  case round =>
    obtain ⟨k, nv, tv, hk, rfl, rfl, HS⟩ := hrel
    have hszb := HS.out.b.opens.2.2.2
    obtain ⟨⟨s0, s1, s2⟩, ⟨f0, f1, f2⟩, hOl⟩ := HS.out.s.cells
    obtain ⟨⟨x0, x1, x2⟩, -⟩ := HS.out.b.opens
    by_cases hlt : k < m
    · obtain ⟨b, o, b2, o2, rfl, rfl, ⟨-, hb1, hb2⟩, hcell⟩ := HC.out (by omega)
      obtain ⟨⟨s, q⟩, hx⟩ : ∃ x, l[k]? = some x := ⟨_, List.getElem?_eq_getElem (by rw [Hm.out]; exact hlt)⟩
      have hb := HS.out.low
      have g1 := (hb.cell (p := ⟨b, o + k, none⟩) (Nat.lt_of_lt_of_le hb1 HB.out)).trans (hcell k _ hx).1
      have g2 := (hb.cell (p := ⟨b2, o2 + k, none⟩) (Nat.lt_of_lt_of_le hb2 HB.out)).trans (hcell k _ hx).2
      obtain ⟨q1, q2⟩ := HK.out _ (List.mem_of_getElem? hx)
      dsimp only at g1 g2 q1 q2
      have hbl1 := block_lt_of_cell g1
      have hbl2 := block_lt_of_cell g2
      have HXX := Lib.hid hx
      clear hcell hx hb
      cases hsb : (s == nm) with
      | true =>
        cases hq : (q + t == 0) with
        | true =>
          have HN := Lib.hid (show keepM (l.take (k + 1)) nm t = keepM (l.take k) nm t ∧ hasM (l.take (k + 1)) nm = true by
            rw [take_at HXX.out, keep_snoc, has_snoc]
            dsimp only
            rw [if_pos (beq_iff_eq.1 hsb), if_pos (beq_iff_eq.1 hq), hsb]
            exact ⟨List.append_nil _, by simp⟩)
          go_wp2_with fail
          go_roundw
          case rel => exact ⟨k + 1, nv, tv, by omega, by go_num, by rw [HN.out.2], by rw [HN.out.1]; exact HS⟩
          case measure => simp [intOf]; omega
        | false =>
          have HN := Lib.hid (show keepM (l.take (k + 1)) nm t = keepM (l.take k) nm t ++ [(s, q + t)] ∧ hasM (l.take (k + 1)) nm = true by
            rw [take_at HXX.out, keep_snoc, has_snoc]
            dsimp only
            rw [if_pos (beq_iff_eq.1 hsb), if_neg (ne_of_beq hq), hsb]
            exact ⟨rfl, by simp⟩)
          have HKL := Lib.hid (take_len (l := l) (nm := nm) (t := t) (k := k) (by omega))
          go_wp2_with fail
          have hlit : Below wr.heap.size wr (wr.alloc (.cells #[strV s] 9)).drew := ((Below.refl _ _).alloc (Nat.le_refl _) _).drew
          have hlz : (wr.alloc (.cells #[strV s] 9)).drew.heap.size = wr.heap.size + 1 := by simp
          go_region_law
            ((refine step_append_lies _ (by rfl) _ _ _ (by rfl) (w.heap.size + 3) 9 i0 _ 1 16 Tryd.underlying80 hi0 hz0 hz1 hz2 (by rfl) (by decide) nv _ _ (by rfl) (HS.out.up hlit).s.r1
                  ⟨wr.heap.size, 0, none⟩ 1 1 [strV s] (by rfl) (by rfl) (World.news_of_block (cs := #[strV s]) (t := 9) (fr := (0, 0)) (heap_alloc_new wr _)) (by simp [Value.oneCell', strV])
                  (by decide) (by rw [List.length_map]; have := HKL.out; unfold maxLen; omega) (by rw [List.length_map]; have := HKL.out; omega) (by simp; omega) (wr.heap.size + 1) (by simp) ?_; intro gb cap2 W2 hown2 hg2 hat2 hlt2; obtain ⟨⟨⟨c20, c21⟩, c22⟩, c23⟩ := (HS.out.up hlit).s.boxn hg2))
          all_goals
            have hs3 := (HS.out.up hlit).name hown2 hg2 (hat_name (by rw [hlz]; exact hat2))
            rw [List.length_map] at hs3
            obtain ⟨W3, hW3⟩ : ∃ W3, W3 = (W2.setCell ⟨w.heap.size + 1 + 1, 0, none⟩ (.slice (some ⟨gb, 0, none⟩) ((keepM (l.take k) nm t).length + 1) cap2)) := ⟨_, rfl⟩
            rw [← hW3] at hs3 ⊢
            have HS3 := Lib.hid hs3
            have hlit3 : Hid (Below W3.heap.size W3 (W3.alloc (.cells #[.int .i64 (q + t)] 3))) := Lib.hid ((Below.refl _ _).alloc (Nat.le_refl _) _)
            obtain ⟨⟨j0, j1, j2⟩, ⟨d0, d1, d2⟩, j3⟩ := hs3.s.cells
            clear hs3 hW3 hown2 hg2 hat2 hlt2 c20 c21 c22 c23 hlz hlit s0 s1 s2 f0 f1 f2 hOl x0 x1 x2 g1 g2 hbl1 hbl2 hszb
            go_wp2_with (at_builtin; refine wpList_append_lies _ rfl (.tmp 49) (.tmp 51) 48 rfl (w.heap.size + 3) 3 i1 _ 1 8 Tryd.underlying48 hi1 hy0 hy1 hy2 (by rfl) (by decide) tv _ _ rfl (HS3.out.up hlit3.out).s.r2 ⟨W3.heap.size, 0, none⟩ 1 1 [.int .i64 (q + t)] rfl rfl (cell_one_new _ _ _) (by simp [Value.oneCell']) (by decide) (by rw [List.length_map]; have := HKL.out; unfold maxLen; omega) (by rw [List.length_map]; have := HKL.out; omega) (by simp; omega) (W3.heap.size + 1) (by simp) ?_; intro g3 cap3 W4 hown3 hg3 hat3 hlt3; obtain ⟨⟨c30, c31⟩, c32, c33, c34⟩ := (HS3.out.up hlit3.out).s.boxt hg3; have hs5 := (HS3.out.up hlit3.out).time hown3 hg3 (hat_name (by rw [World.size_alloc]; exact hat3)); rw [List.length_map] at hs5; have HS5 := Lib.hid hs5; clear hs5 hown3 hg3 hat3 hlt3)
            go_roundw
            case rel => exact ⟨k + 1, _, _, by omega, by go_num, by rw [HN.out.2], by rw [HN.out.1, List.map_append, List.map_append]; exact HS5⟩
            case measure => simp [intOf]; omega
      | false =>
        cases hq : (q == 0) with
        | true =>
          have HN := Lib.hid (show keepM (l.take (k + 1)) nm t = keepM (l.take k) nm t ∧ hasM (l.take (k + 1)) nm = hasM (l.take k) nm by
            rw [take_at HXX.out, keep_snoc, has_snoc]
            dsimp only
            rw [if_neg (ne_of_beq hsb), if_pos (beq_iff_eq.1 hq), hsb]
            exact ⟨List.append_nil _, by simp⟩)
          go_wp2_with fail
          go_roundw
          case rel => exact ⟨k + 1, nv, tv, by omega, by go_num, by rw [HN.out.2], by rw [HN.out.1]; exact HS⟩
          case measure => simp [intOf]; omega
        | false =>
          have HN := Lib.hid (show keepM (l.take (k + 1)) nm t = keepM (l.take k) nm t ++ [(s, q)] ∧ hasM (l.take (k + 1)) nm = hasM (l.take k) nm by
            rw [take_at HXX.out, keep_snoc, has_snoc]
            dsimp only
            rw [if_neg (ne_of_beq hsb), if_neg (ne_of_beq hq), hsb]
            exact ⟨rfl, by simp⟩)
          have HKL := Lib.hid (take_len (l := l) (nm := nm) (t := t) (k := k) (by omega))
          go_wp2_with fail
          have hlit : Below wr.heap.size wr (wr.alloc (.cells #[strV s] 9)).drew := ((Below.refl _ _).alloc (Nat.le_refl _) _).drew
          have hlz : (wr.alloc (.cells #[strV s] 9)).drew.heap.size = wr.heap.size + 1 := by simp
          go_region_law
            ((refine step_append_lies _ (by rfl) _ _ _ (by rfl) (w.heap.size + 3) 9 i0 _ 1 16 Tryd.underlying80 hi0 hz0 hz1 hz2 (by rfl) (by decide) nv _ _ (by rfl) (HS.out.up hlit).s.r1
                  ⟨wr.heap.size, 0, none⟩ 1 1 [strV s] (by rfl) (by rfl) (World.news_of_block (cs := #[strV s]) (t := 9) (fr := (0, 0)) (heap_alloc_new wr _)) (by simp [Value.oneCell', strV])
                  (by decide) (by rw [List.length_map]; have := HKL.out; unfold maxLen; omega) (by rw [List.length_map]; have := HKL.out; omega) (by simp; omega) (wr.heap.size + 1) (by simp) ?_; intro gb cap2 W2 hown2 hg2 hat2 hlt2; obtain ⟨⟨⟨c20, c21⟩, c22⟩, c23⟩ := (HS.out.up hlit).s.boxn hg2))
          all_goals
            have hs3 := (HS.out.up hlit).name hown2 hg2 (hat_name (by rw [hlz]; exact hat2))
            rw [List.length_map] at hs3
            obtain ⟨W3, hW3⟩ : ∃ W3, W3 = (W2.setCell ⟨w.heap.size + 1 + 1, 0, none⟩ (.slice (some ⟨gb, 0, none⟩) ((keepM (l.take k) nm t).length + 1) cap2)) := ⟨_, rfl⟩
            rw [← hW3] at hs3 ⊢
            have HS3 := Lib.hid hs3
            have hlit3 : Hid (Below W3.heap.size W3 (W3.alloc (.cells #[.int .i64 (q)] 3))) := Lib.hid ((Below.refl _ _).alloc (Nat.le_refl _) _)
            obtain ⟨⟨j0, j1, j2⟩, ⟨d0, d1, d2⟩, j3⟩ := hs3.s.cells
            clear hs3 hW3 hown2 hg2 hat2 hlt2 c20 c21 c22 c23 hlz hlit s0 s1 s2 f0 f1 f2 hOl x0 x1 x2 g1 g2 hbl1 hbl2 hszb
            go_wp2_with (at_builtin; refine wpList_append_lies _ rfl (.tmp 49) (.tmp 51) 48 rfl (w.heap.size + 3) 3 i1 _ 1 8 Tryd.underlying48 hi1 hy0 hy1 hy2 (by rfl) (by decide) tv _ _ rfl (HS3.out.up hlit3.out).s.r2 ⟨W3.heap.size, 0, none⟩ 1 1 [.int .i64 (q)] rfl rfl (cell_one_new _ _ _) (by simp [Value.oneCell']) (by decide) (by rw [List.length_map]; have := HKL.out; unfold maxLen; omega) (by rw [List.length_map]; have := HKL.out; omega) (by simp; omega) (W3.heap.size + 1) (by simp) ?_; intro g3 cap3 W4 hown3 hg3 hat3 hlt3; obtain ⟨⟨c30, c31⟩, c32, c33, c34⟩ := (HS3.out.up hlit3.out).s.boxt hg3; have hs5 := (HS3.out.up hlit3.out).time hown3 hg3 (hat_name (by rw [World.size_alloc]; exact hat3)); rw [List.length_map] at hs5; have HS5 := Lib.hid hs5; clear hs5 hown3 hg3 hat3 hlt3)
            go_roundw
            case rel => exact ⟨k + 1, _, _, by omega, by go_num, by rw [HN.out.2], by rw [HN.out.1, List.map_append, List.map_append]; exact HS5⟩
            case measure => simp [intOf]; omega
    · obtain rfl : k = m := by omega
      have htk : l.take k = l := List.take_of_length_le (by rw [Hm.out]; exact Nat.le_refl _)
      rw [htk] at HS
      rw [htk]
      obtain ⟨⟨-, -, -⟩, ⟨y0, y1, y2⟩, ⟨e0, e1, e2⟩, -⟩ := HS.out.b.opens
      have HA := Lib.hid (addM_eq l nm t)
      have HKL := Lib.hid (Nat.le_trans (keep_len l nm t) (by rw [Hm.out]; exact hm8))
      have hres1 : w.heap.size + 1 < wr.heap.size := hszb
      cases hf : hasM l nm with
      | true =>
        have HA2 := Lib.hid (HA.out.trans (by rw [hf, if_neg (by simp), List.append_nil]))
        clear hf HA htk
        obtain ⟨An, cn, rfl⟩ := row_is HS.out.s.r1
        obtain ⟨At, ct, rfl⟩ := row_is HS.out.s.r2
        go_wp2_with fail
        have hd := HS.out.done
        simp only [List.length_map] at hd
        refine bodyPost_ret (v := .agg #[.slice An (keepM l nm t).length cn, .slice At (keepM l nm t).length ct, .int .i64 n]) (by simp [results, Tryd.results86, go_sem, y0, y1, y2]) rfl ?_
        exact ⟨⟨_, rfl, by rw [HA2.out]; exact hd.1⟩, hd.2⟩
      | false =>
        cases hem : nm.isEmpty with
        | true =>
          have HA2 := Lib.hid (HA.out.trans (by rw [hf, if_neg (by have := List.isEmpty_iff.1 hem; simp [this]), List.append_nil]))
          clear hf HA htk
          obtain ⟨An, cn, rfl⟩ := row_is HS.out.s.r1
          obtain ⟨At, ct, rfl⟩ := row_is HS.out.s.r2
          go_wp2_with fail
          have hd := HS.out.done
          simp only [List.length_map] at hd
          refine bodyPost_ret (v := .agg #[.slice An (keepM l nm t).length cn, .slice At (keepM l nm t).length ct, .int .i64 n]) (by simp [results, Tryd.results86, go_sem, y0, y1, y2]) rfl ?_
          exact ⟨⟨_, rfl, by rw [HA2.out]; exact hd.1⟩, hd.2⟩
        | false =>
          have HA2 := Lib.hid (HA.out.trans (by rw [hf, if_pos ⟨rfl, by intro e; rw [e] at hem; cases hem⟩]))
          have hlit : Hid (Below wr.heap.size wr (wr.alloc (.cells #[strV nm] 9))) := Lib.hid ((Below.refl _ _).alloc (Nat.le_refl _) _)
          clear hf HA htk
          go_wp2_with (first | (at_builtin; refine wpList_append_lies _ rfl (.tmp 61) (.tmp 63) 80 rfl (w.heap.size + 3) 9 i0 _ 1 16 Tryd.underlying80 hi0 hz0 hz1 hz2 (by rfl) (by decide) nv _ _ rfl (HS.out.up hlit.out).s.r1 ⟨wr.heap.size, 0, none⟩ 1 1 [strV nm] rfl rfl (cell_one_new _ _ _) (by simp [Value.oneCell', strV]) (by decide) (by rw [List.length_map]; have := HKL.out; unfold maxLen; omega) (by rw [List.length_map]; have := HKL.out; omega) (by simp; omega) (wr.heap.size + 1) (by simp) ?_; intro gb cap2 W2 hown2 hg2 hat2 hlt2; obtain ⟨⟨⟨c20, c21⟩, c22⟩, c23⟩ := (HS.out.up hlit.out).s.boxn hg2; have hs3 := (HS.out.up hlit.out).name hown2 hg2 (hat_name (by rw [World.size_alloc]; exact hat2)); rw [List.length_map] at hs3; have HS3 := Lib.hid hs3; clear hs3 hown2 hg2 hat2 hlt2) | (at_builtin; refine wpList_append_lies _ rfl (.tmp 67) (.tmp 69) 48 rfl (w.heap.size + 3) 3 i1 _ 1 8 Tryd.underlying48 hi1 hy0 hy1 hy2 (by rfl) (by decide) tv _ _ rfl (HS3.out.up ((Below.refl _ _).alloc (Nat.le_refl _) (.cells #[.int .i64 t] 3))).s.r2 ⟨W2.heap.size, 0, none⟩ 1 1 [.int .i64 t] rfl rfl (by have h := cell_one_new (W2.setCell ⟨w.heap.size + 1 + 1, 0, none⟩ (.slice (some ⟨gb, 0, none⟩) ((keepM l nm t).length + 1) cap2)) (.int .i64 t) 3; rw [World.size_setCell] at h; exact h) (by simp [Value.oneCell']) (by decide) (by rw [List.length_map]; have := HKL.out; unfold maxLen; omega) (by rw [List.length_map]; have := HKL.out; omega) (by simp; omega) (W2.heap.size + 1) (by simp) ?_; intro gc cap3 W4 hown3 hg3 hat3 hlt3; obtain ⟨⟨c30, c31⟩, c32, c33, c34⟩ := (HS3.out.up ((Below.refl _ _).alloc (Nat.le_refl _) (.cells #[.int .i64 t] 3))).s.boxt hg3; obtain ⟨-, ⟨y0, y1, y2⟩, ⟨e0, e1, e2⟩, e3⟩ := ((HS3.out.up ((Below.refl _ _).alloc (Nat.le_refl _) (.cells #[.int .i64 t] 3))).b.far hg3 (fun r e => ((HS3.out.up ((Below.refl _ _).alloc (Nat.le_refl _) (.cells #[.int .i64 t] 3))).s.r2.lt r e).1)).opens; have hs5 := (HS3.out.up ((Below.refl _ _).alloc (Nat.le_refl _) (.cells #[.int .i64 t] 3))).time hown3 hg3 (hat_name (by rw [World.size_alloc, World.size_setCell]; exact hat3)); rw [List.length_map] at hs5; have HS5 := Lib.hid hs5; clear hs5 hown3 hg3 hat3 hlt3))
          have h6 := HS5.out
          rw [show (keepM l nm t).map (·.1) ++ [nm] = (addM l nm t).map (·.1) from by rw [HA2.out, List.map_append]; rfl, show (keepM l nm t).map (·.2) ++ [t] = (addM l nm t).map (·.2) from by rw [HA2.out, List.map_append]; rfl] at h6
          have hm := h6.done
          obtain ⟨-, ⟨q0, q1, q2⟩, -⟩ := h6.b.opens
          obtain ⟨m0, m1, m2⟩ := three_at (x := .slice (some ⟨gb, 0, none⟩) ((keepM l nm t).length + 1) cap2) (y := .slice (some ⟨gc, 0, none⟩) ((keepM l nm t).length + 1) cap3) (z := .int .i64 n) q0 q1 q2
          refine bodyPost_ret (v := .agg #[.slice (some ⟨gb, 0, none⟩) ((keepM l nm t).length + 1) cap2, .slice (some ⟨gc, 0, none⟩) ((keepM l nm t).length + 1) cap3, .int .i64 n]) (by simp [results, Tryd.results86, go_sem, m0, m1, m2]) rfl ?_
          exact ⟨⟨_, rfl, hm.1⟩, hm.2⟩
end Go.Proofs.YtchpkdpefpiegaaDoor.Tok
