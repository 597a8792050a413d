/- Contract of isShort: no node has more than 8000 tokens. -/
import Derived.Deep.RegionLaw
import Derived.Test.YtchpkdpefpiegaaDoorExUC
namespace Go.Proofs.YtchpkdpefpiegaaDoor.Tok
open Go Go.RowKit

def shortB (ns : List Nd) : Bool := (List.range ns.length).all fun i => decide (cntL ns i ≤ 8000)
theorem short_no {ns : List Nd} {k : Nat} (hk : k < ns.length) (h : 8000 < cntL ns k) : shortB ns = false := by
  unfold shortB
  rw [List.all_eq_false]
  exact ⟨k, List.mem_range.2 hk, by simp; omega⟩
theorem short_yes {ns : List Nd} (h : ∀ j, j < ns.length → cntL ns j ≤ 8000) : shortB ns = true := by
  unfold shortB
  rw [List.all_eq_true]
  exact fun j hj => by simpa using h j (List.mem_range.1 hj)
theorem short_all {ns : List Nd} (h : shortB ns = true) : ∀ j, j < ns.length → cntL ns j ≤ 8000 := by
  unfold shortB at h
  intro j hj
  simpa using List.all_eq_true.1 h j (List.mem_range.2 hj)
/-- the counts of the first k nodes, and x at k -/
def SzB (P : Nat) (ns : List Nd) (k : Nat) (x : Int) (w : World) : Prop :=
  ∃ arr : Array Value, w.heap[P]? = some (.cells arr 102 (0, 0)) ∧ arr.size = 60 ∧ (∀ j, j < k → arr[j]? = some (.int .i64 (cntL ns j : Int))) ∧ arr[k]? = some (.int .i64 x)
/-- the counts of the first k nodes -/
def SzA (P : Nat) (ns : List Nd) (k : Nat) (w : World) : Prop :=
  ∃ arr : Array Value, w.heap[P]? = some (.cells arr 102 (0, 0)) ∧ arr.size = 60 ∧ (∀ j, j < k → arr[j]? = some (.int .i64 (cntL ns j : Int)))
theorem SzA.up {P K k : Nat} {ns : List Nd} {w w' : World} (h : SzA P ns k w) (hb : Below K w w') (hP : P < K) : SzA P ns k w' := by
  obtain ⟨arr, h1, h2⟩ := h
  exact ⟨arr, (hb.block _ hP).trans h1, h2⟩
theorem SzB.up {P K k : Nat} {x : Int} {ns : List Nd} {w w' : World} (h : SzB P ns k x w) (hb : Below K w w') (hP : P < K) : SzB P ns k x w' := by
  obtain ⟨arr, h1, h2⟩ := h
  exact ⟨arr, (hb.block _ hP).trans h1, h2⟩
theorem SzA.room {P k : Nat} {ns : List Nd} {w : World} (h : SzA P ns k w) (hk : k < 60) : (∃ u, w.cell? ⟨P, k, none⟩ = some u) ∧ w.frozen? ⟨P, k, none⟩ = false ∧ P < w.heap.size := by
  obtain ⟨arr, h1, h2, -⟩ := h
  obtain ⟨c1, c2, c3⟩ := cells_of h1
  exact ⟨⟨_, c1 k _ (Array.getElem?_eq_getElem (by omega))⟩, c2 k, c3⟩
theorem SzA.put {P k : Nat} {ns : List Nd} {w : World} (h : SzA P ns k w) (hk : k < 60) (x : Int) : SzB P ns k x (w.setCell ⟨P, k, none⟩ (.int .i64 x)) := by
  obtain ⟨arr, h1, h2, h3⟩ := h
  refine ⟨_, heap_setCell_same w P k arr _ (.int .i64 x) h1, by simp [h2], fun j hj => ?_, ?_⟩
  · rw [Array.getElem?_setIfInBounds_ne (by omega)]; exact h3 j hj
  · rw [Array.getElem?_setIfInBounds_self_of_lt (by omega)]
theorem SzB.set {P k : Nat} {y : Int} {ns : List Nd} {w : World} (h : SzB P ns k y w) (hk : k < 60) (x : Int) : SzB P ns k x (w.setCell ⟨P, k, none⟩ (.int .i64 x)) := by
  obtain ⟨arr, h1, h2, h3, -⟩ := h
  exact SzA.put ⟨arr, h1, h2, h3⟩ hk x
theorem SzB.at {P k : Nat} {x : Int} {ns : List Nd} {w : World} (h : SzB P ns k x w) : (w.cell? ⟨P, k, none⟩ = some (.int .i64 x) ∧ ∀ j, j < k → w.cell? ⟨P, j, none⟩ = some (.int .i64 (cntL ns j : Int))) ∧ w.frozen? ⟨P, k, none⟩ = false ∧ P < w.heap.size := by
  obtain ⟨arr, h1, h2, h3, h4⟩ := h
  obtain ⟨c1, c2, c3⟩ := cells_of h1
  exact ⟨⟨c1 k _ h4, fun j hj => c1 j _ (h3 j hj)⟩, c2 k, c3⟩
theorem SzB.next {P k : Nat} {ns : List Nd} {w : World} (h : SzB P ns k (cntL ns k : Int) w) : SzA P ns (k + 1) w := by
  obtain ⟨arr, h1, h2, h3, h4⟩ := h
  refine ⟨arr, h1, h2, fun j hj => ?_⟩
  by_cases e : j = k
  · subst e; exact h4
  · exact h3 j (by omega)
def zero60v : Array Value := #[.int .i64 0, .int .i64 0, .int .i64 0, .int .i64 0, .int .i64 0, .int .i64 0, .int .i64 0, .int .i64 0, .int .i64 0, .int .i64 0, .int .i64 0, .int .i64 0, .int .i64 0, .int .i64 0, .int .i64 0, .int .i64 0, .int .i64 0, .int .i64 0, .int .i64 0, .int .i64 0, .int .i64 0, .int .i64 0, .int .i64 0, .int .i64 0, .int .i64 0, .int .i64 0, .int .i64 0, .int .i64 0, .int .i64 0, .int .i64 0, .int .i64 0, .int .i64 0, .int .i64 0, .int .i64 0, .int .i64 0, .int .i64 0, .int .i64 0, .int .i64 0, .int .i64 0, .int .i64 0, .int .i64 0, .int .i64 0, .int .i64 0, .int .i64 0, .int .i64 0, .int .i64 0, .int .i64 0, .int .i64 0, .int .i64 0, .int .i64 0, .int .i64 0, .int .i64 0, .int .i64 0, .int .i64 0, .int .i64 0, .int .i64 0, .int .i64 0, .int .i64 0, .int .i64 0, .int .i64 0]
theorem zero60 : zero60v.size = 60 := rfl
/-- the count after j children -/
def partC (ns : List Nd) (x : Nd) (j : Nat) : Nat := ownC x.kind + (((chN x).take j).map fun c => cntL ns c.toNat).sum
theorem part_next {ns : List Nd} {x : Nd} {j : Nat} {c : Int} (h : (chN x)[j]? = some c) : partC ns x (j + 1) = partC ns x j + cntL ns c.toNat := by
  unfold partC
  obtain ⟨h1, h2⟩ := List.getElem?_eq_some_iff.1 h
  rw [List.take_succ_eq_append_getElem h1, h2, List.map_append, List.sum_append]
  simp; omega
theorem sz_next {P k j : Nat} {ns : List Nd} {x : Nd} {w : World} (h : SzB P ns k (partC ns x j : Nat) w) (e : partC ns x j = cntL ns k) : SzA P ns (k + 1) w := by rw [e] at h; exact h.next
theorem sz_step {P R k j i : Nat} {ns : List Nd} {x : Nd} {w wi : World} {o : Obj} (h : SzB P ns k (partC ns x j : Nat) wi ∧ wi.heap[R]? = some o ∧ Below P w wi) (hk : k < 60) (hPR : P < R) (e : partC ns x (j + 1) = partC ns x j + cntL ns i) :
    ∀ W', Below wi.heap.size wi W' → (SzB P ns k (partC ns x (j + 1) : Nat) (W'.setCell ⟨P, k, none⟩ (.int .i64 ((partC ns x j : Int) + (cntL ns i : Int)))) ∧ (W'.setCell ⟨P, k, none⟩ (.int .i64 ((partC ns x j : Int) + (cntL ns i : Int)))).heap[R]? = some o ∧ Below P w (W'.setCell ⟨P, k, none⟩ (.int .i64 ((partC ns x j : Int) + (cntL ns i : Int))))) := by
  intro W' hb
  obtain ⟨h1, h2, h3⟩ := h
  refine ⟨?_, ?_, (h3.trans (hb.mono (Nat.le_of_lt h1.at.2.2))).setCell (p := ⟨P, k, none⟩) (Nat.le_refl _) _⟩
  · rw [e]
    have := (h1.up hb h1.at.2.2).set hk ((partC ns x j : Int) + (cntL ns i : Int))
    simpa using this
  · rw [heap_setCell_other _ _ _ _ (by dsimp only; omega)]
    exact (hb.block _ (lt_of_block h2)).trans h2
set_option maxRecDepth 100000 in
set_option maxHeartbeats 4000000 in
theorem isShort_any (B : Nat) (v : Value) (ns : List Nd) (w : World) (h : NdsAt B w v ns) (hB : B ≤ w.heap.size) (hK : KindsAt w) (hv : validL ns = (0, 0)) :
    Calls Tryd.prog 42 #[v] w fun e w' => e = .returned (.bool (shortB ns)) ∧ Below w.heap.size w w' := by
  have HFI := Lib.hid (fine_of hv)
  have HVA := Lib.hid (validL_all hv)
  have HK := Lib.hid hK
  have HB0 := Lib.hid hB
  obtain ⟨A, n, c, rfl, Hn, -, HT, HC⟩ := h.opens
  have hn60 : n ≤ 60 := by rw [← Hn.out]; exact HVA.out.1.2
  have hb0 : Below w.heap.size w (w.alloc (.cells zero60v 102)) := (Below.refl _ _).alloc (Nat.le_refl _) _
  have hA0 : SzA w.heap.size ns 0 (w.alloc (.cells zero60v 102)) := ⟨_, heap_alloc_new _ _, zero60, fun j hj => by omega⟩
  have HA0 := Lib.hid (And.intro hA0 hb0)
  clear h hK hv hB hb0 hA0
  go_enter Tryd.func42, Tryd.ntmps42
  go_wp2_with fail
  go_loopw [10] (fun u10 wr => ∃ k : Nat, k ≤ n ∧ u10 = .int .i64 k ∧ Hid (∀ j, j < k → cntL ns j ≤ 8000) ∧ Hid (SzA w.heap.size ns k wr) ∧ Hid (Below w.heap.size w wr)) (fun i _ => n - (intOf i).toNat)
  case atStart => exact ⟨0, Nat.zero_le _, rfl, Lib.hid (fun j hj => by omega), Lib.hid HA0.out.1, Lib.hid HA0.out.2⟩
  case round =>
    obtain ⟨k, hk, rfl, HQ, HA, HB⟩ := hrel
    by_cases hlt : k < n
    · obtain ⟨b1, o1, rfl, hb1, g1⟩ := HC.out (by omega)
      obtain ⟨x, hx⟩ := getElem?_of_lt Hn.out hlt
      have HX := Lib.hid hx
      obtain ⟨p0, p1, p2, p3, p4⟩ := (g1 k x hx).below (HB.out.mono HB0.out) hb1
      have hb1r := block_lt_of_cell p0
      obtain ⟨⟨hk1, hk14⟩, -, -⟩ := HFI.out k x hx
      have hck := HVA.out.2 k x hx
      have HKIDS := Lib.hid (chk_kids hck)
      clear HC g1 hx hck
      have hnd : Below wr.heap.size wr (wr.alloc (.cells #[.int .i64 x.kind, .int .i64 x.val, strV x.name, .int .i64 x.left, .int .i64 x.right] 59)) := (Below.refl _ _).alloc (Nat.le_refl _) _
      have HND := Lib.hid hnd
      have HNB := Lib.hid (show (wr.alloc (.cells #[.int .i64 x.kind, .int .i64 x.val, strV x.name, .int .i64 x.left, .int .i64 x.right] 59)).heap[wr.heap.size]? = some (.cells #[.int .i64 x.kind, .int .i64 x.val, strV x.name, .int .i64 x.left, .int .i64 x.right] 59 (0, 0)) from heap_alloc_new _ _)
      have CO := Lib.hid (ownTokens_any x.kind (wr.alloc (.cells #[.int .i64 x.kind, .int .i64 x.val, strV x.name, .int .i64 x.left, .int .i64 x.right] 59)) ⟨by omega, by omega⟩ ((HK.out.up HB.out).up hnd))
      have hPr := (HA.out.room (by omega)).2.2
      obtain ⟨N, hN⟩ : ∃ N, N = wr.heap.size := ⟨_, rfl⟩
      have hPN : w.heap.size < N := by omega
      obtain ⟨V, hV⟩ : ∃ V, V = (wr.alloc (.cells #[.int .i64 x.kind, .int .i64 x.val, strV x.name, .int .i64 x.left, .int .i64 x.right] 59)) := ⟨_, rfl⟩
      have HVQ := Lib.hid hV
      rw [← hV] at HND HNB CO
      rw [← hN] at HNB
      have HAV := Lib.hid (HA.out.up HND.out hPr)
      have HBV := Lib.hid (HB.out.trans (HND.out.mono HB.out.size))
      clear hnd hV
      go_wp2_with fail
      rw [← hN, show (wr.alloc (.cells #[.int .i64 x.kind, .int .i64 x.val, .string { data := x.name.toArray }, .int .i64 x.left, .int .i64 x.right] 59)) = V from HVQ.out.symm]
      clear hN p0 p1 p2 p3 p4 hb1r hPr
      refine CO.out.mono ?_
      rintro e w' ⟨rfl, rfl⟩
      obtain ⟨⟨u, hu⟩, hfu, hPV⟩ := HAV.out.room (show k < 60 by omega)
      have HB6 := Lib.hid (HAV.out.put (show k < 60 by omega) (ownC x.kind : Int))
      have HNB2 := Lib.hid (show (V.setCell ⟨w.heap.size, k, none⟩ (.int .i64 (ownC x.kind : Int))).heap[N]? = some (.cells #[.int .i64 x.kind, .int .i64 x.val, strV x.name, .int .i64 x.left, .int .i64 x.right] 59 (0, 0)) by rw [heap_setCell_other _ _ _ _ (by dsimp only; omega)]; exact HNB.out)
      have HBV2 := Lib.hid (show Below w.heap.size w (V.setCell ⟨w.heap.size, k, none⟩ (.int .i64 (ownC x.kind : Int))) from HBV.out.setCell (p := ⟨w.heap.size, k, none⟩) (Nat.le_refl _) _)
      have CC := Lib.hid (children_any x (V.setCell ⟨w.heap.size, k, none⟩ (.int .i64 (ownC x.kind : Int))) ⟨by omega, by omega⟩ (HK.out.up HBV2.out))
      obtain ⟨⟨m0, m1, m2⟩, ⟨m3, m4⟩, m5⟩ := nd_cells HNB.out
      have hk60 : k < 60 := by omega
      unfold Nd.v at CC
      clear CO HA HND
      go_wp2_with fail
      refine CC.out.mono ?_
      rintro e W6 ⟨⟨R, rfl, hR, hRc⟩, hb6⟩
      rw [← chN_length (child_le x.kind.toNat (by omega))]
      have hPR : w.heap.size < R := by rw [World.size_setCell] at hR; omega
      have HIN := Lib.hid (show SzB w.heap.size ns k (partC ns x 0 : Nat) W6 ∧ W6.heap[R]? = some (.cells #[.int .i64 x.left, .int .i64 x.right] 3 (0, 0)) ∧ Below w.heap.size w W6 from
        ⟨HB6.out.up hb6 HB6.out.at.2.2, hRc, HBV2.out.trans (hb6.mono HBV2.out.size)⟩)
      have HPL := Lib.hid (show partC ns x (chN x).length = cntL ns k by unfold partC; rw [List.take_length, cnt_sum HFI.out HX.out])
      obtain ⟨c0, hc0⟩ : ∃ c0, c0 = (chN x).length := ⟨_, rfl⟩
      have hc2 : c0 ≤ 2 := by rw [hc0]; exact chN_len x
      rw [← hc0] at HPL ⊢
      have HC0 := Lib.hid hc0
      clear hb6 hR hRc hc0 CC HB6 HNB2 HBV2 m0 m1 m2 m3 m4 m5 hu hfu hPV HVQ HNB HAV HBV
      go_wp2_with fail
      go_loopw [23] (fun u23 wi => ∃ j : Nat, j ≤ c0 ∧ u23 = .int .i64 j ∧ Hid (SzB w.heap.size ns k (partC ns x j : Nat) wi ∧ wi.heap[R]? = some (.cells #[.int .i64 x.left, .int .i64 x.right] 3 (0, 0)) ∧ Below w.heap.size w wi)) (fun u23 _ => c0 - (intOf u23).toNat)
      case atStart => exact ⟨0, Nat.zero_le _, rfl, HIN⟩
      case round =>
        obtain ⟨j, hj, rfl, HI⟩ := hrel
        obtain ⟨⟨z0, z1⟩, z2, z3⟩ := HI.out.1.at
        by_cases hjc : j < c0
        · obtain ⟨ch, hch⟩ : ∃ ch, (chN x)[j]? = some ch := ⟨_, List.getElem?_eq_getElem (by rw [← HC0.out]; exact hjc)⟩
          have hchk := HKIDS.out ch (List.mem_of_getElem? hch)
          obtain ⟨i, rfl⟩ : ∃ i : Nat, ch = i := ⟨ch.toNat, by omega⟩
          have hik : i < k := by omega
          have r0 := chN_at HI.out.2.1 j _ hch
          have y0 := z1 i hik
          have hRl := block_lt_of_cell r0
          have hi60 : i < 60 := by omega
          have hpn := part_next (ns := ns) hch
          rw [Int.toNat_natCast] at hpn
          have HPN := Lib.hid hpn
          clear hpn
          have hq8 := HQ.out i hik
          have hpb : partC ns x j ≤ 16003 := by
            unfold partC
            have : ownC x.kind ≤ 3 := by unfold ownC; split <;> omega
            have hall : ∀ l : List Int, (∀ y ∈ l, y ∈ chN x) → l.length ≤ 2 → (l.map fun c => cntL ns c.toNat).sum ≤ 8000 * l.length := by
              intro l hl _
              induction l with
              | nil => simp
              | cons a r ih =>
                have ha := HKIDS.out a (hl a (List.mem_cons_self ..))
                have := HQ.out a.toNat (by omega)
                have h2 := ih (fun y hy => hl y (List.mem_cons_of_mem _ hy)) (by rename_i hh; simp at hh; omega)
                rw [List.map_cons, List.sum_cons, List.length_cons]
                omega
            have h3 := hall ((chN x).take j) (fun y hy => List.mem_of_mem_take hy) (by rw [List.length_take]; have := HC0.out; omega)
            have h4 : ((chN x).take j).length ≤ 2 := by rw [List.length_take]; have := HC0.out; omega
            omega
          clear z1 hch hchk HKIDS HPL HQ
          have HI2 := Lib.hid (sz_step HI.out hk60 (by omega) HPN.out)
          generalize partC ns x j = pj at z0 HI2 hpb
          generalize cntL ns i = ci at y0 HI2 hq8
          go_wp2_with fail
          go_region
          all_goals
            go_wp2_with fail
            go_roundw
            case rel => exact ⟨j + 1, by omega, by go_num, Lib.hid (HI2.out _ ((Below.refl _ _).drew))⟩
            case measure => simp [intOf]; omega
        · obtain rfl : j = c0 := by omega
          have HAN := Lib.hid (sz_next HI.out.1 HPL.out)
          have HBN := Lib.hid HI.out.2.2
          rw [HPL.out] at z0
          clear z1 HI HKIDS HPL
          by_cases hc : 8000 < cntL ns k
          · have E := Lib.hid (short_no (ns := ns) (by rw [Hn.out]; exact hlt) hc)
            generalize cntL ns k = ck at z0 hc
            go_wp2_with fail
            go_ret
            exact ⟨ret_bool E.out.symm, HBN.out⟩
          · have HQ2 := Lib.hid (show ∀ j, j < k + 1 → cntL ns j ≤ 8000 from fun j hj => by
              by_cases e : j = k
              · subst e; omega
              · exact HQ.out j (by omega))
            generalize cntL ns k = ck at z0 hc
            go_wp2_with fail
            go_roundw
            case rel => exact ⟨k + 1, by omega, by go_num, HQ2, HAN, HBN⟩
            case measure => simp [intOf]; omega
    · obtain rfl : k = n := by omega
      have E := Lib.hid (short_yes (ns := ns) (by rw [Hn.out]; exact HQ.out))
      go_wp2_with fail
      go_ret
      exact ⟨ret_bool E.out.symm, HB.out⟩
end Go.Proofs.YtchpkdpefpiegaaDoor.Tok
