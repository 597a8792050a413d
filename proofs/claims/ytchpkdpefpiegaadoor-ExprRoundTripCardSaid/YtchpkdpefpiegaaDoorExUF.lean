/- Contracts of written and Tokens. -/
import Derived.Test.YtchpkdpefpiegaaDoorExUD
import Derived.Test.YtchpkdpefpiegaaDoorExUE
namespace Go.Proofs.YtchpkdpefpiegaaDoor.Tok
open Go Go.RowKit

theorem heap_four (w : World) (o1 o2 o3 o4 : Obj) : ((((w.alloc o1).alloc o2).alloc o3).alloc o4).heap[w.heap.size + 3]? = some o4 := by
  have := heap_alloc_new (((w.alloc o1).alloc o2).alloc o3) o4
  rw [World.size_alloc, World.size_alloc, World.size_alloc] at this
  exact this
theorem run_store_func (w : World) (a : Addr) (f : Fn) (ts cs : Array Value) (m : Mode) : (store a (.func f ts cs) m).run Tryd.prog w = stored Tryd.prog w a (.func f ts cs) m := run_store Tryd.prog w a _ m rfl
attribute [local go_sem] run_store_func
set_option maxRecDepth 100000 in
set_option maxHeartbeats 4000000 in
theorem written_any (B : Nat) (v : Value) (ns : List Nd) (w : World) (h : NdsAt B w v ns) (hB : B ≤ w.heap.size) (hK : KindsAt w) (hv : validL ns = (0, 0)) (hs : shortB ns = true) :
    Calls Tryd.prog 43 #[v] w fun e W => (∃ v', e = .returned v' ∧ W.ownsRow w.heap.size 31 4 v' (toksL ns (ns.length - 1)).length (tkv (toksL ns (ns.length - 1)))) ∧ Below w.heap.size w W := by
  have HFI := Lib.hid (fine_of hv)
  have HVA := Lib.hid (validL_all hv)
  have hcnt := short_all hs
  have hnpos : 1 ≤ ns.length := HVA.out.1.1
  obtain ⟨A, n, c, rfl, Hn, -, HT, -⟩ := h.opens
  have hn1 : 1 ≤ n := by rw [← Hn.out]; exact hnpos
  have hn60 : n ≤ 60 := by rw [← Hn.out]; exact HVA.out.1.2
  obtain ⟨m, rfl⟩ : ∃ m, n = m + 1 := ⟨n - 1, by omega⟩
  have hm : ns.length - 1 = m := by rw [Hn.out]; omega
  rw [hm]
  obtain ⟨y, hy⟩ : ∃ y, ns[m]? = some y := ⟨_, List.getElem?_eq_getElem (by rw [Hn.out]; omega)⟩
  have hlm : 0 + cntL ns m ≤ 100000 := by have := hcnt m (by rw [Hn.out]; omega); omega
  obtain ⟨-, b1, o1, rfl, hb1, -⟩ := nds_at (K := B) h hy
  have hG := hK.lt
  obtain ⟨V, hV⟩ : ∃ V, V = ((((w.alloc (.cells #[.slice (some ⟨b1, o1, none⟩) (m + 1) c] 24)).alloc (.cells #[.slice none 0 0] 22)).alloc (.cells #[signF w.heap.size] 103)).alloc (.cells #[putF w.heap.size] 104)) := ⟨_, rfl⟩
  have hb : Below w.heap.size w V := by rw [hV]; exact ((((Below.refl _ _).alloc (Nat.le_refl _) _).alloc (by simp) _).alloc (by simp; omega) _).alloc (by simp; omega) _
  have hsz : V.heap.size = w.heap.size + 4 := by rw [hV]; simp
  have HS := Lib.hid (show PutS w.heap.size (.slice (some ⟨b1, o1, none⟩) (m + 1) c) ns V [] (.slice none 0 0) by
    refine ⟨⟨?_, World.ownsRow_nil _ _ _ _, by omega, by omega⟩, ?_, ?_, ?_, (h.below (hb.mono hB)).more hB, hK.up hb⟩
    · rw [hV]; exact heap_allocL _ (heap_allocL _ (heap_new1 _ _ _))
    · rw [hV]; exact heap_allocL _ (heap_allocL _ (heap_allocL _ (heap_alloc_new _ _)))
    · rw [hV]; exact heap_allocL _ (heap_new2 _ _ _ _)
    · rw [hV]; exact heap_four _ _ _ _ _)
  have HB := Lib.hid hb
  have HVQ := Lib.hid hV
  have HP := Lib.hid (put_any w.heap.size (.slice (some ⟨b1, o1, none⟩) (m + 1) c) ns hG HFI.out HT.out (m + 1) m y (by omega) hy)
  have hbw : b1 < w.heap.size := by omega
  have hm59 : m ≤ 59 := by omega
  unfold signF putF at HVQ
  clear h hK hv hs hcnt hV hb
  go_enter Tryd.func43, Tryd.ntmps43
  go_wp2_with fail
  rw [show ((((w.alloc (.cells #[.slice (some ⟨b1, o1, none⟩) (m + 1) c] 24)).alloc (.cells #[.slice none 0 0] 22)).alloc (.cells #[.func (.func 66) #[] #[.pointer (some ⟨w.heap.size + 1, 0, none⟩)]] 103)).alloc (.cells #[.func (.func 67) #[] #[.pointer (some ⟨w.heap.size + 1, 0, none⟩), .pointer (some ⟨w.heap.size + 1 + 1, 0, none⟩), .pointer (some ⟨w.heap.size + 1 + 1 + 1, 0, none⟩), .pointer (some ⟨w.heap.size, 0, none⟩)]] 104)) = V from HVQ.out.symm]
  clear HVQ
  have KS := Lib.hid (show ∀ (W' : World) tt vv, PutS w.heap.size (.slice (some ⟨b1, o1, none⟩) (m + 1) c) ns W' tt vv → ((W'.cell? ⟨w.heap.size, 0, none⟩ = some (.slice (some ⟨b1, o1, none⟩) (m + 1) c) ∧ W'.cell? ⟨w.heap.size + 3, 0, none⟩ = some (.func (.func 67) #[] #[.pointer (some ⟨w.heap.size + 1, 0, none⟩), .pointer (some ⟨w.heap.size + 2, 0, none⟩), .pointer (some ⟨w.heap.size + 3, 0, none⟩), .pointer (some ⟨w.heap.size, 0, none⟩)])) ∧ (W'.cell? ⟨b1, o1 + m * 5, none⟩ = some (.int .i64 y.kind) ∧ W'.cell? ⟨b1, o1 + m * 5 + 1, none⟩ = some (.int .i64 y.val) ∧ W'.cell? ⟨b1, o1 + m * 5 + 2, none⟩ = some (strV y.name) ∧ W'.cell? ⟨b1, o1 + m * 5 + 3, none⟩ = some (.int .i64 y.left) ∧ W'.cell? ⟨b1, o1 + m * 5 + 4, none⟩ = some (.int .i64 y.right))) from fun W' tt vv hs => by
    obtain ⟨⟨h1, -, h2⟩, -⟩ := hs.opens
    obtain ⟨-, b, o, e, -, h3⟩ := nds_at hs.nds hy
    injection e with e
    injection e with e1 e2 _
    subst e1 e2
    exact ⟨⟨h1, h2⟩, h3⟩)
  have hcur : Below V.heap.size V V.drew := (Below.refl _ _).drew
  have hS0 := KS.out _ _ _ (HS.out.up hcur)
  refine region_till 7 (fun W' => (W'.cell? ⟨w.heap.size, 0, none⟩ = some (.slice (some ⟨b1, o1, none⟩) (m + 1) c) ∧ W'.cell? ⟨w.heap.size + 3, 0, none⟩ = some (.func (.func 67) #[] #[.pointer (some ⟨w.heap.size + 1, 0, none⟩), .pointer (some ⟨w.heap.size + 2, 0, none⟩), .pointer (some ⟨w.heap.size + 3, 0, none⟩), .pointer (some ⟨w.heap.size, 0, none⟩)])) ∧ (W'.cell? ⟨b1, o1 + m * 5, none⟩ = some (.int .i64 y.kind) ∧ W'.cell? ⟨b1, o1 + m * 5 + 1, none⟩ = some (.int .i64 y.val) ∧ W'.cell? ⟨b1, o1 + m * 5 + 2, none⟩ = some (strV y.name) ∧ W'.cell? ⟨b1, o1 + m * 5 + 3, none⟩ = some (.int .i64 y.left) ∧ W'.cell? ⟨b1, o1 + m * 5 + 4, none⟩ = some (.int .i64 y.right))) (by kernel_rfl) ?_
  refine till_take (i := 0) [7] (v := ?_) rfl (by kernel_rfl) (by kernel_rfl) (by kernel_rfl) (by kernel_rfl) (fun _ _ _ h => h) (Or.inl ⟨by rfl, ?_⟩) hS0 ?_
  rotate_left
  · rintro W' ⟨⟨h1, h2⟩, h3⟩; go_simp; rfl
  try simp [Act.put]
  refine till_take (i := 1) [5, 6, 7] (v := ?_) rfl (by kernel_rfl) (by kernel_rfl) (by kernel_rfl) (by kernel_rfl) (fun _ _ _ h => h) (Or.inl ⟨by rfl, ?_⟩) hS0 ?_
  rotate_left
  · rintro W' ⟨⟨h1, h2⟩, h3⟩; go_simp; rfl
  try simp [Act.put]
  refine till_take (i := 2) [3, 4, 5, 6, 7] (v := ?_) rfl (by kernel_rfl) (by kernel_rfl) (by kernel_rfl) (by kernel_rfl) (fun _ _ _ h => h) (Or.inl ⟨by rfl, ?_⟩) hS0 ?_
  rotate_left
  · rintro W' ⟨⟨h1, h2⟩, h3⟩; go_simp; rfl
  try simp [Act.put]
  refine till_one (i := 3) (by kernel_rfl) rfl (by rfl) (fun K' hK => ?_)
  skip
  go_simp
  refine hK _ _ (fun _ => hS0) ?_
  clear hK K'
  try simp [Act.put]
  refine till_one (i := 4) (by kernel_rfl) rfl (by rfl) (fun K' hK => ?_)
  have hwr3 : IntKind.i64.wrap (m : Int) = (m : Int) := by rw [IntWalk.i64_left]; exact IntWalk.wrap64_in (m : Int) ⟨by omega, by omega⟩
  go_simp
  refine hK _ _ (fun _ => hS0) ?_
  clear hK K'
  try simp [Act.put]
  refine till_one (i := 5) (by kernel_rfl) rfl (by rfl) (fun K' hK => ?_)
  have hix2 : (m : Int) < (m : Int) + 1 := by omega
  go_simp
  refine hK _ _ (fun _ => hS0) ?_
  clear hK K'
  try simp [Act.put]
  refine till_one (i := 6) (by kernel_rfl) rfl (by rfl) (fun K' hK => ?_)
  obtain ⟨-, q0, q1, q2, q3, q4⟩ := hS0
  go_simp
  refine hK _ _ (fun _ => KS.out _ _ _ (HS.out.up hcur)) ?_
  clear hK K'
  try simp [Act.put]
  refine till_one (i := 7) (by kernel_rfl) rfl (by rfl) (fun K' hK => ?_)
  go_simp
  refine (HP.out _ _ _ (HS.out.up hcur) hlm).mono ?_
  rintro e W1 ⟨rfl, v1, hsn, hfn⟩
  have hfn := (PutF.of (bl := w.heap.size + 1) (.slice none 0 0) hcur).trans hfn
  have HS1 := Lib.hid hsn
  have HF1 := Lib.hid hfn
  refine hK _ _ (fun h => absurd h (by decide)) ?_
  clear hK K' hsn hfn
  refine till_done (by kernel_rfl) ?_ _
  clear hcur KS HP
  obtain ⟨⟨x0, x1, x2⟩, x3, x4, x5⟩ := HS1.out.opens
  go_wp2_with fail
  go_ret
  refine ⟨⟨v1, rfl, ?_⟩, ?_⟩
  · have h1 := HS1.out.l.row
    rw [List.nil_append] at h1
    exact ownsRow_base h1 (by omega)
  · exact HB.out.trans (HF1.out.below (by omega) (by omega) (fun r e => by cases e))
set_option maxRecDepth 100000 in
set_option maxHeartbeats 4000000 in
/-- what Tokens answers -/
theorem tokens_bad (B : Nat) (v : Value) (ns : List Nd) (w : World) (h : NdsAt B w v ns) (hB : B ≤ w.heap.size) (hK : KindsAt w) (hv : (validL ns).1 ≠ 0) :
    Calls Tryd.prog 21 #[v] w fun e W => e = .returned (.tuple #[.slice none 0 0, faultV (validL ns)]) ∧ Below w.heap.size w W := by
  have C := Lib.hid (validate_any B v ns (fltW w) (h.below ((fltW_below w).mono hB)) (Nat.le_trans hB (fltW_below w).size) (hK.up (fltW_below w)))
  have HFB := Lib.hid (fun W (hb : Below (fltW w).heap.size (fltW w) W) => fault_cells (w := w) (W := W) hb)
  have HF0 := Lib.hid (fltW_below w)
  obtain ⟨A, n, c, rfl, -⟩ := h.opens
  generalize validL ns = f at C hv ⊢
  obtain ⟨f1, f2⟩ := f
  have hf1 : (f1 == 0) = false := beq_eq_false_iff_ne.2 hv
  have hf2 : (f1 != 0) = true := by simp [bne, hf1]
  unfold faultV at C ⊢
  dsimp only at C ⊢
  clear h hK hv
  go_enter Tryd.func21, Tryd.ntmps21
  go_wp2_with fail
  refine C.out.mono ?_
  rintro e W1 ⟨rfl, hb1⟩
  obtain ⟨c0, c1, c2, c3, c4⟩ := HFB.out W1 hb1
  have hbl := Lib.hid hb1
  have HB1 := Lib.hid (HF0.out.trans (hb1.mono HF0.out.size))
  clear hb1 C
  go_wp2_with fail
  obtain ⟨V, hV⟩ : ∃ V, V = (W1.alloc (.cells #[.int .i64 f1, .int .i64 f2] 26)) := ⟨_, rfl⟩
  have hbv : Below W1.heap.size W1 V := by rw [hV]; exact (Below.refl _ _).alloc (Nat.le_refl _) _
  obtain ⟨d0, d1, d2, d3, d4⟩ := HFB.out V (by have h1 := HB1.out; exact hbl.out.trans (hbv.mono hbl.out.size))
  have g0 : V.cell? ⟨W1.heap.size, 0, none⟩ = some (.int .i64 f1) := by rw [hV]; exact cells_new 0 _ rfl
  have g1 : V.cell? ⟨W1.heap.size, 1, none⟩ = some (.int .i64 f2) := by rw [hV]; exact cells_new 1 _ rfl
  have HB2 := Lib.hid (HB1.out.trans (hbv.mono HB1.out.size))
  rw [← hV]
  clear hV hbv c0 c1 c2 c3 c4
  go_region
  all_goals
    go_wp2_with fail
    refine bodyPost_ret (v := .tuple #[.slice none 0 0, .agg #[.int .i64 f1, .int .i64 f2]]) (by simp [results, Tryd.results21, go_sem, d0, d1]) rfl ?_
    exact ⟨rfl, by first | exact (HB2.out.setCell (p := ⟨w.heap.size, 0, none⟩) (Nat.le_refl _) _).setCell (p := ⟨w.heap.size, 1, none⟩) (Nat.le_refl _) _ | exact (HB2.out.drew.setCell (p := ⟨w.heap.size, 0, none⟩) (Nat.le_refl _) _).setCell (p := ⟨w.heap.size, 1, none⟩) (Nat.le_refl _) _ | exact ((HB2.out.setCell (p := ⟨w.heap.size, 0, none⟩) (Nat.le_refl _) _).setCell (p := ⟨w.heap.size, 1, none⟩) (Nat.le_refl _) _).drew⟩
set_option maxRecDepth 100000 in
set_option maxHeartbeats 4000000 in
theorem tokens_long (B : Nat) (v : Value) (ns : List Nd) (w : World) (h : NdsAt B w v ns) (hB : B ≤ w.heap.size) (hK : KindsAt w) (hv : validL ns = (0, 0)) (hs : shortB ns = false) :
    Calls Tryd.prog 21 #[v] w fun e W => e = .returned (.tuple #[.slice none 0 0, faultV (10, -3)]) ∧ Below w.heap.size w W := by
  have C := Lib.hid (validate_any B v ns (fltW w) (h.below ((fltW_below w).mono hB)) (Nat.le_trans hB (fltW_below w).size) (hK.up (fltW_below w)))
  have HFB := Lib.hid (fun W (hb : Below (fltW w).heap.size (fltW w) W) => fault_cells (w := w) (W := W) hb)
  have HF0 := Lib.hid (fltW_below w)
  have CS := Lib.hid (fun W (hb : Below w.heap.size w W) => isShort_any B v ns W (h.below (hb.mono hB)) (Nat.le_trans hB hb.size) (hK.up hb) hv)
  obtain ⟨A, n, c, rfl, -⟩ := h.opens
  rw [hv] at C
  rw [hs] at CS
  unfold faultV at C ⊢
  dsimp only at C ⊢
  clear h hK hv hs
  go_enter Tryd.func21, Tryd.ntmps21
  go_wp2_with fail
  refine C.out.mono ?_
  rintro e W1 ⟨rfl, hb1⟩
  have hbv : Below W1.heap.size W1 (W1.alloc (.cells #[.int .i64 0, .int .i64 0] 26)) := (Below.refl _ _).alloc (Nat.le_refl _) _
  have HF1 := Lib.hid (hb1.trans (hbv.mono hb1.size))
  have HB1 := Lib.hid (HF0.out.trans (HF1.out.mono HF0.out.size))
  clear hb1 C hbv
  go_wp2_with fail
  refine (CS.out _ HB1.out).mono ?_
  rintro e W2 ⟨rfl, hb2⟩
  obtain ⟨d0, d1, d2, d3, d4⟩ := HFB.out W2 (HF1.out.trans (hb2.mono HF1.out.size))
  have HB2 := Lib.hid (HB1.out.trans (hb2.mono HB1.out.size))
  clear hb2 CS
  go_wp2_with fail
  refine bodyPost_ret (v := .tuple #[.slice none 0 0, .agg #[.int .i64 10, .int .i64 (-3)]]) (by simp [results, Tryd.results21, go_sem, d0, d1]) rfl ?_
  exact ⟨rfl, (HB2.out.setCell (p := ⟨w.heap.size, 0, none⟩) (Nat.le_refl _) _).setCell (p := ⟨w.heap.size, 1, none⟩) (Nat.le_refl _) _⟩
set_option maxRecDepth 100000 in
set_option maxHeartbeats 4000000 in
theorem tokens_good (B : Nat) (v : Value) (ns : List Nd) (w : World) (h : NdsAt B w v ns) (hB : B ≤ w.heap.size) (hK : KindsAt w) (hv : validL ns = (0, 0)) (hs : shortB ns = true) :
    Calls Tryd.prog 21 #[v] w fun e W => (∃ v', e = .returned (.tuple #[v', faultV (0, 0)]) ∧ W.ownsRow w.heap.size 31 4 v' (toksL ns (ns.length - 1)).length (tkv (toksL ns (ns.length - 1)))) ∧ Below w.heap.size w W := by
  have C := Lib.hid (validate_any B v ns (fltW w) (h.below ((fltW_below w).mono hB)) (Nat.le_trans hB (fltW_below w).size) (hK.up (fltW_below w)))
  have HFB := Lib.hid (fun W (hb : Below (fltW w).heap.size (fltW w) W) => fault_cells (w := w) (W := W) hb)
  have HF0 := Lib.hid (fltW_below w)
  have CS := Lib.hid (fun W (hb : Below w.heap.size w W) => isShort_any B v ns W (h.below (hb.mono hB)) (Nat.le_trans hB hb.size) (hK.up hb) hv)
  have CW := Lib.hid (fun W (hb : Below w.heap.size w W) => written_any B v ns W (h.below (hb.mono hB)) (Nat.le_trans hB hb.size) (hK.up hb) hv hs)
  obtain ⟨A, n, c, rfl, -⟩ := h.opens
  rw [hv] at C
  rw [hs] at CS
  unfold faultV at C ⊢
  dsimp only at C ⊢
  clear h hK hv hs
  generalize toksL ns (ns.length - 1) = ts at CW ⊢
  go_enter Tryd.func21, Tryd.ntmps21
  go_wp2_with fail
  refine C.out.mono ?_
  rintro e W1 ⟨rfl, hb1⟩
  have hbv : Below W1.heap.size W1 (W1.alloc (.cells #[.int .i64 0, .int .i64 0] 26)) := (Below.refl _ _).alloc (Nat.le_refl _) _
  have HF1 := Lib.hid (hb1.trans (hbv.mono hb1.size))
  have HB1 := Lib.hid (HF0.out.trans (HF1.out.mono HF0.out.size))
  clear hb1 C hbv
  go_wp2_with fail
  refine (CS.out _ HB1.out).mono ?_
  rintro e W2 ⟨rfl, hb2⟩
  have HF2 := Lib.hid (HF1.out.trans (hb2.mono HF1.out.size))
  have HB2 := Lib.hid (HB1.out.trans (hb2.mono HB1.out.size))
  clear hb2 CS
  go_wp2_with fail
  refine (CW.out _ HB2.out).mono ?_
  rintro e W3 ⟨⟨v', rfl, hrow⟩, hb3⟩
  obtain ⟨d0, d1, d2, d3, d4⟩ := HFB.out W3 (HF2.out.trans (hb3.mono HF2.out.size))
  have HB3 := Lib.hid (HB2.out.trans (hb3.mono HB2.out.size))
  have hsz2 := HB2.out.size
  have hlt2 : w.heap.size < W2.heap.size := by have := HF2.out.size; rw [fltW_size] at this; omega
  have HR := Lib.hid (show ((W3.setCell ⟨w.heap.size, 0, none⟩ (.int .i64 0)).setCell ⟨w.heap.size, 1, none⟩ (.int .i64 0)).ownsRow w.heap.size 31 4 v' ts.length (tkv ts) from ownsRow_base (ownsRow_sets hrow hlt2 _ _) hsz2)
  obtain ⟨A9, c9, rfl⟩ := row_is hrow
  clear hb3 CW hrow
  go_wp2_with fail
  refine bodyPost_ret (v := .tuple #[.slice A9 ts.length c9, .agg #[.int .i64 0, .int .i64 0]]) (by simp [results, Tryd.results21, go_sem, d0, d1]) rfl ?_
  exact ⟨⟨_, rfl, HR.out⟩, (HB3.out.setCell (p := ⟨w.heap.size, 0, none⟩) (Nat.le_refl _) _).setCell (p := ⟨w.heap.size, 1, none⟩) (Nat.le_refl _) _⟩
end Go.Proofs.YtchpkdpefpiegaaDoor.Tok
