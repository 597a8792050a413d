/- The default table and the tiny table as lists of forms; both are valid; the examples of the document hold. Conditions: the library's table of white space reads as its text lays it. -/
import Derived.Test.YtbpnogpjpklmjaaDoorIsaH
import Derived.Test.YtbpnogpjpklmjaaDoorIsaK
namespace Go.Proofs.YtbpnogpjpklmjaaDoor
open Go Go.RowKit Go.Shelf

/-! ## the fault of a table asks nothing of where the kinds lie -/
def Frm.plain (f : Frm) : Frm := ⟨f.name, f.code, .slice none 0 0, f.kinds⟩
theorem checkList_plain (f : Frm) (es : List Frm) : checkList f.plain (es.map Frm.plain) = checkList f es := by
  have h : (es.map Frm.plain).any (clashB f.plain) = es.any (clashB f) := by rw [List.any_map]; rfl
  unfold checkList
  rw [h]
  rfl
theorem faultAt_plain (fs : List Frm) (k : Nat) : faultAt (fs.map Frm.plain) k = faultAt fs k := by
  unfold faultAt
  rw [List.getElem?_map]
  cases h : fs[k]? with
  | none => rfl
  | some f =>
    show formFault f.plain ((fs.map Frm.plain).take k) = formFault f (fs.take k)
    unfold formFault
    rw [← List.map_take, checkList_plain]
theorem scanFault_plain (fs : List Frm) : ∀ r k, scanFault (fs.map Frm.plain) r k = scanFault fs r k
  | 0, _ => rfl
  | r + 1, k => by
    unfold scanFault
    rw [faultAt_plain, scanFault_plain fs r (k + 1)]
theorem tableFault_plain (fs : List Frm) : tableFault (fs.map Frm.plain) = tableFault fs := by
  unfold tableFault
  rw [List.length_map, scanFault_plain]

/-! ## the tiny table -/
def tinyF (kv : Value) : List Frm := [⟨⟨#[97]⟩, 7, .slice none 0 0, []⟩, ⟨⟨#[98]⟩, 9, kv, [1, 3]⟩]
theorem tiny_fault (kv : Value) : tableFault (tinyF kv) = (0, 0) := by
  rw [← tableFault_plain]
  show tableFault [⟨⟨#[97]⟩, 7, .slice none 0 0, []⟩, ⟨⟨#[98]⟩, 9, .slice none 0 0, [1, 3]⟩] = (0, 0)
  kernel_rfl

/-! ## the default table -/
def defTab : List Frm := (List.range 59).map fun j => ⟨namesTab.getD j ByteArray.empty, (37 * (j : Int) + 11) % 256, .slice none 0 0, kindsTab.getD j []⟩
theorem def_fault0 : tableFault defTab = (0, 0) := by kernel_rfl

theorem tiny_any (w : World) : Calls Tryd.prog 21 #[] w fun e w' => ∃ v kv, e = .returned v ∧ FormsAt w'.heap.size w' v (tinyF kv) ∧ Below w.heap.size w w' := by
  go_enter Tryd.func21, Tryd.ntmps21
  go_wp2
  refine bodyPost_ret (v := .slice (some ⟨w.heap.size + 1, 0, none⟩) 2 2) (by simp [results, Tryd.results21, go_sem]) rfl ⟨_, .slice (some ⟨w.heap.size, 0, none⟩) 2 2, rfl, ?_, ((Below.refl _ _).alloc (Nat.le_refl _) _).alloc (by simp) _⟩
  refine ⟨_, 2, rfl, ⟨by simp [tinyF], by simp [tinyF]⟩, ?_, fun _ => ⟨_, 0, rfl, by simp, ?_⟩⟩
  · intro f hf
    simp [tinyF] at hf
    rcases hf with rfl | rfl
    · exact ⟨⟨none, 0, rfl, by simp, fun h => absurd h (by simp)⟩, by decide⟩
    · refine ⟨⟨_, 2, rfl, by simp, fun _ => ⟨_, 0, rfl, by simp; omega, fun j hj => ?_⟩⟩, by show (1 : Nat) ≤ 140737488351232; decide⟩
      match j, hj with
      | 0, _ => exact cell_alloc_l _ (by simp)
      | 1, _ => exact cell_alloc_l _ (by simp)
      | j + 2, hj => simp at hj; omega
  · intro j f hj
    match j, hj with
    | 0, hj => simp [tinyF] at hj; subst hj; exact ⟨by simp, by simp, by simp⟩
    | 1, hj => simp [tinyF] at hj; subst hj; exact ⟨by simp, by simp, by simp⟩
    | j + 2, hj => simp [tinyF] at hj

theorem cells_at : ∀ (fs : List Frm) (j i : Nat) (f : Frm), fs[j]? = some f → i < 3 → (cellsOf fs)[j * 3 + i]? = [Value.string f.name, .int .i64 f.code, f.kv][i]?
  | [], j, i, f, hj, _ => by simp at hj
  | g :: fs, 0, i, f, hj, hi => by
    simp at hj; subst hj
    show ([Value.string g.name, .int .i64 g.code, g.kv] ++ cellsOf fs)[0 * 3 + i]? = _
    rw [Nat.zero_mul, Nat.zero_add, List.getElem?_append_left (by simpa using hi)]
  | g :: fs, j + 1, i, f, hj, hi => by
    show ([Value.string g.name, .int .i64 g.code, g.kv] ++ cellsOf fs)[(j + 1) * 3 + i]? = _
    rw [List.getElem?_append_right (by simp; omega), show (j + 1) * 3 + i - [Value.string g.name, .int .i64 g.code, g.kv].length = j * 3 + i by simp; omega]
    exact cells_at fs j i f (by simpa using hj) hi
theorem kindsOver_at {lo B : Nat} {w : World} {v : Value} {ks : List Int} (h : KindsOver lo w v ks) (hB : w.heap.size ≤ B) : KindsAt B w v ks := h.at.more hB
theorem names_len : namesTab.length = 59 := rfl
theorem names_small : namesTab.all (fun n => decide (n.size ≤ 16)) = true := by kernel_rfl
/-- what Default hands back reads as forms -/
theorem DefForms.at {lo R : Nat} {w : World} {fs : List Frm} (h : DefForms lo w namesTab fs) (hr : w.ownsRow R 34 3 (.slice (some ⟨R, 0, none⟩) 59 59) 59 (cellsOf fs)) : FormsAt w.heap.size w (.slice (some ⟨R, 0, none⟩) 59 59) fs := by
  have hl : fs.length = 59 := h.1
  refine ⟨_, 59, by rw [hl], ⟨by omega, by omega⟩, fun f hf => ?_, fun _ => ⟨R, 0, rfl, (hr.lt R rfl).2, fun j f hj => ?_⟩⟩
  · obtain ⟨j, hj⟩ := List.mem_iff_getElem?.1 hf
    obtain ⟨h1, _, _, h4⟩ := h.2 j f hj
    refine ⟨h4.at, ?_⟩
    have := List.all_eq_true.1 names_small _ (List.mem_of_getElem? h1)
    simp at this
    omega
  · have hj' := (List.getElem?_eq_some_iff.1 hj).1
    have hc : ∀ i, i < 3 → w.cell? ⟨R, 0 + j * 3 + i, none⟩ = [Value.string f.name, .int .i64 f.code, f.kv][i]? := fun i hi => by
      rw [Nat.zero_add, hr.cellAt (j * 3 + i) (by omega)]
      exact cells_at fs j i f hj hi
    exact ⟨hc 0 (by omega), hc 1 (by omega), hc 2 (by omega)⟩
theorem DefForms.plain {lo : Nat} {w : World} {fs : List Frm} (h : DefForms lo w namesTab fs) : fs.map Frm.plain = defTab := by
  have hl : fs.length = 59 := h.1
  refine List.ext_getElem? fun j => ?_
  rw [List.getElem?_map]
  cases hj : fs[j]? with
  | none =>
    have := List.getElem?_eq_none_iff.1 hj
    rw [List.getElem?_eq_none (by simp [defTab]; omega)]
    rfl
  | some f =>
    obtain ⟨h1, h2, h3, _⟩ := h.2 j f hj
    have hj' := (List.getElem?_eq_some_iff.1 hj).1
    simp only [defTab, List.getElem?_map, List.getElem?_range (by omega : j < 59), Option.map_some, Frm.plain, h2, h3, List.getD_eq_getElem?_getD, h1, Option.getD_some]
theorem DefForms.fault {lo : Nat} {w : World} {fs : List Frm} (h : DefForms lo w namesTab fs) : tableFault fs = (0, 0) := by
  rw [← tableFault_plain, h.plain]; exact def_fault0

theorem tiny_idx (kv : Value) : idxOf (hasB ⟨#[98]⟩ [1, 3]) (tinyF kv) = 1 := by
  show idxOf (hasB ⟨#[98]⟩ [1, 3]) ((tinyF (.slice none 0 0))) = 1
  kernel_rfl

set_option maxHeartbeats 400000 in
theorem example_any (w : World) (hsp : SpaceAt w) (hg : 0 < w.heap.size) : Calls Tryd.prog 8 #[] w fun e w' => e = .returned (.bool true) ∧ Below w.heap.size w w' := by
  have Hsp := Lib.hid hsp
  clear hsp
  go_enter Tryd.func8, Tryd.ntmps8
  go_wp2_with (go_at_call 17; refine (default_any _ Hsp.out hg).mono ?_; rintro e W1 ⟨rfl, ⟨fs, hd, hr⟩, hb1⟩)
  have h88 : W1.cell? ⟨w.heap.size, 28, none⟩ = some (.int .i64 88) := by
    obtain ⟨f, hf9, _⟩ := getElem?_of_lt (l := fs) (k := 9) (n := 59) (Lib.hid hd.1) (by decide)
    have := (hr.cellAt (9 * 3 + 1) (by decide)).trans (cells_at fs 9 1 f hf9 (by decide))
    rw [show (28 : Nat) = 9 * 3 + 1 from rfl, this]
    have h2 := (hd.2 9 f hf9).2.1
    simp [h2]
  have hRW1 : w.heap.size < W1.heap.size := block_lt_of_cell h88
  have H88 := Lib.hid h88
  clear hd hr h88
  refine (tiny_any _).mono ?_
  rintro e W2 ⟨v, kv, rfl, hf, hb2⟩
  obtain ⟨A2, n2, c2, rfl, _⟩ := hf.opens
  go_wp2_with (go_at_call 13; refine (size_ok _ _ (tinyF kv) 1 _ _ hf (Nat.le_refl _) (tiny_fault _) rfl).mono ?_; rintro e W3 ⟨rfl, hb3⟩)
  clear hf
  have hz3 : w.heap.size < W3.heap.size := by have := hb2.size; have := hb3.size; omega
  have H88' : W3.cell? ⟨w.heap.size, 28, none⟩ = some (.int .i64 88) := (hb3.cell (p := ⟨w.heap.size, 28, none⟩) (by have := hb2.size; show w.heap.size < _; omega)).trans ((hb2.cell (p := ⟨w.heap.size, 28, none⟩) hRW1).trans H88.out)
  have hbw : Below w.heap.size w W3 := (hb1.trans (hb2.mono hb1.size)).trans (hb3.mono (by have := hb1.size; have := hb2.size; omega))
  rw [show (sizeOf [1, 3] : Nat) = 3 from rfl]
  obtain ⟨X, hX⟩ : ∃ X, X = W3.heap.size := ⟨_, rfl⟩
  obtain ⟨V, hV⟩ : ∃ V, V = W3.alloc (.cells #[.int .i64 0, .int .i64 0] 25) := ⟨_, rfl⟩
  have hv0 : V.cell? ⟨X, 0, none⟩ = some (.int .i64 0) := by rw [hV, hX]; simp
  have hv1 : V.cell? ⟨w.heap.size, 28, none⟩ = some (.int .i64 88) := by rw [hV]; exact cell_alloc_l _ H88'
  have hvb : Below w.heap.size w V := by rw [hV]; exact hbw.alloc (by omega) _
  have hvX : X < V.heap.size := by rw [hV, hX]; simp
  have HX := Lib.hid (show w.heap.size < X by omega)
  rw [← hV, ← hX]
  clear hV hX H88' H88 hz3 hbw hRW1 hb1 hb2 hb3
  refine (tiny_any _).mono ?_
  rintro e W4 ⟨v, kv, rfl, hf, hb4⟩
  obtain ⟨A4, n4, c4, rfl, _⟩ := hf.opens
  have hf5 : FormsAt W4.heap.size (W4.alloc (.cells #[.int .i64 1, .int .i64 3] 3)) (.slice A4 n4 c4) (tinyF kv) := hf.below ((Below.refl _ _).alloc (Nat.le_refl _) _)
  have hk5 : KindsAt (W4.heap.size + 1) (W4.alloc (.cells #[.int .i64 1, .int .i64 3] 3)) (.slice (some ⟨W4.heap.size, 0, none⟩) 2 2) [1, 3] :=
    ⟨_, 2, rfl, by simp, fun _ => ⟨_, 0, rfl, Nat.lt_succ_self _, fun j hj => by
      match j, hj with
      | 0, _ => simp
      | 1, _ => simp
      | j + 2, hj => simp at hj; omega⟩⟩
  have hw4 : V.heap.size ≤ W4.heap.size := hb4.size
  have c0 : W4.cell? ⟨X, 0, none⟩ = some (.int .i64 0) := (hb4.cell (p := ⟨X, 0, none⟩) hvX).trans hv0
  have c1 : W4.cell? ⟨w.heap.size, 28, none⟩ = some (.int .i64 88) := (hb4.cell (p := ⟨w.heap.size, 28, none⟩) (by have := HX.out; show w.heap.size < _; omega)).trans hv1
  have hb5 := hvb.trans (hb4.mono hvb.size)
  have C := find_good (W4.heap.size + 1) (.slice A4 n4 c4) (tinyF kv) ⟨#[98]⟩ (.slice (some ⟨W4.heap.size, 0, none⟩) 2 2) [1, 3] _ (hf5.more (Nat.le_succ _)) hk5 (by simp) (tiny_fault kv)
  rw [tiny_idx, if_neg (by decide)] at C
  have HC := Lib.hid C
  clear C hf hf5 hk5 hb4 hv0 hv1 hvb
  go_wp2_with (go_at_call 15; refine HC.out.mono ?_; rintro e W6 ⟨rfl, hb6⟩; have c2 : W6.cell? ⟨X, 0, none⟩ = some (.int .i64 0) := (hb6.cell (p := ⟨X, 0, none⟩) (by simp; omega)).trans (cell_alloc_l _ c0); have c3 : W6.cell? ⟨w.heap.size, 28, none⟩ = some (.int .i64 88) := (hb6.cell (p := ⟨w.heap.size, 28, none⟩) (by have := HX.out; simp; omega)).trans (cell_alloc_l _ c1); have c4 : X < W6.heap.size := block_lt_of_cell c2; have c5 : w.heap.size < W6.heap.size := block_lt_of_cell c3)
  refine bodyPost_ret (v := .bool true) (by simp [results, Tryd.results8, go_sem]) rfl ⟨rfl, ?_⟩
  have hs5 := hb5.size
  exact ((hb5.alloc hs5 _).trans (hb6.mono (by simp; omega))).alloc (by omega) _
end Go.Proofs.YtbpnogpjpklmjaaDoor
