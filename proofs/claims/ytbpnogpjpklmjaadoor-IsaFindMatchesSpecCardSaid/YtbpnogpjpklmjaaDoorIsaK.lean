/- isa.Default hands back the default table. Conditions: the library's table of white space reads as its text lays it. -/
import Derived.Maps.AppendAt
import Derived.RangeFuncBox
import Derived.Test.YtbpnogpjpklmjaaDoorIsaI
import Derived.Test.YtbpnogpjpklmjaaDoorIsaJ
import Derived.Test.YtbpnogpjpklmjaaDoorIsaR
namespace Go.Proofs.YtbpnogpjpklmjaaDoor
open Go Go.RowKit Go.Shelf Go.Lib
attribute [local go_sem] Oper.semAt_some

/-- the names of the forms, one behind the other -/
def namesB : ByteArray := ⟨#[104, 97, 108, 116, 32, 110, 111, 112, 32, 98, 114, 101, 97, 107, 32, 115, 121, 115, 32, 101, 114, 101, 116, 32, 102, 101, 110, 99, 101, 32, 109, 111, 118, 101, 32, 115, 101, 116, 32, 115, 101, 116, 98, 32, 97, 100, 100, 32, 97, 100, 100, 98, 32, 115, 117, 98, 32, 109, 117, 108, 32, 100, 105, 118, 32, 97, 110, 100, 32, 111, 114, 32, 120, 111, 114, 32, 115, 104, 108, 32, 115, 104, 114, 32, 99, 109, 112, 32, 99, 109, 112, 98, 32, 108, 111, 97, 100, 32, 115, 116, 111, 114, 101, 32, 108, 111, 97, 100, 98, 32, 115, 116, 111, 114, 101, 98, 32, 112, 117, 115, 104, 32, 112, 111, 112, 32, 106, 117, 109, 112, 32, 106, 117, 109, 112, 32, 106, 101, 113, 32, 106, 101, 113, 32, 106, 110, 101, 32, 106, 110, 101, 32, 106, 108, 116, 32, 106, 108, 116, 32, 106, 108, 111, 32, 106, 108, 111, 32, 106, 117, 109, 112, 114, 32, 106, 117, 109, 112, 109, 32, 106, 117, 109, 112, 97, 32, 99, 97, 108, 108, 32, 99, 97, 108, 108, 114, 32, 114, 101, 116, 32, 108, 101, 97, 32, 118, 108, 111, 97, 100, 32, 118, 115, 116, 111, 114, 101, 32, 118, 97, 100, 100, 32, 118, 109, 117, 108, 32, 118, 115, 117, 109, 32, 118, 115, 101, 116, 32, 115, 119, 97, 112, 32, 102, 101, 116, 99, 104, 32, 99, 97, 115, 32, 116, 112, 32, 116, 114, 97, 112, 118, 32, 99, 97, 117, 115, 101, 32, 119, 104, 101, 114, 101, 32, 115, 107, 105, 112, 32, 99, 111, 117, 110, 116]⟩
def namesTab : List ByteArray := [⟨#[104, 97, 108, 116]⟩, ⟨#[110, 111, 112]⟩, ⟨#[98, 114, 101, 97, 107]⟩, ⟨#[115, 121, 115]⟩, ⟨#[101, 114, 101, 116]⟩, ⟨#[102, 101, 110, 99, 101]⟩, ⟨#[109, 111, 118, 101]⟩, ⟨#[115, 101, 116]⟩, ⟨#[115, 101, 116, 98]⟩, ⟨#[97, 100, 100]⟩, ⟨#[97, 100, 100, 98]⟩, ⟨#[115, 117, 98]⟩, ⟨#[109, 117, 108]⟩, ⟨#[100, 105, 118]⟩, ⟨#[97, 110, 100]⟩, ⟨#[111, 114]⟩, ⟨#[120, 111, 114]⟩, ⟨#[115, 104, 108]⟩, ⟨#[115, 104, 114]⟩, ⟨#[99, 109, 112]⟩, ⟨#[99, 109, 112, 98]⟩, ⟨#[108, 111, 97, 100]⟩, ⟨#[115, 116, 111, 114, 101]⟩, ⟨#[108, 111, 97, 100, 98]⟩, ⟨#[115, 116, 111, 114, 101, 98]⟩, ⟨#[112, 117, 115, 104]⟩, ⟨#[112, 111, 112]⟩, ⟨#[106, 117, 109, 112]⟩, ⟨#[106, 117, 109, 112]⟩, ⟨#[106, 101, 113]⟩, ⟨#[106, 101, 113]⟩, ⟨#[106, 110, 101]⟩, ⟨#[106, 110, 101]⟩, ⟨#[106, 108, 116]⟩, ⟨#[106, 108, 116]⟩, ⟨#[106, 108, 111]⟩, ⟨#[106, 108, 111]⟩, ⟨#[106, 117, 109, 112, 114]⟩, ⟨#[106, 117, 109, 112, 109]⟩, ⟨#[106, 117, 109, 112, 97]⟩, ⟨#[99, 97, 108, 108]⟩, ⟨#[99, 97, 108, 108, 114]⟩, ⟨#[114, 101, 116]⟩, ⟨#[108, 101, 97]⟩, ⟨#[118, 108, 111, 97, 100]⟩, ⟨#[118, 115, 116, 111, 114, 101]⟩, ⟨#[118, 97, 100, 100]⟩, ⟨#[118, 109, 117, 108]⟩, ⟨#[118, 115, 117, 109]⟩, ⟨#[118, 115, 101, 116]⟩, ⟨#[115, 119, 97, 112]⟩, ⟨#[102, 101, 116, 99, 104]⟩, ⟨#[99, 97, 115]⟩, ⟨#[116, 112]⟩, ⟨#[116, 114, 97, 112, 118]⟩, ⟨#[99, 97, 117, 115, 101]⟩, ⟨#[119, 104, 101, 114, 101]⟩, ⟨#[115, 107, 105, 112]⟩, ⟨#[99, 111, 117, 110, 116]⟩]
theorem names_size : namesB.size = 284 := by kernel_rfl
theorem names_fields : fieldsOf namesB = namesTab := by kernel_rfl
theorem names_ascii : ∀ i, i < namesB.size → (namesB.get! i).toNat < 128 := by
  have h : (List.range namesB.size).all (fun i => decide ((namesB.get! i).toNat < 128)) = true := by kernel_rfl
  intro i hi
  simpa using List.all_eq_true.1 h i (List.mem_range.2 hi)

theorem infoForm : (Tryd.prog.info? 34).map (fun i => (i.zero, i.size, i.bytes)) = some (some (.agg #[.string ByteArray.empty, .int .i64 0, .slice none 0 0]), 3, 48) := by kernel_rfl

/-- the cells of forms, one behind the other -/
def cellsOf (fs : List Frm) : List Value := fs.flatMap fun f => [.string f.name, .int .i64 f.code, f.kv]
theorem cellsOf_snoc (fs : List Frm) (f : Frm) : cellsOf (fs ++ [f]) = cellsOf fs ++ [.string f.name, .int .i64 f.code, f.kv] := by simp [cellsOf]
/-- the forms whose names are pre, as the default table has them; their kinds lie from block lo on -/
def DefForms (lo : Nat) (W : World) (pre : List ByteArray) (fs : List Frm) : Prop :=
  fs.length = pre.length ∧ ∀ (j : Nat) (f : Frm), fs[j]? = some f → pre[j]? = some f.name ∧ f.code = (37 * (j : Int) + 11) % 256 ∧ f.kinds = kindsTab.getD j [] ∧ KindsOver lo W f.kv f.kinds

/-- append, where its run is known -/
theorem wp_append_eq {P : Program} {o : Oper} {a : Act} {w w' : World} {K : Act → World → Prop} {Q : Exit → Act → World → Prop} (s x : Operand) (t : TypeId)
    (ho : o.op = .call { callee := .builtin .append, args := #[s, x], argTypes := #[t, t] }) (v u v' : Value) (hs : a.eval s = v) (hx : a.eval x = u)
    (hr : (Builtin.append_ #[t, t] o.type #[v, u]).run P w = .ok v' w') (h : K (a.put o.dst v') w') : o.wp P a w K Q := by
  unfold Oper.wp execOp
  simp only [ho, resolve, invoke, builtin, Sem.run_bind, Sem.run_pure, Result.andThen_ok, List.map_toArray, List.map_cons, List.map_nil, hs, hx, hr]
  exact h

theorem kindsOver_block {lo : Nat} {w w' : World} {v : Value} {ks : List Int} (h : KindsOver lo w v ks) (hg : ∀ b, lo ≤ b → b < w.heap.size → w'.heap[b]? = w.heap[b]?) : KindsOver lo w' v ks := by
  obtain ⟨A, c, h1, h2, h3⟩ := h
  refine ⟨A, c, h1, h2, fun hn => ?_⟩
  obtain ⟨b, off, ha, hl, hc⟩ := h3 hn
  exact ⟨b, off, ha, hl, fun j hj => (World.cell?_of_block (w := w) (w' := w') (a := ⟨b, off + j, none⟩) (hg b hl (block_lt_of_cell (hc j hj)))).trans (hc j hj)⟩
theorem DefForms.block {lo : Nat} {w w' : World} {pre : List ByteArray} {fs : List Frm} (h : DefForms lo w pre fs) (hg : ∀ b, lo ≤ b → b < w.heap.size → w'.heap[b]? = w.heap[b]?) : DefForms lo w' pre fs :=
  ⟨h.1, fun j f hf => ⟨(h.2 j f hf).1, (h.2 j f hf).2.1, (h.2 j f hf).2.2.1, kindsOver_block (h.2 j f hf).2.2.2 hg⟩⟩
theorem DefForms.cells {lo : Nat} {w w' : World} {pre : List ByteArray} {fs : List Frm} (h : DefForms lo w pre fs) (hg : ∀ a v, w.cell? a = some v → w'.cell? a = some v) : DefForms lo w' pre fs :=
  ⟨h.1, fun j f hf => ⟨(h.2 j f hf).1, (h.2 j f hf).2.1, (h.2 j f hf).2.2.1, by
    obtain ⟨A, c, h1, h2, h3⟩ := (h.2 j f hf).2.2.2
    refine ⟨A, c, h1, h2, fun hn => ?_⟩
    obtain ⟨b, off, ha, hl, hc⟩ := h3 hn
    exact ⟨b, off, ha, hl, fun j hj => hg _ _ (hc j hj)⟩⟩⟩
theorem DefForms.mono {lo lo' : Nat} {w : World} {pre : List ByteArray} {fs : List Frm} (h : DefForms lo w pre fs) (hl : lo' ≤ lo) : DefForms lo' w pre fs :=
  ⟨h.1, fun j f hf => ⟨(h.2 j f hf).1, (h.2 j f hf).2.1, (h.2 j f hf).2.2.1, (h.2 j f hf).2.2.2.mono hl⟩⟩
/-- one round of Default: a form more -/
theorem default_round {R X k : Nat} {w W V1 V9 V10 : World} {pre : List ByteArray} {x : ByteArray} {fs : List Frm} {code : Int} {kv : Value} {n₀ : Nat} (hk : k = pre.length) (hcd : code = (37 * (k : Int) + 11) % 256)
    (hdf : DefForms (X + 1 + 1) W pre fs) (hbw : Below R w W) (hWz : X + 1 + 1 ≤ W.heap.size) (hRX : R < X) (hgR : 0 < R)
    (hb : Below W.heap.size W V9)
    (hrow9 : V9.ownsRow R 34 3 (.slice (some ⟨R, 0, none⟩) k 59) k (cellsOf fs))
    (hrow10 : V10.ownsRow R 34 3 (.slice (some ⟨R, 0, none⟩) (k + 1) 59) (k + 1) (cellsOf fs ++ [.string x, .int .i64 code, kv])) (hg10 : V9.grownBy V10 (some R))
    (hko : KindsOver n₀ V1 kv (kindsTab.getD k [])) (hn : X + 1 + 1 ≤ n₀) (hb9 : Below V1.heap.size V1 V9)
    (c10 : V10.cell? ⟨X, 0, none⟩ = some (.slice (some ⟨R, 0, none⟩) k 59)) (f10 : V10.frozen? ⟨X, 0, none⟩ = false) :
    KeepsOthers W (V10.setCell ⟨X, 0, none⟩ (.slice (some ⟨R, 0, none⟩) (k + 1) 59)) ∧ Blk2 (X + 1) 0 W (V10.setCell ⟨X, 0, none⟩ (.slice (some ⟨R, 0, none⟩) (k + 1) 59)) ∧
      (∃ fs, DefForms (X + 1 + 1) (V10.setCell ⟨X, 0, none⟩ (.slice (some ⟨R, 0, none⟩) (k + 1) 59)) (pre ++ [x]) fs ∧ (V10.setCell ⟨X, 0, none⟩ (.slice (some ⟨R, 0, none⟩) (k + 1) 59)).ownsRow R 34 3 (.slice (some ⟨R, 0, none⟩) (pre ++ [x]).length 59) (pre ++ [x]).length (cellsOf fs)) ∧
      ((V10.setCell ⟨X, 0, none⟩ (.slice (some ⟨R, 0, none⟩) (k + 1) 59)).cell? ⟨X, 0, none⟩ = some (.slice (some ⟨R, 0, none⟩) (pre ++ [x]).length 59) ∧ (V10.setCell ⟨X, 0, none⟩ (.slice (some ⟨R, 0, none⟩) (k + 1) 59)).frozen? ⟨X, 0, none⟩ = false) ∧
      Below R w (V10.setCell ⟨X, 0, none⟩ (.slice (some ⟨R, 0, none⟩) (k + 1) 59)) ∧ X + 1 + 1 ≤ (V10.setCell ⟨X, 0, none⟩ (.slice (some ⟨R, 0, none⟩) (k + 1) 59)).heap.size := by
  have hg11 := grownBy_setCell' V10 X (.slice (some ⟨R, 0, none⟩) (k + 1) 59)
  have hko9 := hko.kept (grown_none hb9) (fun r e => by cases e)
  have hf11 : (V10.setCell ⟨X, 0, none⟩ (.slice (some ⟨R, 0, none⟩) (k + 1) 59)).frozen? ⟨X, 0, none⟩ = false := by simpa using f10
  have hc11 : (V10.setCell ⟨X, 0, none⟩ (.slice (some ⟨R, 0, none⟩) (k + 1) 59)).cell? ⟨X, 0, none⟩ = some (.slice (some ⟨R, 0, none⟩) (k + 1) 59) := World.cell?_setCell_same' _ _ _ (by rw [c10]; rfl)
  have hko11 : KeepsOthers V10 (V10.setCell ⟨X, 0, none⟩ (.slice (some ⟨R, 0, none⟩) (k + 1) 59)) := KeepsOthers.setCell _ _ _
  have hl : (pre ++ [x]).length = k + 1 := by simp [hk]
  rw [hl]
  generalize V10.setCell ⟨X, 0, none⟩ (.slice (some ⟨R, 0, none⟩) (k + 1) 59) = V11 at *
  have hs10 := hg10.size
  have hs11 := hg11.size
  have hs9 := hb.size
  have hs1 := hb9.size
  have hall : ∀ b, b < W.heap.size → b ≠ R → b ≠ X → V11.heap[b]? = W.heap[b]? := fun b h1 h2 h3 =>
    (hg11.block b (by omega) (by simp; omega)).trans ((hg10.block b (by omega) (by simp; omega)).trans (hb.block b h1))
  refine ⟨((KeepsOthers.of_grownBy (grown_none hb) (fun j o e _ => by cases e)).trans (KeepsOthers.of_grownBy hg10 (fun j o e hj => ?_))).trans hko11, ⟨hall _ (by omega) (by omega) (by omega), hall _ (by omega) (by omega) (by omega)⟩,
    ⟨fs ++ [⟨x, code, kv, kindsTab.getD k []⟩], ⟨by simp [hdf.1], fun j f hj => ?_⟩, ?_⟩, ⟨hc11, hf11⟩, ?_, by omega⟩
  · injection e with e; subst e
    rcases hrow9.2 with ⟨h, _⟩ | ⟨g, cap, cur, h1, h2, h3, _⟩
    · cases h
    · injection h1 with h1; injection h1 with h1; injection h1 with h1
      subst h1
      rw [h3] at hj; injection hj with hj; subst hj; rfl
  · by_cases hjk : j < fs.length
    · rw [List.getElem?_append_left hjk] at hj
      obtain ⟨a1, a2, a3, a4⟩ := hdf.2 j f hj
      exact ⟨by rw [List.getElem?_append_left (by rw [← hdf.1]; exact hjk)]; exact a1, a2, a3, kindsOver_block a4 (fun b h1 h2 => hall b h2 (by omega) (by omega))⟩
    · have hje : j = fs.length := by
        have := (List.getElem?_eq_some_iff.1 hj).1
        simp at this; omega
      subst hje
      simp at hj
      subst hj
      rw [hdf.1, ← hk]
      refine ⟨by simp [hk], hcd, rfl, kindsOver_block (hko9.mono hn) (fun b h1 h2 => (hg11.block b (by omega) (by simp; omega)).trans (hg10.block b (by omega) (by simp; omega)))⟩
  · rw [cellsOf_snoc]
    exact hrow10.kept hg11 (.inr (by simp [Value.ownBlock]; omega))
  · have hRw := hrow10.lt R (by simp [Value.ownBlock])
    exact ((hbw.grown (grown_none hb) (by omega) (fun k h => by cases h)).grown hg10 (by have := hbw.size; omega) (fun j e => by injection e with e; omega)).grown hg11 (by have := hbw.size; omega) (fun j e => by injection e with e; omega)

set_option maxRecDepth 100000 in
set_option maxHeartbeats 2000000 in
theorem default_any (w : World) (hsp : SpaceAt w) (hg : 0 < w.heap.size) :
    Calls Tryd.prog 17 #[] w fun e w' => e = .returned (.slice (some ⟨w.heap.size, 0, none⟩) 59 59) ∧
      (∃ fs, DefForms w.heap.size w' namesTab fs ∧ w'.ownsRow w.heap.size 34 3 (.slice (some ⟨w.heap.size, 0, none⟩) 59 59) 59 (cellsOf fs)) ∧ Below w.heap.size w w' := by
  obtain ⟨i0, hi, hz0, hz1, hz2⟩ := info_parts infoForm
  obtain ⟨w1, hmk, hown, hgr⟩ := run_make_own (P := Tryd.prog) w w.heap.size 22 34 i0 _ 3 Tryd.underlying22 hi hz0 hz1 .i64 .i64 59 (by rw [hz2]; omega) (by unfold maxLen; omega) (Nat.le_refl _)
  rw [show ((59 : Nat) : Int) = 59 from rfl] at hmk
  have Hown := Lib.hid hown
  have Hgr := Lib.hid hgr
  have Hsp := Lib.hid hsp
  clear hown hgr hsp
  refine (callsIn_wide (n := 3)).1 ?_
  refine callsIn_of_wp_marks Tryd.func17 rfl trivial ?_ rfl
  simp only [Tryd.ntmps17, List.size_toArray, List.length_nil, Nat.reduceSub, Array.replicate_succ, Array.replicate_zero, List.push_toArray, List.append_toArray, List.nil_append, List.cons_append]
  refine wpIn_wide.2 ?_
  go_wp2_with (go_at_call 29; refine (fieldsSeq_any _ _).mono ?_; rintro e w' ⟨rfl, rfl⟩)
  clear hmk
  change Code.wp _ _ _ _ ((w1.alloc (.cells #[.slice (some ⟨w.heap.size, 0, none⟩) 0 59] 22)).alloc (.cells #[.string namesB] 9))
  obtain ⟨R, hR⟩ : ∃ R, R = w.heap.size := ⟨_, rfl⟩
  obtain ⟨X, hX⟩ : ∃ X, X = w1.heap.size := ⟨_, rfl⟩
  have hRX : R < X := by
    have := Hown.out.2
    rcases this with ⟨h, _⟩ | ⟨g, cap, cur, h1, h2, h3, _⟩
    · cases h
    · injection h1 with h1; injection h1 with h1; injection h1 with h1
      rw [hR, hX, h1]; exact (Array.getElem?_eq_some_iff.1 h3).1
  obtain ⟨W2, hW2⟩ : ∃ W2, W2 = (w1.alloc (.cells #[.slice (some ⟨w.heap.size, 0, none⟩) 0 59] 22)).alloc (.cells #[.string namesB] 9) := ⟨_, rfl⟩
  have hz2' : W2.heap.size = X + 1 + 1 := by rw [hW2, hX]; simp
  have q0 : W2.cell? ⟨X, 0, none⟩ = some (.slice (some ⟨R, 0, none⟩) 0 59) := by rw [hW2, hX, hR]; simp
  have q1 : W2.frozen? ⟨X, 0, none⟩ = false := by rw [hW2, hX]; simp
  have q2 : W2.cell? ⟨X + 1, 0, none⟩ = some (.string namesB) := by rw [hW2, hX]; simp
  have q3 : Below R w W2 := by
    rw [hW2, hR]
    exact (((Below.refl _ _).grown Hgr.out (Nat.le_refl _) (fun k h => by cases h)).alloc Hgr.out.size _).alloc (by have := Hgr.out.size; simp; omega) _
  have q4 : W2.ownsRow R 34 3 (.slice (some ⟨R, 0, none⟩) 0 59) 0 [] := by rw [hW2, hR]; exact (Hown.out.alloc _).alloc _
  rw [← hW2, ← hR, ← hX]
  have hgR : 0 < R := by rw [hR]; exact hg
  have hst := fields_stops 2 (Nat.le_refl _) (X + 1) namesB (by omega) (by rw [names_size]; omega) names_ascii W2 q2 (Hsp.out.below q3 hgR)
  rw [names_fields] at hst
  have HX := Lib.hid hX
  have HR := Lib.hid hR
  have Hz2 := Lib.hid hz2'
  clear Hown Hgr hW2 q2 hX hR hz2'
  refine (wpIn_wide (n := 3)).1 ?_
  refine wpIn_rangeFunc_ownF (n := 3) rfl (by omega) (gf := 39) (lb := #[.pointer (some ⟨X + 1, 0, none⟩)]) rfl trivial (enters_of Tryd.func39 (by kernel_rfl) rfl)
    hst Blk2.trans (blk2_b (by have := Hz2.out; omega) (by have := Hz2.out; omega)) (Below.refl _ _) (fun _ => rfl)
    (fun pre W => (∃ fs, DefForms (X + 1 + 1) W pre fs ∧ W.ownsRow R 34 3 (.slice (some ⟨R, 0, none⟩) pre.length 59) pre.length (cellsOf fs)) ∧ (W.cell? ⟨X, 0, none⟩ = some (.slice (some ⟨R, 0, none⟩) pre.length 59) ∧ W.frozen? ⟨X, 0, none⟩ = false) ∧ Below R w W ∧ X + 1 + 1 ≤ W.heap.size)
    (fun _ _ _ => False)
    ?own1 (fun _ _ _ _ _ hs _ _ => hs) ⟨⟨[], ⟨rfl, fun j f h => by simp at h⟩, q4⟩, ⟨q0, q1⟩, q3, by have := Hz2.out; omega⟩
    (fun x => { tmps := #[.slice none 0 0, .pointer (some ⟨X, 0, none⟩), .string x, undef, .slice (some ⟨R, 0, none⟩) 0 59, .func (.func 39) #[] #[.pointer (some ⟨X + 1, 0, none⟩)], .string x, undef, undef, undef, undef, undef, undef, undef, undef, undef, undef, undef, undef, undef, undef], defers := [] }) ?assign ?body ?done ?stop
  case own1 =>
    rintro pre W W' row ⟨⟨fs, hdf, hrow⟩, ⟨hc, hf⟩, hbw, hWz⟩ hg hr
    have hr' := fun r e => (hr r e).2
    have hsz := hg.size
    have hRw := HR.out
    have hbz := hbw.size
    refine ⟨⟨fs, hdf.cells (fun a v hv => cell_kept hv hg hr'), ?_⟩, ⟨cell_kept hc hg hr', (frozen_kept hc hg hr').trans hf⟩, hbw.grown hg (by omega) (fun r e => ?_), by omega⟩
    · refine hrow.kept hg ?_
      rcases row with _ | r
      · exact .inr (by simp [Value.ownBlock])
      · refine .inr (fun e => ?_)
        have := (hr r rfl).1
        have hz := Hz2.out
        simp [Value.ownBlock] at e
        omega
    · have := (hr r e).1
      have hz := Hz2.out
      omega
  case assign =>
    intro l x W K hK
    gi_wp2
    exact hK
  case body =>
    rintro l pre x W ⟨⟨fs, hdf, hrow⟩, ⟨hc, hf⟩, hbw, hWz⟩ hlen
    rw [show namesTab.length = 59 from rfl] at hlen
    obtain ⟨k, hk⟩ : ∃ k, pre.length = k := ⟨_, rfl⟩
    rw [hk] at hc hrow hlen
    have Hk := Lib.hid hk
    have Hdf := Lib.hid hdf
    have Hrow := Lib.hid hrow
    clear hk hdf hrow
    gi_wp2
    have hXW : X < W.heap.size := block_lt_of_cell hc
    refine region_inRound (by kernel_rfl) (by kernel_rfl) (fun ⟨_, _, h⟩ => h) ?_
    obtain ⟨V, hV⟩ : ∃ V, V = W.drew := ⟨_, rfl⟩
    have hcV : V.cell? ⟨X, 0, none⟩ = some (.slice (some ⟨R, 0, none⟩) k 59) := by rw [hV]; exact hc
    have hfV : V.frozen? ⟨X, 0, none⟩ = false := by rw [hV]; exact hf
    have hXV : X < V.heap.size := by rw [hV]; exact hXW
    have hbV : Below W.heap.size W V := by rw [hV]; exact (Below.refl _ _).drew
    have HV := Lib.hid hV
    rw [← hV]
    clear hc hf hXW hV
    have hcode : (IntKind.i64.wrap (IntKind.i64.wrap (37 * (k : Int)) + 11)).tmod 256 = (37 * (k : Int) + 11) % 256 := by
      rw [IntWalk.i64_in (37 * (k : Int)) (by omega), IntWalk.i64_in _ (by omega), Int.tmod_eq_emod_of_nonneg (by omega)]
    refine wpAny_take (i := 1) (v := ?_) rfl (by kernel_rfl) (by kernel_rfl) (by kernel_rfl) (fun _ _ _ h => h) (Or.inl ⟨by rfl, ?_⟩) ?_
    rotate_left
    · intro w; go_simp; rfl
    refine wpAny_take (i := 2) (v := ?_) rfl (by kernel_rfl) (by kernel_rfl) (by kernel_rfl) (fun _ _ _ h => h) (Or.inl ⟨by rfl, ?_⟩) ?_
    rotate_left
    · intro w; go_simp; rfl
    refine wpAny_take (i := 3) (v := ?_) rfl (by kernel_rfl) (by kernel_rfl) (by kernel_rfl) (fun _ _ _ h => h) (Or.inl ⟨by rfl, ?_⟩) ?_
    rotate_left
    · intro w; go_simp; rfl
    refine wpAny_take (i := 4) (v := ?_) rfl (by kernel_rfl) (by kernel_rfl) (by kernel_rfl) (fun _ _ _ h => h) (Or.inl ⟨by rfl, ?_⟩) ?_
    rotate_left
    · intro w; go_simp; rfl
    refine wpAny_take (i := 5) (v := ?_) rfl (by kernel_rfl) (by kernel_rfl) (by kernel_rfl) (fun _ _ _ h => h) (Or.inl ⟨by rfl, ?_⟩) ?_
    rotate_left
    · intro w; go_simp; rfl
    refine wpAny_take (i := 6) (v := ?_) rfl (by kernel_rfl) (by kernel_rfl) (by kernel_rfl) (fun _ _ _ h => h) (Or.inl ⟨by rfl, ?_⟩) ?_
    rotate_left
    · intro w; go_simp; rfl
    simp [Act.put]
    clear hcode
    generalize hcd : (37 * (k : Int) + 11) % 256 = code
    have Hcd := Lib.hid hcd
    clear hcd
    refine wpAny_ready (rs := [0, 7]) (by kernel_rfl) (by simp) ?_
    refine AllReady.cons rfl (fun K hK => ?_) (AllReady.cons rfl (fun K hK => ?_) AllReady.nil)
    focus
      go_simp
      refine hK _ _ ?_
      clear hK K
      refine wpAny_ready (rs := [7]) (by kernel_rfl) (by simp) ?_
      refine AllReady.cons rfl (fun K hK => ?_) AllReady.nil
      go_simp
      go_at_call 30
      refine (operands_any k hlen _).mono ?_
      rintro e V1 ⟨oA, on, oc, rfl, hko, hbo⟩
      have hc1 : V1.cell? ⟨X, 0, none⟩ = some (.slice (some ⟨R, 0, none⟩) k 59) := (hbo.cell (p := ⟨X, 0, none⟩) hXV).trans hcV
      have hXV1 : X < V1.heap.size := Nat.lt_of_lt_of_le hXV hbo.size
      clear hcV
      refine hK _ _ ?_
      clear hK K
      refine wpAny_take (i := 8) (v := ?_) rfl (by kernel_rfl) (by kernel_rfl) (by kernel_rfl) (fun _ _ _ h => h) (Or.inl ⟨by rfl, ?_⟩) ?_
      rotate_left
      · intro w; go_simp; rfl
      simp [Act.put]
      refine wpAny_ready (rs := [9]) (by kernel_rfl) (by simp) ?_
      refine AllReady.cons rfl (fun K hK => ?_) AllReady.nil
      go_simp
      refine hK _ _ ?_
      clear hK K
    rotate_left
    focus
      go_simp
      go_at_call 30
      refine (operands_any k hlen _).mono ?_
      rintro e V1 ⟨oA, on, oc, rfl, hko, hbo⟩
      have hc1 : V1.cell? ⟨X, 0, none⟩ = some (.slice (some ⟨R, 0, none⟩) k 59) := (hbo.cell (p := ⟨X, 0, none⟩) hXV).trans hcV
      have hXV1 : X < V1.heap.size := Nat.lt_of_lt_of_le hXV hbo.size
      clear hcV
      refine hK _ _ ?_
      clear hK K
      refine wpAny_take (i := 8) (v := ?_) rfl (by kernel_rfl) (by kernel_rfl) (by kernel_rfl) (fun _ _ _ h => h) (Or.inl ⟨by rfl, ?_⟩) ?_
      rotate_left
      · intro w; go_simp; rfl
      simp [Act.put]
      refine wpAny_ready (rs := [0, 9]) (by kernel_rfl) (by simp) ?_
      refine AllReady.cons rfl (fun K hK => ?_) (AllReady.cons rfl (fun K hK => ?_) AllReady.nil)
      focus
        go_simp
        refine hK _ _ ?_
        clear hK K
        refine wpAny_ready (rs := [9]) (by kernel_rfl) (by simp) ?_
        refine AllReady.cons rfl (fun K hK => ?_) AllReady.nil
        go_simp
        refine hK _ _ ?_
        clear hK K
      rotate_left
      focus
        go_simp
        refine hK _ _ ?_
        clear hK K
        refine wpAny_ready (rs := [0]) (by kernel_rfl) (by simp) ?_
        refine AllReady.cons rfl (fun K hK => ?_) AllReady.nil
        go_simp
        refine hK _ _ ?_
        clear hK K
    all_goals
      obtain ⟨V9, hV9⟩ : ∃ V9, V9 = V1.alloc (.cells #[.string x, .int .i64 code, .slice oA on oc] 34) := ⟨_, rfl⟩
      have hb9 : Below V1.heap.size V1 V9 := by rw [hV9]; exact (Below.refl _ _).alloc (Nat.le_refl _) _
      have s0 : V9.cell? ⟨V1.heap.size, 0, none⟩ = some (.string x) := by rw [hV9]; simp
      have s1 : V9.cell? ⟨V1.heap.size, 1, none⟩ = some (.int .i64 code) := by rw [hV9]; simp
      have s2 : V9.cell? ⟨V1.heap.size, 2, none⟩ = some (.slice oA on oc) := by rw [hV9]; simp
      have hrow1 : V1.ownsRow R 34 3 (.slice (some ⟨R, 0, none⟩) k 59) k (cellsOf fs) := by
        have h0 : V.ownsRow R 34 3 (.slice (some ⟨R, 0, none⟩) k 59) k (cellsOf fs) := by rw [HV.out]; exact Hrow.out.drew
        exact h0.kept (grown_none hbo) (.inr (by simp [Value.ownBlock]))
      have hrow9 : V9.ownsRow R 34 3 (.slice (some ⟨R, 0, none⟩) k 59) k (cellsOf fs) := by rw [hV9]; exact hrow1.alloc _
      have c9 : V9.cell? ⟨X, 0, none⟩ = some (.slice (some ⟨R, 0, none⟩) k 59) := (hb9.cell (p := ⟨X, 0, none⟩) hXV1).trans hc1
      have f9 : V9.frozen? ⟨X, 0, none⟩ = false := (hb9.frozen (p := ⟨X, 0, none⟩) hXV1).trans ((hbo.frozen (p := ⟨X, 0, none⟩) hXV).trans hfV)
      rw [← hV9]
      obtain ⟨V10, hap, hrow10, hg10⟩ := run_append_fits (P := Tryd.prog) V9 R 22 22 34 i0 3 Tryd.underlying22 hi hz1 R k 59 (cellsOf fs) hrow9 ⟨V1.heap.size, 0, none⟩ 1 1 [.string x, .int .i64 code, .slice oA on oc] rfl
        (by intro j u hj; match j, hj with
              | 0, hj => injection hj with hj; subst hj; exact s0
              | 1, hj => injection hj with hj; subst hj; exact s1
              | 2, hj => injection hj with hj; subst hj; exact s2
              | j + 3, hj => simp at hj)
        (by simp [Value.oneCell']) (by omega)
      have hX9 : X < V9.heap.size := block_lt_of_cell c9
      have c10 : V10.cell? ⟨X, 0, none⟩ = some (.slice (some ⟨R, 0, none⟩) k 59) := (World.cell?_of_block (a := ⟨X, 0, none⟩) (hg10.block X hX9 (by simp; omega))).trans c9
      have f10 : V10.frozen? ⟨X, 0, none⟩ = false := (World.frozen?_of_block (a := ⟨X, 0, none⟩) (hg10.block X hX9 (by simp; omega))).trans f9
      have Hc9 := Lib.hid c9
      clear hV9 s0 s1 s2 c9 f9 hc1
      refine wpAny_ready (rs := [10]) (by kernel_rfl) (by simp) ?_
      refine AllReady.cons rfl (fun K hK => ?_) AllReady.nil
      try rw [if_pos rfl]
      refine wp_append_eq (.tmp 9) (.tmp 18) 22 rfl _ _ _ rfl rfl hap ?_
      simp [Act.put]
      refine hK _ _ ?_
      clear hK K hap
      refine wpAny_ready (rs := [11]) (by kernel_rfl) (by simp) ?_
      refine AllReady.cons rfl (fun K hK => ?_) AllReady.nil
      go_simp
      refine hK _ _ ?_
      clear hK K
      refine wpAny_done (by kernel_rfl) ?_ _
      exact default_round Hk.out.symm Hcd.out.symm Hdf.out hbw hWz hRX hgR (hbV.trans ((hbo.mono (by have := hbV.size; omega)).trans (hb9.mono (by have := hbV.size; have := hbo.size; omega)))) hrow9 hrow10 hg10 hko (by have := hbV.size; omega) hb9 c10 f10
  case done =>
    rintro D ys W hD rfl ⟨⟨fs, hdf, hrow⟩, ⟨hc, hf⟩, hbw, hWz⟩ hK
    rw [show namesTab.length = 59 from rfl] at hrow hc
    have HM := Lib.hid (show Marks (X + 1) W W.heap.size [{ target := .collected D, args := #[] }] from ⟨D, rfl, by have := Hz2.out; omega, (Array.getElem?_eq_some_iff.1 hK).1, hK, trivial⟩)
    have Hdf := Lib.hid hdf
    have Hrow := Lib.hid hrow
    clear hK hdf hrow
    gi_wp2
    go_wp2
    refine leaves_marks (B := X + 1) (fun W' => Below R w W' ∧ DefForms R W' namesTab fs ∧ W'.ownsRow R 34 3 (.slice (some ⟨R, 0, none⟩) 59 59) 59 (cellsOf fs)) ?_ ?_ _ _ _ HM.out ⟨hbw, ?_, Hrow.out⟩
    · rintro W' D' hD' hK' ⟨t1, t2, t3⟩
      exact ⟨t1.grown (grownBy_putObj' W' D' _) (by have := t1.size; have := HR.out; omega) (fun r e => by cases e; omega), t2.cells (fun a v hv => cell_kept hv (grownBy_putObj' _ D' _) (fun r e => by cases e; exact ⟨_, hK', rfl⟩)), t3.kept (grownBy_putObj' W' D' _) (.inr (by simp [Value.ownBlock]; omega))⟩
    · rintro W' ⟨t1, t2, t3⟩
      rw [← HR.out]
      exact ⟨_, by simp [results, Tryd.results17, go_sem], rfl, ⟨fs, t2, t3⟩, t1⟩
    · exact Hdf.out.mono (by omega)
  case stop =>
    rintro D c pre W hD hpre h
    exact h.elim
end Go.Proofs.YtbpnogpjpklmjaaDoor
