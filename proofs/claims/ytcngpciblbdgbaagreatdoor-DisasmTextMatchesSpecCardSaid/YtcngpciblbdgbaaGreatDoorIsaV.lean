/- What the rows share: what they list says of memory; what their arguments read as; how they close. -/
import Derived.Test.YtcngpciblbdgbaaGreatDoorRows
import Derived.ProofKit
import Derived.OpenShut
import Derived.Deep.Slices
import Derived.SizedLaws
import Derived.LaidMore
import Derived.Lay
import Derived.Lib.LaidTab
import Derived.Stop.Joined
import Derived.Test.YtcngpciblbdgbaaGreatDoorIsaH
namespace Go.Proofs.YtcngpciblbdgbaaGreatDoor
open Go.ChangeShapes Go.WideShapes Go.ChangeAt Go.RowKit Go.Deep Go.Lib

theorem own : ownKnob Tryz.prog.godebug = none := by kernel_rfl
theorem laidOut : laidOutB Tryz.prog = true := by kernel_rfl

/-! ## what the arguments read as -/
section
variable {H : Type} {enc : TypeId × Value → H} {W : World} {sp : Nat → Bool} {held : Bool} {fuel : Nat}
theorem addr_plain {w : World} {a : Addr} {v : Value} (h : w.cell? a = some v) : a = ⟨a.block, a.off, none⟩ := by
  obtain ⟨b, o, s⟩ := a
  cases s with
  | none => rfl
  | some x =>
    simp only [World.cell?] at h
    split at h <;> simp at h
theorem add_plain (b o j : Nat) : (⟨b, o, none⟩ : Addr).add j = ⟨b, o + j, none⟩ := by
  unfold Addr.add
  split
  · rename_i h; rw [h]; rfl
  · rfl
set_option maxRecDepth 100000 in
theorem kinds_of {v : Value} {d : DataW H} {p : List MemPlace} (h : DataW.trod enc Tryz.prog W 0 sp held fuel 32 [v] = some (d, p)) (hw : ∀ n ∈ d.weights Tryz.prog 32, n ≤ reachBytes) : ∃ ks, KindsAt W.heap.size W v ks := by
  rcases open_ints Tryz.underlying32 Tryz.underlying3 (by kernel_rfl) h with ⟨hcs, _⟩ | ⟨a, len, cap, zs, hcs, _, hl, hm, hzl, hx, hc, _⟩
  · injection hcs with hcs
    subst hcs
    exact ⟨[], none, 0, rfl, by simp, fun h => absurd h (by simp)⟩
  · injection hcs with hcs
    subst hcs
    have hle : len ≤ zs.length := by rw [hzl]; split <;> omega
    have htk : (zs.take len).length = len := by rw [List.length_take]; omega
    have hb : zs.length * 8 ≤ reachBytes := by
      obtain ⟨hd, _⟩ := Prod.mk.inj hx
      have hby : Tryz.prog.bytesOf 3 = 8 := by kernel_rfl
      have := hw (zs.length * 8) (by
        rw [hd, DataW.weights]
        simp only [Tryz.underlying32, hby, lits, List.length_map, List.length_take, List.length_drop, List.mem_cons]
        left
        congr 1
        omega)
      exact this
    have hz : zs.length ≤ 17592186044416 := by unfold reachBytes at hb; omega
    refine ⟨zs.take len, some a, cap, by rw [htk], by omega, fun h0 => ?_⟩
    rw [htk] at h0
    have hp := addr_plain (hc 0 (by omega))
    have hp0 : (a.add 0) = a := by simp [Addr.add]
    rw [hp0] at hp
    obtain ⟨b, o, s⟩ := a
    obtain rfl : s = none := by injection hp
    refine ⟨b, o, rfl, ?_, fun j hj => ?_⟩
    · have := block_lt_of_cell (hc 0 (by omega))
      rwa [hp0] at this
    · rw [htk] at hj
      have := hc j (by omega)
      rw [add_plain] at this
      rw [this, List.getElem?_take, if_pos hj]
      simp [List.getD_eq_getElem?_getD]
theorem listed_of {α : Type} {Q : Nat → α → Prop} : ∀ n, (∀ i, i < n → ∃ x, Q i x) → ∃ l : List α, l.length = n ∧ ∀ j x, l[j]? = some x → Q j x
  | 0, _ => ⟨[], rfl, fun j x h => by simp at h⟩
  | n + 1, h => by
    obtain ⟨l, hl, hq⟩ := listed_of n (fun i hi => h i (by omega))
    obtain ⟨x, hx⟩ := h n (by omega)
    refine ⟨l ++ [x], by simp [hl], fun j y hj => ?_⟩
    by_cases hjn : j < l.length
    · rw [List.getElem?_append_left hjn] at hj
      exact hq j y hj
    · have hj2 := (List.getElem?_eq_some_iff.1 hj).1
      simp at hj2
      obtain rfl : j = l.length := by omega
      simp at hj
      subst hj
      rw [hl]; exact hx
theorem weights_mem_all {P : Program} {e : TypeId} : ∀ {l : List (DataW H)} {d : DataW H}, d ∈ l → ∀ n ∈ d.weights P e, n ∈ DataW.weightsAll P e l
  | [], _, h, _, _ => by simp at h
  | x :: l, d, h, n, hn => by
    rw [DataW.weightsAll, List.mem_append]
    rcases List.mem_cons.1 h with rfl | h
    · exact .inl hn
    · exact .inr (weights_mem_all h n hn)
set_option maxRecDepth 100000 in
theorem form_of {b o n : Nat} {cs : List Value} {d : DataW H} {p : List MemPlace} (hc : W.cells? 0 ⟨b, o, none⟩ 3 = some cs) (h : DataW.trod enc Tryz.prog W 0 sp held n 39 cs = some (d, p)) (hw : ∀ n ∈ d.weights Tryz.prog 39, n ≤ reachBytes) :
    ∃ f : Frm, FrmCells W b o f ∧ KindsAt W.heap.size W f.kv f.kinds ∧ f.name.size ≤ 140737488351232 := by
  obtain ⟨_, hcl, hat⟩ := World.cells?_some hc
  match cs, hcl with
  | [c0, c1, c2], _ =>
    obtain ⟨xs, n', _, hx, _, hlen, hf⟩ := DataW.trod_struct Tryz.underlying39 h
    have z9 : Tryz.prog.cellsOf 9 = 1 := by kernel_rfl
    have z3 : Tryz.prog.cellsOf 3 = 1 := by kernel_rfl
    have z32 : Tryz.prog.cellsOf 32 = 1 := by kernel_rfl
    have h0 : DataW.trod enc Tryz.prog W 0 sp held n' 9 (([c0, c1, c2].drop 0).take (Tryz.prog.cellsOf 9)) = xs[0]? := hf 0 _ rfl
    have h1 : DataW.trod enc Tryz.prog W 0 sp held n' 3 (([c0, c1, c2].drop 1).take (Tryz.prog.cellsOf 3)) = xs[1]? := hf 1 _ rfl
    have h2 : DataW.trod enc Tryz.prog W 0 sp held n' 32 (([c0, c1, c2].drop 2).take (Tryz.prog.cellsOf 32)) = xs[2]? := hf 2 _ rfl
    rw [z9] at h0
    rw [z3] at h1
    rw [z32] at h2
    match xs, hlen with
    | [x0, x1, x2], _ =>
      obtain ⟨d0, p0⟩ := x0
      obtain ⟨d1, p1⟩ := x1
      obtain ⟨d2, p2⟩ := x2
      replace h0 : DataW.trod enc Tryz.prog W 0 sp held n' 9 [c0] = some (d0, p0) := h0
      replace h1 : DataW.trod enc Tryz.prog W 0 sp held n' 3 [c1] = some (d1, p1) := h1
      replace h2 : DataW.trod enc Tryz.prog W 0 sp held n' 32 [c2] = some (d2, p2) := h2
      obtain ⟨hd, _⟩ := Prod.mk.inj hx
      have hmem : ∀ (j : Nat) (t : TypeId) (e : DataW H), [9, 3, 32][j]? = some t → [d0, d1, d2][j]? = some e → ∀ n ∈ e.weights Tryz.prog t, n ≤ reachBytes := fun j t e ht he n hn => by
        refine hw n ?_
        rw [hd, DataW.weights]
        simp only [Tryz.underlying39]
        exact DataW.weights_mem_each ht he n hn
      obtain ⟨s, e0, ed0, _⟩ := DataW.trod_string Tryz.underlying9 h0
      obtain ⟨z, e1, _⟩ := DataW.trod_int Tryz.underlying3 h1
      obtain ⟨ks, hk⟩ := kinds_of h2 (hmem 2 _ _ rfl rfl)
      injection e0 with e0
      injection e1 with e1
      subst e0
      subst e1
      have hs : s.size ≤ reachBytes := by
        have := hmem 0 _ _ rfl rfl s.data.toList.length (by
          have := (Prod.mk.inj ed0).1
          subst this
          simp [DataW.weights])
        simpa using this
      refine ⟨⟨s, z, c2, ks⟩, ⟨?_, ?_, ?_⟩, hk, hs⟩
      · have := hat 0 (by decide)
        rw [add_plain] at this
        exact this
      · have := hat 1 (by decide)
        rw [add_plain] at this
        exact this
      · have := hat 2 (by decide)
        rw [add_plain] at this
        exact this
set_option maxRecDepth 100000 in
theorem forms_of {v : Value} {d : DataW H} {p : List MemPlace} (h : DataW.trod enc Tryz.prog W 0 sp held fuel 22 [v] = some (d, p)) (hw : ∀ n ∈ d.weights Tryz.prog 22, n ≤ reachBytes) : ∃ fs, FormsAt W.heap.size W v fs := by
  have z34 : Tryz.prog.cellsOf 39 = 3 := by kernel_rfl
  rcases open_slice Tryz.underlying22 h with ⟨hcs, _⟩ | ⟨a, len, cap, m, n, D, Pl, hcs, _, hl, hm, hmm, hx, hi⟩
  · injection hcs with hcs
    subst hcs
    exact ⟨[], none, 0, rfl, by simp, by simp, fun h => absurd h (by simp)⟩
  · injection hcs with hcs
    subst hcs
    have hle : len ≤ m := by rw [hmm]; split <;> omega
    obtain ⟨hd, _⟩ := Prod.mk.inj hx
    have hby : Tryz.prog.bytesOf 39 = 48 := by kernel_rfl
    have hws : ∀ n ∈ (len + (m - len)) * 48 :: (DataW.weightsAll Tryz.prog 39 ((List.range len).map D) ++ DataW.weightsAll Tryz.prog 39 ((List.range (m - len)).map fun j => D (len + j))), n ≤ reachBytes := fun n hn => by
      refine hw n ?_
      rw [hd, DataW.weights]
      simp only [Tryz.underlying22, hby, List.length_map, List.length_range]
      exact hn
    have hb : len * 48 ≤ 140737488351232 := by
      have := hws _ (List.mem_cons_self ..)
      unfold reachBytes at this
      omega
    rw [z34] at hi
    have hpl : 0 < len → a = ⟨a.block, a.off, none⟩ := fun h0 => by
      obtain ⟨cs', hc, _⟩ := hi 0 (by omega)
      obtain ⟨_, hcl, hat⟩ := World.cells?_some hc
      have h1 := hat 0 (by decide)
      rw [show ((a.add (0 * 3)).add 0) = a by simp [Addr.add], List.getElem?_eq_getElem (by omega)] at h1
      exact addr_plain h1
    obtain ⟨b, o, s⟩ := a
    obtain ⟨fs, hfl, hfs⟩ := listed_of (Q := fun i (f : Frm) => FrmCells W b (o + i * 3) f ∧ KindsAt W.heap.size W f.kv f.kinds ∧ f.name.size ≤ 140737488351232) len (fun i him => by
      obtain rfl : s = none := by have := hpl (by omega); injection this
      obtain ⟨cs', hc, ht'⟩ := hi i (by omega)
      rw [add_plain] at hc
      refine form_of hc ht' (fun n hn => hws n (List.mem_cons_of_mem _ (List.mem_append.2 (.inl (weights_mem_all ?_ n hn)))))
      exact List.mem_map.2 ⟨i, List.mem_range.2 him, rfl⟩)
    refine ⟨fs, some ⟨b, o, s⟩, cap, by rw [hfl], ⟨by rw [hfl]; exact hb, by rw [hfl]; exact hl⟩, fun f hf => ?_, fun h0 => ?_⟩
    · obtain ⟨j, hj⟩ := List.mem_iff_getElem?.1 hf
      exact (hfs j f hj).2
    · rw [hfl] at h0
      obtain rfl : s = none := by have := hpl h0; injection this
      refine ⟨b, o, rfl, ?_, fun j f hj => (hfs j f hj).1⟩
      obtain ⟨f, hf⟩ : ∃ f, fs[0]? = some f := ⟨_, List.getElem?_eq_getElem (by omega)⟩
      exact block_lt_of_cell (hfs 0 f hf).1.1
end

/-! ## how a row closes -/
theorem trodAll_stays {H : Type} {enc : TypeId × Value → H} {P : Program} {W W' : World} {sp : Nat → Bool} (hl : laidOutB P = true) (hb : Below W.heap.size W W') :
    ∀ {ts : List TypeId} {vs : List Value} {ds : List (DataW H)} {ps : List MemPlace}, (ts.all fun t => P.readableRec t && decide (t < P.types.size)) = true → DataW.TrodAll enc P W 0 (fun _ => true) true ts vs ds ps →
      (∀ p ∈ ps, p.block < W.heap.size) → (∀ p ∈ ps, sp p.block = true) → DataW.TrodAll enc P W' 0 sp true ts vs ds ps
  | [], [], [], _, _, h, _, _ => h
  | t :: ts, v :: vs, d :: ds, ps, ht, h, hlt, hs => by
    obtain ⟨p, q, h1, h2, rfl⟩ := h
    simp only [List.all_cons, Bool.and_eq_true, decide_eq_true_eq] at ht
    exact ⟨p, q, WideElems.Trod_stays hl ht.1.1 ht.1.2 h1 (fun x hx => hb.same (hlt x (List.mem_append.2 (.inl hx)))) (fun x hx => hs x (List.mem_append.2 (.inl hx))),
      trodAll_stays hl hb ht.2 h2 (fun x hx => hlt x (List.mem_append.2 (.inr hx))) (fun x hx => hs x (List.mem_append.2 (.inr hx))), rfl⟩
/-- a law that answers true and touches nothing that was there -/
theorem law_post {H : Type} {enc : TypeId × Value → H} {f : Func} {s : ChangeSpec} {W W' : World} {args : Array Value} {ds gs : List (DataW H)} {before : List MemPlace} (hv : s.vars = [])
    (hW : DataW.Whole enc Tryz.prog f.params.toList s.vars false W args.toList ds gs before) (hf : s.fn H ds = { results := [.lit (.bool true)], args := ds }) (hr : f.resultTypes = #[4])
    (ht : (f.params.toList.all fun t => Tryz.prog.readableRec t && decide (t < Tryz.prog.types.size)) = true) (hb : Below W.heap.size W W') : s.post enc Tryz.prog f false true false false W args (.bool true) W' := by
  have hlt := hW.lt
  have hW' := hW
  obtain ⟨p, q, hA, hV, rfl, _, _⟩ := hW
  rw [hv] at hV
  obtain ⟨rfl, rfl⟩ := trodVars_none hV
  refine ⟨ds, [], _, [], p, [], hW', ?_, ?_, ?_, hb.frame _, fun h => by cases h⟩
  · rw [List.append_nil, hf, hr]
    exact trodAll_mk1 (shut_bool Tryz.underlying4 true)
  · rw [List.append_nil, hf]
    exact trodAll_stays laidOut hb ht hA (fun x hx => hlt x (by simpa using hx)) (fun x hx => by simpa using hlt x (by simpa using hx))
  · rw [List.append_nil, hf, hv]
    rfl
end Go.Proofs.YtcngpciblbdgbaaGreatDoor
