/- What the rows of package expr share: what the arguments and the listed variable read as; how a row closes. -/
import Derived.Test.YtchpkdpefpiegaaDoorRows
import Derived.ProofKit
import Derived.OpenShut
import Derived.Deep.Slices
import Derived.SizedLaws
import Derived.LaidMore
import Derived.Lay
import Derived.Lib.LaidTab
import Derived.Stop.Joined
import Derived.HandedShaped
import Derived.Shelf.Vars
import Derived.LaidLaws
import Derived.Test.YtchpkdpefpiegaaDoorExR
namespace Go.Proofs.YtchpkdpefpiegaaDoor.Tok
open Go.ChangeShapes Go.WideShapes Go.ChangeAt Go.RowKit Go.Deep Go.Lib

theorem own : ownKnob Tryd.prog.godebug = none := by kernel_rfl
theorem laidOut : laidOutB Tryd.prog = true := by kernel_rfl
section
variable {H : Type} {enc : TypeId × Value → H} {W : World} {sp : Nat → Bool} {held : Bool} {fuel : Nat}
theorem addr_plain {w : World} {a : Addr} {v : Value} (h : w.cell? a = some v) : a = ⟨a.block, a.off, none⟩ := by
  obtain ⟨b, o, s⟩ := a
  cases s with
  | none => rfl
  | some x =>
    simp only [World.cell?] at h
    split at h <;> simp at h
theorem add_plain (b o j : Nat) : (⟨b, o, none⟩ : Addr).add j = ⟨b, o + j, none⟩ := by
  unfold Addr.add
  split
  · rename_i h; rw [h]; rfl
  · rfl
theorem listed_of {α : Type} {Q : Nat → α → Prop} : ∀ n, (∀ i, i < n → ∃ x, Q i x) → ∃ l : List α, l.length = n ∧ ∀ j x, l[j]? = some x → Q j x
  | 0, _ => ⟨[], rfl, fun j x h => by simp at h⟩
  | n + 1, h => by
    obtain ⟨l, hl, hq⟩ := listed_of n (fun i hi => h i (by omega))
    obtain ⟨x, hx⟩ := h n (by omega)
    refine ⟨l ++ [x], by simp [hl], fun j y hj => ?_⟩
    by_cases hjn : j < l.length
    · rw [List.getElem?_append_left hjn] at hj
      exact hq j y hj
    · have hj2 := (List.getElem?_eq_some_iff.1 hj).1
      simp at hj2
      obtain rfl : j = l.length := by omega
      simp at hj
      subst hj
      rw [hl]; exact hx
theorem weights_mem_all {P : Program} {e : TypeId} : ∀ {l : List (DataW H)} {d : DataW H}, d ∈ l → ∀ n ∈ d.weights P e, n ∈ DataW.weightsAll P e l
  | [], _, h, _, _ => by simp at h
  | x :: l, d, h, n, hn => by
    rw [DataW.weightsAll, List.mem_append]
    rcases List.mem_cons.1 h with rfl | h
    · exact .inl hn
    · exact .inr (weights_mem_all h n hn)
set_option maxRecDepth 100000 in
theorem tok_of {b o n : Nat} {cs : List Value} {d : DataW H} {p : List MemPlace} (hc : W.cells? 0 ⟨b, o, none⟩ 4 = some cs) (h : DataW.trod enc Tryd.prog W 0 sp held n 31 cs = some (d, p)) (hw : ∀ n ∈ d.weights Tryd.prog 31, n ≤ reachBytes) :
    ∃ t : Tk, TkCells W b o t ∧ t.text.length ≤ 140737488351232 := by
  obtain ⟨_, hcl, hat⟩ := World.cells?_some hc
  match cs, hcl with
  | [c0, c1, c2, c3], _ =>
    obtain ⟨xs, n', _, hx, _, hlen, hf⟩ := DataW.trod_struct Tryd.underlying31 h
    have zs : Tryd.prog.cellsOf 9 = 1 := by kernel_rfl
    have zi : Tryd.prog.cellsOf 3 = 1 := by kernel_rfl
    have h0 : DataW.trod enc Tryd.prog W 0 sp held n' 3 (([c0, c1, c2, c3].drop 0).take (Tryd.prog.cellsOf 3)) = xs[0]? := hf 0 _ rfl
    have h1 : DataW.trod enc Tryd.prog W 0 sp held n' 9 (([c0, c1, c2, c3].drop 1).take (Tryd.prog.cellsOf 9)) = xs[1]? := hf 1 _ rfl
    have h2 : DataW.trod enc Tryd.prog W 0 sp held n' 3 (([c0, c1, c2, c3].drop 2).take (Tryd.prog.cellsOf 3)) = xs[2]? := hf 2 _ rfl
    have h3 : DataW.trod enc Tryd.prog W 0 sp held n' 3 (([c0, c1, c2, c3].drop 3).take (Tryd.prog.cellsOf 3)) = xs[3]? := hf 3 _ rfl
    rw [zi] at h0 h2 h3
    rw [zs] at h1
    match xs, hlen with
    | [x0, x1, x2, x3], _ =>
      obtain ⟨d0, p0⟩ := x0
      obtain ⟨d1, p1⟩ := x1
      obtain ⟨d2, p2⟩ := x2
      obtain ⟨d3, p3⟩ := x3
      replace h0 : DataW.trod enc Tryd.prog W 0 sp held n' 3 [c0] = some (d0, p0) := h0
      replace h1 : DataW.trod enc Tryd.prog W 0 sp held n' 9 [c1] = some (d1, p1) := h1
      replace h2 : DataW.trod enc Tryd.prog W 0 sp held n' 3 [c2] = some (d2, p2) := h2
      replace h3 : DataW.trod enc Tryd.prog W 0 sp held n' 3 [c3] = some (d3, p3) := h3
      obtain ⟨hd, _⟩ := Prod.mk.inj hx
      have hmem : ∀ (j : Nat) (t : TypeId) (e : DataW H), [3, 9, 3, 3][j]? = some t → [d0, d1, d2, d3][j]? = some e → ∀ n ∈ e.weights Tryd.prog t, n ≤ reachBytes := fun j t e ht he n hn => by
        refine hw n ?_
        rw [hd, DataW.weights]
        simp only [Tryd.underlying31]
        exact DataW.weights_mem_each ht he n hn
      obtain ⟨z0, e0, _⟩ := DataW.trod_int Tryd.underlying3 h0
      obtain ⟨s, e1, ed1, _⟩ := DataW.trod_string Tryd.underlying9 h1
      obtain ⟨z2, e2, _⟩ := DataW.trod_int Tryd.underlying3 h2
      obtain ⟨z3, e3, _⟩ := DataW.trod_int Tryd.underlying3 h3
      injection e0 with e0
      injection e1 with e1
      injection e2 with e2
      injection e3 with e3
      subst e0 e1 e2 e3
      have hs : s.size ≤ reachBytes := by
        have := hmem 1 _ _ rfl rfl s.data.toList.length (by
          have := (Prod.mk.inj ed1).1
          subst this
          simp [DataW.weights])
        simpa using this
      refine ⟨⟨z0, s.data.toList, z2, z3⟩, ⟨?_, ?_, ?_, ?_⟩, by show s.data.toList.length ≤ _; rw [len_data]; unfold reachBytes at hs; omega⟩
      · have := hat 0 (by decide)
        rw [add_plain] at this
        exact this
      · have := hat 1 (by decide)
        rw [add_plain] at this
        exact this
      · have := hat 2 (by decide)
        rw [add_plain] at this
        exact this
      · have := hat 3 (by decide)
        rw [add_plain] at this
        exact this
set_option maxRecDepth 100000 in
theorem toks_of {v : Value} {d : DataW H} {p : List MemPlace} (h : DataW.trod enc Tryd.prog W 0 sp held fuel 22 [v] = some (d, p)) (hw : ∀ n ∈ d.weights Tryd.prog 22, n ≤ reachBytes) : ∃ ts, TksAt W.heap.size W v ts := by
  have z4 : Tryd.prog.cellsOf 31 = 4 := by kernel_rfl
  rcases open_slice Tryd.underlying22 h with ⟨hcs, _⟩ | ⟨a, len, cap, m, n, D, Pl, hcs, _, hl, hm, hmm, hx, hi⟩
  · injection hcs with hcs
    subst hcs
    exact ⟨[], none, 0, rfl, by simp, by simp, fun h => absurd h (by simp)⟩
  · injection hcs with hcs
    subst hcs
    have hle : len ≤ m := by rw [hmm]; split <;> omega
    obtain ⟨hd, _⟩ := Prod.mk.inj hx
    have hby : Tryd.prog.bytesOf 31 = 40 := by kernel_rfl
    have hws : ∀ n ∈ (len + (m - len)) * 40 :: (DataW.weightsAll Tryd.prog 31 ((List.range len).map D) ++ DataW.weightsAll Tryd.prog 31 ((List.range (m - len)).map fun j => D (len + j))), n ≤ reachBytes := fun n hn => by
      refine hw n ?_
      rw [hd, DataW.weights]
      simp only [Tryd.underlying22, hby, List.length_map, List.length_range]
      exact hn
    have hb : len * 40 ≤ 140737488351232 := by
      have := hws _ (List.mem_cons_self ..)
      unfold reachBytes at this
      omega
    rw [z4] at hi
    have hpl : 0 < len → a = ⟨a.block, a.off, none⟩ := fun h0 => by
      obtain ⟨cs', hc, _⟩ := hi 0 (by omega)
      obtain ⟨_, hcl, hat⟩ := World.cells?_some hc
      have h1 := hat 0 (by decide)
      rw [show ((a.add (0 * 4)).add 0) = a by simp [Addr.add], List.getElem?_eq_getElem (by omega)] at h1
      exact addr_plain h1
    obtain ⟨b, o, s⟩ := a
    obtain ⟨fs, hfl, hfs⟩ := listed_of (Q := fun i (f : Tk) => TkCells W b (o + i * 4) f ∧ f.text.length ≤ 140737488351232) len (fun i him => by
      obtain rfl : s = none := by have := hpl (by omega); injection this
      obtain ⟨cs', hc, ht'⟩ := hi i (by omega)
      rw [add_plain] at hc
      refine tok_of hc ht' (fun n hn => hws n (List.mem_cons_of_mem _ (List.mem_append.2 (.inl (weights_mem_all ?_ n hn)))))
      exact List.mem_map.2 ⟨i, List.mem_range.2 him, rfl⟩)
    refine ⟨fs, some ⟨b, o, s⟩, cap, by rw [hfl], ⟨by rw [hfl]; omega, by rw [hfl]; exact hl⟩, fun f hf => ?_, fun h0 => ?_⟩
    · obtain ⟨j, hj⟩ := List.mem_iff_getElem?.1 hf
      exact (hfs j f hj).2
    · rw [hfl] at h0
      obtain rfl : s = none := by have := hpl h0; injection this
      refine ⟨b, o, rfl, ?_, fun j f hj => (hfs j f hj).1⟩
      obtain ⟨f, hf⟩ : ∃ f, fs[0]? = some f := ⟨_, List.getElem?_eq_getElem (by omega)⟩
      exact block_lt_of_cell (hfs 0 f hf).1.1
theorem str_of {s : ByteArray} {d : DataW H} {p : List MemPlace} (h : DataW.trod enc Tryd.prog W 0 sp held fuel 9 [.string s] = some (d, p)) (hw : ∀ n ∈ d.weights Tryd.prog 9, n ≤ reachBytes) : s.size ≤ 140737488351232 := by
  obtain ⟨s', e1, ed1, _⟩ := DataW.trod_string Tryd.underlying9 h
  injection e1 with e1
  injection e1 with e1
  subst e1
  have hs : s.size ≤ reachBytes := by
    have := hw s.data.toList.length (by
      have := (Prod.mk.inj ed1).1
      subst this
      simp [DataW.weights])
    simpa using this
  unfold reachBytes at hs
  omega
set_option maxRecDepth 100000 in
theorem nd_of {b o n : Nat} {cs : List Value} {d : DataW H} {p : List MemPlace} (hc : W.cells? 0 ⟨b, o, none⟩ 5 = some cs) (h : DataW.trod enc Tryd.prog W 0 sp held n 59 cs = some (d, p)) (hw : ∀ n ∈ d.weights Tryd.prog 59, n ≤ reachBytes) :
    ∃ t : Nd, NdCells W b o t ∧ t.name.length ≤ 140737488351232 := by
  obtain ⟨_, hcl, hat⟩ := World.cells?_some hc
  match cs, hcl with
  | [c0, c1, c2, c3, c4], _ =>
    obtain ⟨xs, n', _, hx, _, hlen, hf⟩ := DataW.trod_struct Tryd.underlying59 h
    have zs : Tryd.prog.cellsOf 9 = 1 := by kernel_rfl
    have zi : Tryd.prog.cellsOf 3 = 1 := by kernel_rfl
    have h0 : DataW.trod enc Tryd.prog W 0 sp held n' 3 (([c0, c1, c2, c3, c4].drop 0).take (Tryd.prog.cellsOf 3)) = xs[0]? := hf 0 _ rfl
    have h1 : DataW.trod enc Tryd.prog W 0 sp held n' 3 (([c0, c1, c2, c3, c4].drop 1).take (Tryd.prog.cellsOf 3)) = xs[1]? := hf 1 _ rfl
    have h2 : DataW.trod enc Tryd.prog W 0 sp held n' 9 (([c0, c1, c2, c3, c4].drop 2).take (Tryd.prog.cellsOf 9)) = xs[2]? := hf 2 _ rfl
    have h3 : DataW.trod enc Tryd.prog W 0 sp held n' 3 (([c0, c1, c2, c3, c4].drop 3).take (Tryd.prog.cellsOf 3)) = xs[3]? := hf 3 _ rfl
    have h4 : DataW.trod enc Tryd.prog W 0 sp held n' 3 (([c0, c1, c2, c3, c4].drop 4).take (Tryd.prog.cellsOf 3)) = xs[4]? := hf 4 _ rfl
    rw [zi] at h0 h1 h3 h4
    rw [zs] at h2
    match xs, hlen with
    | [x0, x1, x2, x3, x4], _ =>
      obtain ⟨d0, p0⟩ := x0
      obtain ⟨d1, p1⟩ := x1
      obtain ⟨d2, p2⟩ := x2
      obtain ⟨d3, p3⟩ := x3
      obtain ⟨d4, p4⟩ := x4
      replace h0 : DataW.trod enc Tryd.prog W 0 sp held n' 3 [c0] = some (d0, p0) := h0
      replace h1 : DataW.trod enc Tryd.prog W 0 sp held n' 3 [c1] = some (d1, p1) := h1
      replace h2 : DataW.trod enc Tryd.prog W 0 sp held n' 9 [c2] = some (d2, p2) := h2
      replace h3 : DataW.trod enc Tryd.prog W 0 sp held n' 3 [c3] = some (d3, p3) := h3
      replace h4 : DataW.trod enc Tryd.prog W 0 sp held n' 3 [c4] = some (d4, p4) := h4
      obtain ⟨hd, _⟩ := Prod.mk.inj hx
      have hmem : ∀ (j : Nat) (t : TypeId) (e : DataW H), [3, 3, 9, 3, 3][j]? = some t → [d0, d1, d2, d3, d4][j]? = some e → ∀ n ∈ e.weights Tryd.prog t, n ≤ reachBytes := fun j t e ht he n hn => by
        refine hw n ?_
        rw [hd, DataW.weights]
        simp only [Tryd.underlying59]
        exact DataW.weights_mem_each ht he n hn
      obtain ⟨z0, e0, _⟩ := DataW.trod_int Tryd.underlying3 h0
      obtain ⟨z1, e1, _⟩ := DataW.trod_int Tryd.underlying3 h1
      obtain ⟨s, e2, ed2, _⟩ := DataW.trod_string Tryd.underlying9 h2
      obtain ⟨z3, e3, _⟩ := DataW.trod_int Tryd.underlying3 h3
      obtain ⟨z4, e4, _⟩ := DataW.trod_int Tryd.underlying3 h4
      injection e0 with e0
      injection e1 with e1
      injection e2 with e2
      injection e3 with e3
      injection e4 with e4
      subst e0 e1 e2 e3 e4
      have hs : s.size ≤ reachBytes := by
        have := hmem 2 _ _ rfl rfl s.data.toList.length (by
          have := (Prod.mk.inj ed2).1
          subst this
          simp [DataW.weights])
        simpa using this
      refine ⟨⟨z0, z1, s.data.toList, z3, z4⟩, ⟨?_, ?_, ?_, ?_, ?_⟩, by show s.data.toList.length ≤ _; rw [len_data]; unfold reachBytes at hs; omega⟩
      · have := hat 0 (by decide); rw [add_plain] at this; exact this
      · have := hat 1 (by decide); rw [add_plain] at this; exact this
      · have := hat 2 (by decide); rw [add_plain] at this; exact this
      · have := hat 3 (by decide); rw [add_plain] at this; exact this
      · have := hat 4 (by decide); rw [add_plain] at this; exact this
set_option maxRecDepth 100000 in
theorem nds_of {v : Value} {d : DataW H} {p : List MemPlace} (h : DataW.trod enc Tryd.prog W 0 sp held fuel 24 [v] = some (d, p)) (hw : ∀ n ∈ d.weights Tryd.prog 24, n ≤ reachBytes) : ∃ ts, NdsAt W.heap.size W v ts := by
  have z4 : Tryd.prog.cellsOf 59 = 5 := by kernel_rfl
  rcases open_slice Tryd.underlying24 h with ⟨hcs, _⟩ | ⟨a, len, cap, m, n, D, Pl, hcs, _, hl, hm, hmm, hx, hi⟩
  · injection hcs with hcs
    subst hcs
    exact ⟨[], none, 0, rfl, by simp, by simp, fun h => absurd h (by simp)⟩
  · injection hcs with hcs
    subst hcs
    have hle : len ≤ m := by rw [hmm]; split <;> omega
    obtain ⟨hd, _⟩ := Prod.mk.inj hx
    have hby : Tryd.prog.bytesOf 59 = 48 := by kernel_rfl
    have hws : ∀ n ∈ (len + (m - len)) * 48 :: (DataW.weightsAll Tryd.prog 59 ((List.range len).map D) ++ DataW.weightsAll Tryd.prog 59 ((List.range (m - len)).map fun j => D (len + j))), n ≤ reachBytes := fun n hn => by
      refine hw n ?_
      rw [hd, DataW.weights]
      simp only [Tryd.underlying24, hby, List.length_map, List.length_range]
      exact hn
    have hb : len * 48 ≤ 140737488351232 := by
      have := hws _ (List.mem_cons_self ..)
      unfold reachBytes at this
      omega
    rw [z4] at hi
    have hpl : 0 < len → a = ⟨a.block, a.off, none⟩ := fun h0 => by
      obtain ⟨cs', hc, _⟩ := hi 0 (by omega)
      obtain ⟨_, hcl, hat⟩ := World.cells?_some hc
      have h1 := hat 0 (by decide)
      rw [show ((a.add (0 * 5)).add 0) = a by simp [Addr.add], List.getElem?_eq_getElem (by omega)] at h1
      exact addr_plain h1
    obtain ⟨b, o, s⟩ := a
    obtain ⟨fs, hfl, hfs⟩ := listed_of (Q := fun i (f : Nd) => NdCells W b (o + i * 5) f ∧ f.name.length ≤ 140737488351232) len (fun i him => by
      obtain rfl : s = none := by have := hpl (by omega); injection this
      obtain ⟨cs', hc, ht'⟩ := hi i (by omega)
      rw [add_plain] at hc
      refine nd_of hc ht' (fun n hn => hws n (List.mem_cons_of_mem _ (List.mem_append.2 (.inl (weights_mem_all ?_ n hn)))))
      exact List.mem_map.2 ⟨i, List.mem_range.2 him, rfl⟩)
    refine ⟨fs, some ⟨b, o, s⟩, cap, by rw [hfl], ⟨by rw [hfl]; omega, by rw [hfl]; exact hl⟩, fun f hf => ?_, fun h0 => ?_⟩
    · obtain ⟨j, hj⟩ := List.mem_iff_getElem?.1 hf
      exact (hfs j f hj).2
    · rw [hfl] at h0
      obtain rfl : s = none := by have := hpl h0; injection this
      refine ⟨b, o, rfl, ?_, fun j f hj => (hfs j f hj).1⟩
      obtain ⟨f, hf⟩ : ∃ f, fs[0]? = some f := ⟨_, List.getElem?_eq_getElem (by omega)⟩
      exact block_lt_of_cell (hfs 0 f hf).1.1
end

/-! ## how a row closes -/
theorem trodAll_stays {H : Type} {enc : TypeId × Value → H} {P : Program} {W W' : World} {sp : Nat → Bool} (hl : laidOutB P = true) (hb : Below W.heap.size W W') :
    ∀ {ts : List TypeId} {vs : List Value} {ds : List (DataW H)} {ps : List MemPlace}, (ts.all fun t => P.readableRec t && decide (t < P.types.size)) = true → DataW.TrodAll enc P W 0 (fun _ => true) true ts vs ds ps →
      (∀ p ∈ ps, p.block < W.heap.size) → (∀ p ∈ ps, sp p.block = true) → DataW.TrodAll enc P W' 0 sp true ts vs ds ps
  | [], [], [], _, _, h, _, _ => h
  | t :: ts, v :: vs, d :: ds, ps, ht, h, hlt, hs => by
    obtain ⟨p, q, h1, h2, rfl⟩ := h
    simp only [List.all_cons, Bool.and_eq_true, decide_eq_true_eq] at ht
    exact ⟨p, q, WideElems.Trod_stays hl ht.1.1 ht.1.2 h1 (fun x hx => hb.same (hlt x (List.mem_append.2 (.inl hx)))) (fun x hx => hs x (List.mem_append.2 (.inl hx))),
      trodAll_stays hl hb ht.2 h2 (fun x hx => hlt x (List.mem_append.2 (.inr hx))) (fun x hx => hs x (List.mem_append.2 (.inr hx))), rfl⟩
/-- a law that answers true and touches nothing that was there -/
theorem law_post {H : Type} {enc : TypeId × Value → H} {f : Func} {s : ChangeSpec} {W W' : World} {args : Array Value} {ds gs : List (DataW H)} {before : List MemPlace} (hv : s.vars = [])
    (hW : DataW.Whole enc Tryd.prog f.params.toList s.vars false W args.toList ds gs before) (hf : s.fn H ds = { results := [.lit (.bool true)], args := ds }) (hr : f.resultTypes = #[4])
    (ht : (f.params.toList.all fun t => Tryd.prog.readableRec t && decide (t < Tryd.prog.types.size)) = true) (hb : Below W.heap.size W W') : s.post enc Tryd.prog f false true false false W args (.bool true) W' := by
  have hlt := hW.lt
  have hW' := hW
  obtain ⟨p, q, hA, hV, rfl, _, _⟩ := hW
  rw [hv] at hV
  obtain ⟨rfl, rfl⟩ := trodVars_none hV
  refine ⟨ds, [], _, [], p, [], hW', ?_, ?_, ?_, hb.frame _, fun h => by cases h⟩
  · rw [List.append_nil, hf, hr]
    exact trodAll_mk1 (shut_bool Tryd.underlying4 true)
  · rw [List.append_nil, hf]
    exact trodAll_stays laidOut hb ht hA (fun x hx => hlt x (by simpa using hx)) (fun x hx => by simpa using hlt x (by simpa using hx))
  · rw [List.append_nil, hf, hv]
    rfl
/-- a row that lists variables, the world's shape kept -/
theorem handed_and_shaped {H : Type} {enc : TypeId × Value → H} {a : Assume} {C : Checked} {os : Os} {f : FuncId} {fn : Func} {s : ChangeSpec} {conds : List PathCond} {apart fresh handsOn again : Bool} {X : World → Array Value → Prop}
    (hX : ∀ (w w' : World) (args : Array Value), w.heap = w'.heap → X w args → X w' args)
    (own : ownKnob C.prog.godebug = none) (started : os.Started) (noInit : C.prog.inits.idxOf? f = none) (hfn : C.prog.funcs[f]? = some fn)
    (witness : ∃ (w : World) (tape : Tape) (i : Input), w.os = os ∧ (w.forCall tape i).Shaped C.prog ∧ i.vars = [] ∧ Input.okWide C.prog (w.forCall tape i) .any w.heap.size f i ∧
      ((s.pre enc C.prog fn conds apart (w.forCall tape i).memory i.args ∧ X (w.forCall tape i).memory i.args) ∧ sizedMet enc C.prog fn (OpenSpec.ofChange s) apart (w.forCall tape i).memory i.args) ∧ a.holds C.prog (lone (Frame.enter C.prog f i.args .normal) [] (w.forCall tape i)))
    (contract : ∀ (W : World) (base : Nat) (args : Array Value) (ds gs : List (DataW H)) (before : List MemPlace),
      (∀ (j : Nat) t v, fn.params[j]? = some t → args[j]? = some v → Value.okWide C.prog W .any base t v) →
      DataW.Whole enc C.prog fn.params.toList s.vars apart W args.toList ds gs before →
      (DataW.weightsEach C.prog (fn.params.toList ++ s.plain.varTypes C.prog) (ds ++ gs)).all (· ≤ reachBytes) = true → X W args → W.ShapedOpen C.prog →
      Calls C.prog f args W fun e W' => ∃ v, e = .returned v ∧ s.post enc C.prog fn apart fresh handsOn again W args v W') :
    ReturnsInHanded a C os f .any (fun w args => (s.pre enc C.prog fn conds apart w args ∧ X w args) ∧ sizedMet enc C.prog fn (OpenSpec.ofChange s) apart w args) (s.post enc C.prog fn apart fresh handsOn again) := by
  refine returnsInHanded_of_calls own started noInit witness ?_
  intro w tape i _ hsh _ hok hpre _
  obtain ⟨_, _, _, fn', hfn', _, _, _, _, hval⟩ := hok
  have e : fn' = fn := Option.some.inj (hfn'.symm.trans hfn)
  subst e
  obtain ⟨⟨⟨ds, gs, before, hw, _⟩, hx⟩, hz⟩ := hpre
  have hw' := DataW.Whole.of_heap (w' := w.forCall tape i) (by rfl) hw
  refine (contract (w.forCall tape i) w.heap.size i.args ds gs before hval hw' (hz.weights hw) (hX _ _ _ (by rfl) hx) hsh).mono fun e W' ⟨v, he, hp⟩ => ?_
  subst he
  exact ChangeSpec.post_blind hp
/-! ## the listed variable -/
def laid1 : List (String × DataW Unit) := [("linkhouse/expr.kinds", Rows.laid_linkhouse_expr_kinds)]
def trD (t : Nat × List UInt8 × Nat) : DataW Unit := .agg [.lit (.int .i64 t.1), .lit (.string t.2.1), .lit (.int .i64 t.2.2)]
theorem kinds_data : (Rows.laid_linkhouse_expr_kinds : DataW Unit) = .agg (table.map trD) := by kernel_rfl
theorem kinds_ty : (Tryd.prog.globals[0]?).map (·.type) = some 87 := by kernel_rfl
def kzero : Array Value := (table.flatMap fun _ => [Value.int .i64 0, strV [], .int .i64 0]).toArray
set_option maxRecDepth 100000 in
theorem trait_of {enc : TypeId × Value → Unit} {W : World} {sp : Nat → Bool} {held : Bool} {n : Nat} {cs : List Value} {t : Nat × List UInt8 × Nat} {p : List MemPlace} (hl : cs.length = 3) (h : DataW.trod enc Tryd.prog W 0 sp held n 86 cs = some (trD t, p)) : cs = trC t := by
  match cs, hl with
  | [c0, c1, c2], _ =>
    obtain ⟨xs, n', _, hx, _, hlen, hf⟩ := DataW.trod_struct Tryd.underlying86 h
    have zs : Tryd.prog.cellsOf 9 = 1 := by kernel_rfl
    have zi : Tryd.prog.cellsOf 3 = 1 := by kernel_rfl
    have h0 : DataW.trod enc Tryd.prog W 0 sp held n' 3 (([c0, c1, c2].drop 0).take (Tryd.prog.cellsOf 3)) = xs[0]? := hf 0 _ rfl
    have h1 : DataW.trod enc Tryd.prog W 0 sp held n' 9 (([c0, c1, c2].drop 1).take (Tryd.prog.cellsOf 9)) = xs[1]? := hf 1 _ rfl
    have h2 : DataW.trod enc Tryd.prog W 0 sp held n' 3 (([c0, c1, c2].drop 2).take (Tryd.prog.cellsOf 3)) = xs[2]? := hf 2 _ rfl
    rw [zi] at h0 h2
    rw [zs] at h1
    match xs, hlen with
    | [x0, x1, x2], _ =>
      obtain ⟨d0, p0⟩ := x0
      obtain ⟨d1, p1⟩ := x1
      obtain ⟨d2, p2⟩ := x2
      replace h0 : DataW.trod enc Tryd.prog W 0 sp held n' 3 [c0] = some (d0, p0) := h0
      replace h1 : DataW.trod enc Tryd.prog W 0 sp held n' 9 [c1] = some (d1, p1) := h1
      replace h2 : DataW.trod enc Tryd.prog W 0 sp held n' 3 [c2] = some (d2, p2) := h2
      obtain ⟨hd, _⟩ := Prod.mk.inj hx
      obtain ⟨z0, e0, ed0, _⟩ := DataW.trod_int Tryd.underlying3 h0
      obtain ⟨s, e1, ed1, _⟩ := DataW.trod_string Tryd.underlying9 h1
      obtain ⟨z2, e2, ed2, _⟩ := DataW.trod_int Tryd.underlying3 h2
      injection e0 with e0
      injection e1 with e1
      injection e2 with e2
      subst e0 e1 e2
      have e0 := (Prod.mk.inj ed0).1
      have e1 := (Prod.mk.inj ed1).1
      have e2 := (Prod.mk.inj ed2).1
      subst e0 e1 e2
      obtain ⟨a, b, c⟩ := t
      have hd2 : DataW.agg [.lit (.int .i64 (a : Int)), .lit (.string b), .lit (.int .i64 (c : Int))] = DataW.agg [(.lit (.int .i64 z0) : DataW Unit), .lit (.string s.data.toList), .lit (.int .i64 z2)] := hd
      injection hd2 with hd2
      injection hd2 with k0 hd2
      injection hd2 with k1 hd2
      injection hd2 with k2 _
      injection k0 with k0
      injection k0 with _ k0
      injection k1 with k1
      injection k1 with k1
      injection k2 with k2
      injection k2 with _ k2
      subst k0 k1 k2
      rfl
theorem kinds_of_laid {W : World} (h : laidMetH Tryd.prog laid1 W) (hs : W.ShapedOpen Tryd.prog) : KindsAt W := by
  obtain ⟨cs, hcs, hsz, -⟩ := hs.1 0 kzero 87 (of_decide_eq_true (by kernel_rfl)) (by kernel_rfl)
  have hsz' : cs.size = 45 := hsz
  rw [MakeChecks.laidMetH_plain _ _ _ (by kernel_rfl)] at h
  obtain ⟨ps, h, _⟩ := h
  obtain ⟨g, t, cs', fuel, p, q, hg, ht, hv, hd, h, _⟩ := h
  obtain rfl := Option.some.inj ((show Tryd.prog.globalNamed "linkhouse/expr.kinds" = some 0 by kernel_rfl).symm.trans hg)
  obtain rfl := Option.some.inj (kinds_ty.symm.trans ht)
  rw [kinds_data] at hd
  have hsame : ∀ i, cs'[i]? = cs[i]? := fun i => by
    rw [← World.var?_cell hg hv i]
    unfold World.cell?
    dsimp only
    rw [hcs]
    exact if_neg (by simp)
  obtain ⟨xs, m, _, hx, hcl, hxl, hat⟩ := DataW.trod_array (n := 15) (e := 86) Tryd.underlying87 hd
  have zt : Tryd.prog.cellsOf 86 = 3 := by kernel_rfl
  have zc : Tryd.prog.cellsOf 87 = 45 := by kernel_rfl
  rw [zt] at hat
  rw [zc] at hcl
  have hmap : table.map trD = xs.map (·.1) := by
    have := (Prod.mk.inj hx).1
    injection this
  have hrow : ∀ i, i < 15 → ∀ r, r < 3 → cs'.toList[i * 3 + r]? = (trC (rowL i))[r]? := by
    intro i hi r hr
    obtain ⟨x, hxi⟩ : ∃ x, xs[i]? = some x := ⟨_, List.getElem?_eq_getElem (by omega)⟩
    have h1 : (table.map trD)[i]? = some x.1 := by rw [hmap, List.getElem?_map, hxi]; rfl
    have h2 : x.1 = trD (rowL i) := by
      rw [List.getElem?_map, List.getElem?_eq_getElem (show i < table.length from hi)] at h1
      have h3 := Option.some.inj h1
      rw [← h3]
      unfold rowL
      rw [List.getElem?_eq_getElem (show i < table.length from hi)]
      rfl
    have h4 := hat i hi
    rw [hxi] at h4
    obtain ⟨x1, x2⟩ := x
    dsimp only at h2
    subst h2
    have h5 := trait_of (by rw [List.length_take, List.length_drop, hcl]; omega) h4
    rw [← h5, List.getElem?_take_of_lt hr, List.getElem?_drop]
  refine ⟨(0, 0), ?_⟩
  rw [hcs]
  have : cs = kcs := by
    apply Array.ext_getElem?
    intro j
    rw [← hsame j, ← Array.getElem?_toList]
    by_cases hj : j < 45
    · obtain ⟨i, r, hi, hr, rfl⟩ : ∃ i r, i < 15 ∧ r < 3 ∧ j = i * 3 + r := ⟨j / 3, j % 3, by omega, by omega, by omega⟩
      rw [hrow i hi r hr]
      have : ∀ i, i < 15 → ∀ r, r < 3 → (trC (rowL i))[r]? = kcs[i * 3 + r]? := by
        intro i hi r hr
        have h1 : i = 0 ∨ i = 1 ∨ i = 2 ∨ i = 3 ∨ i = 4 ∨ i = 5 ∨ i = 6 ∨ i = 7 ∨ i = 8 ∨ i = 9 ∨ i = 10 ∨ i = 11 ∨ i = 12 ∨ i = 13 ∨ i = 14 := by omega
        have h2 : r = 0 ∨ r = 1 ∨ r = 2 := by omega
        rcases h1 with rfl | rfl | rfl | rfl | rfl | rfl | rfl | rfl | rfl | rfl | rfl | rfl | rfl | rfl | rfl <;> rcases h2 with rfl | rfl | rfl <;> rfl
      exact this i hi r hr
    · rw [List.getElem?_eq_none (by rw [hcl]; omega), Array.getElem?_eq_none (by show 45 ≤ j; omega)]
  rw [this]
end Go.Proofs.YtchpkdpefpiegaaDoor.Tok
