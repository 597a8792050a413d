/- What a row's argument []api.Named reads as. -/
import Derived.Test.YtchpkdpefpiegaaDoorExV
import Derived.Test.YtchpkdpefpiegaaDoorExK
namespace Go.Proofs.YtchpkdpefpiegaaDoor.Tok
open Go.ChangeShapes Go.WideShapes Go.ChangeAt Go.RowKit Go.Deep Go.Lib

section
variable {H : Type} {enc : TypeId × Value → H} {W : World} {sp : Nat → Bool} {held : Bool} {fuel : Nat}
set_option maxRecDepth 100000 in
theorem ln_of {n : Nat} {cs : List Value} {d : DataW H} {p : List MemPlace} (hl : cs.length = 3) (h : DataW.trod enc Tryd.prog W 0 sp held n 40 cs = some (d, p)) (hw : ∀ n ∈ d.weights Tryd.prog 40, n ≤ reachBytes) :
    ∃ a : Ln, cs = [strV a.sym, strV a.minus, .int .i64 a.num] ∧ a.sym.length ≤ 140737488351232 ∧ a.minus.length ≤ 140737488351232 := by
  match cs, hl with
  | [c0, c1, c2], _ =>
    obtain ⟨xs, n', _, hx, _, hlen, hf⟩ := DataW.trod_struct Tryd.underlying40 h
    have zs : Tryd.prog.cellsOf 9 = 1 := by kernel_rfl
    have zi : Tryd.prog.cellsOf 3 = 1 := by kernel_rfl
    have h0 : DataW.trod enc Tryd.prog W 0 sp held n' 9 (([c0, c1, c2].drop 0).take (Tryd.prog.cellsOf 9)) = xs[0]? := hf 0 _ rfl
    have h1 : DataW.trod enc Tryd.prog W 0 sp held n' 9 (([c0, c1, c2].drop 1).take (Tryd.prog.cellsOf 9)) = xs[1]? := hf 1 _ rfl
    have h2 : DataW.trod enc Tryd.prog W 0 sp held n' 3 (([c0, c1, c2].drop 2).take (Tryd.prog.cellsOf 3)) = xs[2]? := hf 2 _ rfl
    rw [zi] at h2
    rw [zs] at h0 h1
    match xs, hlen with
    | [x0, x1, x2], _ =>
      obtain ⟨d0, p0⟩ := x0
      obtain ⟨d1, p1⟩ := x1
      obtain ⟨d2, p2⟩ := x2
      replace h0 : DataW.trod enc Tryd.prog W 0 sp held n' 9 [c0] = some (d0, p0) := h0
      replace h1 : DataW.trod enc Tryd.prog W 0 sp held n' 9 [c1] = some (d1, p1) := h1
      replace h2 : DataW.trod enc Tryd.prog W 0 sp held n' 3 [c2] = some (d2, p2) := h2
      obtain ⟨hd, _⟩ := Prod.mk.inj hx
      have hmem : ∀ (j : Nat) (t : TypeId) (e : DataW H), [9, 9, 3][j]? = some t → [d0, d1, d2][j]? = some e → ∀ n ∈ e.weights Tryd.prog t, n ≤ reachBytes := fun j t e ht he n hn => by
        refine hw n ?_
        rw [hd, DataW.weights]
        simp only [Tryd.underlying40]
        exact DataW.weights_mem_each ht he n hn
      obtain ⟨s0, e0, ed0, _⟩ := DataW.trod_string Tryd.underlying9 h0
      obtain ⟨s1, e1, ed1, _⟩ := DataW.trod_string Tryd.underlying9 h1
      obtain ⟨z2, e2, _⟩ := DataW.trod_int Tryd.underlying3 h2
      injection e0 with e0
      injection e1 with e1
      injection e2 with e2
      subst e0 e1 e2
      have hs0 : s0.size ≤ reachBytes := by
        have := hmem 0 _ _ rfl rfl s0.data.toList.length (by
          have := (Prod.mk.inj ed0).1
          subst this
          simp [DataW.weights])
        simpa using this
      have hs1 : s1.size ≤ reachBytes := by
        have := hmem 1 _ _ rfl rfl s1.data.toList.length (by
          have := (Prod.mk.inj ed1).1
          subst this
          simp [DataW.weights])
        simpa using this
      exact ⟨⟨s0.data.toList, s1.data.toList, z2⟩, rfl, by show s0.data.toList.length ≤ _; rw [len_data]; unfold reachBytes at hs0; omega, by show s1.data.toList.length ≤ _; rw [len_data]; unfold reachBytes at hs1; omega⟩
set_option maxRecDepth 100000 in
theorem nm_of {b o n : Nat} {cs : List Value} {d : DataW H} {p : List MemPlace} (hc : W.cells? 0 ⟨b, o, none⟩ 4 = some cs) (h : DataW.trod enc Tryd.prog W 0 sp held n 54 cs = some (d, p)) (hw : ∀ n ∈ d.weights Tryd.prog 54, n ≤ reachBytes) :
    ∃ m : Nm, NmCells W b o m ∧ m.Short := by
  obtain ⟨_, hcl, hat⟩ := World.cells?_some hc
  match cs, hcl with
  | [c0, c1, c2, c3], _ =>
    obtain ⟨xs, n', _, hx, _, hlen, hf⟩ := DataW.trod_struct Tryd.underlying54 h
    have zs : Tryd.prog.cellsOf 9 = 1 := by kernel_rfl
    have zl : Tryd.prog.cellsOf 40 = 3 := by kernel_rfl
    have h0 : DataW.trod enc Tryd.prog W 0 sp held n' 9 (([c0, c1, c2, c3].drop 0).take (Tryd.prog.cellsOf 9)) = xs[0]? := hf 0 _ rfl
    have h1 : DataW.trod enc Tryd.prog W 0 sp held n' 40 (([c0, c1, c2, c3].drop 1).take (Tryd.prog.cellsOf 40)) = xs[1]? := hf 1 _ rfl
    rw [zs] at h0
    rw [zl] at h1
    match xs, hlen with
    | [x0, x1], _ =>
      obtain ⟨d0, p0⟩ := x0
      obtain ⟨d1, p1⟩ := x1
      replace h0 : DataW.trod enc Tryd.prog W 0 sp held n' 9 [c0] = some (d0, p0) := h0
      replace h1 : DataW.trod enc Tryd.prog W 0 sp held n' 40 [c1, c2, c3] = some (d1, p1) := h1
      obtain ⟨hd, _⟩ := Prod.mk.inj hx
      have hmem : ∀ (j : Nat) (t : TypeId) (e : DataW H), [9, 40][j]? = some t → [d0, d1][j]? = some e → ∀ n ∈ e.weights Tryd.prog t, n ≤ reachBytes := fun j t e ht he n hn => by
        refine hw n ?_
        rw [hd, DataW.weights]
        simp only [Tryd.underlying54]
        exact DataW.weights_mem_each ht he n hn
      obtain ⟨s, e0, ed0, _⟩ := DataW.trod_string Tryd.underlying9 h0
      injection e0 with e0
      subst e0
      have hs : s.size ≤ reachBytes := by
        have := hmem 0 _ _ rfl rfl s.data.toList.length (by
          have := (Prod.mk.inj ed0).1
          subst this
          simp [DataW.weights])
        simpa using this
      obtain ⟨a, ha, hl1, hl2⟩ := ln_of rfl h1 (fun n hn => hmem 1 _ _ rfl rfl n hn)
      injection ha with e1 ha
      injection ha with e2 ha
      injection ha with e3 _
      subst e1 e2 e3
      refine ⟨⟨s.data.toList, a⟩, ⟨?_, ?_, ?_, ?_⟩, ?_, hl1, hl2⟩
      · have := hat 0 (by decide); rw [add_plain] at this; exact this
      · have := hat 1 (by decide); rw [add_plain] at this; exact this
      · have := hat 2 (by decide); rw [add_plain] at this; exact this
      · have := hat 3 (by decide); rw [add_plain] at this; exact this
      · show s.data.toList.length ≤ _; rw [len_data]; unfold reachBytes at hs; omega
set_option maxRecDepth 100000 in
theorem nms_of {v : Value} {d : DataW H} {p : List MemPlace} (h : DataW.trod enc Tryd.prog W 0 sp held fuel 38 [v] = some (d, p)) (hw : ∀ n ∈ d.weights Tryd.prog 38, n ≤ reachBytes) : ∃ ts, NmsAt W.heap.size W v ts := by
  have z4 : Tryd.prog.cellsOf 54 = 4 := by kernel_rfl
  rcases open_slice Tryd.underlying38 h with ⟨hcs, _⟩ | ⟨a, len, cap, m, n, D, Pl, hcs, _, hl, hm, hmm, hx, hi⟩
  · injection hcs with hcs
    subst hcs
    exact ⟨[], none, 0, rfl, by simp, by simp, fun h => absurd h (by simp)⟩
  · injection hcs with hcs
    subst hcs
    have hle : len ≤ m := by rw [hmm]; split <;> omega
    obtain ⟨hd, _⟩ := Prod.mk.inj hx
    have hby : Tryd.prog.bytesOf 54 = 56 := by kernel_rfl
    have hws : ∀ n ∈ (len + (m - len)) * 56 :: (DataW.weightsAll Tryd.prog 54 ((List.range len).map D) ++ DataW.weightsAll Tryd.prog 54 ((List.range (m - len)).map fun j => D (len + j))), n ≤ reachBytes := fun n hn => by
      refine hw n ?_
      rw [hd, DataW.weights]
      simp only [Tryd.underlying38, hby, List.length_map, List.length_range]
      exact hn
    have hb : len * 56 ≤ 140737488351232 := by
      have := hws _ (List.mem_cons_self ..)
      unfold reachBytes at this
      omega
    rw [z4] at hi
    have hpl : 0 < len → a = ⟨a.block, a.off, none⟩ := fun h0 => by
      obtain ⟨cs', hc, _⟩ := hi 0 (by omega)
      obtain ⟨_, hcl, hat⟩ := World.cells?_some hc
      have h1 := hat 0 (by decide)
      rw [show ((a.add (0 * 4)).add 0) = a by simp [Addr.add], List.getElem?_eq_getElem (by omega)] at h1
      exact addr_plain h1
    obtain ⟨b, o, s⟩ := a
    obtain ⟨fs, hfl, hfs⟩ := listed_of (Q := fun i (f : Nm) => NmCells W b (o + i * 4) f ∧ f.Short) len (fun i him => by
      obtain rfl : s = none := by have := hpl (by omega); injection this
      obtain ⟨cs', hc, ht'⟩ := hi i (by omega)
      rw [add_plain] at hc
      refine nm_of hc ht' (fun n hn => hws n (List.mem_cons_of_mem _ (List.mem_append.2 (.inl (weights_mem_all ?_ n hn)))))
      exact List.mem_map.2 ⟨i, List.mem_range.2 him, rfl⟩)
    refine ⟨fs, some ⟨b, o, s⟩, cap, by rw [hfl], ⟨by rw [hfl]; omega, by rw [hfl]; exact hl⟩, fun f hf => ?_, fun h0 => ?_⟩
    · obtain ⟨j, hj⟩ := List.mem_iff_getElem?.1 hf
      exact (hfs j f hj).2
    · rw [hfl] at h0
      obtain rfl : s = none := by have := hpl h0; injection this
      refine ⟨b, o, rfl, ?_, fun j f hj => (hfs j f hj).1⟩
      obtain ⟨f, hf⟩ : ∃ f, fs[0]? = some f := ⟨_, List.getElem?_eq_getElem (by omega)⟩
      exact block_lt_of_cell (hfs 0 f hf).1.1
end
end Go.Proofs.YtchpkdpefpiegaaDoor.Tok
