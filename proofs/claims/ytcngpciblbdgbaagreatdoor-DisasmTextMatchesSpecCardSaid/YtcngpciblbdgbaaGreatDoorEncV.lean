/- What a list of bytes and an instruction that are handed in read as. -/
import Derived.Test.YtcngpciblbdgbaaGreatDoorIsaV
import Derived.Test.YtcngpciblbdgbaaGreatDoorEncF
import Derived.Carry
namespace Go.Proofs.YtcngpciblbdgbaaGreatDoor
open Go.ChangeShapes Go.WideShapes Go.ChangeAt Go.RowKit Go.Deep Go.Lib
section
variable {H : Type} {enc : TypeId × Value → H} {W : World} {sp : Nat → Bool} {held : Bool} {fuel : Nat}
set_option maxRecDepth 100000 in
theorem bytes_of {v : Value} {d : DataW H} {p : List MemPlace} (h : DataW.trod enc Tryz.prog W 0 sp held fuel 23 [v] = some (d, p)) (hw : ∀ n ∈ d.weights Tryz.prog 23, n ≤ reachBytes) : ∃ l, BytesAt W.heap.size W v l := by
  rcases open_ints Tryz.underlying23 Tryz.underlying5 (by kernel_rfl) h with ⟨hcs, _⟩ | ⟨a, len, cap, zs, hcs, _, hl, hm, hzl, hx, hc, hz⟩
  · injection hcs with hcs
    subst hcs
    exact ⟨[], none, 0, rfl, by simp, fun h => absurd h (by simp)⟩
  · injection hcs with hcs
    subst hcs
    have hle : len ≤ zs.length := by rw [hzl]; split <;> omega
    have htk : ((zs.take len).map fun z => UInt8.ofNat z.toNat).length = len := by rw [List.length_map, List.length_take]; omega
    have hb : zs.length * 1 ≤ reachBytes := by
      obtain ⟨hd, _⟩ := Prod.mk.inj hx
      have hby : Tryz.prog.bytesOf 5 = 1 := by kernel_rfl
      have := hw (zs.length * 1) (by
        rw [hd, DataW.weights]
        simp only [Tryz.underlying23, hby, lits, List.length_map, List.length_take, List.length_drop, List.mem_cons]
        left
        congr 1
        omega)
      exact this
    have hz' : zs.length ≤ 140737488351232 := by unfold reachBytes at hb; omega
    refine ⟨(zs.take len).map fun z => UInt8.ofNat z.toNat, some a, cap, by rw [htk], by rw [htk]; exact ⟨by omega, hl⟩, fun h0 => ?_⟩
    rw [htk] at h0
    have hp := addr_plain (hc 0 (by omega))
    have hp0 : (a.add 0) = a := by simp [Addr.add]
    rw [hp0] at hp
    obtain ⟨b, o, s⟩ := a
    obtain rfl : s = none := by injection hp
    refine ⟨b, o, rfl, ?_, fun j hj => ?_⟩
    · have := block_lt_of_cell (hc 0 (by omega))
      rwa [hp0] at this
    · rw [htk] at hj
      have hj' : j < zs.length := by omega
      have := hc j hj'
      rw [add_plain] at this
      rw [this, List.getElem?_map, List.getElem?_take, if_pos hj]
      have hk := hz (zs[j]) (List.getElem_mem _)
      simp only [Lit.wf, Bool.and_eq_true, decide_eq_true_eq] at hk
      have k1 : IntKind.u8.min = 0 := rfl
      have k2 : IntKind.u8.max = 255 := rfl
      rw [k1, k2] at hk
      have e1 : (UInt8.ofNat (zs[j]).toNat).toNat = (zs[j]).toNat := ofNat_toNat _ (by omega)
      simp only [List.getElem?_eq_getElem hj', Option.map_some, Option.getD_some, List.getD_eq_getElem?_getD, e1]
      congr 2
      omega
set_option maxRecDepth 100000 in
theorem ins_of {base : Nat} {v : Value} {d : DataW H} {p : List MemPlace} (hval : Value.okWide Tryz.prog W .any base 34 v) (h : DataW.Trod enc Tryz.prog W 0 sp held 34 v d p) (hw : ∀ n ∈ d.weights Tryz.prog 34, n ≤ reachBytes) :
    ∃ (form : Int) (av : Value) (xs : List Int), v = .agg #[.int .i64 form, av] ∧ KindsAt W.heap.size W av xs := by
  obtain ⟨cs, rfl, hsz⟩ := okWide_struct Tryz.underlying34 hval
  obtain ⟨fuel, h⟩ := h
  have z2 : Tryz.prog.cellsOf 34 = 2 := by kernel_rfl
  rw [z2] at hsz
  obtain ⟨c0, c1, rfl⟩ : ∃ c0 c1, cs = #[c0, c1] := by
    obtain ⟨l⟩ := cs
    match l, hsz with
    | [c0, c1], _ => exact ⟨c0, c1, rfl⟩
  replace h : DataW.trod enc Tryz.prog W 0 sp held fuel 34 [c0, c1] = some (d, p) := h
  obtain ⟨xs, n', _, hx, _, hlen, hf⟩ := DataW.trod_struct Tryz.underlying34 h
  have z3 : Tryz.prog.cellsOf 3 = 1 := by kernel_rfl
  have z32 : Tryz.prog.cellsOf 32 = 1 := by kernel_rfl
  have h0 : DataW.trod enc Tryz.prog W 0 sp held n' 3 (([c0, c1].drop 0).take (Tryz.prog.cellsOf 3)) = xs[0]? := hf 0 _ rfl
  have h1 : DataW.trod enc Tryz.prog W 0 sp held n' 32 (([c0, c1].drop 1).take (Tryz.prog.cellsOf 32)) = xs[1]? := hf 1 _ rfl
  rw [z3] at h0
  rw [z32] at h1
  match xs, hlen with
  | [x0, x1], _ =>
    obtain ⟨d0, p0⟩ := x0
    obtain ⟨d1, p1⟩ := x1
    replace h0 : DataW.trod enc Tryz.prog W 0 sp held n' 3 [c0] = some (d0, p0) := h0
    replace h1 : DataW.trod enc Tryz.prog W 0 sp held n' 32 [c1] = some (d1, p1) := h1
    obtain ⟨hd, _⟩ := Prod.mk.inj hx
    obtain ⟨z, e1, _⟩ := DataW.trod_int Tryz.underlying3 h0
    obtain ⟨ks, hk⟩ := kinds_of h1 (fun n hn => by
      refine hw n ?_
      rw [hd, DataW.weights]
      simp only [Tryz.underlying34]
      exact DataW.weights_mem_each (ts := [3, 32]) (ds := [d0, d1]) (j := 1) rfl rfl n hn)
    injection e1 with e1
    subst e1
    exact ⟨z, c1, ks, rfl, hk⟩
end
end Go.Proofs.YtcngpciblbdgbaaGreatDoor
