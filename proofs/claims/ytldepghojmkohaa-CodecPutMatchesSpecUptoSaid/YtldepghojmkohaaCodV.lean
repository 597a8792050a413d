/- What the rows of the codec's laws share: what their arguments read as; how they close. -/
import Derived.Test.YtldepghojmkohaaRows
import Derived.ProofKit
import Derived.OpenShut
import Derived.Deep.Slices
import Derived.Deep.Strs
import Derived.SizedLaws
import Derived.Carry
import Derived.Test.YtldepghojmkohaaCodR
namespace Go.Proofs.Ytldepghojmkohaa.Cod
open Go.ChangeShapes Go.WideShapes Go.ChangeAt Go.RowKit Go.Deep Go.Lib

theorem own : ownKnob Try.prog.godebug = none := by kernel_rfl
theorem laidOut : laidOutB Try.prog = true := by kernel_rfl
section
variable {H : Type} {enc : TypeId × Value → H} {W : World} {sp : Nat → Bool} {held : Bool} {fuel : Nat}
theorem addr_plain {w : World} {a : Addr} {v : Value} (h : w.cell? a = some v) : a = ⟨a.block, a.off, none⟩ := by
  obtain ⟨b, o, s⟩ := a
  cases s with
  | none => rfl
  | some x =>
    simp only [World.cell?] at h
    split at h <;> simp at h
theorem add_plain (b o j : Nat) : (⟨b, o, none⟩ : Addr).add j = ⟨b, o + j, none⟩ := by
  unfold Addr.add
  split
  · rename_i h; rw [h]; rfl
  · rfl
set_option maxRecDepth 100000 in
theorem ints_of {v : Value} {d : DataW H} {p : List MemPlace} (h : DataW.trod enc Try.prog W 0 sp held fuel 22 [v] = some (d, p)) (hw : ∀ n ∈ d.weights Try.prog 22, n ≤ reachBytes) : ∃ xs, IntsAt W.heap.size W v xs := by
  rcases open_ints Try.underlying22 Try.underlying3 (by kernel_rfl) h with ⟨hcs, _⟩ | ⟨a, len, cap, zs, hcs, _, hl, hm, hzl, hx, hc, hwf⟩
  · injection hcs with hcs
    subst hcs
    exact ⟨[], none, 0, rfl, by simp, by simp, fun h => absurd h (by simp)⟩
  · injection hcs with hcs
    subst hcs
    have hle : len ≤ zs.length := by rw [hzl]; split <;> omega
    have htk : (zs.take len).length = len := by rw [List.length_take]; omega
    have hb : zs.length * 8 ≤ reachBytes := by
      obtain ⟨hd, _⟩ := Prod.mk.inj hx
      have hby : Try.prog.bytesOf 3 = 8 := by kernel_rfl
      have := hw (zs.length * 8) (by
        rw [hd, DataW.weights]
        simp only [Try.underlying22, hby, lits, List.length_map, List.length_take, List.length_drop, List.mem_cons]
        left
        congr 1
        omega)
      exact this
    have hz : zs.length ≤ 17592186044416 := by unfold reachBytes at hb; omega
    refine ⟨zs.take len, some a, cap, by rw [htk], by omega, fun x hx => ?_, fun h0 => ?_⟩
    · have hk := hwf x (List.mem_of_mem_take hx)
      simp only [Lit.wf, Bool.and_eq_true, decide_eq_true_eq] at hk
      have k1 : IntKind.i64.min = -9223372036854775808 := rfl
      have k2 : IntKind.i64.max = 9223372036854775807 := rfl
      rw [k1, k2] at hk
      exact hk
    rw [htk] at h0
    have hp := addr_plain (hc 0 (by omega))
    have hp0 : (a.add 0) = a := by simp [Addr.add]
    rw [hp0] at hp
    obtain ⟨b, o, s⟩ := a
    obtain rfl : s = none := by injection hp
    refine ⟨b, o, rfl, ?_, fun j hj => ?_⟩
    · have := block_lt_of_cell (hc 0 (by omega))
      rwa [hp0] at this
    · rw [htk] at hj
      have := hc j (by omega)
      rw [add_plain] at this
      rw [this, List.getElem?_take, if_pos hj]
      simp [List.getD_eq_getElem?_getD]
set_option maxRecDepth 100000 in
theorem bytes_of {v : Value} {d : DataW H} {p : List MemPlace} (h : DataW.trod enc Try.prog W 0 sp held fuel 25 [v] = some (d, p)) (hw : ∀ n ∈ d.weights Try.prog 25, n ≤ reachBytes) : ∃ l, BytesAt W.heap.size W v l := by
  rcases open_ints Try.underlying25 Try.underlying5 (by kernel_rfl) h with ⟨hcs, _⟩ | ⟨a, len, cap, zs, hcs, _, hl, hm, hzl, hx, hc, hz⟩
  · injection hcs with hcs
    subst hcs
    exact ⟨[], none, 0, rfl, by simp, fun h => absurd h (by simp)⟩
  · injection hcs with hcs
    subst hcs
    have hle : len ≤ zs.length := by rw [hzl]; split <;> omega
    have htk : ((zs.take len).map fun z => UInt8.ofNat z.toNat).length = len := by rw [List.length_map, List.length_take]; omega
    have hb : zs.length * 1 ≤ reachBytes := by
      obtain ⟨hd, _⟩ := Prod.mk.inj hx
      have hby : Try.prog.bytesOf 5 = 1 := by kernel_rfl
      have := hw (zs.length * 1) (by
        rw [hd, DataW.weights]
        simp only [Try.underlying25, hby, lits, List.length_map, List.length_take, List.length_drop, List.mem_cons]
        left
        congr 1
        omega)
      exact this
    have hz' : zs.length ≤ 140737488351232 := by unfold reachBytes at hb; omega
    refine ⟨(zs.take len).map fun z => UInt8.ofNat z.toNat, some a, cap, by rw [htk], by rw [htk]; exact ⟨by omega, hl⟩, fun h0 => ?_⟩
    rw [htk] at h0
    have hp := addr_plain (hc 0 (by omega))
    have hp0 : (a.add 0) = a := by simp [Addr.add]
    rw [hp0] at hp
    obtain ⟨b, o, s⟩ := a
    obtain rfl : s = none := by injection hp
    refine ⟨b, o, rfl, ?_, fun j hj => ?_⟩
    · have := block_lt_of_cell (hc 0 (by omega))
      rwa [hp0] at this
    · rw [htk] at hj
      have hj' : j < zs.length := by omega
      have := hc j hj'
      rw [add_plain] at this
      rw [this, List.getElem?_map, List.getElem?_take, if_pos hj]
      have hk := hz (zs[j]) (List.getElem_mem _)
      simp only [Lit.wf, Bool.and_eq_true, decide_eq_true_eq] at hk
      have k1 : IntKind.u8.min = 0 := rfl
      have k2 : IntKind.u8.max = 255 := rfl
      rw [k1, k2] at hk
      have e1 : (UInt8.ofNat (zs[j]).toNat).toNat = (zs[j]).toNat := byte_nat (by omega)
      simp only [List.getElem?_eq_getElem hj', Option.map_some, Option.getD_some, List.getD_eq_getElem?_getD, e1]
      congr 2
      omega
theorem bulk_strs {H : Type} : ∀ {L : List (List UInt8)}, (∀ s ∈ L, Short s) → (flatT L).length ≤ 11 * Rows.uptoBulkAll (L.map fun s => (DataW.lit (.string s) : DataW H)) ∧ L.length ≤ Rows.uptoBulkAll (L.map fun s => (DataW.lit (.string s) : DataW H)) ∧ ∀ s ∈ L, s.length ≤ Rows.uptoBulkAll (L.map fun s => (DataW.lit (.string s) : DataW H))
  | [], _ => ⟨by simp [flatT], by simp, by simp⟩
  | x :: L, h => by
    obtain ⟨h1, h2, h3⟩ := bulk_strs (H := H) (L := L) (fun s hs => h s (by simp [hs]))
    have hx : Short x := h x (by simp)
    have h10 : (numL (x.length : Int)).length ≤ 10 := numL_ten ⟨by omega, by unfold Short at hx; omega⟩
    have e : Rows.uptoBulkAll ((x :: L).map fun s => (DataW.lit (.string s) : DataW H)) = x.length + 1 + Rows.uptoBulkAll (L.map fun s => (DataW.lit (.string s) : DataW H)) := by
      rw [List.map_cons, Rows.uptoBulkAll, Rows.uptoBulk]
    rw [e]
    refine ⟨?_, ?_, fun s hs => ?_⟩
    · rw [flatT_cons, List.length_append]
      unfold textL
      rw [List.length_append]
      omega
    · rw [List.length_cons]
      omega
    · rcases List.mem_cons.1 hs with rfl | hs
      · omega
      · have := h3 s hs
        omega
set_option maxRecDepth 100000 in
theorem strs_of {v : Value} {d : DataW H} {p : List MemPlace} (h : DataW.trod enc Try.prog W 0 sp held fuel 23 [v] = some (d, p)) (hk : Rows.uptoBulk d ≤ 1048576) : ∃ ss, StrsAt W.heap.size W v ss ∧ (flatT ss).length ≤ 20000000 := by
  rcases open_strs Try.underlying23 Try.underlying9 (by kernel_rfl) h with ⟨hcs, _⟩ | ⟨a, len, cap, m, Sx, hcs, _, hl, hm, hmm, hx, hc⟩
  · injection hcs with hcs
    subst hcs
    exact ⟨[], ⟨none, 0, rfl, by simp, by simp, fun h => absurd h (by simp)⟩, by simp [flatT]⟩
  · injection hcs with hcs
    subst hcs
    have hlm : len ≤ m := by rw [hmm]; split <;> omega
    obtain ⟨hd, -⟩ := Prod.mk.inj hx
    obtain ⟨L, hL⟩ : ∃ L : List (List UInt8), L = (List.range len).map fun i => (Sx i).data.toList := ⟨_, rfl⟩
    have hS : ∀ s ∈ L, Short s := by
      intro s hs
      rw [hL] at hs
      obtain ⟨i, hi, rfl⟩ := List.mem_map.1 hs
      have := (hc i (by have := List.mem_range.1 hi; omega)).2
      unfold maxLen at this
      unfold Short
      simpa using this
    have hd2 : d = .slice (L.map fun s => (DataW.lit (.string s) : DataW H)) ((List.range (m - len)).map fun j => .lit (.string (Sx (len + j)).data.toList)) := by
      rw [hd, hL, List.map_map]
      rfl
    rw [hd2, Rows.uptoBulk] at hk
    obtain ⟨b1, b2, b3⟩ := bulk_strs (H := H) hS
    have hLl : L.length = len := by rw [hL]; simp
    refine ⟨L, ⟨some a, cap, by rw [hLl], by omega, fun s hs => by have := b3 s hs; omega, fun h0 => ?_⟩, by omega⟩
    rw [hLl] at h0
    have hp := addr_plain (hc 0 (by omega)).1
    have hp0 : (a.add 0) = a := by simp [Addr.add]
    rw [hp0] at hp
    obtain ⟨b, o, s⟩ := a
    obtain rfl : s = none := by injection hp
    refine ⟨b, o, rfl, ?_, fun j hj => ?_⟩
    · have := block_lt_of_cell (hc 0 (by omega)).1
      rwa [hp0] at this
    · rw [hLl] at hj
      have := (hc j (by omega)).1
      rw [add_plain] at this
      rw [this, hL, List.getElem?_map, List.getElem?_range hj]
      simp [strV]
end
theorem trodAll_stays {H : Type} {enc : TypeId × Value → H} {P : Program} {W W' : World} {sp : Nat → Bool} (hl : laidOutB P = true) (hb : Below W.heap.size W W') :
    ∀ {ts : List TypeId} {vs : List Value} {ds : List (DataW H)} {ps : List MemPlace}, (ts.all fun t => P.readableRec t && decide (t < P.types.size)) = true → DataW.TrodAll enc P W 0 (fun _ => true) true ts vs ds ps →
      (∀ p ∈ ps, p.block < W.heap.size) → (∀ p ∈ ps, sp p.block = true) → DataW.TrodAll enc P W' 0 sp true ts vs ds ps
  | [], [], [], _, _, h, _, _ => h
  | t :: ts, v :: vs, d :: ds, ps, ht, h, hlt, hs => by
    obtain ⟨p, q, h1, h2, rfl⟩ := h
    simp only [List.all_cons, Bool.and_eq_true, decide_eq_true_eq] at ht
    exact ⟨p, q, WideElems.Trod_stays hl ht.1.1 ht.1.2 h1 (fun x hx => hb.same (hlt x (List.mem_append.2 (.inl hx)))) (fun x hx => hs x (List.mem_append.2 (.inl hx))),
      trodAll_stays hl hb ht.2 h2 (fun x hx => hlt x (List.mem_append.2 (.inr hx))) (fun x hx => hs x (List.mem_append.2 (.inr hx))), rfl⟩
/-- a law that answers true and touches nothing that was there -/
theorem law_post {H : Type} {enc : TypeId × Value → H} {f : Func} {s : ChangeSpec} {W W' : World} {args : Array Value} {ds gs : List (DataW H)} {before : List MemPlace} (hv : s.vars = [])
    (hW : DataW.Whole enc Try.prog f.params.toList s.vars false W args.toList ds gs before) (hf : s.fn H ds = { results := [.lit (.bool true)], args := ds }) (hr : f.resultTypes = #[4])
    (ht : (f.params.toList.all fun t => Try.prog.readableRec t && decide (t < Try.prog.types.size)) = true) (hb : Below W.heap.size W W') : s.post enc Try.prog f false true false false W args (.bool true) W' := by
  have hlt := hW.lt
  have hW' := hW
  obtain ⟨p, q, hA, hV, rfl, _, _⟩ := hW
  rw [hv] at hV
  obtain ⟨rfl, rfl⟩ := trodVars_none hV
  refine ⟨ds, [], _, [], p, [], hW', ?_, ?_, ?_, hb.frame _, fun h => by cases h⟩
  · rw [List.append_nil, hf, hr]
    exact trodAll_mk1 (shut_bool Try.underlying4 true)
  · rw [List.append_nil, hf]
    exact trodAll_stays laidOut hb ht hA (fun x hx => hlt x (by simpa using hx)) (fun x hx => by simpa using hlt x (by simpa using hx))
  · rw [List.append_nil, hf, hv]
    rfl
end Go.Proofs.Ytldepghojmkohaa.Cod
