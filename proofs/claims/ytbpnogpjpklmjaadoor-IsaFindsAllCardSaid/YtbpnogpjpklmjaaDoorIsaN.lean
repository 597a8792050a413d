/- Flow and FlowOf. No condition. -/
import Derived.Test.YtbpnogpjpklmjaaDoorIsaM
namespace Go.Proofs.YtbpnogpjpklmjaaDoor
open Go Go.RowKit Go.Shelf

/-- how execution continues behind a form -/
def flowOf (k : Int) : Int :=
  if k = 0 then 7 else if k = 27 ∨ k = 28 ∨ k = 39 then 2 else if 29 ≤ k ∧ k ≤ 36 then 3 else if k = 40 ∨ k = 41 then 4 else if k = 42 then 5 else if k = 37 ∨ k = 38 ∨ k = 4 then 6 else 1

set_option maxHeartbeats 2000000 in
theorem flow_any (k : Int) (hk : 0 ≤ k ∧ k < 59) (w : World) : Calls Tryd.prog 19 #[.int .i64 k] w fun e w' => e = .returned (.tuple #[.int .i64 (flowOf k), faultV (0, 0)]) ∧ Below w.heap.size w w' := by
  go_enter Tryd.func19, Tryd.ntmps19
  go_wp2
  all_goals try
    refine bodyPost_ret (by simp [results, Tryd.results19, go_sem]; rfl) rfl ⟨?_, (Below.refl _ _).alloc (Nat.le_refl _) _⟩
    have hf : ∀ c, flowOf k = c → Ending.returned (.tuple #[.int .i64 c, faultV (0, 0)]) = .returned (.tuple #[.int .i64 (flowOf k), faultV (0, 0)]) := fun c h => by rw [h]
    refine hf _ ?_
    clear hf
    simp only [beq_iff_eq, beq_eq_false_iff_ne, ne_eq] at *
    unfold flowOf
    repeat' split
    all_goals first | rfl | (exfalso; omega)

theorem flow_bad (k : Int) (hk : k < 0 ∨ 59 ≤ k) (w : World) : Calls Tryd.prog 19 #[.int .i64 k] w fun e w' => e = .returned (.tuple #[.int .i64 0, faultV (3, -2)]) ∧ Below w.heap.size w w' := by
  by_cases h0 : k < 0
  all_goals
    go_enter Tryd.func19, Tryd.ntmps19
    go_wp2
    refine bodyPost_ret (v := .tuple #[.int .i64 0, faultV (3, -2)]) (by simp [results, Tryd.results19, go_sem]) rfl ⟨rfl, (Below.refl _ _).alloc (Nat.le_refl _) _⟩

/-- how execution continues, by the name of the form -/
def nameFlow (l : List UInt8) : Int :=
  if l == [104, 97, 108, 116] then 7 else if l == [106, 117, 109, 112] || l == [106, 117, 109, 112, 97] then 2 else if l == [106, 101, 113] || l == [106, 110, 101] || l == [106, 108, 116] || l == [106, 108, 111] then 3 else if l == [99, 97, 108, 108] || l == [99, 97, 108, 108, 114] then 4 else if l == [114, 101, 116] then 5 else if l == [106, 117, 109, 112, 114] || l == [106, 117, 109, 112, 109] || l == [101, 114, 101, 116] then 6 else 1
theorem flow_names : (List.range 59).all (fun k => decide (flowOf (k : Int) = nameFlow (namesTab.getD k ByteArray.empty).toList)) = true := by kernel_rfl
theorem flow_name (k : Nat) (hk : k < 59) : flowOf (k : Int) = nameFlow (namesTab.getD k ByteArray.empty).toList := by
  simpa using List.all_eq_true.1 flow_names k (List.mem_range.2 hk)

set_option maxHeartbeats 2000000 in
theorem flowOf_any (k : Nat) (hk : k < 59) (w : World) : Calls Tryd.prog 20 #[.int .i64 (k : Int)] w fun e w' => e = .returned (.int .i64 (flowOf k)) ∧ Below w.heap.size w w' := by
  go_enter Tryd.func20, Tryd.ntmps20
  go_wp2_with (go_at_call 18; refine (refDefault_any _).mono ?_; rintro e W1 ⟨v, r, rfl, hf, hb1⟩)
  obtain ⟨A, n, c, rfl, hl, ⟨_, hnc⟩, _, hc0⟩ := hf.opens
  have hkn : k < n := by rw [← hl.out, refForms_len]; exact hk
  obtain ⟨b, o, rfl, hb, hc⟩ := hc0 (by omega)
  obtain ⟨f, hf9, hfm⟩ := getElem?_of_lt hl hkn
  have hcn := (hc k f hf9).1
  have hnm : f.name = namesTab.getD k ByteArray.empty := by
    simp only [refForms, List.getElem?_map, List.getElem?_range hk, Option.map_some, Option.some.injEq] at hf9
    rw [← hf9]
  obtain ⟨nm, q, kv, ks⟩ := f
  dsimp only at hcn hnm
  have Hnm := Lib.hid hnm
  clear hc hl hf9 hf hnm hc0 hfm
  go_wp2
  rw [run_indexAt_slice (h := Tryd.underlying22)]
  have hfl : ∀ c, c = nameFlow nm.toList → Ending.returned (.int .i64 c) = .returned (.int .i64 (flowOf k)) := fun c h => by rw [h, flow_name k hk, Hnm.out]
  have Hfl := Lib.hid hfl
  clear hfl
  go_wp2
  all_goals
    refine bodyPost_ret (by simp [results, Tryd.results20, go_sem]; rfl) rfl ⟨Hfl.out _ ?_, hb1⟩
    clear Hfl
    first
    | (simp only [nameFlow, *, Bool.or_true, Bool.true_or, Bool.or_false, if_true, Bool.false_eq_true, if_false]; done)
    | (exfalso; simp_all; done)
end Go.Proofs.YtbpnogpjpklmjaaDoor
