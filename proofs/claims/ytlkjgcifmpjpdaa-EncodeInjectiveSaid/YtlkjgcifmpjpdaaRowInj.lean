/- For every table and every two instructions the law EncodeInjective returns true: different instructions have different encodings. No condition on the input beyond the reach that the statement itself says. -/
import Derived.SizedLaws
import Derived.Test.YtlkjgcifmpjpdaaEncV
import Derived.Test.YtlkjgcifmpjpdaaEncP
namespace Go.Proofs.Ytlkjgcifmpjpdaa
open Go.ChangeShapes Go.WideShapes Go.ChangeAt Go.RowKit

set_option maxRecDepth 100000 in
theorem inj_lifted (os : Os) (started : os.Started) (H : Type) (enc : TypeId × Value → H) :
    ReturnsInHanded {} Try.checked os 9 .any (Rows.encodeInjectiveSpec.pre6 enc Try.prog Try.f9 Rows.encodeInjectiveRow.domain false) (Rows.encodeInjectiveSpec.post enc Try.prog Try.f9 false true false false) := by
  refine returnsInHanded_of_change_sized (C := Try.checked) own started (by kernel_rfl) Try.func9
    (ChangeSpec.witness6 (enc := enc) (C := Try.checked) false ⟨#[], #[.slice none 0 0, .agg #[.int .i64 0, .slice none 0 0], .agg #[.int .i64 0, .slice none 0 0]], []⟩ 8 (by kernel_rfl) (by kernel_rfl) (by kernel_rfl) (by kernel_rfl)) ?_
  intro W base args ds gs before hval0 hW _ hsz _
  have hval : ∀ (j : Nat) t v, Try.f9.params[j]? = some t → args[j]? = some v → Value.okWide Try.prog W .any base t v := hval0
  have hW' := hW
  obtain ⟨p, q, hA0, hV, rfl, _, _⟩ := hW
  have hA : DataW.TrodAll enc Try.prog W 0 (fun _ => true) true Try.f9.params.toList args.toList ds p := hA0
  rw [Try.params9] at hA hval
  obtain ⟨v0, v1, v2, d0, d1, d2, p0, p1, p2, rfl, rfl, rfl, h0, h1, h2⟩ := trodAll_three hA
  have hwt : ∀ (j : Nat) (t : TypeId) (d : DataW H), [22, 25, 25][j]? = some t → [d0, d1, d2][j]? = some d → ∀ n ∈ d.weights Try.prog t, n ≤ reachBytes := fun j t d ht hd n hn => by
    obtain ⟨rfl, rfl⟩ := trodVars_none hV
    have hvt : DataSpec.varTypes Try.checked.prog Rows.encodeInjectiveSpec.plain = [] := rfl
    have := List.all_eq_true.1 hsz n (DataW.weights_mem_each (j := j) (t := t) (d := d) (by rw [hvt, Try.params9]; simpa using ht) (by simpa using hd) n hn)
    simpa using this
  obtain ⟨a, av1, xs, rfl, k1⟩ := ins_of (hval 1 25 v1 rfl rfl) h1 (hwt 1 _ _ rfl rfl)
  obtain ⟨b, av2, ys, rfl, k2⟩ := ins_of (hval 2 25 v2 rfl rfl) h2 (hwt 2 _ _ rfl rfl)
  obtain ⟨A, n, c, rfl⟩ := okWide_slice Try.underlying22 (hval 0 22 v0 rfl rfl)
  obtain ⟨fuel, hf⟩ := h0
  obtain ⟨fs, hfs⟩ := forms_of hf (hwt 0 _ _ rfl rfl)
  refine (law_inj W.heap.size _ av1 av2 fs a b xs ys W hfs k1 k2 (Nat.le_refl _)).mono fun e W' ⟨he, hb⟩ => ?_
  subst he
  exact ⟨_, rfl, law_post rfl hW' rfl (by kernel_rfl) (by kernel_rfl) hb⟩

theorem inj_holds : Rows.EncodeInjectiveSaid :=
  OpenClaim.holds_of_wide 9 Try.f9 rfl rfl rfl rfl rfl rfl rfl ⟨rfl, rfl, rfl, rfl, rfl⟩ rfl rfl rfl rfl rfl (by kernel_rfl) Try.func9 (by kernel_rfl)
    (of_decide_eq_true (by kernel_rfl)) (by unfold Func.isWrapper; first | (rw [if_pos (by decide +kernel)]; kernel_rfl) | (rw [if_neg (by decide +kernel)]; exact ⟨rfl, rfl⟩))
    (fun os started H enc _ => inj_lifted os started H enc)
end Go.Proofs.Ytlkjgcifmpjpdaa
