/- For every table and instruction the law DisasmTextMatchesSpec returns true: disasm.Text returns the specified text of an encodable instruction and the specified fault for any other, and disasm.Read reads that text back. Conditions: none on the input; the listed variables of the library read as their text lays them (tied to the text by the card). -/
import Derived.Test.YtcngpciblbdgbaaGreatDoorCards
import Derived.Test.YtcngpciblbdgbaaGreatDoorTie
import Derived.SevenTiedAt
import Derived.Test.YtcngpciblbdgbaaGreatDoorDisZ
import Derived.Test.YtcngpciblbdgbaaGreatDoorEncV
import Derived.Test.YtcngpciblbdgbaaGreatDoorDisTLM
/-! For every table and instruction the law DisasmTextMatchesSpec returns true: disasm.Text returns the specified text of an encodable instruction and the specified fault for any other, and disasm.Read reads that text back. Conditions: none on the input; the listed variables of the library read as their text lays them (tied to the text by the card). -/
namespace Go.Proofs.YtcngpciblbdgbaaGreatDoor
open Go.ChangeShapes Go.WideShapes Go.ChangeAt Go.RowKit

theorem law_text (B : Nat) (v av : Value) (fs : List Frm) (form : Int) (xs : List Int) (w : World) (h : FormsAt B w v fs) (ha : KindsAt B w av xs) (hB : B ≤ w.heap.size) (hV : VarsAt B w) :
    Calls Tryz.prog 4 #[v, .agg #[.int .i64 form, av]] w fun e w' => e = .returned (.bool true) ∧ Below w.heap.size w w' := by
  rcases enc_cases fs form xs with ⟨p, i, hp, hef, E⟩ | ⟨k, f, rfl, o, -⟩
  · exact textlaw_bad B v av fs form xs p i w h ha hB hV hp hef E
  · exact textlaw_ok B v av fs k f xs w h ha hB hV o

set_option maxRecDepth 100000 in
theorem text_lifted (os : Os) (started : os.Started) (H : Type) (enc : TypeId × Value → H) :
    ReturnsInHanded {} Tryz.checked os 4 .any (fun w args => (Rows.disasmTextMatchesSpecSpec.pre enc Tryz.prog Tryz.f4 Rows.disasmTextMatchesSpecRow.domain false w args ∧ laidMetH Tryz.prog laid7 w) ∧ sizedMet enc Tryz.prog Tryz.f4 (OpenSpec.ofChange Rows.disasmTextMatchesSpecSpec) false w args)
      (Rows.disasmTextMatchesSpecSpec.post enc Tryz.prog Tryz.f4 false true false false) := by
  refine handed_and_shaped (C := Tryz.checked) (X := fun w _ => laidMetH Tryz.prog laid7 w) (fun _ _ _ hh h => h.of_heap hh) own started (by kernel_rfl) Tryz.func4
    (ChangeSpec.witness_shaped (enc := enc) (C := Tryz.checked) (os := os) (X := fun w _ => laidMetH Tryz.prog laid7 w) false (World.laidAll Tryz.prog os laid7) #[.slice none 0 0, .agg #[.int .i64 0, .slice none 0 0]] 8 (World.laidAll_os _ _ _)
      (World.shaped_of_ZipB (by kernel_rfl) (by kernel_rfl)) (by kernel_rfl) (by kernel_rfl) (by kernel_rfl)
      (by rw [MakeChecks.laidMetH_plain _ _ _ (by kernel_rfl)]; exact laidMet_laidAll _ (by kernel_rfl) (by kernel_rfl))) ?_
  intro W base args ds gs before hval0 hW hsz hL hsh
  have hval : ∀ (j : Nat) t v, Tryz.f4.params[j]? = some t → args[j]? = some v → Value.okWide Tryz.prog W .any base t v := hval0
  have hW' := hW
  obtain ⟨p, q, hA0, hV, rfl, _, _⟩ := hW
  have hA : DataW.TrodAll enc Tryz.prog W 0 (fun _ => true) true Tryz.f4.params.toList args.toList ds p := hA0
  rw [Tryz.params4] at hA hval
  obtain ⟨v0, v1, d0, d1, p0, p1, rfl, rfl, rfl, h0, h1⟩ := trodAll_two hA
  obtain ⟨A, n, c, rfl⟩ := okWide_slice Tryz.underlying22 (hval 0 22 v0 rfl rfl)
  obtain ⟨fuel, hf⟩ := h0
  obtain ⟨fs, hfs⟩ := forms_of hf (fun n hn => by
    have := List.all_eq_true.1 hsz n (DataW.weights_mem_each (j := 0) (t := 22) (by rw [Tryz.params4]; rfl) rfl n hn)
    simpa using this)
  obtain ⟨z1, a1, xs1, rfl, k1⟩ := ins_of (hval 1 34 v1 rfl rfl) h1 (fun n hn => by
    have := List.all_eq_true.1 hsz n (DataW.weights_mem_each (j := 1) (t := 34) (by rw [Tryz.params4]; rfl) rfl n hn)
    simpa using this)
  refine (law_text W.heap.size _ a1 fs z1 xs1 W hfs k1 (Nat.le_refl _) (vars_of_laid hL hsh)).mono fun e W' ⟨he, hb⟩ => ?_
  subst he
  exact ⟨_, rfl, law_post rfl hW' rfl (by kernel_rfl) (by kernel_rfl) hb⟩

theorem text_holds : Rows.DisasmTextMatchesSpecSaid :=
  OpenClaim.holds_of_wide 4 Tryz.f4 rfl rfl rfl rfl rfl rfl rfl ⟨rfl, rfl, rfl, rfl, rfl⟩ rfl rfl rfl rfl rfl (by kernel_rfl) Tryz.func4 (by kernel_rfl)
    (of_decide_eq_true (by kernel_rfl)) (by unfold Func.isWrapper; first | (rw [if_pos (by decide +kernel)]; kernel_rfl) | (rw [if_neg (by decide +kernel)]; exact ⟨rfl, rfl⟩))
    (fun os started H enc _ => text_lifted os started H enc)
theorem text_card : Rows.DisasmTextMatchesSpecCardSaid :=
  Claim7.holds_tied_plain_at .later [] [.data, .data, .data, .data, .sentinel, .sentinel, .pinned] true (true, "d80c784acab456705d6b1eaa2e8505d0de0b49f5cefa445fc4be3de32e7efd9b") true text_holds (fun _ h => by cases h) (by kernel_rfl) (fun _ h => by cases h) disasmTextMatchesSpec_row_tie rfl ⟨rfl, rfl⟩ (by kernel_rfl) rfl
    (fun f fn hf hfn => by
      obtain rfl : f = 4 := Option.some.inj ((show Tryz.prog.funcNamed "linkhouse/linkhouselaw1.DisasmTextMatchesSpec" = some 4 by kernel_rfl).symm.trans hf) |>.symm
      obtain rfl : fn = Tryz.f4 := (Option.some.inj (Tryz.func4.symm.trans hfn)).symm
      exact ⟨by kernel_rfl, fun j t ht => by
        rw [Tryz.params4] at ht
        have hm : t ∈ [22, 34] := by simpa using Array.mem_of_getElem? ht
        have hall : ([22, 34].all fun u => !Tryz.prog.wantsStandIn u) = true := by kernel_rfl
        exact (show Tryz.prog.wantsStandIn t = false by simpa using List.all_eq_true.1 hall t hm)⟩)
    (by kernel_rfl)
end Go.Proofs.YtcngpciblbdgbaaGreatDoor
