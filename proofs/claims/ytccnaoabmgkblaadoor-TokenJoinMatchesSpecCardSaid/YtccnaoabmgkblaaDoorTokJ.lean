/- Contracts of the reference's TokenOf and Tokens. Conditions: none but that a string is not longer than a string may be. -/
import Derived.Test.YtccnaoabmgkblaaDoorTokI
import Derived.Test.YtccnaoabmgkblaaDoorTokE
namespace Go.Proofs.YtccnaoabmgkblaaDoor.Tok
open Go Go.RowKit

/-- what TokenOf answers -/
def TofPost (l : List UInt8) (w : World) (e : Ending) (w' : World) : Prop :=
  ((∃ t, tokOf l = some t ∧ e = .returned (.tuple #[t.v, .bool true])) ∨ (tokOf l = none ∧ e = .returned (.tuple #[zeroTk.v, .bool false]))) ∧ Below w.heap.size w w'
theorem tof_sign {l : List UInt8} (h : isSign l = true) : tokOf l = some ⟨3, l, 0, 0⟩ := by unfold tokOf; rw [if_pos h]
theorem tof_num {l : List UInt8} {v : Nat} (h : isSign l = false) (hn : num l = some v) : tokOf l = some ⟨2, [], v, 0⟩ := by unfold tokOf; rw [if_neg (by simp [h]), hn]
theorem tof_name {l : List UInt8} (h : isSign l = false) (hn : num l = none) (hm : isName l = true) : tokOf l = some ⟨1, l, 0, 0⟩ := by unfold tokOf; rw [if_neg (by simp [h]), hn]; simp only; rw [if_pos hm]
theorem tof_no {l : List UInt8} (h : isSign l = false) (hn : num l = none) (hm : isName l = false) : tokOf l = none := by unfold tokOf; rw [if_neg (by simp [h]), hn]; simp only; rw [if_neg (by simp [hm])]
set_option maxHeartbeats 2000000 in
theorem tokenOf_any (l : List UInt8) (w : World) (hl : l.length ≤ 9223372036854775806) : Calls Tryd.prog 20 #[strV l] w (TofPost l w) := by
  have C1 := Lib.hid (rsign_any l (tokW w))
  have C2 := Lib.hid (fun w => den_any ⟨l.toArray⟩ w hl)
  have C3 := Lib.hid (show ∀ w, Calls Tryd.prog 38 #[strV l] w (fun e w' => e = .returned (.bool (isName l)) ∧ w = w') from fun w => rname_any ⟨l.toArray⟩ w hl)
  cases h1 : isSign l with
  | true =>
    have HF := Lib.hid (tof_sign h1)
    rw [h1] at C1
    clear h1
    go_enter Tryd.func20, Tryd.ntmps20
    go_wp2_with fail
    refine C1.out.mono ?_
    rintro e W ⟨rfl, hb⟩
    obtain ⟨c0, c1, c2, c3, f0, f1, f2, f3, hlt⟩ := tok_cells hb
    have HB := Lib.hid hb
    clear hb C1 C2 C3
    go_wp2_with fail
    refine bodyPost_ret (v := .tuple #[.agg #[.int .i64 3, strV l, .int .i64 0, .int .i64 0], .bool true]) (by simp [results, Tryd.results20, go_sem, c0, c1, c2, c3]) rfl ?_
    exact ⟨.inl ⟨_, HF.out, rfl⟩, tok_end HB.out _ _ _ _⟩
  | false =>
    have H1 := Lib.hid h1
    rw [h1] at C1
    clear h1
    go_enter Tryd.func20, Tryd.ntmps20
    go_wp2_with fail
    refine C1.out.mono ?_
    rintro e W ⟨rfl, hb⟩
    have HB := Lib.hid hb
    clear hb C1
    go_wp2_with fail
    refine (C2.out _).mono ?_
    rintro e W2 ⟨⟨v, hn, rfl⟩ | ⟨hn, x, rfl⟩, q, rfl⟩
    · have HF := Lib.hid (tof_num H1.out hn)
      have HB2 := Lib.hid (below_drewN HB.out q)
      obtain ⟨c0, c1, c2, c3, f0, f1, f2, f3, hlt⟩ := tok_cells HB2.out
      clear hn C2 C3
      go_wp2_with fail
      refine bodyPost_ret (v := .tuple #[.agg #[.int .i64 2, strV [], .int .i64 (v : Int), .int .i64 0], .bool true]) (by simp [results, Tryd.results20, go_sem, c0, c1, c2, c3]) rfl ?_
      exact ⟨.inl ⟨_, HF.out, rfl⟩, tok_end HB2.out _ _ _ _⟩
    · have HN := Lib.hid hn
      have HB2 := Lib.hid (below_drewN HB.out q)
      obtain ⟨c0, c1, c2, c3, f0, f1, f2, f3, hlt⟩ := tok_cells HB2.out
      clear hn C2
      cases hm : isName l with
      | true =>
        have HF := Lib.hid (tof_name H1.out HN.out hm)
        rw [hm] at C3
        clear hm
        go_wp2_with fail
        refine (C3.out _).mono ?_
        rintro e w' ⟨rfl, rfl⟩
        go_wp2_with fail
        refine bodyPost_ret (v := .tuple #[.agg #[.int .i64 1, strV l, .int .i64 0, .int .i64 0], .bool true]) (by simp [results, Tryd.results20, go_sem, c0, c1, c2, c3]) rfl ?_
        exact ⟨.inl ⟨_, HF.out, rfl⟩, tok_end HB2.out _ _ _ _⟩
      | false =>
        have HF := Lib.hid (tof_no H1.out HN.out hm)
        rw [hm] at C3
        clear hm
        go_wp2_with fail
        refine (C3.out _).mono ?_
        rintro e w' ⟨rfl, rfl⟩
        go_wp2_with fail
        refine bodyPost_ret (v := .tuple #[.agg #[.int .i64 0, strV [], .int .i64 0, .int .i64 0], .bool false]) (by simp [results, Tryd.results20, go_sem, c0, c1, c2, c3]) rfl ?_
        exact ⟨.inr ⟨HF.out, rfl⟩, tok_end HB2.out _ _ _ _⟩
end Go.Proofs.YtccnaoabmgkblaaDoor.Tok
