/- The reference's encodings: NumberCode, NumbersCode, TextCode, TextsCode. Conditions: what is made stays within the reach. -/
import Derived.Test.YtldepghojmkohaaCodF
namespace Go.Proofs.Ytldepghojmkohaa.Cod
open Go Go.RowKit Go.Lib

theorem bv_more' (k : Nat) : bv [UInt8.ofNat (k % 128 + 128)] = [.int .u8 ((k : Int) % 128 + 128)] := by
  show [Value.int .u8 ((UInt8.ofNat (k % 128 + 128)).toNat : Int)] = _
  rw [byte_nat (by omega)]
  rfl
/-- what stands behind an append to a row of one's own -/
theorem row_step {B : Nat} {w wr wa w1 : World} {v v' : Value} {l ys : List UInt8} {m : Nat} (hown : wr.ownsRow B 5 1 v l.length (bv l)) (hb : Below B w wr) (ha : Below wr.heap.size wr wa) (hg : wa.grownBy w1 v.ownBlock) (hown' : w1.ownsRow B 5 1 v' (l.length + m) (bv l ++ bv ys)) (hB : B ≤ wr.heap.size) :
    w1.ownsRow B 5 1 v' (l.length + m) (bv (l ++ ys)) ∧ Below B w w1 := by
  rw [← bv_app] at hown'
  exact ⟨hown', hb.trans ((ha.mono hB).grown hg (Nat.le_trans hB ha.size) (fun k e => (hown.lt k e).1))⟩
set_option maxRecDepth 100000 in
set_option maxHeartbeats 1000000 in
theorem numberCode_any (n : Int) (w : World) (hn : I64 n) :
    Calls Try.prog 25 #[.int .i64 n] w fun e w' => ∃ v', e = .returned v' ∧ w'.ownsRow w.heap.size 5 1 v' (numL n).length (bv (numL n)) ∧ Below w.heap.size w w' := by
  obtain ⟨i0, hi, hz0, hz1, hz2⟩ := info_parts infoByte
  have h10 := groups_ten (zz_lt hn)
  have hzl := zz_lt hn
  have hz : (zz n : Int) = if 0 ≤ n then 2 * n else 2 * (-(n + 1)) + 1 := by unfold zz; split <;> split <;> omega
  unfold numL
  obtain ⟨u0, hu0⟩ : ∃ u0, u0 = zz n := ⟨_, rfl⟩
  rw [← hu0] at hzl h10 hz ⊢
  have H10 := Lib.hid h10
  obtain ⟨h1, h2⟩ := hn
  clear h10 hu0
  by_cases hneg : 0 ≤ n
  all_goals
    first | rw [if_pos hneg] at hz | rw [if_neg hneg] at hz
    have HZ := Lib.hid hz
    clear hz
    go_enter Try.func25, Try.ntmps25
    go_wp2_with fail
    rw [← HZ.out]
    go_loopw [3, 4] (fun u ov wr => ∃ (k : Nat) (p : List UInt8), u = .int .u64 (k : Int) ∧ k ≤ u0 ∧ Hid (groups u0 = p ++ groups k) ∧ Hid (wr.ownsRow w.heap.size 5 1 ov p.length (bv p) ∧ Below w.heap.size w wr)) (fun u _ _ => (intOf u).toNat)
    case atStart => exact ⟨u0, [], rfl, Nat.le_refl _, Lib.hid rfl, Lib.hid ⟨World.ownsRow_nil _ _ _ _, Below.refl _ _⟩⟩
    case round =>
      obtain ⟨k, p, rfl, hk, HG, HR⟩ := hrel
      have hlp : p.length + 1 ≤ 11 := by
        have h1 := congrArg List.length HG.out
        have h2 := H10.out
        rw [List.length_append] at h1
        omega
      have HLP := Lib.hid hlp
      clear hlp
      by_cases hlt : k < 128
      · go_wp2_with (at_builtin; (refine wpList_append_own _ rfl (.tmp 27) (.tmp 30) 25 rfl w.heap.size 5 i0 _ 1 1 Try.underlying25 hi hz0 hz1 hz2 (by rfl) (by decide) u4 p.length _ rfl (HR.out.1.alloc _) ⟨wr.heap.size, 0, none⟩ 1 1 _ rfl rfl (lit_cells _ _ _) (by simp [Value.oneCell']) (by have := HLP.out; unfold maxLen; omega) (by have := HLP.out; omega) (by have := HR.out.2.size; simp; omega) ?_); intro v' w1 hown1 hgrow hnil; clear hnil; have HQ := Lib.hid (row_step (ys := [UInt8.ofNat k]) HR.out.1 HR.out.2 (lit_below _ _) hgrow (by rw [bv_last hlt]; exact hown1) HR.out.2.size); obtain ⟨A1, c1, rfl⟩ := row_is hown1; clear hown1 hgrow)
        go_ret
        rw [HG.out, groups_lt hlt, List.length_append]
        exact ⟨_, rfl, HQ.out⟩
      · go_wp2_with (at_builtin; (refine wpList_append_own _ rfl (.tmp 18) (.tmp 23) 25 rfl w.heap.size 5 i0 _ 1 1 Try.underlying25 hi hz0 hz1 hz2 (by rfl) (by decide) u4 p.length _ rfl (HR.out.1.alloc _) ⟨wr.heap.size, 0, none⟩ 1 1 _ rfl rfl (lit_cells _ _ _) (by simp [Value.oneCell']) (by have := HLP.out; unfold maxLen; omega) (by have := HLP.out; omega) (by have := HR.out.2.size; simp; omega) ?_); intro v' w1 hown1 hgrow hnil; clear hnil; have HQ := Lib.hid (row_step (ys := [UInt8.ofNat (k % 128 + 128)]) HR.out.1 HR.out.2 (lit_below _ _) hgrow (by rw [bv_more']; exact hown1) HR.out.2.size); obtain ⟨A1, c1, rfl⟩ := row_is hown1; clear hown1 hgrow)
        go_roundw
        case rel => exact ⟨k / 128, p ++ [UInt8.ofNat (k % 128 + 128)], by go_num, by omega, Lib.hid (by rw [HG.out, groups_ge hlt]; simp), by rw [List.length_append]; exact HQ⟩
        case measure => simp [intOf]; omega
end Go.Proofs.Ytldepghojmkohaa.Cod
