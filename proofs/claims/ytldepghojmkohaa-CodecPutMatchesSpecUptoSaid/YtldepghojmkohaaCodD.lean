/- Lists of numbers written, and their encoding. Conditions: what is written stays within the reach. -/
import Derived.Test.YtldepghojmkohaaCodC
namespace Go.Proofs.Ytldepghojmkohaa.Cod
open Go Go.RowKit Go.Lib

set_option maxRecDepth 100000 in
set_option maxHeartbeats 1000000 in
theorem putListI_any (B X B0 : Nat) (v : Value) (xs : List Int) (w : World) (hX : X < B) (hB : B ≤ w.heap.size) (h : WrAt B X w []) (hv : IntsAt B0 w v xs) (h0 : B0 ≤ X) (hn : xs.length ≤ 100000) :
    Calls Try.prog 32 #[.pointer (some ⟨X, 0, none⟩), .func (.func 22) #[.pointer (some ⟨X, 0, none⟩)] #[], v] w fun e w' => e = .returned (.tuple #[]) ∧ WrAt B X w' (numsL xs) ∧ But B X w w' := by
  obtain ⟨A, n, c, rfl, Hn, hn0, Hr, Hc⟩ := hv.opens
  have hn' : n ≤ 100000 := by rw [← Hn.out]; exact hn
  have hn64 : I64 (n : Int) := ⟨by omega, by omega⟩
  have C := Lib.hid (number_any B X [] (n : Int) w hX hB h hn64 (by simp))
  have HT := Lib.hid (numL_ten hn64)
  have HV := Lib.hid hv
  have HB := Lib.hid hB
  clear h hv hB hn hn64 hn0
  go_enter Try.func32, Try.ntmps32
  go_wp2_with fail
  refine C.out.mono ?_
  rintro e W ⟨rfl, hw, hb⟩
  rw [List.nil_append] at hw
  have HW := Lib.hid hw
  have HBU := Lib.hid hb
  clear hw hb
  go_wp2_with fail
  go_loopw [7, 14] (fun _ i wr => ∃ k : Nat, i = .int .i64 (k : Int) ∧ k ≤ n ∧ Hid (WrAt B X wr (numL (n : Int) ++ flat (xs.take k)) ∧ But B X w wr)) (fun _ i _ => n - (intOf i).toNat)
  case atStart => exact ⟨0, rfl, Nat.zero_le _, Lib.hid ⟨by rw [List.take_zero, flat_nil, List.append_nil]; exact HW.out, HBU.out⟩⟩
  case round =>
    obtain ⟨k, rfl, hk, H⟩ := hrel
    by_cases hlt : k < n
    · obtain ⟨b1, o1, rfl, hb1, g1⟩ := Hc.out (by omega)
      have hd : wr.cell? ⟨b1, o1 + k, none⟩ = some (.int .i64 (xs[k]?.getD 0)) := ((H.out.2.below (C := B0) (by omega) h0).cell (p := ⟨b1, o1 + k, none⟩) hb1).trans (g1 k hlt)
      have hkl : k < xs.length := by rw [Hn.out]; exact hlt
      obtain ⟨x, hx⟩ : ∃ x, x = xs[k]?.getD 0 := ⟨_, rfl⟩
      have HX := Lib.hid (take_flat hkl)
      have HI := Lib.hid (at_in Hr.out k hkl)
      have HF := Lib.hid (show (numL (n : Int) ++ flat (xs.take k)).length ≤ 140737488355000 by have h1 := flat_take_le Hr.out k; have h2 := HT.out; rw [Hn.out] at h1; rw [List.length_append]; omega)
      rw [← hx] at hd HX HI
      clear g1 hb1 hkl hx
      have C2 := Lib.hid (number_any B X (numL (n : Int) ++ flat (xs.take k)) x wr hX (Nat.le_trans HB.out H.out.2.size) H.out.1 HI.out HF.out)
      go_wp2_with (go_at_call 22; refine C2.out.mono ?_; rintro e W2 ⟨rfl, hw2, hb2⟩; rw [List.append_assoc, ← HX.out] at hw2; have HR := Lib.hid (And.intro hw2 (H.out.2.trans hb2)); clear hw2 hb2)
      go_roundw
      case rel => exact ⟨k + 1, by go_num, by omega, HR⟩
      case measure => simp [intOf]; omega
    · obtain rfl : k = n := by omega
      go_wp2_with fail
      go_end0
      refine ⟨rfl, ?_, H.out.2⟩
      have := H.out.1
      rw [List.take_of_length_le (by rw [Hn.out]; omega), ← Hn.out] at this
      exact this

theorem encodingI_many (X : Nat) (A : Option Addr) (n c : Nat) (fv : Value) (w : World) (hn : 100000 < n) (hn2 : n ≤ 17592186044416) :
    Calls Try.prog 21 #[.pointer (some ⟨X, 0, none⟩), fv, .slice A n c] w fun e w' => e = .returned (.tuple #[.slice none 0 0, .agg #[.int .i64 2, .int .i64 (-1)]]) ∧ Below w.heap.size w w' := by
  go_enter Try.func21, Try.ntmps21
  go_wp2
  exact bodyPost_ret (v := .tuple #[.slice none 0 0, .agg #[.int .i64 2, .int .i64 (-1)]]) (by simp [results, Try.results21, go_sem]) rfl ⟨rfl, by first | exact ((Below.refl _ _).alloc (Nat.le_refl _) _) | exact ((Below.refl _ _).alloc (Nat.le_refl _) _).setCell (by simp) _ | exact (((Below.refl _ _).alloc (Nat.le_refl _) _).setCell (by simp) _).setCell (by simp) _⟩
end Go.Proofs.Ytldepghojmkohaa.Cod
