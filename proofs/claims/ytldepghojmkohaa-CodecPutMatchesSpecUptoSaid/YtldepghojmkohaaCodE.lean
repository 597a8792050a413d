/- Lists of strings written, and their encoding. Conditions: what is written stays within the reach. -/
import Derived.Test.YtldepghojmkohaaCodC
namespace Go.Proofs.Ytldepghojmkohaa.Cod
open Go Go.RowKit Go.Lib

theorem flatT_next {ss : List (List UInt8)} {k : Nat} (h : k < ss.length) : (flatT (ss.take k)).length + (ss[k]?.getD []).length ≤ (flatT ss).length := by
  have h1 : flatT ss = flatT (ss.take (k + 1)) ++ flatT (ss.drop (k + 1)) := by
    unfold flatT
    rw [← List.flatMap_append, List.take_append_drop]
  rw [h1, take_flatT h]
  unfold textL
  simp only [List.length_append]
  omega
set_option maxRecDepth 100000 in
set_option maxHeartbeats 1000000 in
theorem putListS_any (B X B0 : Nat) (v : Value) (xs : List (List UInt8)) (w : World) (hX : X < B) (hB : B ≤ w.heap.size) (h : WrAt B X w []) (hv : StrsAt B0 w v xs) (h0 : B0 ≤ X) (hn : xs.length ≤ 100000) (hsum : (flatT xs).length ≤ 140737488300000) :
    Calls Try.prog 34 #[.pointer (some ⟨X, 0, none⟩), .func (.func 24) #[.pointer (some ⟨X, 0, none⟩)] #[], v] w fun e w' => e = .returned (.tuple #[]) ∧ WrAt B X w' (textsL xs) ∧ But B X w w' := by
  obtain ⟨A, n, c, rfl, Hn, hn0, Hr, Hc⟩ := hv.opens
  have hn' : n ≤ 100000 := by rw [← Hn.out]; exact hn
  have hn64 : I64 (n : Int) := ⟨by omega, by omega⟩
  have C := Lib.hid (number_any B X [] (n : Int) w hX hB h hn64 (by simp))
  have HT := Lib.hid (numL_ten hn64)
  have HV := Lib.hid hv
  have HB := Lib.hid hB
  have HSM := Lib.hid hsum
  clear h hv hB hn hn64 hn0 hsum
  go_enter Try.func34, Try.ntmps34
  go_wp2_with fail
  refine C.out.mono ?_
  rintro e W ⟨rfl, hw, hb⟩
  rw [List.nil_append] at hw
  have HW := Lib.hid hw
  have HBU := Lib.hid hb
  clear hw hb
  go_wp2_with fail
  go_loopw [7, 14] (fun _ i wr => ∃ k : Nat, i = .int .i64 (k : Int) ∧ k ≤ n ∧ Hid (WrAt B X wr (numL (n : Int) ++ flatT (xs.take k)) ∧ But B X w wr)) (fun _ i _ => n - (intOf i).toNat)
  case atStart => exact ⟨0, rfl, Nat.zero_le _, Lib.hid ⟨by rw [List.take_zero, flatT_nil, List.append_nil]; exact HW.out, HBU.out⟩⟩
  case round =>
    obtain ⟨k, rfl, hk, H⟩ := hrel
    by_cases hlt : k < n
    · obtain ⟨b1, o1, rfl, hb1, g1⟩ := Hc.out (by omega)
      have hd : wr.cell? ⟨b1, o1 + k, none⟩ = some (strV (xs[k]?.getD [])) := ((H.out.2.below (C := B0) (by omega) h0).cell (p := ⟨b1, o1 + k, none⟩) hb1).trans (g1 k hlt)
      have hkl : k < xs.length := by rw [Hn.out]; exact hlt
      obtain ⟨x, hx⟩ : ∃ x, x = xs[k]?.getD [] := ⟨_, rfl⟩
      have HX := Lib.hid (take_flatT hkl)
      have HI := Lib.hid (flatT_next (k := k) hkl)
      have HF := Lib.hid (show (numL (n : Int) ++ flatT (xs.take k)).length + (xs[k]?.getD []).length ≤ 140737488350000 by have h1 := HI.out; have h2 := HT.out; have h3 := HSM.out; rw [List.length_append]; omega)
      rw [← hx] at HF
      rw [← hx] at hd HX HI
      clear g1 hb1 hkl hx
      have C2 := Lib.hid (text_any B X (numL (n : Int) ++ flatT (xs.take k)) x wr hX (Nat.le_trans HB.out H.out.2.size) H.out.1 HF.out)
      go_wp2_with (go_at_call 24; refine C2.out.mono ?_; rintro e W2 ⟨rfl, hw2, hb2⟩; rw [List.append_assoc, ← HX.out] at hw2; have HR := Lib.hid (And.intro hw2 (H.out.2.trans hb2)); clear hw2 hb2)
      go_roundw
      case rel => exact ⟨k + 1, by go_num, by omega, HR⟩
      case measure => simp [intOf]; omega
    · obtain rfl : k = n := by omega
      go_wp2_with fail
      go_end0
      refine ⟨rfl, ?_, H.out.2⟩
      have := H.out.1
      rw [List.take_of_length_le (by rw [Hn.out]; omega), ← Hn.out] at this
      exact this

theorem encodingS_many (X : Nat) (A : Option Addr) (n c : Nat) (fv : Value) (w : World) (hn : 100000 < n) (hn2 : n ≤ 17592186044416) :
    Calls Try.prog 23 #[.pointer (some ⟨X, 0, none⟩), fv, .slice A n c] w fun e w' => e = .returned (.tuple #[.slice none 0 0, .agg #[.int .i64 2, .int .i64 (-1)]]) ∧ Below w.heap.size w w' := by
  go_enter Try.func23, Try.ntmps23
  go_wp2
  exact bodyPost_ret (v := .tuple #[.slice none 0 0, .agg #[.int .i64 2, .int .i64 (-1)]]) (by simp [results, Try.results23, go_sem]) rfl ⟨rfl, by first | exact ((Below.refl _ _).alloc (Nat.le_refl _) _) | exact ((Below.refl _ _).alloc (Nat.le_refl _) _).setCell (by simp) _ | exact (((Below.refl _ _).alloc (Nat.le_refl _) _).setCell (by simp) _).setCell (by simp) _⟩
end Go.Proofs.Ytldepghojmkohaa.Cod
