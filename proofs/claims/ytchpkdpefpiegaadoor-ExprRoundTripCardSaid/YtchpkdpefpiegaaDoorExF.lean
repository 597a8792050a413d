/- Contracts of operand and expression, by induction over the tokens that are left. Conditions: the readings. -/
import Derived.Test.YtchpkdpefpiegaaDoorExE
namespace Go.Proofs.YtchpkdpefpiegaaDoor.Tok
open Go Go.RowKit

theorem opS_step (ts : List Tk) (f : Nat) (s : St) : opS ts (f + 1) s =
    if (nextT ts s.pos).kind = 2 then addS (stepS s) (numN (nextT ts s.pos).val)
    else if (nextT ts s.pos).kind = 1 then addS (stepS s) (nameN (nextT ts s.pos).text)
    else if 0 < kindL (nextT ts s.pos).text 1 then (if s.dep = 8 then (10, s) else outR (unR (kindL (nextT ts s.pos).text 1) (opS ts f (inS s))))
    else if (nextT ts s.pos).text = [40] then (if s.dep = 8 then (10, s) else outR (parR ts (exS ts f (inS s) 1)))
    else (1, s) := by
  rw [opS]
  split
  · rfl
  · split
    · rfl
    · split
      · split
        · rfl
        · unfold outR unR
          split <;> rfl
      · split
        · split
          · rfl
          · unfold outR parR
            split
            · rfl
            · split <;> rfl
        · rfl
theorem op_step {X : Nat} {tv : Value} {ts : List Tk} {f : Nat} (hl : ts.length ≤ 9223372036854775800) (hO : OpC X tv ts f) (hE : ExC X tv ts f) : OpC X tv ts (f + 1) := by
  intro s w hI hS hG hf
  rw [opS_step]
  by_cases h2 : (nextT ts s.pos).kind = 2
  · rw [if_pos h2]; exact op_num X tv ts s w hI hS hG hl h2
  · rw [if_neg h2]
    by_cases h1 : (nextT ts s.pos).kind = 1
    · rw [if_pos h1]; exact op_name X tv ts s w hI hS hG hl h1
    · rw [if_neg h1]
      by_cases hn : 0 < kindL (nextT ts s.pos).text 1
      · have hlt := next_lt (.inr (text_of_kind (by decide) hn))
        rw [if_pos hn]
        by_cases hd : s.dep = 8
        · rw [if_pos hd]; exact op_un8 X tv ts s w hI hS hG hl h1 h2 hn hlt hd
        · rw [if_neg hd]; exact op_un X tv ts s w hI hS hG hl f hO h1 h2 hn hlt hd (by omega)
      · rw [if_neg hn]
        by_cases hp : (nextT ts s.pos).text = [40]
        · have hlt : s.pos < ts.length := next_lt (.inr (by rw [hp]; decide))
          rw [if_pos hp]
          by_cases hd : s.dep = 8
          · rw [if_pos hd]; exact op_par8 X tv ts s w hI hS hG hl h1 h2 hp hlt hd
          · rw [if_neg hd]; exact op_par X tv ts s w hI hS hG hl f hE h1 h2 hp hlt hd (by omega)
        · rw [if_neg hp]; exact op_bad X tv ts s w hI hS hG hl h1 h2 (by omega) hp
theorem kinds_cell {w : World} (h : KindsAt w) {k : Nat} (hk : k < 15) : w.cell? ⟨0, k * 3 + 2, none⟩ = some (.int .i64 (bindL k : Int)) := by
  obtain ⟨fr, h⟩ := h
  have hv : ∀ k, k < 15 → kcs[k * 3 + 2]? = some (.int .i64 (bindL k : Int)) := by
    intro k hk
    have : k = 0 ∨ k = 1 ∨ k = 2 ∨ k = 3 ∨ k = 4 ∨ k = 5 ∨ k = 6 ∨ k = 7 ∨ k = 8 ∨ k = 9 ∨ k = 10 ∨ k = 11 ∨ k = 12 ∨ k = 13 ∨ k = 14 := by omega
    rcases this with rfl | rfl | rfl | rfl | rfl | rfl | rfl | rfl | rfl | rfl | rfl | rfl | rfl | rfl | rfl <;> rfl
  simp [World.cell?, h, hv k hk]
/-- where the loop of expression stands -/
def LoopAt (X : Nat) (tv : Value) (ts : List Tk) (F b : Nat) (r0 : Int × St) (w wr : World) (s : St) : Prop :=
  ∃ g, g ≤ F ∧ 2 * (ts.length - s.pos) + 1 ≤ g ∧ r0 = loopS ts g s b ∧ Good ts s ∧ PSt X tv s wr ∧ PF X w wr
def posOf (X : Nat) (w : World) : Nat := (intOf ((w.cell? ⟨X, 1, none⟩).getD undef)).toNat
theorem posOf_eq {X : Nat} {tv : Value} {s : St} {w : World} (h : PSt X tv s w) : posOf X w = s.pos := by
  obtain ⟨nv, -, c1, -⟩ := h.opens
  unfold posOf
  rw [c1]
  simp [intOf]
set_option maxRecDepth 100000 in
set_option maxHeartbeats 4000000 in
theorem ex_step {X : Nat} {tv : Value} {ts : List Tk} {f : Nat} (hl : ts.length ≤ 9223372036854775800) (hO : OpC X tv ts f) (hE : ∀ g, g < f → ExC X tv ts g) : ExC X tv ts (f + 1) := by
  intro s b w hI hS hG hb hb7 hf
  have C1 := Lib.hid (hO s w hI hS hG (by omega))
  have hok := op_ok (ts := ts) f hG
  have E0 := Lib.hid (show exS ts (f + 1) s b = if (opS ts f s).1 ≠ 0 then opS ts f s else loopS ts f (opS ts f s).2 b from rfl)
  have HI := Lib.hid hI
  have HG := Lib.hid hG
  have HE := Lib.hid hE
  have HF := Lib.hid hf
  have HL := Lib.hid hl
  generalize exS ts (f + 1) s b = r0 at E0 ⊢
  generalize opS ts f s = r at C1 hok E0
  obtain ⟨c, q⟩ := r
  have HOK := Lib.hid hok
  clear hI hS hG hE hf hok hl hO
  by_cases h0 : c = 0
  · subst h0
    have E1 := Lib.hid (E0.out.trans (if_neg (by simp)))
    clear E0
    go_enter Tryd.func30, Tryd.ntmps30
    go_wp2_with fail
    refine C1.out.mono ?_
    rintro e W1 ⟨rfl, hS1, hF1⟩
    have HLA := Lib.hid (show LoopAt X tv ts f b r0 w W1 q from ⟨f, Nat.le_refl _, by have h3 : s.pos < q.pos := (HOK.out.2 rfl).1; have h4 := HF.out; omega, E1.out, HOK.out.1.good HG.out, hS1, hF1⟩)
    clear hS1 hF1 C1
    go_wp2_with fail
    go_loopw [6] (fun _ wr => ∃ s, Hid (LoopAt X tv ts f b r0 w wr s)) (fun _ wr => ts.length - posOf X wr)
    case atStart => exact ⟨q, HLA⟩
    case round =>
      obtain ⟨s1, HA⟩ := hrel
      obtain ⟨g0, hgF, hgl, her, hG1, hS1, hF1⟩ := HA.out
      obtain ⟨g, rfl⟩ : ∃ g, g0 = g + 1 := ⟨g0 - 1, by omega⟩
      have hI1 := HI.out.pf hF1.1
      have C2 := Lib.hid (next_any X tv ts s1 wr hI1.1 hS1 hG1.1)
      have C3 := Lib.hid (fun W' (h : Below wr.heap.size wr W') => kindOf_any (nextT ts s1.pos).text 2 W' (hI1.2.1.up h))
      have hK := kindL_lt (nextT ts s1.pos).text 2
      have hkc := Lib.hid (fun W' (h : Below wr.heap.size wr W') => kinds_cell (hI1.2.1.up h) hK)
      have KG := Lib.hid hI1.2.2
      have HG1 := Lib.hid hG1
      have HS1 := Lib.hid hS1
      have HF1 := Lib.hid hF1
      have HX := Lib.hid hS1.lt
      have HPO := Lib.hid (posOf_eq hS1)
      by_cases hA : bindL (kindL (nextT ts s1.pos).text 2) < b
      · have E2 := Lib.hid (her.trans (by rw [loopS, if_pos hA]))
        generalize nextT ts s1.pos = t at C2 C3 hkc hK hA
        obtain ⟨k, txt, v, p⟩ := t
        have hfl := field_text k v p txt
        unfold Tk.v at C2
        dsimp only at C2 C3 hkc hK hA
        generalize kindL txt 2 = K at C3 hkc hK hA
        generalize bindL K = bd at hkc hA
        clear her hI1 hG1 hS1 hF1 HA hgF hgl
        go_wp2_with fail
        refine C2.out.mono ?_
        rintro e W2 ⟨rfl, hb2⟩
        have HB2 := Lib.hid hb2
        clear hb2 C2
        go_wp2_with fail
        refine (C3.out _ HB2.out).mono ?_
        rintro e W3 ⟨rfl, hb3⟩
        have HB3 := Lib.hid (HB2.out.trans (hb3.mono HB2.out.size))
        have hc := hkc.out _ HB3.out
        clear hb3 C3 hkc
        go_wp2_with fail
        go_ret
        rw [E2.out]
        exact ⟨rfl, HS1.out.up HB3.out, HF1.out.up HB3.out (Nat.le_of_lt HX.out)⟩
      · obtain ⟨k0, k1, k2, k3⟩ := kind2 (s := (nextT ts s1.pos).text) (by omega)
        have hlt : s1.pos < ts.length := next_lt (.inr (text_of_kind (c := 2) (by decide) (by omega)))
        have C4 := Lib.hid (HE.out g (by omega) (stepS s1) (bindL (kindL (nextT ts s1.pos).text 2) + 1))
        have hok4 := ex_ok (ts := ts) (b := bindL (kindL (nextT ts s1.pos).text 2) + 1) g (step_ok hG1 hlt) (by omega)
        have hg4 := hok4.1.good (step_ok hG1 hlt)
        have E2 := Lib.hid (her.trans (by rw [loopS, if_neg hA]))
        have hfu : 2 * (ts.length - (s1.pos + 1)) + 2 ≤ g := by omega
        generalize nextT ts s1.pos = t at C2 C3 C4 E2 hok4 hg4 hkc hK hA k0 k1 k2 k3
        obtain ⟨k, txt, v, p⟩ := t
        have hfl := field_text k v p txt
        unfold Tk.v at C2
        dsimp only at C2 C3 C4 E2 hok4 hg4 hkc hK hA k0 k1 k2 k3
        generalize kindL txt 2 = K at C3 C4 E2 hok4 hg4 hkc hK hA k0 k1 k2 k3
        generalize hbd : bindL K = bd at C4 E2 hok4 hg4 hkc hA k3
        generalize exS ts g (stepS s1) (bd + 1) = r4 at C4 E2 hok4 hg4
        obtain ⟨c4, q4⟩ := r4
        have HFU := Lib.hid hfu
        have HOK4 := Lib.hid hok4
        have HG4 := Lib.hid hg4
        have HLT := Lib.hid hlt
        have HIV := Lib.hid hI1
        have HKK := Lib.hid (And.intro hgF hgl)
        have hpl := hG1.1
        have hlim := HL.out
        clear her hI1 hG1 hS1 hF1 HA hgF hgl hbd k0 k1 k2 hfu hok4 hg4
        go_wp2_with fail
        refine C2.out.mono ?_
        rintro e W2 ⟨rfl, hb2⟩
        have HB2 := Lib.hid hb2
        clear hb2 C2
        go_wp2_with fail
        refine (C3.out _ HB2.out).mono ?_
        rintro e W3 ⟨rfl, hb3⟩
        have hb3' := HB2.out.trans (hb3.mono HB2.out.size)
        have hc := hkc.out _ hb3'
        have hS3 := HS1.out.up hb3'
        have HF3 := Lib.hid (HF1.out.up hb3' (Nat.le_of_lt HX.out))
        have HI3 := Lib.hid (HIV.out.up hb3' (Nat.le_of_lt HX.out))
        obtain ⟨nv, -, c1, -, -, f1, -, -, hX3, -⟩ := hS3.opens
        have HS3 := Lib.hid hS3.step
        clear hb3 hb3' C3 hS3
        go_wp2_with fail
        refine (root_any X tv (stepS s1) _ HS3.out HG1.out.2.2).mono ?_
        rintro e w' ⟨rfl, rfl⟩
        have hc2 : (W3.setCell ⟨X, 1, none⟩ (.int .i64 ((s1.pos : Int) + 1))).cell? ⟨0, K * 3 + 2, none⟩ = some (.int .i64 (bd : Int)) := by
          rw [World.cell?_setCell_other _ _ _ _ (by have := KG.out; first | (simp; done) | (simp; omega))]; exact hc
        have C5 : Calls Tryd.prog 30 #[.pointer (some ⟨X, 0, none⟩), .int .i64 ((bd : Int) + 1)] (W3.setCell ⟨X, 1, none⟩ (.int .i64 ((s1.pos : Int) + 1))) (PPost X tv (c4, q4) (W3.setCell ⟨X, 1, none⟩ (.int .i64 ((s1.pos : Int) + 1)))) :=
          C4.out _ (HI3.out.pf ((PF.refl X W3).setX 1 _).1) HS3.out (step_ok HG1.out HLT.out) (by omega) (by omega) HFU.out
        have HC5 := Lib.hid C5
        have HF4 := Lib.hid (HF3.out.setX 1 (.int .i64 ((s1.pos : Int) + 1)))
        clear C4 C5 hkc hc f1 c1
        by_cases h4 : c4 = 0
        · subst h4
          have E3 := Lib.hid (E2.out.trans (if_neg (by simp)))
          clear E2
          have hq := addS_ok HG4.out (binN K (rootS s1) (rootS q4))
          have hr : rootS (stepS s1) = rootS s1 := rfl
          go_wp2_with fail
          refine HC5.out.mono ?_
          rintro e W5 ⟨rfl, hS5, hF5⟩
          have HF5 := Lib.hid (HF4.out.trans hF5)
          have HS5 := Lib.hid hS5
          have C6 := Lib.hid (add_any X tv q4 (binN K (rootS s1) (rootS q4)) W5 hS5 HG4.out.2.2)
          generalize addS q4 (binN K (rootS s1) (rootS q4)) = r6 at C6 E3 hq
          obtain ⟨c6, q6⟩ := r6
          have HQ := Lib.hid hq
          unfold binN Nd.v at C6
          dsimp only at C6
          clear hS5 hF5 HC5 hc2 hq
          go_wp2_with fail
          refine (root_any X tv q4 _ HS5.out HG4.out.2.2).mono ?_
          rintro e w' ⟨rfl, rfl⟩
          go_wp2_with fail
          refine C6.out.mono ?_
          rintro e W6 ⟨rfl, hS6, hF6⟩
          have HF6 := Lib.hid (HF5.out.trans hF6)
          have HS6 := Lib.hid hS6
          clear hS6 hF6 C6
          by_cases h6 : c6 = 0
          · subst h6
            have E4 := Lib.hid (E3.out.trans (if_neg (by simp)))
            clear E3
            go_wp2_with fail
            go_roundw
            case rel =>
              refine ⟨q6, Lib.hid ⟨g, by have := HKK.out; omega, ?_, E4.out, HQ.out.1.good HG4.out, HS6.out, HF6.out⟩⟩
              have h7 : q6.pos = q4.pos := (HQ.out.2 (by first | rfl | trivial)).1
              have h8 : s1.pos + 1 < q4.pos := (HOK4.out.2 rfl).1
              have h9 := HKK.out
              have h10 := HLT.out
              omega
            case measure =>
              rw [posOf_eq HS6.out, HPO.out]
              have h7 : q6.pos = q4.pos := (HQ.out.2 (by first | rfl | trivial)).1
              have h8 : s1.pos + 1 < q4.pos := (HOK4.out.2 rfl).1
              have h10 := HLT.out
              omega
          · have E4 := Lib.hid (E3.out.trans (if_pos (by simpa using h6)))
            have h61 : (c6 == 0) = false := beq_eq_false_iff_ne.2 h6
            have h62 : (c6 != 0) = true := by simp [bne, h61]
            clear h6 E3
            go_wp2_with fail
            go_ret
            rw [E4.out]
            exact ⟨rfl, HS6.out, HF6.out⟩
        · have E3 := Lib.hid (E2.out.trans (if_pos (by simpa using h4)))
          have h41 : (c4 == 0) = false := beq_eq_false_iff_ne.2 h4
          have h42 : (c4 != 0) = true := by simp [bne, h41]
          clear h4 E2
          go_wp2_with fail
          refine HC5.out.mono ?_
          rintro e W5 ⟨rfl, hS5, hF5⟩
          have HR := Lib.hid (And.intro hS5 (HF4.out.trans hF5))
          clear hS5 hF5 HC5 hc2
          go_wp2_with fail
          go_ret
          rw [E3.out]
          exact ⟨rfl, HR.out.1, HR.out.2⟩
  · have E1 := Lib.hid (E0.out.trans (if_pos (by simpa using h0)))
    have h1 : (c == 0) = false := beq_eq_false_iff_ne.2 h0
    have h2 : (c != 0) = true := by simp [bne, h1]
    clear h0
    go_enter Tryd.func30, Tryd.ntmps30
    go_wp2_with fail
    refine C1.out.mono ?_
    rintro e W1 ⟨rfl, hS1, hF1⟩
    have HR := Lib.hid (And.intro hS1 hF1)
    clear hS1 hF1 C1
    go_wp2_with fail
    go_ret
    rw [E1.out]
    exact ⟨rfl, HR.out.1, HR.out.2⟩
theorem parser_any {X : Nat} {tv : Value} {ts : List Tk} (hl : ts.length ≤ 9223372036854775800) : ∀ f, OpC X tv ts f ∧ ExC X tv ts f := by
  intro f
  induction f using Nat.strongRecOn with
  | ind f ih =>
    cases f with
    | zero => exact ⟨fun s w _ _ _ h => absurd h (by omega), fun s b w _ _ _ _ _ h => absurd h (by omega)⟩
    | succ f => exact ⟨op_step hl (ih f (Nat.lt_succ_self _)).1 (ih f (Nat.lt_succ_self _)).2, ex_step hl (ih f (Nat.lt_succ_self _)).1 (fun g hg => (ih g (by omega)).2)⟩
end Go.Proofs.YtchpkdpefpiegaaDoor.Tok
