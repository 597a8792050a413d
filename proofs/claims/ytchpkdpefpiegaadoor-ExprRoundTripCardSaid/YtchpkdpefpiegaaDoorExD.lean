/- Contracts of unary, parenthesized and contained, out of the contracts of operand and expression at smaller fuel. Conditions: the readings. -/
import Derived.Test.YtchpkdpefpiegaaDoorExC
namespace Go.Proofs.YtchpkdpefpiegaaDoor.Tok
open Go Go.RowKit

theorem field_text (k v p : Int) (txt : List UInt8) : ∀ w, (Instr.field 31 (.agg #[.int .i64 k, strV txt, .int .i64 v, .int .i64 p]) 1).run Tryd.prog w = .ok (strV txt) w := fun w => by kernel_rfl
def unR (k : Nat) (r : Int × St) : Int × St := if r.1 ≠ 0 then r else addS r.2 (unN k (rootS r.2))
def parR (ts : List Tk) (r : Int × St) : Int × St := if r.1 ≠ 0 then r else if (nextT ts r.2.pos).text ≠ [41] then (1, r.2) else (0, stepS r.2)
def outR (q : Int × St) : Int × St := (q.1, outS q.2)
theorem Good.inS {ts : List Tk} {s : St} (h : Good ts s) (hlt : s.pos < ts.length) (hd : s.dep ≠ 8) : Good ts (inS s) := ⟨hlt, by show s.dep + 1 ≤ 8; have := h.2.1; omega, h.2.2⟩
/-- operand and expression, at a fuel -/
def OpC (X : Nat) (tv : Value) (ts : List Tk) (f : Nat) : Prop := ∀ s w, Inv X tv ts w → PSt X tv s w → Good ts s → 2 * (ts.length - s.pos) + 1 ≤ f →
  Calls Tryd.prog 46 #[.pointer (some ⟨X, 0, none⟩)] w (PPost X tv (opS ts f s) w)
def ExC (X : Nat) (tv : Value) (ts : List Tk) (f : Nat) : Prop := ∀ s (b : Nat) w, Inv X tv ts w → PSt X tv s w → Good ts s → 1 ≤ b → b ≤ 7 → 2 * (ts.length - s.pos) + 2 ≤ f →
  Calls Tryd.prog 30 #[.pointer (some ⟨X, 0, none⟩), .int .i64 (b : Int)] w (PPost X tv (exS ts f s b) w)
set_option maxRecDepth 100000 in
set_option maxHeartbeats 2000000 in
theorem unary_any (X : Nat) (tv : Value) (ts : List Tk) (f : Nat) (hO : OpC X tv ts f) (s : St) (k : Nat) (w : World) (hI : Inv X tv ts w) (hS : PSt X tv s w) (hG : Good ts s) (hf : 2 * (ts.length - s.pos) + 1 ≤ f) :
    Calls Tryd.prog 74 #[.pointer (some ⟨X, 0, none⟩), .int .i64 (k : Int)] w (PPost X tv (unR k (opS ts f s)) w) := by
  have C1 := Lib.hid (hO s w hI hS hG hf)
  have hok := (op_ok (ts := ts) f hG).1
  have hg2 := hok.good hG
  generalize opS ts f s = r at C1 hok hg2 ⊢
  obtain ⟨c, q⟩ := r
  have HG2 := Lib.hid hg2
  clear hI hS hG hf hO hok hg2
  by_cases h0 : c = 0
  · subst h0
    have E := Lib.hid (show unR k (0, q) = addS q (unN k (rootS q)) by unfold unR; rw [if_neg (by simp)])
    go_enter Tryd.func74, Tryd.ntmps74
    go_wp2_with fail
    refine C1.out.mono ?_
    rintro e W1 ⟨rfl, hS1, hF1⟩
    have C2 := Lib.hid (root_any X tv q W1 hS1 HG2.out.2.2)
    have C3 := Lib.hid (add_any X tv q (unN k (rootS q)) W1 hS1 HG2.out.2.2)
    have HF1 := Lib.hid hF1
    unfold unN Nd.v at C3
    dsimp only at C3
    clear hS1 hF1 C1
    go_wp2_with fail
    refine C2.out.mono ?_
    rintro e w' ⟨rfl, rfl⟩
    go_wp2_with fail
    refine C3.out.mono ?_
    rintro e W3 ⟨rfl, hS3, hF3⟩
    have HR := Lib.hid (And.intro hS3 (HF1.out.trans hF3))
    clear hS3 hF3 C3 C2
    go_wp2_with fail
    go_ret
    rw [E.out]
    exact ⟨rfl, HR.out.1, HR.out.2⟩
  · have E := Lib.hid (show unR k (c, q) = (c, q) by unfold unR; rw [if_pos (by simpa using h0)])
    have h1 : (c == 0) = false := beq_eq_false_iff_ne.2 h0
    have h2 : (c != 0) = true := by simp [bne, h1]
    clear h0
    go_enter Tryd.func74, Tryd.ntmps74
    go_wp2_with fail
    refine C1.out.mono ?_
    rintro e W1 ⟨rfl, hS1, hF1⟩
    have HR := Lib.hid (And.intro hS1 hF1)
    clear hS1 hF1 C1
    go_wp2_with fail
    go_ret
    rw [E.out]
    exact ⟨rfl, HR.out.1, HR.out.2⟩
set_option maxRecDepth 100000 in
set_option maxHeartbeats 2000000 in
theorem paren_any (X : Nat) (tv : Value) (ts : List Tk) (f : Nat) (hE : ExC X tv ts f) (s : St) (w : World) (hI : Inv X tv ts w) (hS : PSt X tv s w) (hG : Good ts s) (hl : ts.length ≤ 9223372036854775800) (hf : 2 * (ts.length - s.pos) + 2 ≤ f) :
    Calls Tryd.prog 75 #[.pointer (some ⟨X, 0, none⟩)] w (PPost X tv (parR ts (exS ts f s 1)) w) := by
  have C1 := Lib.hid (hE s 1 w hI hS hG (Nat.le_refl _) (by decide) hf)
  have hok := (ex_ok (ts := ts) f hG (Nat.le_refl 1)).1
  have hg2 := hok.good hG
  have HI := Lib.hid hI
  generalize exS ts f s 1 = r at C1 hok hg2 ⊢
  obtain ⟨c, q⟩ := r
  have HG2 := Lib.hid hg2
  have HL := Lib.hid hl
  clear hI hS hG hf hE hok hg2 hl
  by_cases h0 : c = 0
  · subst h0
    have E := Lib.hid (show parR ts (0, q) = if (nextT ts q.pos).text ≠ [41] then (1, q) else (0, stepS q) by unfold parR; rw [if_neg (by simp)])
    go_enter Tryd.func75, Tryd.ntmps75
    go_wp2_with fail
    refine C1.out.mono ?_
    rintro e W1 ⟨rfl, hS1, hF1⟩
    have C2 := Lib.hid (next_any X tv ts q W1 (HI.out.pf hF1.1).1 hS1 HG2.out.1)
    have HF1 := Lib.hid hF1
    have HS1 := Lib.hid hS1
    have HX := Lib.hid (Nat.le_of_lt hS1.lt)
    generalize nextT ts q.pos = t at C2 E
    obtain ⟨k, txt, v, p⟩ := t
    unfold Tk.v at C2
    dsimp only at C2 E
    clear hS1 hF1 C1
    have hfl := field_text k v p txt
    by_cases ht : txt = [41]
    · subst ht
      have E2 := Lib.hid (E.out.trans (if_neg (by simp)))
      clear E
      go_wp2_with fail
      refine C2.out.mono ?_
      rintro e W2 ⟨rfl, hb2⟩
      have HF2 := Lib.hid (HF1.out.up hb2 HX.out)
      have HS2 := Lib.hid (HS1.out.up hb2)
      obtain ⟨nv, -, c1, -, -, f1, -, -, hX3, -⟩ := HS2.out.opens
      have hpos := HG2.out.1
      have hlim := HL.out
      clear hb2 C2
      go_wp2_with fail
      go_ret
      rw [E2.out]
      exact ⟨rfl, HS2.out.step, HF2.out.setX 1 _⟩
    · have E2 := Lib.hid (E.out.trans (if_pos ht))
      have ht2 : (txt == [41]) = false := beq_eq_false_iff_ne.2 ht
      clear E ht
      go_wp2_with fail
      refine C2.out.mono ?_
      rintro e W2 ⟨rfl, hb2⟩
      have HR := Lib.hid (And.intro (HS1.out.up hb2) (HF1.out.up hb2 HX.out))
      clear hb2 C2
      go_wp2_with fail
      go_ret
      rw [E2.out]
      exact ⟨rfl, HR.out.1, HR.out.2⟩
  · have E := Lib.hid (show parR ts (c, q) = (c, q) by unfold parR; rw [if_pos (by simpa using h0)])
    have h1 : (c == 0) = false := beq_eq_false_iff_ne.2 h0
    have h2 : (c != 0) = true := by simp [bne, h1]
    clear h0
    go_enter Tryd.func75, Tryd.ntmps75
    go_wp2_with fail
    refine C1.out.mono ?_
    rintro e W1 ⟨rfl, hS1, hF1⟩
    have HR := Lib.hid (And.intro hS1 hF1)
    clear hS1 hF1 C1
    go_wp2_with fail
    go_ret
    rw [E.out]
    exact ⟨rfl, HR.out.1, HR.out.2⟩

theorem full_any (X : Nat) (tv fv : Value) (s : St) (w : World) (hS : PSt X tv s w) (hd : s.dep = 8) :
    Calls Tryd.prog 72 #[.pointer (some ⟨X, 0, none⟩), fv] w (PPost X tv (10, s) w) := by
  have HS := Lib.hid hS
  obtain ⟨nv, -, -, c2, -, -, -, -, hX, -⟩ := hS.opens
  rw [hd] at c2
  clear hS hd
  go_enter Tryd.func72, Tryd.ntmps72
  go_wp2_with fail
  go_ret
  exact ⟨rfl, HS.out, PF.refl _ _⟩
theorem unR_ok {ts : List Tk} {s : St} {r : Int × St} (h : Ok ts s r) (hg : Good ts s) (k : Nat) : Ok ts s (unR k r) := by
  unfold unR
  split
  · exact h
  · exact h.trans (addS_ok (h.good hg) _).1
theorem parR_dep {ts : List Tk} {s : St} {r : Int × St} (h : Ok ts s r) : (parR ts r).2.dep = s.dep := by
  unfold parR
  split
  · exact h.2.2.1
  · split <;> exact h.2.2.1
theorem PSt.inn {X : Nat} {tv : Value} {s : St} {w : World} (h : PSt X tv s w) : PSt X tv (inS s) ((w.setCell ⟨X, 1, none⟩ (.int .i64 ((s.pos : Int) + 1))).setCell ⟨X, 2, none⟩ (.int .i64 ((s.dep : Int) + 1))) := h.step.setDep (s.dep + 1)
theorem PSt.outt {X d : Nat} {tv : Value} {s : St} {w : World} (h : PSt X tv s w) (hd : s.dep = d + 1) : PSt X tv (outS s) (w.setCell ⟨X, 2, none⟩ (.int .i64 (d : Int))) := by
  have h1 := h.setDep (s.dep - 1)
  rw [show ((s.dep - 1 : Nat) : Int) = (d : Int) by omega] at h1
  exact h1
set_option maxRecDepth 100000 in
set_option maxHeartbeats 2000000 in
theorem clo_un (X : Nat) (tv : Value) (ts : List Tk) (f : Nat) (hO : OpC X tv ts f) (s : St) (k : Nat) (w : World) (hI : Inv X tv ts w) (hS : PSt X tv s w) (hG : Good ts s) (hf : 2 * (ts.length - s.pos) + 1 ≤ f)
    (b1 b4 : Nat) (h1 : w.heap[b1]? = some (.cells #[.pointer (some ⟨X, 0, none⟩)] 81 (0, 0))) (h4 : w.heap[b4]? = some (.cells #[.int .i64 (k : Int)] 3 (0, 0))) :
    Calls Tryd.prog 73 #[.pointer (some ⟨b1, 0, none⟩), .pointer (some ⟨b4, 0, none⟩)] w (PPost X tv (unR k (opS ts f s)) w) := by
  have C := Lib.hid (unary_any X tv ts f hO s k w hI hS hG hf)
  have e1 := (cells_of h1).1 0 _ rfl
  have e4 := (cells_of h4).1 0 _ rfl
  generalize unR k (opS ts f s) = r at C ⊢
  obtain ⟨c, q⟩ := r
  clear h1 h4 hI hS hG hO hf
  go_enter Tryd.func73, Tryd.ntmps73
  go_wp2_with fail
  refine C.out.mono ?_
  rintro e W ⟨rfl, hS, hF⟩
  have HR := Lib.hid (And.intro hS hF)
  clear hS hF C
  go_wp2_with fail
  go_ret
  exact ⟨rfl, HR.out.1, HR.out.2⟩
set_option maxRecDepth 100000 in
set_option maxHeartbeats 2000000 in
theorem cont_un (X : Nat) (tv : Value) (ts : List Tk) (f : Nat) (hO : OpC X tv ts f) (s : St) (k : Nat) (w : World) (hI : Inv X tv ts w) (hS : PSt X tv s w) (hG : Good ts s) (hl : ts.length ≤ 9223372036854775800) (hlt : s.pos < ts.length) (hd : s.dep ≠ 8) (hf : 2 * (ts.length - s.pos) ≤ f)
    (b1 b4 : Nat) (h1 : w.heap[b1]? = some (.cells #[.pointer (some ⟨X, 0, none⟩)] 81 (0, 0))) (h4 : w.heap[b4]? = some (.cells #[.int .i64 (k : Int)] 3 (0, 0))) (n1 : b1 ≠ X) (n4 : b4 ≠ X) :
    Calls Tryd.prog 72 #[.pointer (some ⟨X, 0, none⟩), .func (.func 73) #[] #[.pointer (some ⟨b1, 0, none⟩), .pointer (some ⟨b4, 0, none⟩)]] w (PPost X tv (outR (unR k (opS ts f (inS s)))) w) := by
  have hg := hG.inS hlt hd
  have hpf := ((PF.refl X w).setX 1 (.int .i64 ((s.pos : Int) + 1))).setX 2 (.int .i64 ((s.dep : Int) + 1))
  have C := Lib.hid (clo_un X tv ts f hO (inS s) k _ (hI.pf hpf.1) hS.inn hg (by show 2 * (ts.length - (s.pos + 1)) + 1 ≤ f; omega) b1 b4 (hpf.kept h1 n1 (by decide)) (hpf.kept h4 n4 (by decide)))
  have hok := (unR_ok (op_ok (ts := ts) f hg).1 hg k).2.2.1
  have HF := Lib.hid hpf
  obtain ⟨nv, -, c1, c2, -, z1, z2, -, hX, -⟩ := hS.opens
  have hdep : s.dep ≤ 8 := hG.2.1
  generalize unR k (opS ts f (inS s)) = r at C hok ⊢
  obtain ⟨c, q⟩ := r
  have HOK := Lib.hid hok
  have hcd : ((s.dep : Int) == 8) = false := beq_eq_false_iff_ne.2 (by omega)
  clear h1 h4 hI hS hG hO hf hpf hg hok n1 n4
  go_enter Tryd.func72, Tryd.ntmps72
  go_wp2_with fail
  refine C.out.mono ?_
  rintro e W ⟨rfl, hS, hF⟩
  have HR := Lib.hid (And.intro (hS.outt HOK.out) (HF.out.trans hF))
  obtain ⟨nv, -, -, dd, -, -, y2, -, hX2, -⟩ := hS.opens
  have d2 : W.cell? ⟨X, 2, none⟩ = some (.int .i64 ((s.dep : Int) + 1)) := by rw [dd, HOK.out]; rfl
  clear dd
  clear hS hF C
  go_wp2_with fail
  go_ret
  exact ⟨rfl, HR.out.1, HR.out.2.setX 2 _⟩
set_option maxRecDepth 100000 in
set_option maxHeartbeats 2000000 in
theorem cont_par (X : Nat) (tv : Value) (ts : List Tk) (f : Nat) (hE : ExC X tv ts f) (s : St) (w : World) (hI : Inv X tv ts w) (hS : PSt X tv s w) (hG : Good ts s) (hl : ts.length ≤ 9223372036854775800) (hlt : s.pos < ts.length) (hd : s.dep ≠ 8) (hf : 2 * (ts.length - s.pos) ≤ f) :
    Calls Tryd.prog 72 #[.pointer (some ⟨X, 0, none⟩), .func (.func 75) #[.pointer (some ⟨X, 0, none⟩)] #[]] w (PPost X tv (outR (parR ts (exS ts f (inS s) 1))) w) := by
  have hg := hG.inS hlt hd
  have hpf := ((PF.refl X w).setX 1 (.int .i64 ((s.pos : Int) + 1))).setX 2 (.int .i64 ((s.dep : Int) + 1))
  have C := Lib.hid (paren_any X tv ts f hE (inS s) _ (hI.pf hpf.1) hS.inn hg hl (by show 2 * (ts.length - (s.pos + 1)) + 2 ≤ f; omega))
  have hok := parR_dep (ex_ok (ts := ts) f hg (Nat.le_refl 1)).1
  have HF := Lib.hid hpf
  obtain ⟨nv, -, c1, c2, -, z1, z2, -, hX, -⟩ := hS.opens
  have hdep : s.dep ≤ 8 := hG.2.1
  generalize parR ts (exS ts f (inS s) 1) = r at C hok ⊢
  obtain ⟨c, q⟩ := r
  have HOK := Lib.hid hok
  have hcd : ((s.dep : Int) == 8) = false := beq_eq_false_iff_ne.2 (by omega)
  clear hI hS hG hE hf hpf hg hok
  go_enter Tryd.func72, Tryd.ntmps72
  go_wp2_with fail
  refine C.out.mono ?_
  rintro e W ⟨rfl, hS, hF⟩
  have HR := Lib.hid (And.intro (hS.outt HOK.out) (HF.out.trans hF))
  obtain ⟨nv, -, -, dd, -, -, y2, -, hX2, -⟩ := hS.opens
  have d2 : W.cell? ⟨X, 2, none⟩ = some (.int .i64 ((s.dep : Int) + 1)) := by rw [dd, HOK.out]; rfl
  clear dd
  clear hS hF C
  go_wp2_with fail
  go_ret
  exact ⟨rfl, HR.out.1, HR.out.2.setX 2 _⟩
end Go.Proofs.YtchpkdpefpiegaaDoor.Tok
