/- Validate returns the fault of a table: of the first form with a broken check, the first broken check's code and the form's number. Conditions: the slice reads as forms. -/
import Derived.StillTailTactics
import Derived.Test.YtcngpciblbdgbaaGreatDoorIsaE
namespace Go.Proofs.YtcngpciblbdgbaaGreatDoor
open Go Go.RowKit Go.Shelf
attribute [local go_sem] Oper.semAt_some

/-! ## the iterator's maker, and the iterator as the laws want it -/
set_option maxHeartbeats 400000 in
theorem checks_any (nm : ByteArray) (q : Int) (kv ev : Value) (A : Option Addr) (m c : Nat) (A' : Option Addr) (m' c' : Nat) (h1 : kv = .slice A m c) (h2 : ev = .slice A' m' c') (w : World) :
    Calls Tryz.prog 37 #[.agg #[.string nm, .int .i64 q, kv], ev] w fun e w' =>
      e = .returned (.func (.func 52) #[] #[.pointer (some ⟨w.heap.size, 0, none⟩), .pointer (some ⟨w.heap.size + 1, 0, none⟩)]) ∧
      w' = (w.alloc (.cells #[.string nm, .int .i64 q, kv] 39)).alloc (.cells #[ev] 22) := by
  subst h1
  subst h2
  go_enter Tryz.func37, Tryz.ntmps37
  go_wp2
  go_ret
  exact ⟨rfl, rfl⟩

theorem checks_stops (n : Nat) (hn : 2 ≤ n) (B b c n₀ : Nat) (f : Frm) (ev : Value) (es : List Frm) (hB : B ≤ n₀) (hb : b < n₀) (hc : c < n₀) (hs : f.name.size ≤ maxLen) (w : World) (hn₀ : n₀ ≤ w.heap.size)
    (hf : FrmCells w b 0 f) (hk : KindsAt B w f.kv f.kinds) (he : w.cell? ⟨c, 0, none⟩ = some ev) (hes : FormsAt B w ev es) :
    SeqStopsK Fence.wide n Tryz.prog 52 #[.pointer (some ⟨b, 0, none⟩), .pointer (some ⟨c, 0, none⟩)] encP (Below n₀) (fun xs => xs = checkList f es) (fun pre => pre <+: checkList f es) 6 w := fun l J Jx W hW hJ _ hY h0 => by
  have hW' := hW.mono hn₀
  obtain ⟨nm, q, kv, ks⟩ := f
  obtain ⟨A, m, cap, e1, hkl, hm, _⟩ := hk.opens
  dsimp only at e1
  subst e1
  exact checks1_in n hn l B b c n₀ nm q A m cap ks ev es hB hb hc hs hkl hm J Jx W hJ hY h0 (Nat.le_trans hn₀ hW.size)
    (Lib.hid (hf.below hW' hb)) (Lib.hid (hk.below (hW'.mono hB))) (Lib.hid ((hW'.cell (p := ⟨c, 0, none⟩) hc).trans he)) (Lib.hid (hes.below (hW'.mono hB)))

theorem FormsAt.take {B : Nat} {w : World} {b o n c k : Nat} {fs : List Frm} (h : FormsAt B w (.slice (some ⟨b, o, none⟩) n c) fs) (hfs : Hid (fs.length = n)) (hk : k ≤ n) : FormsAt B w (.slice (some ⟨b, o, none⟩) k c) (fs.take k) := by
  obtain ⟨A, c', h1, ⟨h2, h2'⟩, h3, h4⟩ := h
  injection h1 with hA hn hc
  subst hA
  subst hc
  have hl : (fs.take k).length = k := by rw [List.length_take, hfs.out]; omega
  have hn' := hfs.out
  refine ⟨_, c, by rw [hl], ⟨by rw [hl]; omega, by rw [hl]; omega⟩, fun f hf => h3 f (List.mem_of_mem_take hf), fun hp => ?_⟩
  obtain ⟨b', o', e, hb, hc⟩ := h4 (by omega)
  refine ⟨b', o', e, hb, fun j f hj => hc j f ?_⟩
  rw [List.getElem?_take] at hj
  split at hj
  · exact hj
  · cases hj

/-! ## the fault of a table -/
/-- the first broken check of a form behind the earlier forms; 0 -/
def formFault (f : Frm) (es : List Frm) : Int := match (checkList f es).find? (·.2) with | some p => p.1 | none => 0
def faultAt (fs : List Frm) (k : Nat) : Int := match fs[k]? with | some f => formFault f (fs.take k) | none => 0
def scanFault (fs : List Frm) : Nat → Nat → Int × Int
  | 0, _ => (0, 0)
  | r + 1, k => if faultAt fs k = 0 then scanFault fs r (k + 1) else (faultAt fs k, (k : Int))
def tableFault (fs : List Frm) : Int × Int := if 100 < fs.length then (2, -1) else scanFault fs fs.length 0
/-- a fault as a value -/
abbrev faultV (p : Int × Int) : Value := .agg #[.int .i64 p.1, .int .i64 p.2]

/-! ## the marks that the ranges over the iterator leave among the deferred calls -/
def Marks (B : Nat) (w : World) : Nat → List Deferred → Prop
  | _, [] => True
  | ub, d :: ds => ∃ D, d = { target := .collected D, args := #[] } ∧ B ≤ D ∧ D < ub ∧ w.heap[D]? = some (.deferred (some [])) ∧ Marks B w D ds
theorem Marks.same {B : Nat} {w w' : World} : ∀ {ds : List Deferred} {ub : Nat}, (∀ k, k < ub → w.heap[k]? = some (.deferred (some [])) → w'.heap[k]? = some (.deferred (some []))) → Marks B w ub ds → Marks B w' ub ds
  | [], _, _, _ => trivial
  | _ :: _, _, h, ⟨D, e, h1, h2, h3, h4⟩ => ⟨D, e, h1, h2, h D h2 h3, Marks.same (fun k hk => h k (Nat.lt_trans hk h2)) h4⟩
theorem Marks.upto {B : Nat} {w : World} : ∀ {ds : List Deferred} {ub ub' : Nat}, Marks B w ub ds → ub ≤ ub' → Marks B w ub' ds
  | [], _, _, _, _ => trivial
  | _ :: _, _, _, ⟨D, e, h1, h2, h3, h4⟩, h => ⟨D, e, h1, Nat.lt_of_lt_of_le h2 h, h3, h4⟩
theorem faultAt_none {fs : List Frm} {k : Nat} {f : Frm} (hx : fs[k]? = some f) (h : ∀ p ∈ checkList f (fs.take k), p.2 = false) : faultAt fs k = 0 := by
  have : (checkList f (fs.take k)).find? (·.2) = none := by rw [List.find?_eq_none]; intro p hp; simp [h p hp]
  simp only [faultAt, hx, formFault, this]
theorem faultAt_some {fs : List Frm} {k : Nat} {f : Frm} {ini : List (Int × Bool)} {last : Int × Bool} (hx : fs[k]? = some f) (hpre : ini ++ [last] <+: checkList f (fs.take k)) (h1 : ∀ p ∈ ini, p.2 = false) (h2 : last.2 = true) : faultAt fs k = last.1 ∧ last.1 ≠ 0 := by
  obtain ⟨r, hr⟩ := hpre
  have hf : (checkList f (fs.take k)).find? (·.2) = some last := by
    rw [← hr, List.find?_append, List.find?_append, List.find?_eq_none.2 (fun p hp => by simp [h1 p hp])]
    simp [h2]
  refine ⟨by simp only [faultAt, hx, formFault, hf], ?_⟩
  have hm : last ∈ checkList f (fs.take k) := by rw [← hr]; simp
  simp only [checkList, List.mem_cons, List.not_mem_nil, or_false] at hm
  rcases hm with rfl | rfl | rfl | rfl | rfl | rfl <;> simp
theorem scan_next {fs : List Frm} {n k : Nat} (hk : k < n) (h : faultAt fs k = 0) : scanFault fs (n - (k + 1)) (k + 1) = scanFault fs (n - k) k := by
  obtain ⟨r, hr⟩ : ∃ r, n - k = r + 1 := ⟨n - k - 1, by omega⟩
  rw [hr, show n - (k + 1) = r by omega, scanFault, if_pos h]
theorem scan_hit {fs : List Frm} {n k : Nat} (hk : k < n) (h : faultAt fs k ≠ 0) : scanFault fs (n - k) k = (faultAt fs k, (k : Int)) := by
  obtain ⟨r, hr⟩ : ∃ r, n - k = r + 1 := ⟨n - k - 1, by omega⟩
  rw [hr, scanFault, if_neg h]
theorem Marks.kept {B : Nat} {w w' : World} {ds : List Deferred} {ub : Nat} {row : Option Nat} (h : Marks B w ub ds) (hg : w.grownBy w' row) (hr : ∀ r, row = some r → ub ≤ r) : Marks B w' ub ds :=
  h.same (fun k hk hh => (hg.block k ((Array.getElem?_eq_some_iff.1 hh).1) (fun e => by have := hr k e.symm; omega)).trans hh)
theorem leaves_marks {P : Program} {fn : Func} {n : Nat} {tmps : Array Value} {R : Ending → World → Prop} {B : Nat} (Keep : World → Prop)
    (hkeep : ∀ w D, B ≤ D → w.heap[D]? = some (.deferred (some [])) → Keep w → Keep (w.putObj D (.deferred none)))
    (hend : ∀ w, Keep w → ∃ v, (results fn tmps).run P w = .ok v w ∧ R (.returned v) w) :
    ∀ (ds : List Deferred) (ub : Nat) (w : World), Marks B w ub ds → Keep w → LeavesInM Fence.wide n P fn tmps R ds .returning w
  | [], _, w, _, hk => by
    show LeavesIn _ _ _ _ _ _ [] _ _
    exact hend w hk
  | d :: ds, ub, w, ⟨D, e, h1, h2, h3, h4⟩, hk => by
    subst e
    refine ⟨by simp, .inl ⟨_, _, rfl, run_takeDeferred h3, ?_⟩⟩
    exact leaves_marks Keep hkeep hend ds D _ (Marks.same (fun k hk' hh => (World.putObj_heap_other (by omega)).trans hh) h4) (hkeep w D h1 h3 hk)

/-- what holds at the head of each round of Validate's loop -/
def VInv (fs : List Frm) (A : Option Addr) (n c R : Nat) (w : World) (a' : Act) (wr : World) : Prop :=
  ∃ (k : Nat) (ds : List Deferred) (u1 u3 u4 u5 u6 u7 u8 u9 u10 u14 u15 u16 u17 u18 u19 u20 u21 u22 u23 u24 u25 u26 u27 u28 u29 u30 : Value), a' = { tmps := #[.slice A n c, u1, .pointer (some ⟨R, 0, none⟩), u3, u4, u5, u6, u7, u8, u9, u10, .slice A n c, .int .i64 (n : Int), .int .i64 (k : Int), u14, u15, u16, u17, u18, u19, u20, u21, u22, u23, u24, u25, u26, u27, u28, u29, u30], defers := ds } ∧ k ≤ n ∧ Hid (scanFault fs (n - k) k = scanFault fs n 0) ∧ Below R w wr ∧
    R < wr.heap.size ∧ Hid (wr.cell? ⟨R, 0, none⟩ = some (.int .i64 0) ∧ wr.cell? ⟨R, 1, none⟩ = some (.int .i64 0) ∧ wr.frozen? ⟨R, 0, none⟩ = false ∧ wr.frozen? ⟨R, 1, none⟩ = false) ∧ Hid (Marks (R + 1) wr wr.heap.size ds)

set_option maxRecDepth 100000 in
set_option maxHeartbeats 2000000 in
theorem validate_any (B : Nat) (v : Value) (fs : List Frm) (w : World) (h : FormsAt B w v fs) (hB : B ≤ w.heap.size) :
    Calls Tryz.prog 23 #[v] w fun e w' => e = .returned (faultV (tableFault fs)) ∧ Below w.heap.size w w' := by
  obtain ⟨A, n, c, rfl, hfs, ⟨hn, hnc⟩, hk, hc⟩ := h.opens
  by_cases h100 : 100 < n
  · have ht : tableFault fs = (2, -1) := by unfold tableFault; rw [if_pos (by rw [hfs.out]; exact h100)]
    rw [ht]
    clear ht hk hc h hn
    go_enter Tryz.func23, Tryz.ntmps23
    go_wp2
    exact bodyPost_ret (v := faultV (2, -1)) (by simp [results, Tryz.results23, go_sem]) rfl ⟨rfl, ((Below.refl _ _).alloc (Nat.le_refl _) _)⟩
  · refine (callsIn_wide (n := 3)).1 ?_
    refine callsIn_of_wp_marks Tryz.func23 rfl trivial ?_ rfl
    simp only [Tryz.ntmps23, List.size_toArray, List.length_cons, List.length_nil, Nat.reduceAdd, Nat.reduceSub, Array.replicate_succ, Array.replicate_zero, List.push_toArray, List.append_toArray, List.nil_append, List.cons_append]
    refine wpIn_wide.2 ?_
    go_wp2
    refine wp_loop (VInv fs A n c w.heap.size w) (fun a' _ => n - (intOf (a'.tmps.getD 13 undef)).toNat) ?start ?round
    case start =>
      exact ⟨0, [], _, _, _, _, _, _, _, _, _, _, _, _, _, _, _, _, _, _, _, _, _, _, _, _, _, _, rfl, Nat.zero_le _, Lib.hid rfl, (Below.refl _ _).alloc (Nat.le_refl _) _, by simp, Lib.hid ⟨by simp, by simp, by simp, by simp⟩, Lib.hid trivial⟩
    case round =>
      intro a' wr hI
      obtain ⟨k, ds, u1, u3, u4, u5, u6, u7, u8, u9, u10, u14, u15, u16, u17, u18, u19, u20, u21, u22, u23, u24, u25, u26, u27, u28, u29, u30, rfl, hkn, Hs, hbw, hRs, HR, HM⟩ := hI
      dsimp only
      by_cases hlt : k < n
      · obtain ⟨b1, o1, rfl, hb1, g1⟩ := hc (by omega)
        obtain ⟨f, hx, hm⟩ := getElem?_of_lt hfs hlt
        have Hx := Lib.hid hx
        have hcell := (g1 k f hx).below (hbw.mono hB) hb1
        have kf := (hk f hm).1
        have hsz := (hk f hm).2
        obtain ⟨fA, fm, fc, fkv, _⟩ := kf.opens
        obtain ⟨nm, q, kv, ks⟩ := f
        dsimp only at fkv
        subst fkv
        obtain ⟨d1, d2, d3⟩ := hcell
        dsimp only at d1 d2 d3
        have Kf := Lib.hid kf
        clear hx hm hc g1 hk kf
        go_wp2
        clear d1 d2 d3
        obtain ⟨W1, hW1⟩ : ∃ W1, W1 = (wr.alloc (.cells #[.int .i64 (k : Int)] 3)).alloc (.cells #[.string nm, .int .i64 q, .slice fA fm fc] 39) := ⟨_, rfl⟩
        have e0 : W1.cell? ⟨wr.heap.size, 0, none⟩ = some (.int .i64 (k : Int)) := by rw [hW1]; simp
        have e1 : W1.cell? ⟨wr.heap.size + 1, 0, none⟩ = some (.string nm) := by rw [hW1]; simp
        have e2 : W1.cell? ⟨wr.heap.size + 1, 1, none⟩ = some (.int .i64 q) := by rw [hW1]; simp
        have e3 : W1.cell? ⟨wr.heap.size + 1, 2, none⟩ = some (.slice fA fm fc) := by rw [hW1]; simp
        have hb1 : Below wr.heap.size wr W1 := by rw [hW1]; exact ((Below.refl _ _).alloc (Nat.le_refl _) _).alloc (by simp) _
        have hz1 : wr.heap.size + 1 < W1.heap.size := by rw [hW1]; simp
        rw [← hW1]
        clear hW1
        have hkc : k ≤ c := by omega
        go_still_tail 4, (by kernel_rfl)
        change wpList _ _ _ _ _ W1.drew
        have hb2 : Below wr.heap.size wr W1.drew := hb1.drew
        obtain ⟨W2, hW2⟩ : ∃ W2, W2 = W1.drew := ⟨_, rfl⟩
        rw [← hW2]
        rw [← hW2] at hb2
        have g0 : W2.cell? ⟨wr.heap.size, 0, none⟩ = some (.int .i64 (k : Int)) := by rw [hW2]; exact e0
        have hz2 : wr.heap.size + 1 < W2.heap.size := by rw [hW2]; exact hz1
        clear hW2 e0 e1 e2 e3 hb1 hz1
        go_wp2_with (go_at_call 37; refine (checks_any _ _ _ _ _ _ _ _ _ _ rfl rfl _).mono ?_; rintro e W3 ⟨rfl, hW3⟩)
        subst hW3
        obtain ⟨W3, hW3⟩ : ∃ W3, W3 = (W2.alloc (.cells #[.string nm, .int .i64 q, .slice fA fm fc] 39)).alloc (.cells #[.slice (some ⟨b1, o1, none⟩) k c] 22) := ⟨_, rfl⟩
        have hz3 : W3.heap.size = W2.heap.size + 1 + 1 := by rw [hW3]; simp
        have hb23 : Below W2.heap.size W2 W3 := by rw [hW3]; exact ((Below.refl _ _).alloc (Nat.le_refl _) _).alloc (by simp) _
        have hb3 : Below wr.heap.size wr W3 := hb2.trans (hb23.mono (by omega))
        have hR3 : Below w.heap.size w W3 := hbw.trans (hb3.mono (by omega))
        have q0 : W3.cell? ⟨wr.heap.size, 0, none⟩ = some (.int .i64 (k : Int)) := (hb23.cell (p := ⟨wr.heap.size, 0, none⟩) (by show wr.heap.size < _; omega)).trans g0
        have q1 : FrmCells W3 W2.heap.size 0 ⟨nm, q, .slice fA fm fc, ks⟩ := ⟨by rw [hW3]; simp, by rw [hW3]; simp, by rw [hW3]; simp⟩
        have q2 : W3.cell? ⟨W2.heap.size + 1, 0, none⟩ = some (.slice (some ⟨b1, o1, none⟩) k c) := by rw [hW3]; simp
        have q3 : KindsAt B W3 (.slice fA fm fc) ks := Kf.out.below (hR3.mono hB)
        have q4 : FormsAt B W3 (.slice (some ⟨b1, o1, none⟩) k c) (fs.take k) := (FormsAt.take h hfs hkn).below (hR3.mono hB)
        have hst := checks_stops 2 (Nat.le_refl _) B W2.heap.size (W2.heap.size + 1) W3.heap.size ⟨nm, q, .slice fA fm fc, ks⟩ _ _ (Nat.le_trans hB hR3.size) (by omega) (by omega) (by unfold maxLen; exact Nat.le_trans hsz (by omega)) W3 (Nat.le_refl _) q1 q3 q2 q4
        rw [← hW3]
        have qR : W3.cell? ⟨w.heap.size, 0, none⟩ = some (.int .i64 0) ∧ W3.cell? ⟨w.heap.size, 1, none⟩ = some (.int .i64 0) ∧ W3.frozen? ⟨w.heap.size, 0, none⟩ = false ∧ W3.frozen? ⟨w.heap.size, 1, none⟩ = false :=
          ⟨(hb3.cell (p := ⟨w.heap.size, 0, none⟩) hRs).trans HR.out.1, (hb3.cell (p := ⟨w.heap.size, 1, none⟩) hRs).trans HR.out.2.1, (hb3.frozen (p := ⟨w.heap.size, 0, none⟩) hRs).trans HR.out.2.2.1, (hb3.frozen (p := ⟨w.heap.size, 1, none⟩) hRs).trans HR.out.2.2.2⟩
        have qM : Marks (w.heap.size + 1) W3 wr.heap.size ds := HM.out.same (fun j hj hh => (hb3.block j hj).trans hh)
        have hwr3 : wr.heap.size ≤ W3.heap.size := hb3.size
        clear hW3 hz2 g0 hb2 hb23 q1 q2 q3 q4
        refine (wpIn_wide (n := 3)).1 ?_
        refine wpIn_rangeFunc_ownF (n := 3) rfl (by omega) (gf := 52) (lb := #[.pointer (some ⟨W2.heap.size, 0, none⟩), .pointer (some ⟨W2.heap.size + 1, 0, none⟩)]) rfl trivial (enters_of Tryz.func52 (by kernel_rfl) rfl)
          hst belowK_t (belowK_b (Nat.le_refl _)) (Below.refl _ _) (fun _ => rfl)
          (fun pre W => ((∀ p ∈ pre, p.2 = false) ∧ (W.cell? ⟨w.heap.size, 0, none⟩ = some (.int .i64 0) ∧ W.cell? ⟨w.heap.size, 1, none⟩ = some (.int .i64 0) ∧ W.frozen? ⟨w.heap.size, 0, none⟩ = false ∧ W.frozen? ⟨w.heap.size, 1, none⟩ = false) ∧ W.cell? ⟨wr.heap.size, 0, none⟩ = some (.int .i64 (k : Int)) ∧ Marks (w.heap.size + 1) W wr.heap.size ds) ∧ Below w.heap.size w W)
          (fun cd pre W => (cd = .ret ∧ ∃ ini last, pre = ini ++ [last] ∧ (∀ p ∈ ini, p.2 = false) ∧ last.2 = true ∧ W.cell? ⟨w.heap.size, 0, none⟩ = some (.int .i64 last.1) ∧ W.cell? ⟨w.heap.size, 1, none⟩ = some (.int .i64 (k : Int)) ∧ Marks (w.heap.size + 1) W wr.heap.size ds) ∧ Below w.heap.size w W)
          ?own1 ?own2 ⟨⟨by simp, qR, q0, qM⟩, hR3⟩
          (fun x => { tmps := #[.slice (some ⟨b1, o1, none⟩) n c, u1, .pointer (some ⟨w.heap.size, 0, none⟩), .pointer (some ⟨wr.heap.size, 0, none⟩), .pointer (some ⟨wr.heap.size + 1, 0, none⟩), .int .i64 x.1, .bool x.2, u7, u8, u9, u10, .slice (some ⟨b1, o1, none⟩) n c, .int .i64 (n : Int), .int .i64 (k : Int), .bool true, .int .i64 (k : Int), .pointer (some ⟨b1, o1 + k * 3, none⟩), .agg #[.string nm, .int .i64 q, .slice fA fm fc], .agg #[.string nm, .int .i64 q, .slice fA fm fc], .slice (some ⟨b1, o1, none⟩) n c, .int .i64 (k : Int), .slice (some ⟨b1, o1, none⟩) k c, .func (.func 52) #[] #[.pointer (some ⟨W2.heap.size, 0, none⟩), .pointer (some ⟨W2.heap.size + 1, 0, none⟩)], .int .i64 x.1, .bool x.2, u25, u26, u27, u28, u29, u30], defers := [] }) ?assign ?body ?done ?stop
        case own1 =>
          intro s W W' row hs hg hr
          have hr' := fun r e => (hr r e).2
          exact ⟨⟨hs.1.1, ⟨cell_kept hs.1.2.1.1 hg hr', cell_kept hs.1.2.1.2.1 hg hr', (frozen_kept hs.1.2.1.1 hg hr').trans hs.1.2.1.2.2.1, (frozen_kept hs.1.2.1.2.1 hg hr').trans hs.1.2.1.2.2.2⟩, cell_kept hs.1.2.2.1 hg hr',
            hs.1.2.2.2.kept hg (fun r e => Nat.le_trans hwr3 (hr r e).1)⟩, ownFrom_below (β := Unit) (Nat.le_refl _) hR3.size () W W' row hs.2 hg hr⟩
        case own2 =>
          intro cd s W W' row hs hg hr
          have hr' := fun r e => (hr r e).2
          obtain ⟨⟨hcd, ini, last, e1, e2, e3, e4, e5, e6⟩, e7⟩ := hs
          exact ⟨⟨hcd, ini, last, e1, e2, e3, cell_kept e4 hg hr', cell_kept e5 hg hr', e6.kept hg (fun r e => Nat.le_trans hwr3 (hr r e).1)⟩, ownFrom_below (β := Unit) (Nat.le_refl _) hR3.size () W W' row e7 hg hr⟩
        case assign =>
          intro l x W K hK
          gi_wp2
          exact hK
        case body =>
          rintro l pre ⟨cd, br⟩ W ⟨⟨i1, ⟨i2, i3, i4, i5⟩, i6, i7⟩, i8⟩ _
          have I1 := Lib.hid i1
          have I7 := Lib.hid i7
          clear i1 i7
          cases br with
          | false =>
            gi_wp2
            exact ⟨KeepsOthers.refl _, Below.refl _ _, ⟨fun p hp => (List.mem_append.1 hp).elim (I1.out p) (fun e => by simp at e; subst e; rfl), ⟨i2, i3, i4, i5⟩, i6, I7.out⟩, i8⟩
          | true =>
            gi_wp2
            have hko : KeepsOthers W ((W.setCell ⟨w.heap.size, 0, none⟩ (.int .i64 cd)).setCell ⟨w.heap.size, 1, none⟩ (.int .i64 (k : Int))) := (KeepsOthers.setCell _ _ _).trans (KeepsOthers.setCell _ _ _)
            exact ⟨hko, ⟨rfl, pre, (cd, true), rfl, I1.out, rfl, (World.cell?_setCell_other _ _ _ _ (by simp)).trans (World.cell?_setCell_same' _ _ _ (by rw [i2]; rfl)),
              World.cell?_setCell_same' _ _ _ (by rw [World.cell?_setCell_other _ _ _ _ (by simp), i3]; rfl), I7.out.same (fun j _ hh => hko.same j _ hh rfl)⟩,
              (i8.setCell (p := ⟨w.heap.size, 0, none⟩) (Nat.le_refl _) _).setCell (p := ⟨w.heap.size, 1, none⟩) (Nat.le_refl _) _⟩
        case done =>
          rintro D ys W hD rfl ⟨⟨i1, ⟨i2, i3, i4, i5⟩, i6, i7⟩, i8⟩ hK
          have hff : faultAt fs k = 0 := faultAt_none Hx.out i1
          have hs2 : scanFault fs (n - (k + 1)) (k + 1) = scanFault fs n 0 := by rw [← Hs.out]; exact scan_next hlt hff
          have Hs2 := Lib.hid hs2
          have HM2 := Lib.hid (show Marks (w.heap.size + 1) W W.heap.size ({ target := .collected D, args := #[] } :: ds) from ⟨D, rfl, by omega, (Array.getElem?_eq_some_iff.1 hK).1, hK, i7.upto (by omega)⟩)
          have HR2 := Lib.hid (And.intro i2 (And.intro i3 (And.intro i4 i5)))
          have hRW : w.heap.size < W.heap.size := block_lt_of_cell i2
          clear i1 hK hs2 i7 hff i2 i3 i4 i5
          gi_wp2
          go_wp2
          exact ⟨⟨k + 1, _, _, _, _, _, _, _, _, _, _, _, _, _, _, _, _, _, _, _, _, _, _, _, _, _, _, _, rfl, by omega, Hs2, i8, hRW, HR2, HM2⟩, by simp [intOf]; omega⟩
        case stop =>
          rintro D cd pre W hD hpre ⟨⟨rfl, ini, last, rfl, e2, e3, e4, e5, e6⟩, e7⟩ hK
          obtain ⟨hf1, hf2⟩ := faultAt_some Hx.out hpre e2 e3
          have ht : tableFault fs = (last.1, (k : Int)) := by
            unfold tableFault
            rw [if_neg (by rw [hfs.out]; exact h100), hfs.out, ← Hs.out, scan_hit hlt (by rw [hf1]; exact hf2), hf1]
          have Ht := Lib.hid ht
          have HM2 := Lib.hid (show Marks (w.heap.size + 1) W W.heap.size ({ target := .collected D, args := #[] } :: ds) from ⟨D, rfl, by omega, (Array.getElem?_eq_some_iff.1 hK).1, hK, e6.upto (by omega)⟩)
          clear ht hK e6 hf1 hf2 hpre e2 e3
          gi_wp2
          refine leaves_marks (B := w.heap.size + 1) (fun W' => Below w.heap.size w W' ∧ W'.cell? ⟨w.heap.size, 0, none⟩ = some (.int .i64 last.1) ∧ W'.cell? ⟨w.heap.size, 1, none⟩ = some (.int .i64 (k : Int))) ?_ ?_ _ _ _ HM2.out ⟨e7, e4, e5⟩
          · rintro W' D' hD' hK' ⟨t1, t2, t3⟩
            exact ⟨t1.trans ((Below.refl _ _).grown (grownBy_putObj' W' D' _) t1.size (fun r e => by cases e; omega)), cell_kept t2 (grownBy_putObj' _ D' _) (fun r e => by cases e; exact ⟨_, hK', rfl⟩), cell_kept t3 (grownBy_putObj' _ D' _) (fun r e => by cases e; exact ⟨_, hK', rfl⟩)⟩
          · rintro W' ⟨t1, t2, t3⟩
            exact ⟨faultV (last.1, (k : Int)), by simp [results, Tryz.results23, go_sem, t2, t3], by rw [Ht.out], t1⟩
      · obtain rfl : k = n := by omega
        have ht : tableFault fs = (0, 0) := by
          unfold tableFault
          rw [if_neg (by rw [hfs.out]; exact h100), hfs.out, ← Hs.out, Nat.sub_self]; rfl
        have Ht := Lib.hid ht
        obtain ⟨e4, e5, e6, e7⟩ := HR.out
        clear ht hk hc h
        go_wp2
        have hko : KeepsOthers wr ((wr.setCell ⟨w.heap.size, 0, none⟩ (.int .i64 0)).setCell ⟨w.heap.size, 1, none⟩ (.int .i64 0)) := (KeepsOthers.setCell _ _ _).trans (KeepsOthers.setCell _ _ _)
        refine leaves_marks (B := w.heap.size + 1) (fun W' => Below w.heap.size w W' ∧ W'.cell? ⟨w.heap.size, 0, none⟩ = some (.int .i64 0) ∧ W'.cell? ⟨w.heap.size, 1, none⟩ = some (.int .i64 0)) ?_ ?_ _ wr.heap.size _ (HM.out.same (fun j _ hh => hko.same j _ hh rfl))
          ⟨(hbw.setCell (p := ⟨w.heap.size, 0, none⟩) (Nat.le_refl _) _).setCell (p := ⟨w.heap.size, 1, none⟩) (Nat.le_refl _) _,
            (World.cell?_setCell_other _ _ _ _ (by simp)).trans (World.cell?_setCell_same' _ _ _ (by rw [e4]; rfl)), World.cell?_setCell_same' _ _ _ (by rw [World.cell?_setCell_other _ _ _ _ (by simp), e5]; rfl)⟩
        · rintro W' D' hD' hK' ⟨t1, t2, t3⟩
          exact ⟨t1.trans ((Below.refl _ _).grown (grownBy_putObj' W' D' _) t1.size (fun r e => by cases e; omega)), cell_kept t2 (grownBy_putObj' _ D' _) (fun r e => by cases e; exact ⟨_, hK', rfl⟩), cell_kept t3 (grownBy_putObj' _ D' _) (fun r e => by cases e; exact ⟨_, hK', rfl⟩)⟩
        · rintro W' ⟨t1, t2, t3⟩
          exact ⟨faultV (0, 0), by simp [results, Tryz.results23, go_sem, t2, t3], by rw [Ht.out], t1⟩
end Go.Proofs.YtcngpciblbdgbaaGreatDoor
