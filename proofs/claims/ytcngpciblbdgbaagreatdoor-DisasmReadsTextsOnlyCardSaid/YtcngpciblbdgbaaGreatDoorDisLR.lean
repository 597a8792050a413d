/- Two rows of one's own, each to be appended one number by a literal of one cell, in whatever order. Conditions: the rows are apart. -/
import Derived.RangeFuncNested
import Derived.Test.YtcngpciblbdgbaaGreatDoorIsaE
import Derived.Test.YtcngpciblbdgbaaGreatDoorDisB
import Derived.RangeFuncBox
import Derived.Test.YtcngpciblbdgbaaGreatDoorDisM
import Derived.Deep.RegionHeld3
import Derived.Test.YtcngpciblbdgbaaGreatDoorIsaR
import Derived.Maps.AppendAt
import Derived.Deep.AppendLies
/-! A range over a function whose iterator writes its own variables and says of each value what holds in the world where it is given. Conditions: the iterator's steps turn no block but cells (its own), the caller's invariant abides them; a round keeps the blocks that the iterator names, which lie ahead of the loop. -/
namespace Go.Proofs.YtcngpciblbdgbaaGreatDoor
open Go Go.RowKit Go.Shelf
/-- the blocks that Z names lie as they lay, and no block has gone -/
structure KeepZ (Z : Nat → Prop) (A B : World) : Prop where
  size : A.heap.size ≤ B.heap.size
  blk : ∀ k, Z k → B.heap[k]? = A.heap[k]?
theorem KeepZ.refl (Z : Nat → Prop) (A : World) : KeepZ Z A A := ⟨Nat.le_refl _, fun _ _ => rfl⟩
theorem KeepZ.trans {Z : Nat → Prop} {A B C : World} (h : KeepZ Z A B) (k : KeepZ Z B C) : KeepZ Z A C := ⟨Nat.le_trans h.size k.size, fun i hi => (k.blk i hi).trans (h.blk i hi)⟩
theorem KeepZ.put {Z : Nat → Prop} (A : World) {l : Nat} (o : Obj) (h : ¬ Z l) : KeepZ Z A (A.putObj l o) := ⟨by simp [World.putObj], fun _ hk => World.putObj_heap_other (fun e => h (e ▸ hk))⟩
theorem KeepZ.below {Z : Nat → Prop} {B : Nat} {A C : World} (h : Below B A C) (hz : ∀ k, Z k → k < B) : KeepZ Z A C := ⟨h.size, fun k hk => h.block k (hz k hk)⟩
/-- all below B lies as it lay: a world that differs in its heap alone -/
theorem KeepZ.heap {Z : Nat → Prop} {B : Nat} {A C : World} (h : KeepZ Z A C) (hz : ∀ k, k < B → Z k) : Below B A { A with heap := C.heap } := ⟨rfl, rfl, rfl, h.size, fun k hk => h.blk k (hz k hk)⟩
/-- an iterator with steps of its own: V x W0 W1: x is given at W1, and the invariant held last at W0; Z x: the blocks that the round for x keeps -/
def SeqOwns {α : Type} (F : Fence) (n : Nat) (P : Program) (g : Nat) (lb : Array Value) (encs : α → Array Value) (Z : α → Nat → Prop) (Own : World → World → Prop) (V : α → World → World → Prop) (S Sp : List α → Prop) (N : Nat) (w : World) : Prop :=
  ∀ (l : Nat) (J Jx : List α → World → Prop) (W : World), Below w.heap.size w W → (∀ s A B, J s A → Own A B → J s B) → (∀ s A B, Jx s A → Own A B → Jx s B) →
    (∀ pre x W0 W1, J pre W0 → J pre W1 → V x W0 W1 → pre.length < N → YieldAt F (n - 1) P l (encs x) W1 fun e W' =>
      (e = .returned (.bool true) ∧ J (pre ++ [x]) W' ∧ KeepZ (Z x) W1 W') ∨ (e = .returned (.bool false) ∧ Jx (pre ++ [x]) W')) →
    J [] W →
    CallsIn F n P g (#[.func (.yield l) #[] #[]] ++ lb) W fun e W' => (∃ v, e = .returned v) ∧ ((∃ xs, S xs ∧ J xs W') ∨ (∃ pre, Sp pre ∧ Jx pre W'))
/-- the two blocks that the loop lays for itself, L and the next one -/
def Book (L : Nat) (r : Loop) (W : World) : Prop := W.heap[L + 1]? = some (.loop r) ∧ W.heap[L]? = some (.deferred (some []))
theorem Book.others {L : Nat} {r : Loop} {A B : World} (h : Book L r A) (k : KeepsFrom L A B) : Book L r B := ⟨k.same _ _ (Nat.le_succ _) h.1 rfl, k.same _ _ (Nat.le_refl _) h.2 rfl⟩
theorem Book.put {L : Nat} {r r' : Loop} {A : World} (h : Book L r A) : Book L r' (A.putObj (L + 1) (.loop r')) :=
  ⟨World.putObj_heap_same (Array.getElem?_eq_some_iff.1 h.1).1, (World.putObj_heap_other (by omega)).trans h.2⟩
theorem book_put {α : Type} {L : Nat} {I : List α → World → Prop} (hI : OwnFrom L I) {s : List α} {A : World} {r r' : Loop} (h : Book L r A) (hs : I s A) : I s (A.putObj (L + 1) (.loop r')) :=
  hI.putObj _ hs (Nat.le_succ _) h.1 rfl
/-- how the body of a round may be left, at the loop's record r -/
def roundOwn {α : Type} (L : Nat) (r : Loop) (Zx : Nat → Prop) (I : List α → World → Prop) (Ix : Code → List α → World → Prop) (xs : List α) (W1 : World) : Exit → Act → World → Prop
  | .normal, _, W' => Book L r W' ∧ KeepZ Zx W1 W' ∧ I xs W'
  | .ret, _, W' => Book L r W' ∧ Ix .ret xs W'
  | .exit id, _, W' => Book L r W' ∧ Ix (.exit id) xs W'
  | .goto t, _, W' => Book L r W' ∧ Ix (.goto t) xs W'
  | .panic _, _, _ => False
  | .outgrown, _, _ => False
variable {F : Fence} {n : Nat} {P : Program}
theorem range_owns {α : Type} {g : Operand} {ps : Array Tmp} {assign body : Code} {Q : Exit → Act → World → Prop} {a : Act} {w : World}
    (hro : F.round = none) (h1 : 1 ≤ n) {gf : Nat} {lb : Array Value} (hg : a.eval g = .func (.func gf) #[] lb) (hFg : F.fn gf) (eg : ∀ args w, (callFunc gf args).run P w = .ok (.enter gf args) w)
    {encs : α → Array Value} {Z : α → Nat → Prop} {Own : World → World → Prop} {V : α → World → World → Prop} {S Sp : List α → Prop} {N : Nat} {w0 : World} (hseq : SeqOwns F (n - 1) P gf lb encs Z Own V S Sp N w0)
    (hOwn : ∀ A B, Own A B → KeepsFrom w.heap.size A B) (hZ : ∀ x W0 W1 k, V x W0 W1 → w.heap.size + 1 < W0.heap.size → Z x k → k ≠ w.heap.size + 1) (hb0 : Below w0.heap.size w0 w) (hps : ∀ x, (encs x).size = ps.size)
    (I : List α → World → Prop) (Ix : Code → List α → World → Prop) (hI : OwnFrom w.heap.size I) (hIx : ∀ c, OwnFrom w.heap.size (Ix c)) (hIo : ∀ s A B, I s A → Own A B → I s B) (hIxo : ∀ c s A B, Ix c s A → Own A B → Ix c s B) (h0 : I [] w)
    (hround : ∀ (l : Nat) (pre : List α) (x : α) (W0 W1 : World) (r r' : Loop), I pre W0 → I pre W1 → V x W0 W1 → Book w.heap.size r W0 → Book w.heap.size r W1 → pre.length < N →
      assign.wpIn (F.inRound l) (n - 1 - 1) P (Exit.then (fun a' W' => Book w.heap.size r W' ∧ body.wpIn (F.inRound l) (n - 1 - 1) P (roundOwn w.heap.size r' (Z x) I Ix (pre ++ [x]) W1) a' (W'.putObj (w.heap.size + 1) (.loop r'))) (fun _ _ _ => False))
        { tmps := (ps.zip (encs x)).foldl (fun t (p, v) => t.setIfInBounds p v) a.tmps, defers := [] } W1)
    (hdone : ∀ (D : Nat) (xs : List α) (W : World), w.heap.size ≤ D → S xs → I xs W → W.heap[D]? = some (.deferred (some [])) → Q .normal { a with defers := { target := .collected D, args := #[] } :: a.defers } W)
    (hstop : ∀ (D : Nat) (c : Code) (pre : List α) (W : World), w.heap.size ≤ D → Sp pre → Ix c pre W → W.heap[D]? = some (.deferred (some [])) → c.wpIn F n P Q { a with defers := { target := .collected D, args := #[] } :: a.defers } W) :
    (Code.rangeFunc g ps assign body).wpIn F n P Q a w := by
  refine wpIn_rangeFunc fun fn hfn => ?_
  rw [hro]
  generalize hL : w.heap.size = L at *
  obtain ⟨r0, hr0⟩ : ∃ r0 : LoopState → Option Code → Loop, r0 = fun st pe => { state := st, pending := pe, fn, tmps := a.tmps, params := ps, assign, body, defers := L } := ⟨_, rfl⟩
  obtain ⟨W1, hW1⟩ : ∃ W1, W1 = (w.alloc (.deferred (some []))).alloc (.loop (r0 .ready none)) := ⟨_, rfl⟩
  have hB1 : Book L (r0 .ready none) W1 := by
    have e1 := World.alloc_heap_new (w.alloc (.deferred (some []))) (.loop (r0 .ready none))
    rw [World.size_alloc, hL] at e1
    have e2 := World.alloc_heap_new w (.deferred (some []))
    rw [hL] at e2
    rw [hW1]
    exact ⟨e1, (Below.heap_alloc _ _ _ (by rw [World.size_alloc]; omega)).trans e2⟩
  have hI1 : I [] W1 := by rw [hW1]; exact hI.alloc _ (hI.alloc _ h0)
  have hb1 : Below w0.heap.size w0 W1 := by
    rw [hW1]
    exact hb0.trans ((((Below.refl _ w).alloc (Nat.le_refl _) _).alloc (by simp) _).mono hb0.size)
  refine ⟨L + 1, [{ target := .collected L, args := #[] }], W1, { target := .fn (.func gf) lb, args := #[.func (.yield (L + 1)) #[] #[]] }, W1, gf, #[.func (.yield (L + 1)) #[] #[]] ++ lb, W1, ?_, ?_, ?_, ?_, fun _ => h1, ?_⟩
  · rw [hW1, hr0, ← hL]; exact run_enterLoop_outer _ _ _ _ _
  · simp only [resolve, hg]
    simp [go_sem]
  · intro f' hf'
    simp [Target.leads] at hf'
    subst hf'
    exact hFg
  · simp [invoke, go_sem, eg]
  · refine (hseq (L + 1) (fun pre W => I pre W ∧ Book L (r0 .ready none) W) (fun pre W => ∃ c, Ix c pre W ∧ Book L (r0 .done (some c)) W) W1 hb1
      (fun s A B hs ho => ⟨hIo s A B hs.1 ho, hs.2.others (hOwn A B ho)⟩)
      (fun s A B hs ho => by obtain ⟨c, hc, hb⟩ := hs; exact ⟨c, hIxo c s A B hc ho, hb.others (hOwn A B ho)⟩) ?_ ⟨hI1, hB1⟩).mono ?_
    · rintro pre x W0 W ⟨hi0, hb0'⟩ ⟨hi, hb⟩ hv hlen
      have hnz : ¬ Z x (L + 1) := fun h => hZ x W0 W _ hv (Array.getElem?_eq_some_iff.1 hb0'.1).1 h rfl
      have hy := run_yield (P := P) (args := encs x) hb.1 (by rw [hr0]; exact hps x)
      rw [hr0] at hy
      refine ⟨fn, _, assign, body, hy, roundIn_of_wpIn hfn (wpIn_mono (hround (L + 1) pre x W0 W (r0 .ready none) { r0 .ready none with state := .busy } hi0 hi hv hb0' hb hlen) ?_)⟩
      have fin : ∀ (jump : Option Code) (W3 : World), Book L { r0 .ready none with state := .busy } W3 →
          (Instr.endRound (L + 1) jump).run P W3 = .ok (.bool jump.isNone) (W3.putObj (L + 1) (.loop (r0 (if jump.isNone then .ready else .done) jump))) := fun jump W3 hb3 => by
        have := run_endRound (P := P) jump hb3.1
        rw [hr0] at this ⊢
        exact this
      rintro e a' W' hp
      cases e with
      | normal =>
        obtain ⟨hb2, hbody⟩ := hp
        have hbeg := run_beginRound (P := P) hb2.1 (by rw [hr0])
        refine ⟨_, hbeg, wpIn_mono hbody ?_⟩
        rintro e a3 W3 hp
        cases e with
        | normal =>
          obtain ⟨hb3, hz3, hi3⟩ := hp
          exact ⟨_, _, fin none W3 hb3, .inl ⟨rfl, ⟨book_put hI hb3 hi3, hb3.put⟩, hz3.trans (KeepZ.put W3 _ hnz)⟩⟩
        | ret =>
          obtain ⟨hb3, hi3⟩ := hp
          exact ⟨_, _, fin (some .ret) W3 hb3, .inr ⟨rfl, .ret, book_put (hIx _) hb3 hi3, hb3.put⟩⟩
        | exit id =>
          obtain ⟨hb3, hi3⟩ := hp
          exact ⟨_, _, fin (some (.exit id)) W3 hb3, .inr ⟨rfl, .exit id, book_put (hIx _) hb3 hi3, hb3.put⟩⟩
        | goto t =>
          obtain ⟨hb3, hi3⟩ := hp
          exact ⟨_, _, fin (some (.goto t)) W3 hb3, .inr ⟨rfl, .goto t, book_put (hIx _) hb3 hi3, hb3.put⟩⟩
        | panic ch => exact hp.elim
        | outgrown => exact hp.elim
      | ret => exact hp.elim
      | exit id => exact hp.elim
      | goto t => exact hp.elim
      | panic ch => exact hp.elim
      | outgrown => exact hp.elim
    · rintro e W2 ⟨⟨v, rfl⟩, (⟨xs, hS, hi, hb⟩ | ⟨pre, hSp, c, hi, hb⟩)⟩
      · have hend := run_endLoop (P := P) hb.1 (by rw [hr0]; simp)
        have hp : Book L { r0 .ready none with state := .exhausted } (W2.putObj (L + 1) (.loop { r0 .ready none with state := .exhausted })) := hb.put
        rw [hr0] at hend
        refine ⟨none, _, hend, ?_⟩
        have hq := hdone L xs _ (Nat.le_refl _) hS (book_put hI hb hi) hp.2
        rw [hr0] at hq
        exact hq
      · have hend := run_endLoop (P := P) hb.1 (by rw [hr0]; simp)
        have hp : Book L { r0 .done (some c) with state := .exhausted } (W2.putObj (L + 1) (.loop { r0 .done (some c) with state := .exhausted })) := hb.put
        rw [hr0] at hend
        refine ⟨some c, _, hend, ?_⟩
        have hq := hstop L c pre _ (Nat.le_refl _) hSp (book_put (hIx c) hb hi) hp.2
        rw [hr0] at hq
        exact hq
end Go.Proofs.YtcngpciblbdgbaaGreatDoor

/-! The iterator over the instructions of code, for a range over it. Conditions: a valid table that reads as forms, code of at most 1500 bytes that reads as bytes. -/
namespace Go.Proofs.YtcngpciblbdgbaaGreatDoor
open Go Go.RowKit Go.Shelf
attribute [local go_sem] Oper.semAt_some
/-- what the iterator gives: an instruction at an offset (R: where its arguments lie), or a fault at an offset; Y: where the iterator's own variables lie -/
inductive Item where
  | ok (a k : Nat) (f : Frm) (xs : List Int) (R Y : Nat)
  | bad (a Y : Nat)
/-- the same, without the places -/
inductive Core where
  | ok (a k : Nat) (f : Frm) (xs : List Int)
  | bad (a : Nat)
def Item.core : Item → Core
  | .ok a k f xs _ _ => .ok a k f xs
  | .bad a _ => .bad a
def Item.box : Item → Nat
  | .ok _ _ _ _ _ Y => Y
  | .bad _ Y => Y
def encI : Item → Array Value
  | .ok a k f _ R _ => #[.agg #[.int .i64 (a : Int), .int .i64 (sizeOf f.kinds : Nat), .int .i64 (k : Int), .slice (some ⟨R, 0, none⟩) f.kinds.length f.kinds.length], faultV (0, 0)]
  | .bad a _ => #[noLoc, faultV (17, (a : Int))]
def argsAt : Item → World → Prop
  | .ok _ _ f xs R _, W => W.ownsRow 0 3 1 (.slice (some ⟨R, 0, none⟩) f.kinds.length f.kinds.length) f.kinds.length (iv xs)
  | .bad _ _, _ => True
def VItem (x : Item) (W0 W1 : World) : Prop := Below W0.heap.size W0 W1 ∧ W0.heap.size ≤ x.box ∧ argsAt x W1 ∧ x.box + 1 < W1.heap.size
def ZIns (B c : Nat) (k : Nat) : Prop := k < B ∨ k = c ∨ k = c + 1
def ZItem (B c : Nat) (x : Item) (k : Nat) : Prop := ZIns B c k ∨ k = x.box ∨ k = x.box + 1
def OwnIns (A B : World) : Prop := Below A.heap.size A B
open Classical in
/-- the instructions of l from offset a on; n: at most so many -/
noncomputable def listing (fs : List Frm) (l : List UInt8) : Nat → Nat → List Core
  | 0, _ => []
  | n + 1, a => if a < l.length then (if h : ∃ p : Nat × Frm × List Int, GoodAt fs (l.drop a) p.1 p.2.1 p.2.2 then
      .ok a (Classical.choose h).1 (Classical.choose h).2.1 (Classical.choose h).2.2 :: listing fs l n (a + sizeOf (Classical.choose h).2.1.kinds) else [.bad a]) else []
theorem good_same {fs : List Frm} {l : List UInt8} {k k' : Nat} {f f' : Frm} {xs xs' : List Int} (h : GoodAt fs l k f xs) (h' : GoodAt fs l k' f' xs') : k = k' ∧ f = f' ∧ xs = xs' := by
  obtain ⟨a1, a2, -, a4, -⟩ := h
  obtain ⟨b1, b2, -, b4, -⟩ := h'
  rw [a1] at b1
  have hk : k = k' := by omega
  subst hk
  rw [a2] at b2
  injection b2 with hf
  subst hf
  exact ⟨rfl, rfl, a4.trans b4.symm⟩
theorem listing_end {fs : List Frm} {l : List UInt8} {n a : Nat} (h : ¬ a < l.length) : listing fs l n a = [] := by
  cases n with
  | zero => rfl
  | succ n => unfold listing; rw [if_neg h]
theorem listing_bad {fs : List Frm} {l : List UInt8} {n a : Nat} (h : a < l.length) (hn : l.length ≤ a + n) (hno : ¬ ∃ k f xs, GoodAt fs (l.drop a) k f xs) : listing fs l n a = [.bad a] := by
  cases n with
  | zero => omega
  | succ n =>
    unfold listing
    rw [if_pos h, dif_neg (fun ⟨p, hp⟩ => hno ⟨_, _, _, hp⟩)]
theorem size_pos (ks : List Int) : 1 ≤ sizeOf ks := by unfold sizeOf; omega
theorem listing_ok {fs : List Frm} {l : List UInt8} {n a k : Nat} {f : Frm} {xs : List Int} (h : a < l.length) (hn : l.length ≤ a + n) (hg : GoodAt fs (l.drop a) k f xs) :
    ∃ n', listing fs l n a = .ok a k f xs :: listing fs l n' (a + sizeOf f.kinds) ∧ l.length ≤ a + sizeOf f.kinds + n' ∧ a + sizeOf f.kinds ≤ l.length ∧ 1 ≤ sizeOf f.kinds := by
  cases n with
  | zero => omega
  | succ n =>
    have hs := size_pos f.kinds
    have hr := hg.2.2.1
    rw [List.length_drop] at hr
    refine ⟨n, ?_, by omega, by omega, hs⟩
    have hex : ∃ p : Nat × Frm × List Int, GoodAt fs (l.drop a) p.1 p.2.1 p.2.2 := ⟨(k, f, xs), hg⟩
    obtain ⟨e1, e2, e3⟩ := good_same (Classical.choose_spec hex) hg
    show (if a < l.length then _ else _) = _
    rw [if_pos h, dif_pos hex, e1, e2, e3]
structure InsAt (B c : Nat) (v cv : Value) (fs : List Frm) (l : List UInt8) (w : World) : Prop where
  tab : Boxed w c 22 v
  code : Boxed w (c + 1) 23 cv
  forms : FormsAt B w v fs
  bytes : BytesAt B w cv l
  low : B ≤ c
theorem InsAt.keep {B c : Nat} {v cv : Value} {fs : List Frm} {l : List UInt8} {w w' : World} (h : InsAt B c v cv fs l w) (k : KeepZ (ZIns B c) w w') : InsAt B c v cv fs l w' :=
  have hb := k.heap (fun _ h => .inl h)
  ⟨(k.blk c (.inr (.inl rfl))).trans h.tab, (k.blk (c + 1) (.inr (.inr rfl))).trans h.code, (show FormsAt B { w with heap := w'.heap } v fs from h.forms.below hb), (show BytesAt B { w with heap := w'.heap } cv l from h.bytes.below hb), h.low⟩
theorem InsAt.own {B c : Nat} {v cv : Value} {fs : List Frm} {l : List UInt8} {w w' : World} (h : InsAt B c v cv fs l w) (hb : Below w.heap.size w w') : InsAt B c v cv fs l w' :=
  h.keep (KeepZ.below hb fun k hk => by
    have h1 := h.code.lt
    have h2 := h.low
    rcases hk with hk | rfl | rfl <;> omega)
theorem InsAt.big {B c : Nat} {v cv : Value} {fs : List Frm} {l : List UInt8} {w : World} (h : InsAt B c v cv fs l w) : B ≤ w.heap.size := by
  have h1 := h.code.lt
  have h2 := h.low
  omega
theorem keepZ_sub {Z Z' : Nat → Prop} {A B : World} (h : KeepZ Z A B) (hz : ∀ k, Z' k → Z k) : KeepZ Z' A B := ⟨h.size, fun k hk => h.blk k (hz k hk)⟩
theorem at_sum {a z n : Nat} (h : a + z ≤ n) (hn : n ≤ 1500) : wrap64 ((a : Int) + (z : Int)) = (a : Int) + (z : Int) := IntWalk.wrap64_in _ (by omega)
theorem at_less {a z n : Nat} (hz : 1 ≤ z) (h : a + z ≤ n) : n - ((a : Int) + (z : Int)).toNat < n - (a : Int).toNat := by omega
/-- the world where the iterator gives a value: its two variables lie behind what decode made -/
def itW (W : World) (x1 x2 x3 x4 : Value) (p i : Int) : World := (W.alloc (.cells #[x1, x2, x3, x4] 41)).alloc (.cells #[.int .i64 p, .int .i64 i] 27)
theorem itW_below {w W : World} (h : Below w.heap.size w W) (x1 x2 x3 x4 : Value) (p i : Int) : Below w.heap.size w (itW W x1 x2 x3 x4 p i) := h.trans ((two_more W _ _).mono h.size)
theorem itW_cells (W : World) (x1 x2 x3 x4 : Value) (p i : Int) : (itW W x1 x2 x3 x4 p i).cell? ⟨W.heap.size, 0, none⟩ = some x1 ∧ (itW W x1 x2 x3 x4 p i).cell? ⟨W.heap.size, 1, none⟩ = some x2 ∧ (itW W x1 x2 x3 x4 p i).cell? ⟨W.heap.size, 2, none⟩ = some x3 ∧ (itW W x1 x2 x3 x4 p i).cell? ⟨W.heap.size, 3, none⟩ = some x4 ∧
    (itW W x1 x2 x3 x4 p i).cell? ⟨W.heap.size + 1, 0, none⟩ = some (.int .i64 p) ∧ (itW W x1 x2 x3 x4 p i).cell? ⟨W.heap.size + 1, 1, none⟩ = some (.int .i64 i) := by
  have b := one_more (W.alloc (.cells #[x1, x2, x3, x4] 41)) (.cells #[.int .i64 p, .int .i64 i] 27)
  have hl : W.heap.size < (W.alloc (.cells #[x1, x2, x3, x4] 41)).heap.size := by simp
  have t := Two.new (W.alloc (.cells #[x1, x2, x3, x4] 41)) (.int .i64 p) (.int .i64 i) 27
  rw [World.size_alloc] at t
  refine ⟨(b.cell (p := ⟨W.heap.size, 0, none⟩) hl).trans (by simp), (b.cell (p := ⟨W.heap.size, 1, none⟩) hl).trans (by simp), (b.cell (p := ⟨W.heap.size, 2, none⟩) hl).trans (by simp), (b.cell (p := ⟨W.heap.size, 3, none⟩) hl).trans (by simp), t.1, t.2.1⟩
set_option maxRecDepth 100000 in
set_option maxHeartbeats 2000000 in
theorem instr1_in (n : Nat) (hn : 2 ≤ n) (lp B c : Nat) (v cv : Value) (fs : List Frm) (l : List UInt8) (ht : tableFault fs = (0, 0)) (h15 : l.length ≤ 1500) (J Jx : List Item → World → Prop)
    (W : World) (hJ : ∀ s A C, J s A → OwnIns A C → J s C)
    (hY : ∀ pre x W0 W1, J pre W0 → J pre W1 → VItem x W0 W1 → pre.length < (listing fs l l.length 0).length → YieldAt Fence.wide (n - 1) Tryz.prog lp (encI x) W1 fun e W' =>
      (e = .returned (.bool true) ∧ J (pre ++ [x]) W' ∧ KeepZ (ZItem B c x) W1 W') ∨ (e = .returned (.bool false) ∧ Jx (pre ++ [x]) W'))
    (h0 : J [] W) (hc : InsAt B c v cv fs l W) :
    CallsIn Fence.wide n Tryz.prog 38 #[.func (.yield lp) #[] #[], .pointer (some ⟨c + 1, 0, none⟩), .pointer (some ⟨c, 0, none⟩)] W fun e W' => (∃ v, e = .returned v) ∧
      ((∃ ys : List Item, ys.map Item.core = listing fs l l.length 0 ∧ J ys W') ∨ (∃ pre : List Item, pre.map Item.core <+: listing fs l l.length 0 ∧ Jx pre W')) := by
  obtain ⟨A2, n2, c2, rfl, hl2, -, -⟩ := hc.bytes.opens
  refine callsIn_of_wp Tryz.func38 rfl trivial ?_ rfl
  simp only [Tryz.ntmps38, List.size_toArray, List.length_cons, List.length_nil, Nat.reduceAdd, Nat.reduceSub, Array.replicate_succ, Array.replicate_zero, List.push_toArray, List.append_toArray, List.nil_append, List.cons_append]
  have hw : ∀ f, Fence.wide.fn f := fun _ => trivial
  have h1n : 1 ≤ n := by omega
  have Hc := Lib.hid hc
  have H15 := Lib.hid h15
  clear hc h15
  gi_wp2_with fail
  gi_loopw [4] (fun i wr => ∃ (pre : List Item) (a m : Nat), a ≤ n2 ∧ i = .int .i64 (a : Int) ∧ Hid (listing fs l l.length 0 = pre.map Item.core ++ listing fs l m a) ∧ Hid (l.length ≤ a + m) ∧ Hid (J pre wr) ∧ Hid (InsAt B c v (.slice A2 n2 c2) fs l wr)) (fun i _ => n2 - (intOf i).toNat)
  case atStart => exact ⟨[], 0, l.length, Nat.zero_le _, rfl, Lib.hid rfl, Lib.hid (by omega), Lib.hid h0, Hc⟩
  case round =>
    obtain ⟨pre, a, m, ha, rfl, HP, HM, HJ, HI⟩ := hrel
    have x1 := HI.out.code.cell
    have x2 := HI.out.tab.cell
    have z1 := HI.out.code.lt
    by_cases hlt : a < n2
    · have hal : a < l.length := by rw [hl2.out]; exact hlt
      by_cases hg : ∃ k f xs, GoodAt fs (l.drop a) k f xs
      · obtain ⟨k, f, xs, hg⟩ := hg
        have C := Lib.hid (disDec_ok B v _ fs l a k f xs wr HI.out.forms HI.out.bytes HI.out.big ht H15.out hal hg)
        obtain ⟨m', hm1, hm2, hm3, hm4⟩ := listing_ok hal HM.out hg
        have HP2 := HP.out
        rw [hm1] at HP2
        have HP3 := Lib.hid HP2
        have HM3 := Lib.hid hm2
        have HR := Lib.hid hm3
        have HS := Lib.hid hm4
        clear hg HP2 hm1 hm2 hm3 hm4 hal
        gi_wp2_with fail
        refine (callsIn_wide.2 C.out).mono ?_
        rintro e W1 ⟨R, rfl, hk1, hb1⟩
        obtain ⟨W4, hW4⟩ : ∃ W4, W4 = itW W1 (.int .i64 (a : Int)) (.int .i64 (sizeOf f.kinds : Nat)) (.int .i64 (k : Int)) (.slice (some ⟨R, 0, none⟩) f.kinds.length f.kinds.length) 0 0 := ⟨_, rfl⟩
        have hb4 : Below wr.heap.size wr W4 := by rw [hW4]; exact itW_below hb1 _ _ _ _ _ _
        have hk4 : W4.ownsRow 0 3 1 (.slice (some ⟨R, 0, none⟩) f.kinds.length f.kinds.length) f.kinds.length (iv xs) := by
          rw [hW4]
          exact row_below hk1 (two_more W1 _ _)
        obtain ⟨y0, y1, y2, y3, f0, f1⟩ := itW_cells W1 (.int .i64 (a : Int)) (.int .i64 (sizeOf f.kinds : Nat)) (.int .i64 (k : Int)) (.slice (some ⟨R, 0, none⟩) f.kinds.length f.kinds.length) 0 0
        rw [← hW4] at y0 y1 y2 y3 f0 f1
        have zz1 := block_lt_of_cell y0
        have zz2 := block_lt_of_cell f0
        obtain ⟨g1, t1, a1, b1, hy1, hR1⟩ := hY pre (.ok a k f xs R W1.heap.size) wr W4 HJ.out (hJ _ _ _ HJ.out hb4) ⟨hb4, hb1.size, hk4, zz2⟩ (by rw [HP3.out]; simp)
        dsimp only [encI] at hy1
        have HI4 := Lib.hid (HI.out.own hb4)
        have Hr1 := Lib.hid hR1
        have Y1 := Lib.hid y1
        have F0 := Lib.hid f0
        have F1 := Lib.hid f1
        have HW4 : ((W1.alloc (.cells #[.int .i64 (a : Int), .int .i64 (sizeOf f.kinds : Nat), .int .i64 (k : Int), .slice (some ⟨R, 0, none⟩) f.kinds.length f.kinds.length] 41)).alloc (.cells #[.int .i64 0, .int .i64 0] 27)) = W4 := hW4.symm
        have HWW := Lib.hid HW4
        have HY1 := Lib.hid (show (Instr.yield lp #[.agg #[.int .i64 (a : Int), .int .i64 (sizeOf f.kinds : Nat), .int .i64 (k : Int), .slice (some ⟨R, 0, none⟩) f.kinds.length f.kinds.length], .agg #[.int .i64 0, .int .i64 0]]).run Tryz.prog W4 = _ from hy1)
        clear hR1 hb4 hk4 hb1 hk1 hW4 x1 x2 z1 HW4 hy1
        gi_wp2
        rw [HWW.out, HY1.out, Oper.uponIn_round]
        refine ⟨fun h => (by cases h), ?_⟩
        refine Hr1.out.mono ?_
        clear Hr1 HY1 y0 y1 y2 y3 f0 f1
        rintro e W5 (⟨rfl, hJ5, hk5⟩ | ⟨rfl, hx5⟩)
        · have HI5 := Lib.hid (HI4.out.keep (keepZ_sub hk5 fun _ h => .inl h))
          have HJ5 := Lib.hid hJ5
          have v1 : W5.cell? ⟨W1.heap.size, 1, none⟩ = some (.int .i64 (sizeOf f.kinds : Nat)) := (World.cell?_of_block (a := ⟨W1.heap.size, 1, none⟩) (hk5.blk _ (.inr (.inl rfl)))).trans Y1.out
          have u0 : W5.cell? ⟨W1.heap.size + 1, 0, none⟩ = some (.int .i64 0) := (World.cell?_of_block (a := ⟨W1.heap.size + 1, 0, none⟩) (hk5.blk _ (.inr (.inr rfl)))).trans F0.out
          have u1 : W5.cell? ⟨W1.heap.size + 1, 1, none⟩ = some (.int .i64 0) := (World.cell?_of_block (a := ⟨W1.heap.size + 1, 1, none⟩) (hk5.blk _ (.inr (.inr rfl)))).trans F1.out
          have vz := block_lt_of_cell v1
          have uz := block_lt_of_cell u0
          have hsum := at_sum (by rw [← hl2.out]; exact HR.out) (show n2 ≤ 1500 by rw [← hl2.out]; exact H15.out)
          clear hJ5 hk5
          gi_wp2
          rw [hsum]
          go_roundw
          case rel =>
            refine ⟨pre ++ [.ok a k f xs R W1.heap.size], a + sizeOf f.kinds, m', by rw [← hl2.out]; exact HR.out, by rw [Int.natCast_add], Lib.hid ?_, HM3, HJ5, HI5⟩
            rw [HP3.out]
            simp [Item.core]
          case measure => exact at_less HS.out (by rw [← hl2.out]; exact HR.out)
        · gi_wp2
          refine bodyPost_ret (results_none rfl _ _ _) rfl ⟨⟨_, rfl⟩, .inr ⟨_, ?_, hx5⟩⟩
          rw [HP3.out]
          exact ⟨listing fs l m' (a + sizeOf f.kinds), by simp [Item.core]⟩
      · have C := Lib.hid (disDec_no B v _ fs l a wr HI.out.forms HI.out.bytes HI.out.big ht H15.out hal hg)
        have HP2 := HP.out
        rw [show listing fs l m a = [.bad a] from listing_bad hal HM.out hg] at HP2
        have HP3 := Lib.hid HP2
        clear hg HP2 hal
        gi_wp2_with fail
        refine (callsIn_wide.2 C.out).mono ?_
        rintro e W1 ⟨rfl, hb1⟩
        obtain ⟨W4, hW4⟩ : ∃ W4, W4 = itW W1 (.int .i64 0) (.int .i64 0) (.int .i64 0) (.slice none 0 0) 17 (a : Int) := ⟨_, rfl⟩
        have hb4 : Below wr.heap.size wr W4 := by rw [hW4]; exact itW_below hb1 _ _ _ _ _ _
        obtain ⟨y0, y1, y2, y3, f0, f1⟩ := itW_cells W1 (.int .i64 0) (.int .i64 0) (.int .i64 0) (.slice none 0 0) 17 (a : Int)
        rw [← hW4] at y0 y1 y2 y3 f0 f1
        have zz1 := block_lt_of_cell y0
        have zz2 := block_lt_of_cell f0
        obtain ⟨g1, t1, a1, b1, hy1, hR1⟩ := hY pre (.bad a W1.heap.size) wr W4 HJ.out (hJ _ _ _ HJ.out hb4) ⟨hb4, hb1.size, trivial, zz2⟩ (by rw [HP3.out]; simp)
        dsimp only [encI] at hy1
        have Hr1 := Lib.hid hR1
        have F0 := Lib.hid f0
        have F1 := Lib.hid f1
        have HWW := Lib.hid (show ((W1.alloc (.cells #[.int .i64 0, .int .i64 0, .int .i64 0, .slice none 0 0] 41)).alloc (.cells #[.int .i64 17, .int .i64 (a : Int)] 27)) = W4 from hW4.symm)
        have HY1 := Lib.hid (show (Instr.yield lp #[.agg #[.int .i64 0, .int .i64 0, .int .i64 0, .slice none 0 0], .agg #[.int .i64 17, .int .i64 (a : Int)]]).run Tryz.prog W4 = _ from hy1)
        clear hR1 hb4 hb1 hW4 x1 x2 z1 hy1
        gi_wp2
        rw [HWW.out, HY1.out, Oper.uponIn_round]
        refine ⟨fun h => (by cases h), ?_⟩
        refine Hr1.out.mono ?_
        clear Hr1 HY1 y0 y1 y2 y3 f0 f1
        rintro e W5 (⟨rfl, hJ5, hk5⟩ | ⟨rfl, hx5⟩)
        · have HJ5 := Lib.hid hJ5
          have u0 : W5.cell? ⟨W1.heap.size + 1, 0, none⟩ = some (.int .i64 17) := (World.cell?_of_block (a := ⟨W1.heap.size + 1, 0, none⟩) (hk5.blk _ (.inr (.inr rfl)))).trans F0.out
          have u1 : W5.cell? ⟨W1.heap.size + 1, 1, none⟩ = some (.int .i64 (a : Int)) := (World.cell?_of_block (a := ⟨W1.heap.size + 1, 1, none⟩) (hk5.blk _ (.inr (.inr rfl)))).trans F1.out
          have uz := block_lt_of_cell u0
          clear hJ5 hk5
          gi_wp2
          refine bodyPost_ret (results_none rfl _ _ _) rfl ⟨⟨_, rfl⟩, .inl ⟨_, ?_, HJ5.out⟩⟩
          rw [HP3.out]
          simp [Item.core]
        · gi_wp2
          refine bodyPost_ret (results_none rfl _ _ _) rfl ⟨⟨_, rfl⟩, .inr ⟨_, ?_, hx5⟩⟩
          rw [HP3.out]
          exact ⟨[], by simp [Item.core]⟩
    · obtain rfl : a = n2 := Nat.le_antisymm ha (Nat.not_lt.1 hlt)
      have HE := HP.out
      rw [show listing fs l m a = [] from listing_end (by rw [hl2.out]; exact hlt), List.append_nil] at HE
      have HE2 := Lib.hid HE
      clear HE
      gi_wp2
      go_end0
      exact ⟨⟨_, rfl⟩, .inl ⟨_, HE2.out.symm, HJ.out⟩⟩
/-- the iterator, for a range over it -/
theorem instr_owns (n : Nat) (hn : 2 ≤ n) (B c : Nat) (v cv : Value) (fs : List Frm) (l : List UInt8) (ht : tableFault fs = (0, 0)) (h15 : l.length ≤ 1500) (w : World) (hc : InsAt B c v cv fs l w) :
    SeqOwns Fence.wide n Tryz.prog 38 #[.pointer (some ⟨c + 1, 0, none⟩), .pointer (some ⟨c, 0, none⟩)] encI (ZItem B c) OwnIns VItem (fun xs => xs.map Item.core = listing fs l l.length 0) (fun pre => pre.map Item.core <+: listing fs l l.length 0) (listing fs l l.length 0).length w :=
  fun lp J Jx W hW hJ _ hY h0 => instr1_in n hn lp B c v cv fs l ht h15 J Jx W hJ hY h0 (hc.own hW)
/-- the world behind the call of instructions: the boxes of its two parameters -/
def insW (w : World) (v cv : Value) : World := (w.alloc (.cells #[v] 22)).alloc (.cells #[cv] 23)
theorem insW_below (w : World) (v cv : Value) : Below w.heap.size w (insW w v cv) := two_more w _ _
theorem insW_at {B : Nat} {w : World} {v cv : Value} {fs : List Frm} {l : List UInt8} (h : FormsAt B w v fs) (hl : BytesAt B w cv l) (hB : B ≤ w.heap.size) : InsAt B w.heap.size v cv fs l (insW w v cv) := by
  have e1 := Boxed.new w 22 v
  have e2 := Boxed.new (w.alloc (.cells #[v] 22)) 23 cv
  rw [World.size_alloc] at e2
  have hb := (insW_below w v cv).mono hB
  exact ⟨e1.alloc _, e2, h.below hb, hl.below hb, hB⟩
set_option maxHeartbeats 400000 in
theorem instructions_any (v cv : Value) (A : Option Addr) (n c : Nat) (A2 : Option Addr) (n2 c2 : Nat) (hv : v = .slice A n c) (hcv : cv = .slice A2 n2 c2) (w : World) : Calls Tryz.prog 24 #[v, cv] w fun e w' => e = .returned (.func (.func 38) #[] #[.pointer (some ⟨w.heap.size + 1, 0, none⟩), .pointer (some ⟨w.heap.size, 0, none⟩)]) ∧ w' = insW w v cv := by
  subst hv
  subst hcv
  go_enter Tryz.func24, Tryz.ntmps24
  go_wp2
  refine bodyPost_ret (v := .func (.func 38) #[] #[.pointer (some ⟨w.heap.size + 1, 0, none⟩), .pointer (some ⟨w.heap.size, 0, none⟩)]) ?_ rfl ⟨rfl, rfl⟩
  simp [results, Tryz.results24, go_sem]
end Go.Proofs.YtcngpciblbdgbaaGreatDoor

/-! Plain mathematics of a listing: a fault stands at its end alone; where each instruction begins. Conditions: none but those named. -/
namespace Go.Proofs.YtcngpciblbdgbaaGreatDoor
open Go Go.RowKit Go.Shelf
def Core.isBad : Core → Bool
  | .ok .. => false
  | .bad _ => true
def Core.place : Core → Nat
  | .ok a .. => a
  | .bad a => a
theorem listing_cases (fs : List Frm) (l : List UInt8) (n a : Nat) (hn : l.length ≤ a + n) : (¬ a < l.length ∧ listing fs l n a = []) ∨ (a < l.length ∧ (¬ ∃ k f xs, GoodAt fs (l.drop a) k f xs) ∧ listing fs l n a = [.bad a]) ∨
    ∃ k f xs n', GoodAt fs (l.drop a) k f xs ∧ a < l.length ∧ listing fs l n a = .ok a k f xs :: listing fs l n' (a + sizeOf f.kinds) ∧ l.length ≤ a + sizeOf f.kinds + n' ∧ a + sizeOf f.kinds ≤ l.length ∧ 1 ≤ sizeOf f.kinds := by
  by_cases h : a < l.length
  · by_cases hg : ∃ k f xs, GoodAt fs (l.drop a) k f xs
    · obtain ⟨k, f, xs, hg⟩ := hg
      obtain ⟨n', h1, h2, h3, h4⟩ := listing_ok h hn hg
      exact .inr (.inr ⟨k, f, xs, n', hg, h, h1, h2, h3, h4⟩)
    · exact .inr (.inl ⟨h, hg, listing_bad h hn hg⟩)
  · exact .inl ⟨h, listing_end h⟩
/-- behind a fault nothing stands -/
theorem listing_last (fs : List Frm) (l : List UInt8) : ∀ (pre : List Core) (n a : Nat) (c : Core) (r : List Core), l.length ≤ a + n → listing fs l n a = pre ++ c :: r → c.isBad = true → r = [] := by
  intro pre
  induction pre with
  | nil =>
    intro n a c r hn h hc
    rcases listing_cases fs l n a hn with ⟨-, e⟩ | ⟨-, -, e⟩ | ⟨k, f, xs, n', -, -, e, -⟩
    · rw [e] at h; cases h
    · rw [e] at h
      injection h with h1 h2
      exact h2.symm
    · rw [e] at h
      injection h with h1 h2
      subst h1
      cases hc
  | cons x pre ih =>
    intro n a c r hn h hc
    rcases listing_cases fs l n a hn with ⟨-, e⟩ | ⟨-, -, e⟩ | ⟨k, f, xs, n', -, -, e, hn', -⟩
    · rw [e] at h; cases h
    · rw [e] at h
      injection h with h1 h2
      exact absurd h2 (by simp)
    · rw [e] at h
      injection h with h1 h2
      exact ih n' _ c r hn' h2 hc
/-- no more instructions than bytes -/
theorem listing_len (fs : List Frm) (l : List UInt8) : ∀ (n a : Nat), (listing fs l n a).length ≤ n
  | 0, _ => Nat.le_refl _
  | n + 1, a => by
    unfold listing
    split
    · split
      · have := listing_len fs l n
        simp only [List.length_cons]
        exact Nat.succ_le_succ (this _)
      · simp
    · simp
end Go.Proofs.YtcngpciblbdgbaaGreatDoor

/-! Contract of All for a valid table and code that is short enough. Conditions: the table reads as forms, the code as bytes. -/
namespace Go.Proofs.YtcngpciblbdgbaaGreatDoor
open Go Go.RowKit Go.Shelf
attribute [local go_sem] Oper.semAt_some
theorem infoLoc : (Tryz.prog.info? 41).map (fun i => (i.zero, i.size, i.bytes)) = some (some (.agg #[.int .i64 0, .int .i64 0, .int .i64 0, .slice none 0 0]), 4, 48) := by kernel_rfl
/-- the cells of an instruction in the list -/
def locC : Item → List Value
  | .ok a k f _ R _ => [.int .i64 (a : Int), .int .i64 (sizeOf f.kinds : Nat), .int .i64 (k : Int), .slice (some ⟨R, 0, none⟩) f.kinds.length f.kinds.length]
  | .bad _ _ => []
def isOk : Item → Bool
  | .ok .. => true
  | .bad .. => false
def locs (xs : List Item) : List Value := xs.flatMap locC
theorem locs_snoc (xs : List Item) (x : Item) : locs (xs ++ [x]) = locs xs ++ locC x := by simp [locs]
/-- block b is a box of a fault -/
def FBox (W : World) (b : Nat) (x y : Value) : Prop := W.heap[b]? = some (.cells #[x, y] 27 (0, 0))
theorem FBox.lt {W : World} {b : Nat} {x y : Value} (h : FBox W b x y) : b < W.heap.size := (Array.getElem?_eq_some_iff.1 h).1
theorem FBox.two {W : World} {b : Nat} {x y : Value} (h : FBox W b x y) : Two W b x y := ⟨by simp [World.cell?, show W.heap[b]? = _ from h], by simp [World.cell?, show W.heap[b]? = _ from h], by simp [World.frozen?, show W.heap[b]? = _ from h], by simp [World.frozen?, show W.heap[b]? = _ from h]⟩
theorem FBox.kept {W W' : World} {b : Nat} {x y : Value} {row : Option Nat} (h : FBox W b x y) (hg : W.grownBy W' row) (hne : some b ≠ row) : FBox W' b x y := (hg.block b h.lt hne).trans h
theorem FBox.below {W W' : World} {b : Nat} {x y : Value} (h : FBox W b x y) (hb : Below W.heap.size W W') : FBox W' b x y := (hb.block b h.lt).trans h
theorem FBox.far {W : World} {b : Nat} {x y : Value} {row : Option Nat} (h : FBox W b x y) (hr : ∀ r, row = some r → ∃ o : Obj, W.heap[r]? = some o ∧ o.isCells = false) : some b ≠ row := fun e => by
  obtain ⟨o, ho, hc⟩ := hr b e.symm
  rw [show W.heap[b]? = _ from h] at ho
  injection ho with ho
  subst ho
  cases hc
theorem fbox_one {W : World} {b : Nat} {x y : Value} (h : FBox W b x y) (u0 : Value) : FBox (W.setCell ⟨b, 0, none⟩ u0) b u0 y := by
  obtain ⟨hlt, hk⟩ := Array.getElem?_eq_some_iff.1 h
  show (W.heap.modify b _)[b]? = _
  rw [Array.getElem?_eq_getElem (by rw [Array.size_modify]; exact hlt), Array.getElem_modify_self, hk]
  rfl
theorem fbox_next {W : World} {b : Nat} {x y : Value} (h : FBox W b x y) (u1 : Value) : FBox (W.setCell ⟨b, 1, none⟩ u1) b x u1 := by
  obtain ⟨hlt, hk⟩ := Array.getElem?_eq_some_iff.1 h
  show (W.heap.modify b _)[b]? = _
  rw [Array.getElem?_eq_getElem (by rw [Array.size_modify]; exact hlt), Array.getElem_modify_self, hk]
  rfl
theorem FBox.set {W : World} {b : Nat} {x y : Value} (h : FBox W b x y) (u0 u1 : Value) : FBox ((W.setCell ⟨b, 0, none⟩ u0).setCell ⟨b, 1, none⟩ u1) b u0 u1 := fbox_next (fbox_one h u0) u1
/-- what holds of the list collected so far: N: where the results' boxes lie; Y: the list's box -/
structure Lst (N Y : Nat) (w : World) (pre : List Item) (W : World) : Prop where
  res : Boxed W N 25 (.slice none 0 0)
  fault : FBox W (N + 1) (.int .i64 0) (.int .i64 0)
  row : ∃ lv, Boxed W Y 25 lv ∧ W.ownsRow (Y + 3) 41 4 lv pre.length (locs pre)
  args : ∀ x ∈ pre, argsAt x W ∧ isOk x = true
  low : Below N w W
  ahead : N + 1 < Y
theorem boxed_far {W : World} {b : Nat} {t : TypeId} {v : Value} {row : Option Nat} (h : Boxed W b t v) (hr : ∀ r, row = some r → ∃ o : Obj, W.heap[r]? = some o ∧ o.isCells = false) : some b ≠ row := fun e => by
  obtain ⟨o, ho, hc⟩ := hr b e.symm
  rw [show W.heap[b]? = _ from h] at ho
  injection ho with ho
  subst ho
  cases hc
theorem two_far {W W' : World} {R : Nat} {x y : Value} {row : Option Nat} (h : Two W R x y) (hg : W.grownBy W' row) (hr : ∀ r, row = some r → ∃ o : Obj, W.heap[r]? = some o ∧ o.isCells = false) : Two W' R x y :=
  ⟨cell_kept h.1 hg hr, cell_kept h.2.1 hg hr, (frozen_kept h.1 hg hr).trans h.2.2.1, (frozen_kept h.2.1 hg hr).trans h.2.2.2⟩
theorem rows_far {w : World} {base size n : Nat} {e : TypeId} {v : Value} {xs : List Value} {row : Option Nat} (hr : ∀ r, row = some r → ∃ o : Obj, w.heap[r]? = some o ∧ o.isCells = false) (h : w.ownsRow base e size v n xs) : v.ownBlock = none ∨ v.ownBlock ≠ row := by
  rcases h.2 with ⟨rfl, -⟩ | ⟨g, cap, cur, rfl, -, hg, -⟩
  · exact .inl rfl
  · refine .inr fun e' => ?_
    obtain ⟨o, ho, hc⟩ := hr g e'.symm
    rw [hg] at ho
    injection ho with ho
    subst ho
    cases hc
theorem argsAt_far {x : Item} {W W' : World} {row : Option Nat} (h : argsAt x W) (hg : W.grownBy W' row) (hr : ∀ r, row = some r → ∃ o : Obj, W.heap[r]? = some o ∧ o.isCells = false) : argsAt x W' := by
  cases x with
  | ok a k f xs R Y => exact h.kept hg (rows_far hr h)
  | bad a Y => trivial
theorem rows_below {wr W : World} {b n size : Nat} {e : TypeId} {v : Value} {xs : List Value} (h : wr.ownsRow b e size v n xs) (hb : Below wr.heap.size wr W) : W.ownsRow b e size v n xs := by
  refine ⟨h.1, ?_⟩
  rcases h.2 with h1 | ⟨g, cap, cur, h1, h2, h3, h4⟩
  · exact .inl h1
  · exact .inr ⟨g, cap, cur, h1, h2, (hb.block g (Array.getElem?_eq_some_iff.1 h3).1).trans h3, h4⟩
theorem argsAt_below {x : Item} {W W' : World} (h : argsAt x W) (hb : Below W.heap.size W W') : argsAt x W' := by
  cases x with
  | ok a k f xs R Y => exact rows_below h hb
  | bad a Y => trivial
theorem Lst.far {N Y : Nat} {w W W' : World} {pre : List Item} {row : Option Nat} (h : Lst N Y w pre W) (hg : W.grownBy W' row) (hr : ∀ r, row = some r → N ≤ r ∧ ∃ o : Obj, W.heap[r]? = some o ∧ o.isCells = false) : Lst N Y w pre W' := by
  have hr' := fun r e => (hr r e).2
  obtain ⟨lv, h1, h2⟩ := h.row
  exact ⟨h.res.kept hg (boxed_far h.res hr'), h.fault.kept hg (h.fault.far hr'), ⟨lv, h1.kept hg (boxed_far h1 hr'), h2.kept hg (rows_far hr' h2)⟩, fun x hx => ⟨argsAt_far (h.args x hx).1 hg hr', (h.args x hx).2⟩,
    h.low.grown hg (Nat.le_of_lt h.res.lt) (fun r e => (hr r e).1), h.ahead⟩
theorem Lst.below {N Y : Nat} {w W W' : World} {pre : List Item} (h : Lst N Y w pre W) (hb : Below W.heap.size W W') : Lst N Y w pre W' := by
  obtain ⟨lv, h1, h2⟩ := h.row
  exact ⟨boxed_below h.res hb, h.fault.below hb, ⟨lv, boxed_below h1 hb, rows_below h2 hb⟩, fun x hx => ⟨argsAt_below (h.args x hx).1 hb, (h.args x hx).2⟩, h.low.trans (hb.mono (Nat.le_of_lt h.res.lt)), h.ahead⟩
/-- where the loop was left by a fault -/
structure Stopped (N : Nat) (w : World) (pre : List Item) (W : World) : Prop where
  item : ∃ (a X : Nat) (p : List Item), pre = p ++ [.bad a X] ∧ Two W (N + 1) (.int .i64 17) (.int .i64 (a : Int))
  res : Boxed W N 25 (.slice none 0 0)
  low : Below N w W
theorem Stopped.far {N : Nat} {w W W' : World} {pre : List Item} {row : Option Nat} (h : Stopped N w pre W) (hg : W.grownBy W' row) (hr : ∀ r, row = some r → N ≤ r ∧ ∃ o : Obj, W.heap[r]? = some o ∧ o.isCells = false) : Stopped N w pre W' := by
  have hr' := fun r e => (hr r e).2
  obtain ⟨a, X, p, h1, h2⟩ := h.item
  exact ⟨⟨a, X, p, h1, two_far h2 hg hr'⟩, h.res.kept hg (boxed_far h.res hr'), h.low.grown hg (Nat.le_of_lt h.res.lt) (fun r e => (hr r e).1)⟩
theorem Stopped.below {N : Nat} {w W W' : World} {pre : List Item} (h : Stopped N w pre W) (hb : Below W.heap.size W W') : Stopped N w pre W' := by
  obtain ⟨a, X, p, h1, h2⟩ := h.item
  exact ⟨⟨a, X, p, h1, h2.below hb⟩, boxed_below h.res hb, h.low.trans (hb.mono (Nat.le_of_lt h.res.lt))⟩
theorem keeps_of_below {L : Nat} {A B : World} (h : Below A.heap.size A B) : KeepsFrom L A B := ⟨h.size, fun k _ _ hk _ => (h.block k (Array.getElem?_eq_some_iff.1 hk).1).trans hk⟩
theorem item_size (x : Item) : (encI x).size = 2 := by cases x <;> rfl
theorem rows_apart {w : World} {b b' s s' n n' : Nat} {e e' : TypeId} {v v' : Value} {xs ys : List Value} (h : w.ownsRow b e s v n xs) (h' : w.ownsRow b' e' s' v' n' ys) (he : e ≠ e') : v.ownBlock = none ∨ v.ownBlock ≠ v'.ownBlock := by
  rcases h.2 with ⟨rfl, -⟩ | ⟨g, cap, cur, rfl, -, hg, -⟩
  · exact .inl rfl
  · refine .inr fun e1 => ?_
    rcases h'.2 with ⟨rfl, -⟩ | ⟨g', cap', cur', rfl, -, hg', -⟩
    · simp [Value.ownBlock] at e1
    · simp only [Value.ownBlock, Option.some.injEq] at e1
      subst e1
      rw [hg] at hg'
      injection hg' with hg'
      injection hg' with h1 h2
      exact he h2
theorem argsAt_grown {x : Item} {W W' : World} {b n : Nat} {v : Value} {xs : List Value} (h : argsAt x W) (hrow : W.ownsRow b 41 4 v n xs) (hg : W.grownBy W' v.ownBlock) : argsAt x W' := by
  cases x with
  | ok a k f xs R Y => exact h.kept hg (rows_apart h hrow (by decide))
  | bad a Y => trivial
theorem argsAt_box {x : Item} {W : World} {b : Nat} {v u : Value} (h : argsAt x W) (hb : Boxed W b 25 v) : argsAt x (W.setCell ⟨b, 0, none⟩ u) := by
  cases x with
  | ok a k f xs R Y => exact h.kept (grownBy_setCell' W b u) (.inr (hb.not_row (by decide) h).symm)
  | bad a Y => trivial
theorem two_kept {W W' : World} {R : Nat} {x y : Value} {row : Option Nat} (h : Two W R x y) (hg : W.grownBy W' row) (hne : some R ≠ row) : Two W' R x y :=
  ⟨hg.cell h.1 hne, hg.cell h.2.1 hne, (World.frozen?_of_block (a := ⟨R, 0, none⟩) (hg.block R h.lt hne)).trans h.2.2.1, (World.frozen?_of_block (a := ⟨R, 1, none⟩) (hg.block R h.lt hne)).trans h.2.2.2⟩
/-- the list behind an append and the store of its row into the list's box -/
theorem Lst.step {N Y : Nat} {w W w1 : World} {pre : List Item} {x : Item} {lv v' : Value} {tmp : Obj} (h : Lst N Y w pre W) (hbx : Boxed W Y 25 lv) (hrow : W.ownsRow (Y + 3) 41 4 lv pre.length (locs pre)) (hx : argsAt x W) (hok : isOk x = true)
    (hown' : w1.ownsRow (Y + 3) 41 4 v' (pre.length + 1) (locs pre ++ locC x)) (hgrow : (W.alloc tmp).grownBy w1 lv.ownBlock) : Lst N Y w (pre ++ [x]) (w1.setCell ⟨Y, 0, none⟩ v') := by
  have hz := h.res.lt
  have ha := h.ahead
  have hbA := hbx.alloc tmp
  have hrA := hrow.alloc tmp
  have hlow : ∀ r, lv.ownBlock = some r → Y + 3 ≤ r := fun r e => (hrow.lt r e).1
  have hb1 : Boxed w1 Y 25 lv := hbA.kept hgrow (hbA.not_row (by decide) hrA)
  have hg2 := grownBy_setCell' w1 Y v'
  have far : ∀ k, k < Y → some k ≠ lv.ownBlock := fun k hk e => by have := hlow k e.symm; omega
  have nY : ∀ k, k < Y → some k ≠ some Y := fun k hk e => by injection e with e; omega
  refine ⟨((h.res.alloc tmp).kept hgrow (far N (by omega))).kept hg2 (nY N (by omega)), ((h.fault.kept (World.grownBy_alloc W tmp none) (by simp)).kept hgrow (far _ ha)).kept hg2 (nY _ ha), ⟨v', hb1.set v', ?_⟩, fun y hy => ?_, ?_, ha⟩
  · rw [List.length_append, locs_snoc]
    exact hown'.kept hg2 (.inr (hb1.not_row (by decide) hown').symm)
  · have hk : argsAt y W ∧ isOk y = true := by
      rcases List.mem_append.1 hy with h1 | h1
      · exact h.args y h1
      · simp at h1
        subst h1
        exact ⟨hx, hok⟩
    have h1 : argsAt y (W.alloc tmp) := argsAt_below hk.1 ((Below.refl _ _).alloc (Nat.le_refl _) _)
    exact ⟨argsAt_box (argsAt_grown h1 hrA hgrow) hb1, hk.2⟩
  · exact ((h.low.alloc (Nat.le_of_lt hz) tmp).grown hgrow (by simp; omega) (fun r e => by have := hlow r e; omega)).setCell (by show N ≤ Y; omega) _
theorem round_keep {B Y L : Nat} {x : Item} {V0 V1 U W2 w1 : World} {tmp : Obj} {row : Option Nat} {v' : Value} (hL : L = Y + 3) (hBY : B ≤ Y) (hV0 : L + 1 < V0.heap.size) (h01 : V0.heap.size ≤ V1.heap.size) (hX : V0.heap.size ≤ x.box) (hX1 : x.box + 1 < V1.heap.size) (bU : Below V1.heap.size V1 U)
    (hg2 : U.grownBy W2 (some (L + 1))) (hg3 : (W2.alloc tmp).grownBy w1 row) (hrow : ∀ q, row = some q → Y + 3 ≤ q ∧ q < V0.heap.size) : KeepZ (ZItem B (Y + 1) x) V1 (w1.setCell ⟨Y, 0, none⟩ v') := by
  have s1 := bU.size
  have s2 := hg2.size
  have s3 := hg3.size
  rw [World.size_alloc] at s3
  have hg4 := grownBy_setCell' w1 Y v'
  refine ⟨by have := hg4.size; omega, fun k hk => ?_⟩
  have hk1 : k < V1.heap.size ∧ k ≠ L + 1 ∧ k ≠ Y ∧ some k ≠ row := by
    have hr : ∀ q, row = some q → Y + 3 ≤ q ∧ q < V0.heap.size := hrow
    refine ⟨?_, ?_, ?_, fun e => ?_⟩
    · rcases hk with (hk | hk | hk) | hk | hk <;> omega
    · rcases hk with (hk | hk | hk) | hk | hk <;> omega
    · rcases hk with (hk | hk | hk) | hk | hk <;> omega
    · have := hr k e.symm
      rcases hk with (hk | hk | hk) | hk | hk <;> omega
  obtain ⟨k1, k2, k3, k4⟩ := hk1
  have e1 := bU.block k k1
  have e2 := hg2.block k (by omega) (fun e => by injection e with e; exact k2 e)
  have e3 := Below.heap_alloc W2 tmp k (by omega)
  have e4 := hg3.block k (by rw [World.size_alloc]; omega) k4
  have e5 := hg4.block k (by omega) (fun e => by injection e with e; exact k3 e)
  exact e5.trans (e4.trans (e3.trans (e2.trans e1)))
theorem loc_cells (W : World) (x1 x2 x3 x4 : Value) (t : TypeId) : ∀ j u, [x1, x2, x3, x4][j]? = some u → (W.alloc (.cells #[x1, x2, x3, x4] t)).cell? ((⟨W.heap.size, 0, none⟩ : Addr).add j) = some u :=
  World.news_of_block (cs := #[x1, x2, x3, x4]) (t := t) (fr := (0, 0)) (heap_alloc_new W _)
theorem two_sets {W : World} {R : Nat} {x y : Value} (h : Two W R x y) (x' y' : Value) : Two ((W.setCell ⟨R, 0, none⟩ x').setCell ⟨R, 1, none⟩ y') R x' y' := by
  obtain ⟨h0, h1, h2, h3⟩ := h
  obtain ⟨e0, e1⟩ := two_set (x := x') (y := y') h0 h1
  exact ⟨e0, e1, by simpa using h2, by simpa using h3⟩
theorem Lst.stop {N Y : Nat} {w W : World} {pre : List Item} (h : Lst N Y w pre W) (a X : Nat) : Stopped N w (pre ++ [.bad a X]) (((W.setCell ⟨N, 0, none⟩ (.slice none 0 0)).setCell ⟨N + 1, 0, none⟩ (.int .i64 17)).setCell ⟨N + 1, 1, none⟩ (.int .i64 (a : Int))).drew := by
  have g0 := grown_set W N 0 (.slice none 0 0)
  have g1 := grown_set (W.setCell ⟨N, 0, none⟩ (.slice none 0 0)) (N + 1) 0 (.int .i64 17)
  have g2 := grown_set ((W.setCell ⟨N, 0, none⟩ (.slice none 0 0)).setCell ⟨N + 1, 0, none⟩ (.int .i64 17)) (N + 1) 1 (.int .i64 (a : Int))
  have ne : some N ≠ some (N + 1) := fun e => by injection e with e; omega
  have t := two_sets (two_kept h.fault.two g0 (fun e => by injection e with e; omega)) (.int .i64 17) (.int .i64 (a : Int))
  have b := ((h.res.set (.slice none 0 0)).kept g1 ne).kept g2 ne
  refine ⟨⟨a, X, pre, rfl, t.1, t.2.1, t.2.2.1, t.2.2.2⟩, b, ?_⟩
  exact (((h.low.setCell (p := ⟨N, 0, none⟩) (Nat.le_refl _) _).setCell (p := ⟨N + 1, 0, none⟩) (Nat.le_succ _) _).setCell (p := ⟨N + 1, 1, none⟩) (Nat.le_succ _) _).drew
theorem keeps_stop {L N : Nat} {W : World} {u0 u1 u2 : Value} : KeepsFrom L W (((W.setCell ⟨N, 0, none⟩ u0).setCell ⟨N + 1, 0, none⟩ u1).setCell ⟨N + 1, 1, none⟩ u2).drew := by
  have h := ((KeepsOthers.setCell W ⟨N, 0, none⟩ u0).trans (KeepsOthers.setCell _ ⟨N + 1, 0, none⟩ u1)).trans (KeepsOthers.setCell _ ⟨N + 1, 1, none⟩ u2)
  exact ⟨h.size, fun k o _ hk ho => h.same k o hk ho⟩
/-- the list as the call gives it back -/
structure Fin (N : Nat) (w : World) (ys : List Item) (lv : Value) (W : World) : Prop where
  res : Boxed W N 25 lv
  fault : FBox W (N + 1) (.int .i64 0) (.int .i64 0)
  row : W.ownsRow N 41 4 lv ys.length (locs ys)
  args : ∀ x ∈ ys, isOk x = true ∧ argsAt x W
  low : Below N w W
theorem Fin.far {N : Nat} {w W W' : World} {ys : List Item} {lv : Value} {row : Option Nat} (h : Fin N w ys lv W) (hg : W.grownBy W' row) (hr : ∀ r, row = some r → N ≤ r ∧ ∃ o : Obj, W.heap[r]? = some o ∧ o.isCells = false) : Fin N w ys lv W' := by
  have hr' := fun r e => (hr r e).2
  exact ⟨h.res.kept hg (boxed_far h.res hr'), h.fault.kept hg (h.fault.far hr'), h.row.kept hg (rows_far hr' h.row), fun x hx => ⟨(h.args x hx).1, argsAt_far (h.args x hx).2 hg hr'⟩, h.low.grown hg (Nat.le_of_lt h.res.lt) (fun r e => (hr r e).1)⟩
theorem argsAt_fault {x : Item} {W : World} {b j : Nat} {u x0 y0 : Value} (h : argsAt x W) (hb : FBox W b x0 y0) : argsAt x (W.setCell ⟨b, j, none⟩ u) := by
  cases x with
  | ok a k f xs R Y =>
    refine h.kept (grown_set W b j u) (.inr fun e => ?_)
    rcases h.2 with ⟨h', -⟩ | ⟨g, cap, cur, h', -, hg, -⟩
    · simp at h'
    · simp only [Value.slice.injEq, Option.some.injEq, Addr.mk.injEq, and_true, true_and] at h'
      simp only [Value.ownBlock, Option.some.injEq] at e
      rw [← h'.1, e, show W.heap[b]? = _ from hb] at hg
      injection hg with hg
      injection hg with h1 h2
      exact absurd h2 (by decide)
  | bad a Y => trivial
theorem allW_fbox (w : World) : FBox (allW w) (w.heap.size + 1) (.int .i64 0) (.int .i64 0) := by
  have := heap_alloc_new (w.alloc (.cells #[.slice none 0 0] 25)) (.cells #[.int .i64 0, .int .i64 0] 27)
  rwa [World.size_alloc] at this
theorem Lst.fin {N Y : Nat} {w W : World} {ys : List Item} {lv : Value} (h : Lst N Y w ys W) (hrow : W.ownsRow (Y + 3) 41 4 lv ys.length (locs ys)) :
    Fin N w ys lv (((W.setCell ⟨N, 0, none⟩ lv).setCell ⟨N + 1, 0, none⟩ (.int .i64 0)).setCell ⟨N + 1, 1, none⟩ (.int .i64 0)) := by
  have ha := h.ahead
  have g0 := grown_set W N 0 lv
  have g1 := grown_set (W.setCell ⟨N, 0, none⟩ lv) (N + 1) 0 (.int .i64 0)
  have g2 := grown_set ((W.setCell ⟨N, 0, none⟩ lv).setCell ⟨N + 1, 0, none⟩ (.int .i64 0)) (N + 1) 1 (.int .i64 0)
  have ne : some N ≠ some (N + 1) := fun e => by injection e with e; omega
  have hne : ∀ q, q ≤ N + 1 → lv.ownBlock ≠ some q := fun q hq e => by have := (hrow.lt q e).1; omega
  have f0 := h.fault.kept g0 (fun e => by injection e with e; omega)
  have f1 := fbox_one f0 (.int .i64 0)
  refine ⟨((h.res.set lv).kept g1 ne).kept g2 ne, f0.set _ _, ownsRow_base (((hrow.kept g0 (.inr (hne N (by omega)))).kept g1 (.inr (hne (N + 1) (by omega)))).kept g2 (.inr (hne (N + 1) (by omega)))) (by omega), fun x hx => ⟨(h.args x hx).2, argsAt_fault (argsAt_fault (argsAt_box (h.args x hx).1 h.res) f0) f1⟩, ?_⟩
  exact ((h.low.setCell (p := ⟨N, 0, none⟩) (Nat.le_refl _) _).setCell (p := ⟨N + 1, 0, none⟩) (Nat.le_succ _) _).setCell (p := ⟨N + 1, 1, none⟩) (Nat.le_succ _) _
def AllPost (fs : List Frm) (l : List UInt8) (w : World) (e : Ending) (w' : World) : Prop :=
  Below w.heap.size w w' ∧ ((∃ (a : Nat) (pre : List Core), listing fs l l.length 0 = pre ++ [.bad a] ∧ e = .returned (.tuple #[.slice none 0 0, faultV (17, (a : Int))])) ∨
    ∃ (ys : List Item) (lv : Value), (∀ y ∈ ys, isOk y = true ∧ argsAt y w') ∧ ys.map Item.core = listing fs l l.length 0 ∧ e = .returned (.tuple #[lv, faultV (0, 0)]) ∧ w'.ownsRow w.heap.size 41 4 lv ys.length (locs ys))
set_option maxRecDepth 100000 in
set_option maxHeartbeats 2000000 in
theorem all_good (B : Nat) (v cv : Value) (fs : List Frm) (l : List UInt8) (w : World) (h : FormsAt B w v fs) (hl : BytesAt B w cv l) (hB : B ≤ w.heap.size) (ht : tableFault fs = (0, 0)) (h15 : l.length ≤ 1500) :
    Calls Tryz.prog 9 #[v, cv] w (AllPost fs l w) := by
  obtain ⟨i0, hi, hz0, hz1, hz2⟩ := info_parts infoLoc
  obtain ⟨A, n, c, rfl, hfs, -, -, -⟩ := h.opens
  obtain ⟨A2, n2, c2, rfl, hl2, -, -⟩ := hl.opens
  have HF := Lib.hid h
  have HL := Lib.hid hl
  have HBX := Lib.hid (allW_below w)
  have HT1 := Lib.hid (allW_list w)
  have HT2 := Lib.hid (allW_fault w)
  have C := validate_any B _ fs (allW w) (h.below (HBX.out.mono hB)) (Nat.le_trans hB HBX.out.size)
  rw [ht] at C
  have HC := Lib.hid C
  have H15 := Lib.hid h15
  have hd : decide ((1500 : Int) < (n2 : Int)) = false := decide_eq_false (by rw [hl2.out] at h15; omega)
  clear C h hl h15
  refine (callsIn_wide (n := 3)).1 ?_
  refine callsIn_of_wp_marks Tryz.func9 rfl trivial ?_ rfl
  simp only [Tryz.ntmps9, List.size_toArray, List.length_cons, List.length_nil, Nat.reduceAdd, Nat.reduceSub, Array.replicate_succ, Array.replicate_zero, List.push_toArray, List.append_toArray, List.nil_append, List.cons_append]
  refine wpIn_wide.2 ?_
  go_wp2_with fail
  refine HC.out.mono ?_
  rintro e W1 ⟨rfl, hb1⟩
  have a3 := one_more W1 (.cells #[.int .i64 0, .int .i64 0] 27)
  have g := hb1.trans (a3.mono hb1.size)
  have u := Two.new W1 (.int .i64 0) (.int .i64 0) 27
  have hz3 := u.lt
  obtain ⟨u0, u1, u2, u3⟩ := u
  have G := Lib.hid g
  clear a3 g hb1
  go_wp2_with (go_at_call 24; refine (instructions_any _ _ A n c A2 n2 c2 rfl rfl _).mono ?_; rintro e w' ⟨rfl, rfl⟩)
  obtain ⟨N, hN⟩ : ∃ N, N = w.heap.size := ⟨_, rfl⟩
  obtain ⟨Y, hY⟩ : ∃ Y, Y = W1.heap.size + 1 := ⟨_, rfl⟩
  obtain ⟨w3, hw3⟩ : ∃ w3, w3 = (W1.alloc (.cells #[.int .i64 0, .int .i64 0] 27)).alloc (.cells #[.slice none 0 0] 25) := ⟨_, rfl⟩
  have hz : w3.heap.size = Y + 1 := by rw [hw3, hY]; simp
  have g3 : Below (allW w).heap.size (allW w) w3 := by rw [hw3]; exact G.out.trans ((one_more _ _).mono G.out.size)
  have hNY : N + 1 < Y := by
    have h1 := HT2.out.lt
    have h2 := G.out.size
    rw [World.size_alloc] at h2
    omega
  have hl0 : Lst N Y w [] w3 := by
    refine ⟨by rw [hN]; exact boxed_below HT1.out g3, by rw [hN]; exact (allW_fbox w).below g3, ⟨.slice none 0 0, ?_, World.ownsRow_nil _ _ _ _⟩, by simp, by rw [hN]; exact HBX.out.trans (g3.mono HBX.out.size), hNY⟩
    have e := Boxed.new (W1.alloc (.cells #[.int .i64 0, .int .i64 0] 27)) 25 (.slice none 0 0)
    rw [World.size_alloc, ← hw3, ← hY] at e
    exact e
  have hB3 : B ≤ w3.heap.size := Nat.le_trans hB (by rw [← hN, hz]; omega)
  have hia : InsAt B (Y + 1) (.slice A n c) (.slice A2 n2 c2) fs l (insW w3 (.slice A n c) (.slice A2 n2 c2)) := by
    rw [← hz]
    have hw : Below w.heap.size w w3 := HBX.out.trans (g3.mono HBX.out.size)
    exact insW_at (HF.out.below (hw.mono hB)) (HL.out.below (hw.mono hB)) hB3
  have hl1 := hl0.below (insW_below w3 (.slice A n c) (.slice A2 n2 c2))
  have hzi : (insW w3 (.slice A n c) (.slice A2 n2 c2)).heap.size = Y + 3 := by simp [insW, hz]
  rw [show W1.heap.size + 1 + 1 = Y + 1 by rw [hY], ← hw3, ← hY, ← hN]
  have HB := Lib.hid hB
  have HN := Lib.hid hN
  have HTV := Lib.hid ht
  obtain ⟨W0, hW0⟩ : ∃ W0, W0 = insW w3 (.slice A n c) (.slice A2 n2 c2) := ⟨_, rfl⟩
  rw [← hW0] at hia hl1 hzi ⊢
  have HZI := Lib.hid hzi
  have HNY := Lib.hid hNY
  clear hW0 hl0 g3 hw3 hz hB3 G HC HBX HT1 HT2 hN hY hB ht u0 u1 u2 u3 hz3 hzi hNY
  refine (wpIn_wide (n := 3)).1 ?_
  refine range_owns (n := 3) rfl (by omega) (gf := 38) (lb := #[.pointer (some ⟨Y + 1 + 1, 0, none⟩), .pointer (some ⟨Y + 1, 0, none⟩)]) rfl trivial (enters_of Tryz.func38 (by kernel_rfl) rfl)
    (instr_owns 2 (Nat.le_refl _) B (Y + 1) _ _ fs l HTV.out H15.out W0 hia) (fun _ _ h => keeps_of_below h) ?hZ (Below.refl _ _) (fun x => item_size x)
    (fun pre W => Lst N Y w pre W) (fun cd pre W => cd = .ret ∧ Stopped N w pre W) ?own1 ?own2 (fun _ _ _ h ho => h.below ho) (fun _ _ _ _ h ho => ⟨h.1, h.2.below ho⟩) hl1 ?round ?done ?stop
  case hZ =>
    rintro x V0 V1 k ⟨hv1, hv2, -⟩ hL hz hk
    rw [HZI.out] at hL hk
    have h1 := HB.out
    have h2 := HNY.out
    have h3 := HN.out
    rcases hz with (hz | hz | hz) | hz | hz <;> omega
  case own1 =>
    rintro pre W W' row h hg hr
    exact h.far hg (fun r e => ⟨by have := (hr r e).1; have := HZI.out; have := HNY.out; omega, (hr r e).2⟩)
  case own2 =>
    rintro cd pre W W' row ⟨h0, h⟩ hg hr
    exact ⟨h0, h.far hg (fun r e => ⟨by have := (hr r e).1; have := HZI.out; have := HNY.out; omega, (hr r e).2⟩)⟩
  case round =>
    rintro lp pre x V0 V1 r r' hI0 hI1 hV hBk0 hBk1 hlen
    cases x with
    | ok a k f xs R X =>
      dsimp only [encI]
      gi_wp2
      obtain ⟨U, hU⟩ : ∃ U, U = itW V1 (.int .i64 (a : Int)) (.int .i64 (sizeOf f.kinds : Nat)) (.int .i64 (k : Int)) (.slice (some ⟨R, 0, none⟩) f.kinds.length f.kinds.length) 0 0 := ⟨_, rfl⟩
      have bU : Below V1.heap.size V1 U := by rw [hU]; exact two_more _ _ _
      have sU : U.heap.size = V1.heap.size + 1 + 1 := by rw [hU]; simp [itW]
      obtain ⟨y0, y1, y2, y3, f0, f1⟩ := itW_cells V1 (.int .i64 (a : Int)) (.int .i64 (sizeOf f.kinds : Nat)) (.int .i64 (k : Int)) (.slice (some ⟨R, 0, none⟩) f.kinds.length f.kinds.length) 0 0
      rw [← hU] at y0 y1 y2 y3 f0 f1
      rw [show ((V1.alloc (.cells #[.int .i64 (a : Int), .int .i64 (sizeOf f.kinds : Nat), .int .i64 (k : Int), .slice (some ⟨R, 0, none⟩) f.kinds.length f.kinds.length] 41)).alloc (.cells #[.int .i64 0, .int .i64 0] 27)) = U from hU.symm]
      have hBU : Book W0.heap.size r U := hBk1.others (keeps_of_below bU)
      refine ⟨hBU, ?_⟩
      obtain ⟨W2, hW2⟩ : ∃ W2, W2 = U.putObj (W0.heap.size + 1) (.loop r') := ⟨_, rfl⟩
      rw [← hW2]
      have hg2 : U.grownBy W2 (some (W0.heap.size + 1)) := by rw [hW2]; exact grownBy_putObj' _ _ _
      have hr2 : ∀ q, some (W0.heap.size + 1) = some q → ∃ o : Obj, U.heap[q]? = some o ∧ o.isCells = false := fun q e => by cases e; exact ⟨_, hBU.1, rfl⟩
      have hB2 : Book W0.heap.size r' W2 := by rw [hW2]; exact hBU.put
      have z0 := cell_kept y0 hg2 hr2
      have z1 := cell_kept y1 hg2 hr2
      have z2 := cell_kept y2 hg2 hr2
      have z3 := cell_kept y3 hg2 hr2
      have e0 := cell_kept f0 hg2 hr2
      have e1 := cell_kept f1 hg2 hr2
      have hL2 : Lst N Y w pre W2 := (hI1.below bU).far hg2 (fun q e => ⟨by cases e; have := HZI.out; have := HNY.out; omega, hr2 q e⟩)
      have hx2 : argsAt (.ok a k f xs R X) W2 := argsAt_far (argsAt_below hV.2.2.1 bU) hg2 hr2
      obtain ⟨lv, hbx, hrow⟩ := hL2.row
      obtain ⟨A3, c3, rfl⟩ := row_is hrow
      have q0 := hbx.cell
      have q1 := hbx.frozen
      have s1 := block_lt_of_cell z0
      have s2 := block_lt_of_cell e0
      have s3 := hbx.lt
      have HLS := Lib.hid hL2
      have HXA := Lib.hid hx2
      have HBX := Lib.hid hbx
      have HRW := Lib.hid hrow
      have HBK := Lib.hid hB2
      have HG2 := Lib.hid hg2
      have HBU' := Lib.hid bU
      have HI0 := Lib.hid hI0
      have HV := Lib.hid hV
      have HLEN := Lib.hid (show pre.length + 1 ≤ 1501 by have h1 := listing_len fs l l.length 0; have h2 := H15.out; omega)
      have HS0 := Lib.hid (show W0.heap.size + 1 < V0.heap.size from (Array.getElem?_eq_some_iff.1 hBk0.1).1)
      have HY3 := Lib.hid (show Y + 3 ≤ W2.heap.size by have h1 := (Array.getElem?_eq_some_iff.1 hB2.1).1; have h2 := HZI.out; omega)
      have HEQ : Hid (∃ lv0, Boxed V0 Y 25 lv0 ∧ V0.ownsRow (Y + 3) 41 4 lv0 pre.length (locs pre) ∧ lv0 = .slice A3 pre.length c3) := Lib.hid (by
        obtain ⟨lv0, a1, a2⟩ := hI0.row
        have a3 := boxed_below (boxed_below a1 hV.1) bU
        have a4 := a3.kept hg2 (boxed_far a3 hr2)
        have a5 := (show W2.heap[Y]? = _ from a4).symm.trans (show W2.heap[Y]? = _ from hbx)
        refine ⟨lv0, a1, a2, ?_⟩
        simpa using a5)
      clear hL2 hx2 hbx hrow hB2 hg2 bU hI0 hI1 hV hlen hBk0 hBk1 hBU hr2 hU sU y0 y1 y2 y3 f0 f1 hW2
      gi_wp2_with (gi_at_builtin; refine wpListIn_append_own _ rfl (.tmp 29) (.tmp 31) 25 rfl (Y + 3) 41 i0 _ 4 48 Tryz.underlying25 hi hz0 hz1 hz2 (by rfl) (by decide) (.slice A3 pre.length c3) pre.length _ rfl (HRW.out.alloc _) ⟨W2.heap.size, 0, none⟩ 1 1 (locC (.ok a k f xs R X)) rfl rfl (loc_cells _ _ _ _ _ _) (by simp [locC, Value.oneCell']) (by have := HLEN.out; unfold maxLen; omega) (by have := HLEN.out; omega) (by have := HY3.out; simp; omega) ?_; intro v' w1 hown1 hgrow hnil; clear hnil; obtain ⟨A4, c4, rfl⟩ := row_is hown1; have HO1 := Lib.hid hown1; have HG1 := Lib.hid hgrow; have HB1 : Hid (Boxed w1 Y 25 (.slice A3 pre.length c3)) := Lib.hid ((HBX.out.alloc _).kept hgrow (HBX.out.not_row (by decide) HRW.out)); have q2 := HB1.out.cell; have q3 := HB1.out.frozen; have s4 := HB1.out.lt; clear hown1 hgrow)
      have hap := HBX.out.appended (n₀ := 0) (by decide) (ownsRow_base HRW.out (Nat.zero_le _)) (Nat.zero_le _) (Nat.zero_le _) (ownsRow_base HO1.out (Nat.zero_le _)) HG1.out
      obtain ⟨lv0, b1, b2, b3⟩ := HEQ.out
      exact ⟨HBK.out.others (hap.2.2.2.1.from _), round_keep HZI.out (by have := HB.out; have := HNY.out; have := HN.out; omega) HS0.out HV.out.1.size HV.out.2.1 HV.out.2.2.2 HBU'.out HG2.out HG1.out (fun q e => ⟨(HRW.out.lt q e).1, by rw [← b3] at e; exact (b2.lt q e).2⟩),
        HLS.out.step HBX.out HRW.out HXA.out rfl HO1.out HG1.out⟩
    | bad a X =>
      dsimp only [encI]
      gi_wp2
      obtain ⟨U, hU⟩ : ∃ U, U = itW V1 (.int .i64 0) (.int .i64 0) (.int .i64 0) (.slice none 0 0) 17 (a : Int) := ⟨_, rfl⟩
      have bU : Below V1.heap.size V1 U := by rw [hU]; exact two_more _ _ _
      obtain ⟨-, -, -, -, f0, f1⟩ := itW_cells V1 (.int .i64 0) (.int .i64 0) (.int .i64 0) (.slice none 0 0) 17 (a : Int)
      rw [← hU] at f0 f1
      rw [show ((V1.alloc (.cells #[.int .i64 0, .int .i64 0, .int .i64 0, .slice none 0 0] 41)).alloc (.cells #[.int .i64 17, .int .i64 (a : Int)] 27)) = U from hU.symm]
      have hBU : Book W0.heap.size r U := hBk1.others (keeps_of_below bU)
      refine ⟨hBU, ?_⟩
      obtain ⟨W2, hW2⟩ : ∃ W2, W2 = U.putObj (W0.heap.size + 1) (.loop r') := ⟨_, rfl⟩
      rw [← hW2]
      have hg2 : U.grownBy W2 (some (W0.heap.size + 1)) := by rw [hW2]; exact grownBy_putObj' _ _ _
      have hr2 : ∀ q, some (W0.heap.size + 1) = some q → ∃ o : Obj, U.heap[q]? = some o ∧ o.isCells = false := fun q e => by cases e; exact ⟨_, hBU.1, rfl⟩
      have hB2 : Book W0.heap.size r' W2 := by rw [hW2]; exact hBU.put
      have e0 := cell_kept f0 hg2 hr2
      have e1 := cell_kept f1 hg2 hr2
      have hL2 : Lst N Y w pre W2 := (hI1.below bU).far hg2 (fun q e => ⟨by cases e; have := HZI.out; have := HNY.out; omega, hr2 q e⟩)
      have q0 := hL2.res.cell
      have q1 := hL2.res.frozen
      obtain ⟨t0, t1, t2, t3⟩ := hL2.fault.two
      have s1 := hL2.res.lt
      have s2 := block_lt_of_cell e0
      have s3 := block_lt_of_cell t0
      have HLS := Lib.hid hL2
      have HBK := Lib.hid hB2
      have HS0 := Lib.hid (show N + 1 < V1.heap.size by have h1 := (Array.getElem?_eq_some_iff.1 hBk1.1).1; have := HZI.out; have := HNY.out; omega)
      have n1 : ¬ N = V1.heap.size + 1 := by have := HS0.out; omega
      have n2' : ¬ V1.heap.size + 1 = N := by have := HS0.out; omega
      have n3 : ¬ N + 1 = V1.heap.size + 1 := by have := HS0.out; omega
      have n4 : ¬ V1.heap.size + 1 = N + 1 := by have := HS0.out; omega
      clear hL2 hB2 hg2 bU hI0 hI1 hV hlen hBk0 hBk1 hBU hr2 hU f0 f1 hW2
      gi_wp2_with fail
      refine region_inRound (by kernel_rfl) (by kernel_rfl) (fun ⟨_, _, h⟩ => h) ?_
      change wpAny _ _ _ _ _ _ _ W2.drew
      refine wpAny_ready (rs := [0, 1]) (by kernel_rfl) (by simp) ?_
      refine AllReady.cons rfl (fun K hK => ?_) (AllReady.cons rfl (fun K hK => ?_) AllReady.nil)
      · go_simp
        refine hK _ _ ?_
        clear hK K
        refine wpAny_ready (rs := [1]) (by kernel_rfl) (by simp) ?_
        refine AllReady.cons rfl (fun K hK => ?_) AllReady.nil
        go_simp
        refine hK _ _ ?_
        clear hK K
        refine wpAny_ready (rs := [2]) (by kernel_rfl) (by simp) ?_
        refine AllReady.cons rfl (fun K hK => ?_) AllReady.nil
        go_simp
        refine hK _ _ ?_
        clear hK K
        refine wpAny_done (by kernel_rfl) ?_ _
        gi_wp2
        exact ⟨HBK.out.others keeps_stop, rfl, HLS.out.stop a X⟩
      · go_simp
        refine hK _ _ ?_
        clear hK K
        refine wpAny_ready (rs := [0]) (by kernel_rfl) (by simp) ?_
        refine AllReady.cons rfl (fun K hK => ?_) AllReady.nil
        go_simp
        refine hK _ _ ?_
        clear hK K
        refine wpAny_ready (rs := [2]) (by kernel_rfl) (by simp) ?_
        refine AllReady.cons rfl (fun K hK => ?_) AllReady.nil
        go_simp
        refine hK _ _ ?_
        clear hK K
        refine wpAny_done (by kernel_rfl) ?_ _
        gi_wp2
        exact ⟨HBK.out.others keeps_stop, rfl, HLS.out.stop a X⟩
  case done =>
    rintro D ys W hD hS hI hK
    have HM := Lib.hid (show Marks (N + 2) W W.heap.size [{ target := .collected D, args := #[] }] from ⟨D, rfl, by have := HZI.out; have := HNY.out; omega, (Array.getElem?_eq_some_iff.1 hK).1, hK, trivial⟩)
    obtain ⟨lv, hbx, hrow⟩ := hI.row
    obtain ⟨A3, c3, rfl⟩ := row_is hrow
    have q0 := hbx.cell
    have r0 := hI.res.cell
    have r1 := hI.res.frozen
    obtain ⟨t0, t1, t2, t3⟩ := hI.fault.two
    have s0 := hbx.lt
    have s1 := hI.res.lt
    have s2 := block_lt_of_cell t0
    have HI := Lib.hid hI
    have HRW := Lib.hid hrow
    have HS := Lib.hid hS
    have HK := Lib.hid hK
    clear hI hrow hbx hS hK
    gi_wp2
    go_wp2
    have hfin := HI.out.fin HRW.out
    have HM2 := Lib.hid (Marks.same (w' := ((W.setCell ⟨N, 0, none⟩ (.slice A3 ys.length c3)).setCell ⟨N + 1, 0, none⟩ (.int .i64 0)).setCell ⟨N + 1, 1, none⟩ (.int .i64 0)) (fun k _ hh => (((KeepsOthers.setCell W ⟨N, 0, none⟩ _).trans (KeepsOthers.setCell _ ⟨N + 1, 0, none⟩ _)).trans (KeepsOthers.setCell _ ⟨N + 1, 1, none⟩ _)).same k _ hh rfl) HM.out)
    refine leaves_marks (B := N + 2) (fun W' => Fin N w ys (.slice A3 ys.length c3) W') ?_ ?_ _ W.heap.size _ HM2.out hfin
    · rintro W' D' hD' hK' h
      exact h.far (grownBy_putObj' W' D' _) (fun r e => by cases e; exact ⟨by omega, _, hK', rfl⟩)
    · rintro W' h
      have k0 := h.res.cell
      obtain ⟨k1, k2, -, -⟩ := h.fault.two
      refine ⟨.tuple #[.slice A3 ys.length c3, faultV (0, 0)], by simp [results, Tryz.results9, go_sem, k0, k1, k2, faultV], by rw [← HN.out]; exact h.low, .inr ⟨ys, _, h.args, HS.out, rfl, by rw [← HN.out]; exact h.row⟩⟩
  case stop =>
    rintro D cd pre W hD hpre ⟨rfl, hst⟩ hK
    have HM := Lib.hid (show Marks (N + 2) W W.heap.size [{ target := .collected D, args := #[] }] from ⟨D, rfl, by have := HZI.out; have := HNY.out; omega, (Array.getElem?_eq_some_iff.1 hK).1, hK, trivial⟩)
    have HST := Lib.hid hst
    clear hst hK
    gi_wp2
    refine leaves_marks (B := N + 2) (fun W' => Stopped N w pre W') ?_ ?_ _ W.heap.size _ HM.out HST.out
    · rintro W' D' hD' hK' h
      exact h.far (grownBy_putObj' W' D' _) (fun r e => by cases e; exact ⟨by omega, _, hK', rfl⟩)
    · rintro W' h
      have k0 := h.res.cell
      obtain ⟨a, X, p, hp, k1, k2, -, -⟩ := h.item
      refine ⟨.tuple #[.slice none 0 0, faultV (17, (a : Int))], by simp [results, Tryz.results9, go_sem, k0, k1, k2, faultV], by rw [← HN.out]; exact h.low, .inl ⟨a, p.map Item.core, ?_, rfl⟩⟩
      obtain ⟨t, ht⟩ := hpre
      rw [hp, List.map_append, List.append_assoc] at ht
      have h1 : listing fs l l.length 0 = p.map Item.core ++ Core.bad a :: t := ht.symm
      have h2 := listing_last fs l (p.map Item.core) l.length 0 (.bad a) t (by omega) h1 rfl
      rw [h1, h2]
end Go.Proofs.YtcngpciblbdgbaaGreatDoor

/-! A region that draws its order, whose last operations are stores: loads that come ahead of the stores may be taken first where a condition on the world holds until the stores begin. Conditions: every operation from the n-th on waits for the load. -/
namespace Go.Proofs.YtcngpciblbdgbaaGreatDoor
open Go
section
variable {P : Program} {ops : Array Oper} {Q : Exit → Act → World → Prop} {S : World → Prop} {md : Region.Mode} {n : Nat}
/-- whatever order is picked; S holds behind every operation whose number is less than n -/
def anyTill (P : Program) (md : Region.Mode) (ops : Array Oper) (Q : Exit → Act → World → Prop) (S : World → Prop) (n : Nat) : Nat → Array Bool → Act → World → Prop
  | 0, listed, a, w => Region.ready md ops listed = [] ∧ Q .normal a w
  | f + 1, listed, a, w =>
    (Region.ready md ops listed = [] → Q .normal a w) ∧
    ∀ i ∈ Region.ready md ops listed, wpOp P ops Q i (fun a' w' => (i < n → S w') ∧ anyTill P md ops Q S n f (listed.setIfInBounds i true) a' w') a w
theorem any_of_till : ∀ (f : Nat) (listed : Array Bool) (a : Act) (w : World), anyTill P md ops Q S n f listed a w → wpAny P md ops Q f listed a w
  | 0, _, _, _, h => h
  | f + 1, _, _, _, h => ⟨h.1, fun i hi => wpOp_mono (fun a' w' h' => any_of_till f _ a' w' h'.2) (h.2 i hi)⟩
/-- the operations of tr wait for i, or for another of them; none of them has been listed; all from n on are among them -/
def waitB (md : Region.Mode) (ops : Array Oper) (n i : Nat) (tr : List Nat) (listed : Array Bool) : Bool :=
  ((List.range ops.size).all fun j => decide (j < n) || tr.contains j) &&
    tr.all fun j => (match ops[j]? with | some oj => oj.after.any fun e => Region.binds md e && (e.on == i || tr.contains e.on) | none => false) && !(listed.getD j true)
theorem wait_spec {i j : Nat} {oj : Oper} {tr : List Nat} {listed : Array Bool} (h : waitB md ops n i tr listed = true) (hj : ops[j]? = some oj) (hn : ¬ j < n) : j ∈ tr := by
  have hlt : j < ops.size := (Array.getElem?_eq_some_iff.1 hj).1
  unfold waitB at h
  rw [Bool.and_eq_true] at h
  have h1 := List.all_eq_true.1 h.1 j (List.mem_range.2 hlt)
  rw [Bool.or_eq_true] at h1
  rcases h1 with h1 | h1
  · exact absurd (of_decide_eq_true h1) hn
  · simpa using h1
theorem wait_after {i j : Nat} {oj : Oper} {tr : List Nat} {listed : Array Bool} (h : waitB md ops n i tr listed = true) (hj : ops[j]? = some oj) (ht : j ∈ tr) : ∃ e ∈ oj.after, Region.binds md e = true ∧ (e.on = i ∨ e.on ∈ tr) := by
  unfold waitB at h
  rw [Bool.and_eq_true] at h
  have h1 := List.all_eq_true.1 h.2 j ht
  rw [Bool.and_eq_true, hj] at h1
  obtain ⟨e, he, hb⟩ := Array.any_eq_true'.1 h1.1
  simp only [Bool.and_eq_true, Bool.or_eq_true, beq_iff_eq] at hb
  exact ⟨e, he, hb.1, hb.2.imp id (fun h => by simpa using h)⟩
theorem wait_free {i j : Nat} {tr : List Nat} {listed : Array Bool} (h : waitB md ops n i tr listed = true) (ht : j ∈ tr) : listed.getD j true = false := by
  unfold waitB at h
  rw [Bool.and_eq_true] at h
  have h1 := List.all_eq_true.1 h.2 j ht
  rw [Bool.and_eq_true] at h1
  simpa using h1.2
theorem wait_next {i j : Nat} {tr : List Nat} {listed : Array Bool} (h : waitB md ops n i tr listed = true) (hj : j ∉ tr) : waitB md ops n i tr (listed.setIfInBounds j true) = true := by
  have h' := h
  unfold waitB at h' ⊢
  rw [Bool.and_eq_true] at h' ⊢
  refine ⟨h'.1, List.all_eq_true.2 fun m hm => ?_⟩
  have h1 := List.all_eq_true.1 h'.2 m hm
  rw [Bool.and_eq_true] at h1 ⊢
  refine ⟨h1.1, ?_⟩
  rw [getD_set_ne true (show j ≠ m from fun e => hj (by rw [e]; exact hm))]
  exact h1.2
theorem till_first {i : Nat} {oi : Oper} {v : Value} {tr : List Nat} (hi : ops[i]? = some oi) (hsel : ∀ (j : Nat) (o : Oper) cs b, ops[j]? = some o → o.op ≠ .select cs b)
    (hQ : ∀ c a w, Q (.panic c) (a.put oi.dst v) w → Q (.panic c) a w) :
    ∀ (f : Nat) (listed : Array Bool) (a : Act) (w : World), waitB md ops n i tr listed = true →
      (∀ j oj, ops[j]? = some oj → j ≠ i → listed.getD j true = false → (∀ e ∈ oj.after, Region.binds md e = true → e.on ≠ i) → oi.apart ops oj = true) →
      i ∈ Region.ready md ops listed → YieldsIf P ops S oi v a → S w →
      anyTill P md ops Q S n f (listed.setIfInBounds i true) (a.put oi.dst v) w → anyTill P md ops Q S n (f + 1) listed a w := by
  intro f
  induction f with
  | zero =>
    intro listed a w _ _ hr hy hS H
    refine ⟨fun h => absurd hr (by rw [h]; simp), fun j hj => ?_⟩
    by_cases e : j = i
    · subst e
      exact hy.wpOp hi hS ⟨fun _ => hS, H⟩
    · have h1 := ready_mono hj e
      rw [H.1] at h1
      cases h1
  | succ f ih =>
    intro listed a w hwait hfree hr hy hS H
    refine ⟨fun h => absurd hr (by rw [h]; simp), fun j hj => ?_⟩
    by_cases e : j = i
    · subst e
      exact hy.wpOp hi hS ⟨fun _ => hS, H⟩
    · obtain ⟨hun, oj, hoj, hall⟩ := mem_ready.1 hj
      have clash : ∀ m, listed.getD m true = false → ∀ x ∈ oj.after, Region.binds md x = true → x.on ≠ m := fun m h0 x hx hb hxi => by
        have h2 := hall x hx hb
        rw [hxi] at h2
        by_cases hl : m < listed.size
        · simp [hl] at h0 h2
          rw [h0] at h2
          cases h2
        · simp [Array.getElem?_eq_none (Nat.not_lt.1 hl)] at h2
      have hno := clash i (mem_ready.1 hr).1
      have hjt : j ∉ tr := fun ht => by
        obtain ⟨x, hx, hb, h1 | h1⟩ := wait_after hwait hoj ht
        · exact hno x hx hb h1
        · exact clash x.on (wait_free hwait h1) x hx hb rfl
      have hjn : j < n := by
        by_cases hjn : j < n
        · exact hjn
        · exact absurd (wait_spec hwait hoj hjn) hjt
      have h3 := wpOp_putIf hoj (hfree j oj hoj e hun hno) (fun cs b => hsel i oi cs b hi) (fun cs b => hsel j oj cs b hoj) hQ hy (H.2 j (ready_mono hj e))
      refine wpOp_mono (fun a' w' h4 => ⟨fun _ => h4.2.1 hjn, ih _ a' w' (wait_next hwait hjt) (fun k ok hk hki hku hkn => ?_) (ready_mono hr (Ne.symm e)) h4.1 (h4.2.1 hjn) ?_⟩) h3
      · refine hfree k ok hk hki ?_ hkn
        by_cases hjk : j = k
        · rw [← hjk]; exact hun
        · rw [getD_set_ne true hjk] at hku; exact hku
      · rw [Array.setIfInBounds_comm _ _ e]
        exact h4.2.2
theorem till_take {i : Nat} (tr : List Nat) {oi : Oper} {v : Value} {f : Nat} {listed : Array Bool} {a : Act} {w : World} (hi : ops[i]? = some oi)
    (hs : Region.noSelect ops = true) (hf : Region.free md ops listed i = true) (hr : (Region.ready md ops listed).contains i = true) (hwait : waitB md ops n i tr listed = true)
    (hQ : ∀ c a w, Q (.panic c) (a.put oi.dst v) w → Q (.panic c) a w) (hy : YieldsIf P ops S oi v a) (hS : S w)
    (h : anyTill P md ops Q S n f (listed.setIfInBounds i true) (a.put oi.dst v) w) : anyTill P md ops Q S n (f + 1) listed a w :=
  till_first hi (Region.noSelect_spec hs) hQ f listed a w hwait (Region.free_spec hi hf) (by simpa using hr) hy hS h
theorem wpOp_in {i : Nat} {o : Oper} {K : Act → World → Prop} {a : Act} {w : World} (hi : ops[i]? = some o) (hw : Region.wanted o (yielded ops a.tmps) = true) (h : o.wp P a w K Q) : wpOp P ops Q i K a w := by
  unfold wpOp
  rw [hi]
  simp only [hw, if_true]
  exact .inl h
/-- one operation alone may come up -/
theorem till_one {i : Nat} {o : Oper} {f : Nat} {listed : Array Bool} {a : Act} {w : World} (hr : Region.ready md ops listed = [i]) (hi : ops[i]? = some o) (hw : Region.wanted o (yielded ops a.tmps) = true)
    (h : ∀ K : Act → World → Prop, (∀ a' w', (i < n → S w') → anyTill P md ops Q S n f (listed.setIfInBounds i true) a' w' → K a' w') → o.wp P a w K Q) : anyTill P md ops Q S n (f + 1) listed a w := by
  refine ⟨fun h0 => (by rw [hr] at h0; cases h0), fun j hj => ?_⟩
  rw [hr] at hj
  obtain rfl : j = i := by simpa using hj
  exact wpOp_in hi hw (h _ fun a' w' h1 h2 => ⟨h1, h2⟩)
/-- one of two operations may come up -/
theorem till_two {i i' : Nat} {o o' : Oper} {f : Nat} {listed : Array Bool} {a : Act} {w : World} (hr : Region.ready md ops listed = [i, i']) (hi : ops[i]? = some o) (hw : Region.wanted o (yielded ops a.tmps) = true) (hi' : ops[i']? = some o') (hw' : Region.wanted o' (yielded ops a.tmps) = true)
    (h : ∀ K : Act → World → Prop, (∀ a' w', (i < n → S w') → anyTill P md ops Q S n f (listed.setIfInBounds i true) a' w' → K a' w') → o.wp P a w K Q)
    (h' : ∀ K : Act → World → Prop, (∀ a' w', (i' < n → S w') → anyTill P md ops Q S n f (listed.setIfInBounds i' true) a' w' → K a' w') → o'.wp P a w K Q) : anyTill P md ops Q S n (f + 1) listed a w := by
  refine ⟨fun h0 => (by rw [hr] at h0; cases h0), fun j hj => ?_⟩
  rw [hr] at hj
  rcases (by simpa using hj : j = i ∨ j = i') with rfl | rfl
  · exact wpOp_in hi hw (h _ fun a' w' h1 h2 => ⟨h1, h2⟩)
  · exact wpOp_in hi' hw' (h' _ fun a' w' h1 h2 => ⟨h1, h2⟩)
theorem till_done {listed : Array Bool} {a : Act} {w : World} (hr : Region.ready md ops listed = []) (h : Q .normal a w) : ∀ f, anyTill P md ops Q S n f listed a w
  | 0 => ⟨hr, h⟩
  | _ + 1 => ⟨fun _ => h, by rw [hr]; simp⟩
end
theorem region_inRound_till {l m : Nat} {P : Program} {id : Nat} {ops : Array Oper} {Q : Exit → Act → World → Prop} {a : Act} {w : World} (n : Nat) (S : World → Prop) (hm : P.follows .mixedOrders = true) (hd : noDeferB ops = true) (hQ : ¬ LetsOut Q)
    (h : anyTill P .any ops Q S n ops.size (Array.replicate ops.size false) a w.drew) : (Code.region id ops true).wpIn (Fence.wide.inRound l) m P Q a w :=
  region_inRound hm hd hQ (any_of_till _ _ _ _ h)
end Go.Proofs.YtcngpciblbdgbaaGreatDoor

/-! Two rows of one's own, each to be appended one number by a literal of one cell, in whatever order. Conditions: the rows are apart. -/
namespace Go.Proofs.YtcngpciblbdgbaaGreatDoor
open Go Go.RowKit Go.Shelf
/-- how far an append has come: not begun; its literal lies in block L; done, the row is v -/
inductive Prog where
  | todo
  | lit (L : Nat)
  | done (v : Value)
def curV (v : Value) : Prog → Value
  | .done v' => v'
  | _ => v
def litOf : Prog → Option Nat
  | .lit L => some L
  | _ => none
def rowAt (U : World) (base : Nat) (v : Value) (n : Nat) (l : List Int) (x : Int) : Prog → Prop
  | .todo => U.ownsRow base 3 1 v n (iv l)
  | .lit L => U.ownsRow base 3 1 v n (iv l) ∧ U.cell? ⟨L, 0, none⟩ = some (.int .i64 x)
  | .done v' => U.ownsRow base 3 1 v' (n + 1) (iv (l ++ [x]))
structure Both (base : Nat) (W U : World) (v1 v2 : Value) (n : Nat) (ks xs : List Int) (k x : Int) (p q : Prog) : Prop where
  r1 : rowAt U base v1 n ks k p
  r2 : rowAt U base v2 n xs x q
  apart : ∀ r, (curV v1 p).ownBlock = some r → (curV v2 q).ownBlock ≠ some r
  l1 : ∀ L, litOf p = some L → (curV v2 q).ownBlock ≠ some L ∧ L < U.heap.size
  l2 : ∀ L, litOf q = some L → (curV v1 p).ownBlock ≠ some L ∧ L < U.heap.size
  os : U.os = W.os
  tape : U.tape = W.tape
  output : U.output = W.output
  size : W.heap.size ≤ U.heap.size
  keep : ∀ j, j < W.heap.size → v1.ownBlock ≠ some j → v2.ownBlock ≠ some j → U.heap[j]? = W.heap[j]?
  new1 : (curV v1 p).ownBlock = v1.ownBlock ∨ ∃ r, (curV v1 p).ownBlock = some r ∧ W.heap.size ≤ r
  new2 : (curV v2 q).ownBlock = v2.ownBlock ∨ ∃ r, (curV v2 q).ownBlock = some r ∧ W.heap.size ≤ r
variable {base : Nat} {W U : World} {v1 v2 : Value} {n : Nat} {ks xs : List Int} {k x : Int} {p q : Prog}
theorem Both.swap (h : Both base W U v1 v2 n ks xs k x p q) : Both base W U v2 v1 n xs ks x k q p :=
  ⟨h.r2, h.r1, fun r h1 h2 => h.apart r h2 h1, h.l2, h.l1, h.os, h.tape, h.output, h.size, fun j hj h1 h2 => h.keep j hj h2 h1, h.new2, h.new1⟩
theorem cur_lt (h : rowAt U base v1 n ks k p) : ∀ r, (curV v1 p).ownBlock = some r → base ≤ r ∧ r < U.heap.size := by
  intro r hr
  cases p with
  | todo => exact World.ownsRow.lt h r hr
  | lit L => exact h.1.lt r hr
  | done v' => exact World.ownsRow.lt h r hr
theorem rowAt.grown {U' : World} {row : Option Nat} (h : rowAt U base v1 n ks k p) (hg : U.grownBy U' row) (h1 : ∀ r, (curV v1 p).ownBlock = some r → some r ≠ row) (h2 : ∀ L, litOf p = some L → some L ≠ row) : rowAt U' base v1 n ks k p := by
  have hk : ∀ v : Value, (∀ r, v.ownBlock = some r → some r ≠ row) → v.ownBlock = none ∨ v.ownBlock ≠ row := fun v hv => by
    cases e : v.ownBlock with
    | none => exact .inl rfl
    | some r => exact .inr (hv r e)
  cases p with
  | todo => exact World.ownsRow.kept h hg (hk _ h1)
  | lit L => exact ⟨h.1.kept hg (hk _ h1), hg.cell h.2 (h2 L rfl)⟩
  | done v' => exact World.ownsRow.kept h hg (hk _ h1)
theorem Both.lit (h : Both base W U v1 v2 n ks xs k x .todo q) : Both base W (U.alloc (.cells #[.int .i64 k] 3)) v1 v2 n ks xs k x (.lit U.heap.size) q := by
  have hg := World.grownBy_alloc U (.cells #[.int .i64 k] 3) none
  refine ⟨⟨World.ownsRow.alloc h.r1 _, by simp⟩, h.r2.grown hg (fun r _ => by simp) (fun L _ => by simp), h.apart, ?_, ?_, h.os, h.tape, h.output, Nat.le_trans h.size hg.size, ?_, h.new1, h.new2⟩
  · intro L hL
    injection hL with hL
    subst hL
    exact ⟨fun e => by have := (cur_lt h.r2 _ e).2; omega, by simp⟩
  · intro L hL
    exact ⟨(h.l2 L hL).1, by have := (h.l2 L hL).2; simp; omega⟩
  · intro j hj h1 h2
    exact (Below.heap_alloc _ _ _ (Nat.lt_of_lt_of_le hj h.size)).trans (h.keep j hj h1 h2)
theorem Both.app {L g cap : Nat} {U' : World} (h : Both base W U v1 v2 n ks xs k x (.lit L) q) (hown : U'.ownsRow base 3 1 (.slice (some ⟨g, 0, none⟩) (n + 1) cap) (n + 1) (iv ks ++ [.int .i64 k])) (hg : U.grownBy U' v1.ownBlock) (hat : v1.ownBlock = some g ∨ g = U.heap.size) :
    Both base W U' v1 v2 n ks xs k x (.done (.slice (some ⟨g, 0, none⟩) (n + 1) cap)) q := by
  have ha : ∀ r, (curV v2 q).ownBlock = some r → some r ≠ v1.ownBlock := fun r hr e => h.apart r e.symm hr
  refine ⟨?_, h.r2.grown hg ha (fun L' hL' e => (h.l2 L' hL').1 e.symm), ?_, (fun L' hL' => by cases hL'), ?_, hg.os.trans h.os, hg.tape.trans h.tape, hg.output.trans h.output, Nat.le_trans h.size hg.size, ?_, ?_, h.new2⟩
  · show U'.ownsRow base 3 1 _ (n + 1) (iv (ks ++ [k]))
    rw [iv_snoc]
    exact hown
  · intro r hr
    simp only [curV, Value.ownBlock, Option.some.injEq] at hr
    subst hr
    rcases hat with e | e
    · exact h.apart _ e
    · intro e2
      have := (cur_lt h.r2 _ e2).2
      omega
  · intro L' hL'
    have h1 := h.l2 L' hL'
    refine ⟨fun e => ?_, Nat.lt_of_lt_of_le h1.2 hg.size⟩
    simp only [curV, Value.ownBlock, Option.some.injEq] at e
    rcases hat with e2 | e2
    · exact h1.1 (by show v1.ownBlock = _; rw [e2, e])
    · have := h1.2
      omega
  · intro j hj h1 h2
    exact (hg.block j (Nat.lt_of_lt_of_le hj h.size) (fun e => h1 e.symm)).trans (h.keep j hj h1 h2)
  · rcases hat with e | e
    · exact .inl e.symm
    · exact .inr ⟨g, rfl, by have := h.size; omega⟩
end Go.Proofs.YtcngpciblbdgbaaGreatDoor
