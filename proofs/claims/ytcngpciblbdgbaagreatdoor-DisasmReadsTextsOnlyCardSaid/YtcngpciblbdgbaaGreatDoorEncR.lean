/- Two more ways through a region that draws its order, in a round of a range over a function: it only reads and makes quiet calls; or all operations but the last few only read. Conditions: no operation is a defer statement. -/
import Derived.Deep.QuietTactic
import Derived.BigQuiet
import Derived.StillTailTactics
import Derived.Deep.RegionHeld3
import Derived.Test.YtcngpciblbdgbaaGreatDoorIsaR
namespace Go.Proofs.YtcngpciblbdgbaaGreatDoor
open Go

theorem region_inRound_quiet {l n : Nat} {P : Program} {id : Nat} {ops : List Oper} {Q : Exit → Act → World → Prop} {a : Act} {w : World} (hm : P.follows .mixedOrders = true) (hB : Region.lexB .any ops.toArray = true) (hd : noDeferB ops.toArray = true) (hQ : ¬ LetsOut Q)
    (h : wpQuiet P ops.toArray (fun w' => ∃ k, w' = w.drewN k) (fun a' => ∀ w', (∃ k, w' = w.drewN k) → Q .normal a' w') ops a) : (Code.region id ops.toArray true).wpIn (Fence.wide.inRound l) n P Q a w := by
  refine region_inRound hm hd hQ (wpAny_of_quiet (Q := fun a' => ∀ w', (∃ k, w' = w.drewN k) → Q .normal a' w') (fun _ w' hw' h => h w' hw') _ _ _ _ ⟨1, rfl⟩ ?_)
  rw [Region.lexB, Bool.and_eq_true] at hB
  have H := wpAnyQ_lex (C := fun w' => ∃ k, w' = w.drewN k) (md := .any) hB.1 ops 0 (Array.replicate ops.toArray.size false) a (fun j => by simp) (by have := hB.2; simpa using this) h
  exact H

theorem region_inRound_tail {l k : Nat} {P : Program} {id : Nat} {ops : List Oper} {Q : Exit → Act → World → Prop} {a : Act} {w : World} (n : Nat) (hm : P.follows .mixedOrders = true) (hB : Region.lexTailB .any ops.toArray n = true) (hd : noDeferB ops.toArray = true) (hQ : ¬ LetsOut Q)
    (h : wpStill P ops.toArray w.drew (fun a' => wpList P ops.toArray Q (ops.drop n) a' w.drew) (ops.take n) a) : (Code.region id ops.toArray true).wpIn (Fence.wide.inRound l) k P Q a w := by
  refine region_inRound hm hd hQ ?_
  simp only [Region.lexTailB, Bool.and_eq_true, decide_eq_true_eq] at hB
  obtain ⟨⟨⟨⟨c1, c2⟩, c3⟩, c4⟩, c5⟩ := hB
  have hlt : n < ops.length := by simpa using c2
  have l1 : (ops.take n).length = n := by rw [List.length_take]; omega
  have l2 : (ops.drop n).length = ops.toArray.size - n := by simp
  have H := wpAnyL_lex (md := .any) (g := ops.toArray.size - n) c1 c3 c4 c2 (ops.take n) 0 (Array.replicate ops.toArray.size false) a (fun j hj => by rw [l1] at hj; simp [hj]) (by rw [l1]; omega)
    ⟨by simp, fun j oj _ hl => absurd hl (by rw [getD_replicate_false]; simp), fun t _ ht => getD_in (by simpa using ht) (getD_replicate_false _ _)⟩ (by rw [l1]; exact c5) h
  have T := wpAny_of_head (Q' := Q) (g := ops.toArray.size - n) (fun ld a' hL => by
    have S := wpAny_of_seq (md := .any) (Q' := Q) (ops.drop n) n ld a' w.drew (fun j => by simp [List.getElem?_drop]) (by rw [l2]; exact hL.1) hL.2
    rw [l2] at S; exact S) _ _ _ H
  rw [l1, Nat.add_sub_of_le (Nat.le_of_lt c2)] at T
  exact T
theorem region_inRound_held {l n : Nat} {P : Program} {id : Nat} {ops : Array Oper} {Q : Exit → Act → World → Prop} {a : Act} {w : World} (S : World → Prop) (hm : P.follows .mixedOrders = true) (hd : noDeferB ops = true) (hQ : ¬ LetsOut Q)
    (h : wpAnyH P .any ops Q S ops.size (Array.replicate ops.size false) a w.drew) : (Code.region id ops true).wpIn (Fence.wide.inRound l) n P Q a w :=
  region_inRound hm hd hQ (wpAny_of_held _ _ _ _ h)
end Go.Proofs.YtcngpciblbdgbaaGreatDoor
