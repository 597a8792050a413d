/- The bulk of a slice of tokens that the row reads. -/
import Derived.Test.YthbbjiagfpnabaaDoorExV
namespace Go.Proofs.YthbbjiagfpnabaaDoor.Tok
open Go.ChangeShapes Go.WideShapes Go.ChangeAt Go.RowKit Go.Deep Go.Lib

section
variable {H : Type} {enc : TypeId × Value → H} {W : World} {sp : Nat → Bool} {held : Bool} {fuel : Nat}
theorem toks_bulk {A : Option Addr} {n c : Nat} {d : DataW H} {p : List MemPlace} (h : DataW.trod enc Tryd.prog W 0 sp held fuel 22 (Value.slice A n c).cells.toList = some (d, p)) (hw : ∀ n ∈ d.weights Tryd.prog 22, n ≤ reachBytes) : n * 40 ≤ 140737488351232 := by
  rcases open_slice Tryd.underlying22 h with ⟨hcs, _⟩ | ⟨a, len, cap, m, n', D, Pl, hcs, _, hl, hm, hmm, hx, hi⟩
  · injection hcs with hcs
    injection hcs with _ hn _
    subst hn
    omega
  · injection hcs with hcs
    injection hcs with _ hn _
    subst hn
    have hle : n ≤ m := by rw [hmm]; split <;> omega
    obtain ⟨hd, _⟩ := Prod.mk.inj hx
    have hby : Tryd.prog.bytesOf 31 = 40 := by kernel_rfl
    have hws : ∀ k ∈ (n + (m - n)) * 40 :: (DataW.weightsAll Tryd.prog 31 ((List.range n).map D) ++ DataW.weightsAll Tryd.prog 31 ((List.range (m - n)).map fun j => D (n + j))), k ≤ reachBytes := fun k hk => by
      refine hw k ?_
      rw [hd, DataW.weights]
      simp only [Tryd.underlying22, hby, List.length_map, List.length_range]
      exact hk
    have := hws _ (List.mem_cons_self ..)
    unfold reachBytes at this
    omega
end
end Go.Proofs.YthbbjiagfpnabaaDoor.Tok
