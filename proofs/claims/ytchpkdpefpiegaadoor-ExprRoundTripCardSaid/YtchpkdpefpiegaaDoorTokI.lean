/- Contract of Split: the tokens of a line. Conditions: the library's listed variables. -/
import Derived.OneCell
import Derived.Maps.AppendAt
import Derived.Deep.AppendLies
import Derived.Lib.IndexBytes
import Derived.Lib.IndexLaws
import Derived.Test.YtchpkdpefpiegaaDoorTokC
namespace Go.Proofs.YtchpkdpefpiegaaDoor.Tok
open Go Go.RowKit

def Tk.v (t : Tk) : Value := .agg #[.int .i64 t.kind, strV t.text, .int .i64 t.val, .int .i64 t.pos]
def zeroTk : Tk := ⟨0, [], 0, 0⟩
def tokW (w : World) : World := w.alloc (.cells #[.int .i64 0, strV [], .int .i64 0, .int .i64 0] 31)
theorem tokW_below (w : World) : Below w.heap.size w (tokW w) := (Below.refl _ _).alloc (Nat.le_refl _) _
/-! ## rows of tokens in memory -/
theorem infoTok : (Tryd.prog.info? 31).map (fun i => (i.zero, i.size, i.bytes)) = some (some (.agg #[.int .i64 0, strV [], .int .i64 0, .int .i64 0]), 4, 40) := by kernel_rfl
theorem row_is {w : World} {B n size : Nat} {e : TypeId} {v : Value} {xs : List Value} (h : w.ownsRow B e size v n xs) : ∃ A c, v = .slice A n c := by
  rcases h.2 with ⟨rfl, rfl⟩ | ⟨g, cap, cur, rfl, _⟩
  · exact ⟨_, _, rfl⟩
  · exact ⟨_, _, rfl⟩
theorem ownsRow_base {w : World} {B B' : Nat} {e : TypeId} {size n : Nat} {v : Value} {xs : List Value} (h : w.ownsRow B e size v n xs) (hB : B' ≤ B) : w.ownsRow B' e size v n xs := by
  refine ⟨h.1, ?_⟩
  rcases h.2 with h2 | ⟨g, cap, cur, h3, h4, r⟩
  · exact .inl h2
  · exact .inr ⟨g, cap, cur, h3, by omega, r⟩
theorem ownsRow_below {w w' : World} {B : Nat} {e : TypeId} {size n : Nat} {v : Value} {xs : List Value} (h : w.ownsRow B e size v n xs) (hb : Below w.heap.size w w') : w'.ownsRow B e size v n xs := by
  refine ⟨h.1, ?_⟩
  rcases h.2 with h2 | ⟨g, cap, cur, h3, h4, h5, r⟩
  · exact .inl h2
  · exact .inr ⟨g, cap, cur, h3, h4, (hb.block g (lt_of_block h5)).trans h5, r⟩
theorem ownsRow_sets {w : World} {B k : Nat} {e : TypeId} {size n : Nat} {v : Value} {xs : List Value} (h : w.ownsRow B e size v n xs) (hk : k < B) (u0 u1 : Value) : ((w.setCell ⟨k, 0, none⟩ u0).setCell ⟨k, 1, none⟩ u1).ownsRow B e size v n xs :=
  ownsRow_setCell_other (ownsRow_setCell_other h (fun e => by have := (h.lt k e).1; omega) u0) (fun e => by have := (h.lt k e).1; omega) u1
def tkC (t : Tk) : List Value := [.int .i64 t.kind, strV t.text, .int .i64 t.val, .int .i64 t.pos]
def tkv (ts : List Tk) : List Value := ts.flatMap tkC
theorem tkv_snoc (ts : List Tk) (t : Tk) : tkv (ts ++ [t]) = tkv ts ++ tkC t := by simp [tkv]
theorem tkC_one (t : Tk) : ∀ u ∈ tkC t, u.oneCell' = true := by
  intro u hu
  simp only [tkC, List.mem_cons, List.not_mem_nil, or_false] at hu
  rcases hu with rfl | rfl | rfl | rfl <;> rfl
theorem tok_news (W : World) (x1 x2 x3 x4 : Value) (t : TypeId) : ∀ j u, [x1, x2, x3, x4][j]? = some u → (W.alloc (.cells #[x1, x2, x3, x4] t)).cell? ((⟨W.heap.size, 0, none⟩ : Addr).add j) = some u :=
  World.news_of_block (cs := #[x1, x2, x3, x4]) (t := t) (fr := (0, 0)) (heap_alloc_new W _)
theorem tok_news2 (W : World) (o : Obj) (x1 x2 x3 x4 : Value) (t : TypeId) : ∀ j u, [x1, x2, x3, x4][j]? = some u → ((W.alloc o).alloc (.cells #[x1, x2, x3, x4] t)).cell? ((⟨W.heap.size + 1, 0, none⟩ : Addr).add j) = some u := by
  have h := tok_news (W.alloc o) x1 x2 x3 x4 t
  rw [World.size_alloc] at h
  exact h
theorem fault_cells {w W : World} (hb : Below (w.alloc (.cells #[.int .i64 0, .int .i64 0] 26)).heap.size (w.alloc (.cells #[.int .i64 0, .int .i64 0] 26)) W) :
    W.cell? ⟨w.heap.size, 0, none⟩ = some (.int .i64 0) ∧ W.cell? ⟨w.heap.size, 1, none⟩ = some (.int .i64 0) ∧ W.frozen? ⟨w.heap.size, 0, none⟩ = false ∧ W.frozen? ⟨w.heap.size, 1, none⟩ = false ∧ w.heap.size < W.heap.size := by
  have hfc : W.heap[w.heap.size]? = some (.cells #[.int .i64 0, .int .i64 0] 26 (0, 0)) := (hb.block w.heap.size (by simp)).trans (heap_alloc_new w _)
  exact ⟨by simp [World.cell?, hfc], by simp [World.cell?, hfc], by simp [World.frozen?, hfc], by simp [World.frozen?, hfc], lt_of_block hfc⟩
theorem cell_alloc_l {W : World} {p : Addr} {v : Value} (o : Obj) (h : W.cell? p = some v) : (W.alloc o).cell? p = some v := (World.cell?_alloc_lt _ _ _ (block_lt_of_cell h)).trans h
theorem two_set {W : World} {R : Nat} {x y u v : Value} (h0 : W.cell? ⟨R, 0, none⟩ = some u) (h1 : W.cell? ⟨R, 1, none⟩ = some v) :
    ((W.setCell ⟨R, 0, none⟩ x).setCell ⟨R, 1, none⟩ y).cell? ⟨R, 0, none⟩ = some x ∧ ((W.setCell ⟨R, 0, none⟩ x).setCell ⟨R, 1, none⟩ y).cell? ⟨R, 1, none⟩ = some y :=
  ⟨(World.cell?_setCell_other _ _ _ _ (by simp)).trans (World.cell?_setCell_same' _ _ _ (by rw [h0]; rfl)), World.cell?_setCell_same' _ _ _ (by rw [World.cell?_setCell_other _ _ _ _ (by simp), h1]; rfl)⟩
/-- the world with a box for a fault -/
def fltW (w : World) : World := w.alloc (.cells #[.int .i64 0, .int .i64 0] 26)
theorem fltW_below (w : World) : Below w.heap.size w (fltW w) := (Below.refl _ _).alloc (Nat.le_refl _) _
theorem fltW_size (w : World) : (fltW w).heap.size = w.heap.size + 1 := by simp [fltW]
end Go.Proofs.YtchpkdpefpiegaaDoor.Tok
