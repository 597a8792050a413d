/- The law TokenRoundTrip: true for all tokens. Conditions: the reading of the argument; the library's listed variables. -/
import Derived.Test.YtccnaoabmgkblaaDoorTokR
import Derived.Test.YtccnaoabmgkblaaDoorTokS
namespace Go.Proofs.YtccnaoabmgkblaaDoor.Tok
open Go Go.RowKit

/-- the tokens that Split hands back, read -/
theorem split_read {l : List UInt8} {w : World} {B : Nat} {v : Value} (hl : l.length ≤ 8000) (h : w.ownsRow B 37 4 v (lex 0 (body l)).1.length (tkv (lex 0 (body l)).1)) : TksAt w.heap.size w v (lex 0 (body l)).1 := by
  have hb := body_le l
  obtain ⟨h1, h2⟩ := lex_bounds _ (body l) 0 (Nat.le_refl _)
  exact toks_of_row h (by omega) (fun t ht => by have := h2 t ht; omega)
theorem lit_below (w : World) (o : Obj) : Below w.heap.size w (w.alloc o) := (Below.refl _ _).alloc (Nat.le_refl _) _
set_option maxHeartbeats 2000000 in
set_option maxRecDepth 100000 in
theorem law_trip (B : Nat) (v : Value) (ts : List Tk) (w : World) (h : TksAt B w v ts) (hB : B ≤ w.heap.size) (hV : VarsAt w.heap.size w) :
    Calls Tryd.prog 5 #[v] w fun e w' => e = .returned (.bool true) ∧ Below w.heap.size w w' := by
  have H := Lib.hid h
  have HV := Lib.hid hV
  have C0 := Lib.hid (example_any w hV)
  obtain ⟨A, n, c, rfl, -, -, -, -⟩ := h.opens
  clear h hV
  go_enter Tryd.func5, Tryd.ntmps5
  go_wp2_with fail
  refine C0.out.mono ?_
  rintro e W1 ⟨rfl, hb1⟩
  have HB1 := Lib.hid hb1
  have C1 := Lib.hid (join_any B _ ts W1 (H.out.below (hb1.mono hB)) (Nat.le_trans hB hb1.size) (HV.out.up hb1))
  clear hb1 C0
  go_wp2_with fail
  refine C1.out.mono ?_
  rintro e W2 ⟨⟨-, rfl⟩ | ⟨-, k, t, -, -, -, rfl⟩ | ⟨-, -, -, rfl⟩ | ⟨-, hnn, h8, rfl⟩, hb2⟩
  · have HB2 := Lib.hid (HB1.out.trans (hb2.mono HB1.out.size))
    clear hb2 C1
    go_wp2_with fail
    go_ret
    exact ⟨rfl, HB2.out.alloc HB2.out.size _⟩
  · have HB2 := Lib.hid (HB1.out.trans (hb2.mono HB1.out.size))
    clear hb2 C1
    go_wp2_with fail
    go_ret
    exact ⟨rfl, HB2.out.alloc HB2.out.size _⟩
  · have HB2 := Lib.hid (HB1.out.trans (hb2.mono HB1.out.size))
    clear hb2 C1
    go_wp2_with fail
    go_ret
    exact ⟨rfl, HB2.out.alloc HB2.out.size _⟩
  · obtain ⟨ys, hy, hs⟩ := lex_join (all_ok hnn)
    have HS := Lib.hid hs
    have HY := Lib.hid hy
    have H8 := Lib.hid h8
    have HB2 := Lib.hid ((HB1.out.trans (hb2.mono HB1.out.size)).trans ((lit_below W2 (.cells #[.int .i64 0, .int .i64 0] 25)).mono (Nat.le_trans HB1.out.size hb2.size)))
    obtain ⟨V, hVe⟩ : ∃ V, V = W2.alloc (.cells #[.int .i64 0, .int .i64 0] 25) := ⟨_, rfl⟩
    have hfb : V.cell? ⟨W2.heap.size, 0, none⟩ = some (.int .i64 0) := by rw [hVe]; exact cells_new (xs := [.int .i64 0, .int .i64 0]) 0 _ rfl
    rw [← hVe] at HB2
    have HVE := Lib.hid hVe
    have HF := Lib.hid hfb
    have C2 := Lib.hid (split_any (joinL ts) V (by omega) (HV.out.up HB2.out))
    clear hs hy h8 hnn hb2 hVe hfb C1
    go_wp2_with fail
    rw [← HVE.out]
    refine C2.out.mono ?_
    rintro e W3 ⟨⟨h1, -⟩ | ⟨-, h1, -⟩ | ⟨-, -, u, rfl, hrow⟩, hb3⟩
    · exact absurd h1 (by have := H8.out; omega)
    · rw [HY.out] at h1
      exact absurd h1 (show ¬ (0 : Int) ≤ -1 by decide)
    · have hrd := split_read H8.out hrow
      rw [HY.out] at hrow hrd
      have HB3 := Lib.hid (HB2.out.trans (hb3.mono HB2.out.size))
      have hrd2 := hrd.below (lit_below W3 (.cells #[.int .i64 0, .int .i64 0] 25))
      have HR := Lib.hid hrd2
      obtain ⟨A3, c3, rfl⟩ := row_is hrow
      have HB4 := Lib.hid (HB3.out.trans ((lit_below W3 (.cells #[.int .i64 0, .int .i64 0] 25)).mono HB3.out.size))
      have C3 := Lib.hid (same_any _ _ _ false _ ts _ (hrd2.more (lit_below W3 _).size) ((H.out.below (HB4.out.mono hB)).more (Nat.le_trans hB HB4.out.size)) HS.out)
      clear hrow hrd hrd2 hb3 C2
      go_wp2_with fail
      refine C3.out.mono ?_
      rintro e w' ⟨rfl, q, rfl⟩
      go_wp2_with fail
      go_ret
      exact ⟨rfl, below_drewN HB4.out q⟩
end Go.Proofs.YtccnaoabmgkblaaDoor.Tok
