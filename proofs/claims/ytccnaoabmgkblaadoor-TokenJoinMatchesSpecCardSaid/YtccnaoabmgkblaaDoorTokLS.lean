/- The law TokenSplitMatchesSpec: true for every line. Conditions: the library's listed variables. -/
import Derived.Deep.RegionHeld3
import Derived.Test.YtccnaoabmgkblaaDoorTokT
import Derived.Test.YtccnaoabmgkblaaDoorTokK
namespace Go.Proofs.YtccnaoabmgkblaaDoor.Tok
open Go Go.RowKit Go.Lib

/-- the box of a fault at block X -/
def Box (X : Nat) (c i : Int) (W : World) : Prop := W.cell? ⟨X, 0, none⟩ = some (.int .i64 c) ∧ W.cell? ⟨X, 1, none⟩ = some (.int .i64 i)
theorem Box.below {X : Nat} {c i : Int} {W W' : World} (h : Box X c i W) (hb : Below W.heap.size W W') : Box X c i W' :=
  ⟨(hb.cell (p := ⟨X, 0, none⟩) (block_lt_of_cell h.1)).trans h.1, (hb.cell (p := ⟨X, 1, none⟩) (block_lt_of_cell h.2)).trans h.2⟩
theorem box_new (W : World) (c i : Int) : Box W.heap.size c i (W.alloc (.cells #[.int .i64 c, .int .i64 i] 25)) :=
  ⟨cells_new (xs := [.int .i64 c, .int .i64 i]) 0 _ rfl, cells_new (xs := [.int .i64 c, .int .i64 i]) 1 _ rfl⟩
/-- the tokens that Tokens hands back, read -/
theorem toks_read {l : List UInt8} {w : World} {B : Nat} {v : Value} (hl : l.length ≤ 8000) (h : w.ownsRow B 37 4 v (lex 0 (body l)).1.length (tkv (lex 0 (body l)).1)) : TksAt w.heap.size w v (lex 0 (body l)).1 := split_read hl h
set_option maxRecDepth 100000 in
set_option maxHeartbeats 4000000 in
theorem law_split (s : ByteArray) (w : World) (hs : s.size ≤ 140737488351232) (hV : VarsAt w.heap.size w) :
    Calls Tryd.prog 3 #[.string s] w fun e w' => e = .returned (.bool true) ∧ Below w.heap.size w w' := by
  have HV := Lib.hid hV
  obtain ⟨l, hl⟩ : ∃ l, l = s.data.toList := ⟨_, rfl⟩
  have hls : Value.string s = strV l := by rw [hl]
  have hlen : l.length = s.size := by rw [hl]; simp
  have HLS := Lib.hid hls
  have HLEN := Lib.hid hlen
  have C0 := Lib.hid (example_any w hV)
  clear hV hl hls hlen
  go_enter Tryd.func3, Tryd.ntmps3
  go_wp2_with fail
  refine C0.out.mono ?_
  rintro e W1 ⟨rfl, hb1⟩
  have HB1 := Lib.hid hb1
  have hsplit := split_any l W1 (by have := HLEN.out; omega) (HV.out.up hb1)
  rw [← HLS.out] at hsplit
  have C1 := Lib.hid hsplit
  clear hb1 C0 hsplit
  go_wp2_with fail
  refine C1.out.mono ?_
  rintro e W2 ⟨⟨h1, rfl⟩ | ⟨h8, h1, rfl⟩ | ⟨h8, h1, v, rfl, hrow⟩, hb2⟩
  · have hd : 8000 < s.size := by have := HLEN.out; omega
    have HB2 := Lib.hid (HB1.out.trans (hb2.mono HB1.out.size))
    clear h1 hb2 C1
    go_wp2_with fail
    obtain ⟨W3, hW3⟩ : ∃ W3, W3 = W2.alloc (.cells #[.int .i64 2, .int .i64 (-1)] 25) := ⟨_, rfl⟩
    have hbx : Box W2.heap.size 2 (-1) W3 := by rw [hW3]; exact box_new _ _ _
    have HFN := Lib.hid (show Below w.heap.size w W3 by rw [hW3]; exact HB2.out.trans ((lit_below _ _).mono HB2.out.size))
    obtain ⟨X, hX⟩ : ∃ X, X = W2.heap.size := ⟨_, rfl⟩
    rw [← hX] at hbx ⊢
    rw [← hW3]
    have KS := Lib.hid hbx
    have hcur : Below W3.heap.size W3 W3.drew := (Below.refl _ _).drew
    have hXl := block_lt_of_cell hbx.1
    clear hW3 hX hbx
    go_region_held3 (fun W' => W'.cell? ⟨X, 0, none⟩ = some (.int .i64 2) ∧ W'.cell? ⟨X, 1, none⟩ = some (.int .i64 (-1)))
      (exact KS.out.below hcur)
      ((go_at_call 10; refine (at_any _ _ _).mono ?_; rintro e W7 ⟨rfl, hb7⟩; have hcur := hcur.trans (hb7.mono hcur.size)))
    go_wp2_with fail
    go_ret
    exact ⟨rfl, HFN.out.trans (hcur.mono HFN.out.size)⟩
  · have hd : ¬ 8000 < s.size := by have := HLEN.out; omega
    have H1 := Lib.hid h1
    obtain ⟨E, hE⟩ : ∃ E, E = (lex 0 (body l)).2 := ⟨_, rfl⟩
    have HE := Lib.hid hE
    have hE0 : 0 ≤ E := by rw [hE]; exact h1
    rw [← hE]
    have HB2 := Lib.hid (HB1.out.trans (hb2.mono HB1.out.size))
    have htk := tokens_any l (W2.alloc (.cells #[.int .i64 1, .int .i64 E] 25)) h8
    rw [← HLS.out] at htk
    obtain ⟨W3, hW3⟩ : ∃ W3, W3 = W2.alloc (.cells #[.int .i64 1, .int .i64 E] 25) := ⟨_, rfl⟩
    have hbx : Box W2.heap.size 1 E W3 := by rw [hW3]; exact box_new _ _ _
    have HFN := Lib.hid (show Below w.heap.size w W3 by rw [hW3]; exact HB2.out.trans ((lit_below _ _).mono HB2.out.size))
    rw [← hW3] at htk
    have C2 := Lib.hid htk
    have HW3 := Lib.hid hW3
    have KS0 := Lib.hid hbx
    clear h1 h8 hb2 C1 hE htk hW3 hbx
    go_wp2_with fail
    rw [← HW3.out]
    refine C2.out.mono ?_
    rintro e W4 ⟨⟨h2, rfl⟩ | ⟨h2, v, rfl, -⟩, hb4⟩
    · have hb := KS0.out.below hb4
      have HF4 := Lib.hid (HFN.out.trans (hb4.mono HFN.out.size))
      obtain ⟨X, hX⟩ : ∃ X, X = W2.heap.size := ⟨_, rfl⟩
      rw [← hX] at hb ⊢
      rw [← HE.out]
      have KS := Lib.hid hb
      have hcur : Below W4.heap.size W4 W4.drew := (Below.refl _ _).drew
      have hXl := block_lt_of_cell hb.1
      clear h2 hb hX hb4 C2 KS0 HW3
      go_wp2_with fail
      go_region_held3 (fun W' => W'.cell? ⟨X, 0, none⟩ = some (.int .i64 1) ∧ W'.cell? ⟨X, 1, none⟩ = some (.int .i64 E))
        (exact KS.out.below hcur)
        ((go_at_call 10; refine (at_any _ _ _).mono ?_; rintro e W7 ⟨rfl, hb7⟩; have hcur := hcur.trans (hb7.mono hcur.size)))
      go_wp2_with fail
      go_ret
      exact ⟨rfl, HF4.out.trans (hcur.mono HF4.out.size)⟩
    · exact absurd H1.out (by rw [h2]; decide)
  · have hd : ¬ 8000 < s.size := by have := HLEN.out; omega
    have H1 := Lib.hid h1
    have H8 := Lib.hid h8
    have HB2 := Lib.hid (HB1.out.trans (hb2.mono HB1.out.size))
    have hrd := split_read h8 hrow
    have htk := tokens_any l (W2.alloc (.cells #[.int .i64 0, .int .i64 0] 25)) h8
    rw [← HLS.out] at htk
    obtain ⟨W3, hW3⟩ : ∃ W3, W3 = W2.alloc (.cells #[.int .i64 0, .int .i64 0] 25) := ⟨_, rfl⟩
    have hb23 : Below W2.heap.size W2 W3 := by rw [hW3]; exact lit_below _ _
    have hbx : Box W2.heap.size 0 0 W3 := by rw [hW3]; exact box_new _ _ _
    have HFN := Lib.hid (HB2.out.trans (hb23.mono HB2.out.size))
    have HR3 := Lib.hid ((hrd.below hb23).more hb23.size)
    rw [← hW3] at htk
    have C2 := Lib.hid htk
    have HW3 := Lib.hid hW3
    have KS0 := Lib.hid hbx
    obtain ⟨A, c, rfl⟩ := row_is hrow
    generalize (lex 0 (body l)).1.length = n at *
    clear h1 h8 hb2 hb23 hrow hrd C1 htk hW3 hbx
    go_wp2_with fail
    rw [← HW3.out]
    refine C2.out.mono ?_
    rintro e W4 ⟨⟨h2, rfl⟩ | ⟨h2, v, rfl, hrow4⟩, hb4⟩
    · exact absurd h2 (by rw [H1.out]; decide)
    · obtain ⟨c0, c1⟩ := KS0.out.below hb4
      have HF4 := Lib.hid (HFN.out.trans (hb4.mono HFN.out.size))
      have HR4 := Lib.hid ((HR3.out.below hb4).more hb4.size)
      have hrd4 := split_read H8.out hrow4
      have C3 := Lib.hid (same_any _ _ _ true _ _ W4 HR4.out hrd4 (sameTks_refl true _))
      obtain ⟨A4, c4, rfl⟩ := row_is hrow4
      generalize (lex 0 (body l)).1.length = m at *
      clear h2 hrow4 hrd4 hb4 C2 KS0 HW3
      go_wp2_with fail
      refine C3.out.mono ?_
      rintro e w' ⟨rfl, q, rfl⟩
      go_wp2_with fail
      go_ret
      exact ⟨rfl, below_drewN HF4.out q⟩
end Go.Proofs.YtccnaoabmgkblaaDoor.Tok
