/- The law TokenJoinMatchesSpec: true for all tokens. Conditions: the reading of the argument; the library's listed variables. -/
import Derived.Test.YtccnaoabmgkblaaDoorTokLS
import Derived.Test.YtccnaoabmgkblaaDoorTokU
namespace Go.Proofs.YtccnaoabmgkblaaDoor.Tok
open Go Go.RowKit

set_option maxRecDepth 100000 in
set_option maxHeartbeats 8000000 in
theorem law_join (B : Nat) (v : Value) (ts : List Tk) (w : World) (h : TksAt B w v ts) (hB : B ≤ w.heap.size) (hV : VarsAt w.heap.size w) :
    Calls Tryd.prog 4 #[v] w fun e w' => e = .returned (.bool true) ∧ Below w.heap.size w w' := by
  have H := Lib.hid h
  have HV := Lib.hid hV
  have C0 := Lib.hid (example_any w hV)
  obtain ⟨A, n, c, rfl, Hn, ⟨hn, -⟩, HT, HC⟩ := h.opens
  clear h hV
  go_enter Tryd.func4, Tryd.ntmps4
  go_wp2_with fail
  refine C0.out.mono ?_
  rintro e W1 ⟨rfl, hb1⟩
  have HB1 := Lib.hid hb1
  have C1 := Lib.hid (join_any B _ ts W1 (H.out.below (hb1.mono hB)) (Nat.le_trans hB hb1.size) (HV.out.up hb1))
  clear hb1 C0
  go_wp2_with fail
  refine C1.out.mono ?_
  rintro e W2 ⟨⟨h1, rfl⟩ | ⟨h1, k, t, hk, hm, hnn, rfl⟩ | ⟨h1, hnn, h8, rfl⟩ | ⟨h1, hnn, h8, rfl⟩, hb2⟩
  · have hd : 4000 < n := by rw [← Hn.out]; exact h1
    have HB2 := Lib.hid (HB1.out.trans (hb2.mono HB1.out.size))
    clear h1 hb2 C1
    go_wp2_with fail
    obtain ⟨W3, hW3⟩ : ∃ W3, W3 = W2.alloc (.cells #[.int .i64 2, .int .i64 (-1)] 25) := ⟨_, rfl⟩
    have hbx : Box W2.heap.size 2 (-1) W3 := by rw [hW3]; exact box_new _ _ _
    have HFN := Lib.hid (show Below w.heap.size w W3 by rw [hW3]; exact HB2.out.trans ((lit_below _ _).mono HB2.out.size))
    obtain ⟨X, hX⟩ : ∃ X, X = W2.heap.size := ⟨_, rfl⟩
    rw [← hX] at hbx ⊢
    rw [← hW3]
    have KS := Lib.hid hbx
    have hcur : Below W3.heap.size W3 W3.drew := (Below.refl _ _).drew
    have hXl := block_lt_of_cell hbx.1
    clear hW3 hX hbx
    go_region_held3 (fun W' => W'.cell? ⟨X, 0, none⟩ = some (.int .i64 2) ∧ W'.cell? ⟨X, 1, none⟩ = some (.int .i64 (-1)))
      (exact KS.out.below hcur)
      ((go_at_call 10; refine (at_any _ _ _).mono ?_; rintro e W7 ⟨rfl, hb7⟩; have hcur := hcur.trans (hb7.mono hcur.size)))
    go_wp2_with fail
    go_ret
    exact ⟨rfl, HFN.out.trans (hcur.mono HFN.out.size)⟩
  · have hd : ¬ 4000 < n := by rw [← Hn.out]; omega
    have HB2 := Lib.hid (HB1.out.trans (hb2.mono HB1.out.size))
    have HK := Lib.hid (And.intro hk (And.intro hm hnn))
    have hkn : k < n := by rw [← Hn.out]; exact (List.getElem?_eq_some_iff.1 hk).1
    obtain ⟨W3, hW3⟩ : ∃ W3, W3 = W2.alloc (.cells #[.int .i64 5, .int .i64 (k : Int)] 25) := ⟨_, rfl⟩
    have hbx : Box W2.heap.size 5 (k : Int) W3 := by rw [hW3]; exact box_new _ _ _
    have HFN := Lib.hid (show Below w.heap.size w W3 by rw [hW3]; exact HB2.out.trans ((lit_below _ _).mono HB2.out.size))
    have HW3 := Lib.hid hW3
    have KS0 := Lib.hid hbx
    clear h1 hb2 C1 hk hm hnn hW3 hbx
    go_wp2_with fail
    rw [← HW3.out]
    obtain ⟨X, hX⟩ : ∃ X, X = W2.heap.size := ⟨_, rfl⟩
    rw [← hX] at KS0 ⊢
    clear hX
    go_loopw [5] (fun i wr => ∃ j : Nat, j ≤ k ∧ i = .int .i64 (j : Int) ∧ Hid (Box X 5 (k : Int) wr) ∧ Hid (Below w.heap.size w wr)) (fun i _ => n - (intOf i).toNat)
    case atStart => exact ⟨0, Nat.zero_le _, rfl, KS0, HFN⟩
    case round =>
      obtain ⟨j, hj, rfl, HX, HB⟩ := hrel
      have hjn : j < n := by omega
      obtain ⟨b1, o1, rfl, hb1, g1⟩ := HC.out (by omega)
      obtain ⟨x, hx⟩ := getElem?_of_lt Hn.out hjn
      obtain ⟨p0, p1, p2, p3⟩ := (g1 j x hx).below (HB.out.mono hB) hb1
      have C := Lib.hid (istok_any x wr (HT.out x (List.mem_of_getElem? hx)))
      unfold Tk.v at C
      have HTX := Lib.hid hx
      clear HC g1 hx
      by_cases hjk : j = k
      · subst hjk
        have hko : okT x = false := by
          have h3 := HK.out.1
          rw [HTX.out] at h3
          cases h3
          have h4 := HK.out.2.1
          unfold malT at h4
          simpa using h4
        rw [hko] at C
        clear hko
        go_wp2_with fail
        refine C.out.mono ?_
        rintro e W4 ⟨rfl, hb4⟩
        have hb := HX.out.below hb4
        have HF4 := Lib.hid (HB.out.trans (hb4.mono HB.out.size))
        have KS := Lib.hid hb
        have hcur : Below W4.heap.size W4 W4.drew := (Below.refl _ _).drew
        have hXl := block_lt_of_cell hb.1
        clear hb hb4 C p0 p1 p2 p3
        go_wp2_with fail
        go_region_held3 (fun W' => W'.cell? ⟨X, 0, none⟩ = some (.int .i64 5) ∧ W'.cell? ⟨X, 1, none⟩ = some (.int .i64 (j : Int)))
          (exact KS.out.below hcur)
          ((go_at_call 10; refine (at_any _ _ _).mono ?_; rintro e W7 ⟨rfl, hb7⟩; have hcur := hcur.trans (hb7.mono hcur.size)))
        go_wp2_with fail
        go_ret
        exact ⟨rfl, HF4.out.trans (hcur.mono HF4.out.size)⟩
      · have hko : okT x = true := by
          have h4 := HK.out.2.2 j x (by omega) HTX.out
          unfold malT at h4
          simpa using h4
        rw [hko] at C
        clear hko
        go_wp2_with fail
        refine C.out.mono ?_
        rintro e W4 ⟨rfl, hb4⟩
        have HX4 := Lib.hid (HX.out.below hb4)
        have HF4 := Lib.hid (HB.out.trans (hb4.mono HB.out.size))
        clear hb4 C
        go_wp2_with fail
        go_roundw
        case rel => exact ⟨j + 1, by omega, by go_num, HX4, HF4⟩
        case measure => simp [intOf]; omega
  · -- GEN
    have hd : ¬ 4000 < n := by rw [← Hn.out]; omega
    have HB2 := Lib.hid (HB1.out.trans (hb2.mono HB1.out.size))
    have HOK := Lib.hid (all_ok hnn)
    have H8 := Lib.hid h8
    have HL4 := Lib.hid h1
    have hfalse : ∀ x ∈ ts, okT x = true := HOK.out
    obtain ⟨W3, hW3⟩ : ∃ W3, W3 = W2.alloc (.cells #[.int .i64 10, .int .i64 (-2)] 25) := ⟨_, rfl⟩
    have hbx : Box W2.heap.size 10 (-2) W3 := by rw [hW3]; exact box_new _ _ _
    have HFN := Lib.hid (show Below w.heap.size w W3 by rw [hW3]; exact HB2.out.trans ((lit_below _ _).mono HB2.out.size))
    have HW3 := Lib.hid hW3
    have KS0 := Lib.hid hbx
    clear h1 hb2 C1 hnn h8 hW3 hbx hfalse
    go_wp2_with fail
    rw [← HW3.out]
    obtain ⟨X, hX⟩ : ∃ X, X = W2.heap.size := ⟨_, rfl⟩
    rw [← hX] at KS0 ⊢
    clear hX
    go_loopw [5] (fun i wr => ∃ j : Nat, j ≤ n ∧ i = .int .i64 (j : Int) ∧ Hid (Box X 10 (-2) wr) ∧ Hid (Below w.heap.size w wr)) (fun i _ => n - (intOf i).toNat)
    case atStart => exact ⟨0, Nat.zero_le _, rfl, KS0, HFN⟩
    case round =>
      obtain ⟨j, hj, rfl, HX, HB⟩ := hrel
      by_cases hjn : j < n
      · obtain ⟨b1, o1, rfl, hb1, g1⟩ := HC.out (by omega)
        obtain ⟨x, hx⟩ := getElem?_of_lt Hn.out hjn
        obtain ⟨p0, p1, p2, p3⟩ := (g1 j x hx).below (HB.out.mono hB) hb1
        have C := Lib.hid (istok_any x wr (HT.out x (List.mem_of_getElem? hx)))
        rw [HOK.out x (List.mem_of_getElem? hx)] at C
        unfold Tk.v at C
        clear HC g1 hx
        go_wp2_with fail
        refine C.out.mono ?_
        rintro e W4 ⟨rfl, hb4⟩
        have HX4 := Lib.hid (HX.out.below hb4)
        have HF4 := Lib.hid (HB.out.trans (hb4.mono HB.out.size))
        clear hb4 C
        go_wp2_with fail
        go_roundw
        case rel => exact ⟨j + 1, by omega, by go_num, HX4, HF4⟩
        case measure => simp [intOf]; omega
      · obtain rfl : j = n := by omega
        have C := Lib.hid (ttext_any B _ ts wr (H.out.below (HB.out.mono hB)) (Nat.le_trans hB HB.out.size) HL4.out HOK.out)
        clear HC HW3 KS0
        go_wp2_with fail
        refine C.out.mono ?_
        rintro e W4 ⟨rfl, hb4⟩
        have hb := HX.out.below hb4
        have HF4 := Lib.hid (HB.out.trans (hb4.mono HB.out.size))
        obtain ⟨sj, hsj⟩ : ∃ sj : ByteArray, sj = ⟨(joinL ts).toArray⟩ := ⟨_, rfl⟩
        have hsz : sj.size = (joinL ts).length := by rw [hsj]; rfl
        rw [show strV (joinL ts) = .string sj from by rw [hsj]]
        have H8' := H8.out
        rw [← hsz] at H8'
        clear hb4 C hsj hsz
        have KS := Lib.hid hb
        have hcur : Below W4.heap.size W4 W4.drew := (Below.refl _ _).drew
        have hXl := block_lt_of_cell hb.1
        clear hb
        go_wp2_with fail
        go_region_held3 (fun W' => W'.cell? ⟨X, 0, none⟩ = some (.int .i64 10) ∧ W'.cell? ⟨X, 1, none⟩ = some (.int .i64 (-2)))
          (exact KS.out.below hcur)
          ((go_at_call 10; refine (at_any _ _ _).mono ?_; rintro e W7 ⟨rfl, hb7⟩; have hcur := hcur.trans (hb7.mono hcur.size)))
        go_wp2_with fail
        go_ret
        exact ⟨rfl, HF4.out.trans (hcur.mono HF4.out.size)⟩
  · -- GEN
    have hd : ¬ 4000 < n := by rw [← Hn.out]; omega
    have HB2 := Lib.hid (HB1.out.trans (hb2.mono HB1.out.size))
    have HOK := Lib.hid (all_ok hnn)
    have H8 := Lib.hid h8
    have HL4 := Lib.hid h1
    have hfalse : ∀ x ∈ ts, okT x = true := HOK.out
    obtain ⟨W3, hW3⟩ : ∃ W3, W3 = W2.alloc (.cells #[.int .i64 0, .int .i64 (0)] 25) := ⟨_, rfl⟩
    have hbx : Box W2.heap.size 0 (0) W3 := by rw [hW3]; exact box_new _ _ _
    have HFN := Lib.hid (show Below w.heap.size w W3 by rw [hW3]; exact HB2.out.trans ((lit_below _ _).mono HB2.out.size))
    have HW3 := Lib.hid hW3
    have KS0 := Lib.hid hbx
    clear h1 hb2 C1 hnn h8 hW3 hbx hfalse
    go_wp2_with fail
    rw [← HW3.out]
    obtain ⟨X, hX⟩ : ∃ X, X = W2.heap.size := ⟨_, rfl⟩
    rw [← hX] at KS0 ⊢
    clear hX
    go_loopw [5] (fun i wr => ∃ j : Nat, j ≤ n ∧ i = .int .i64 (j : Int) ∧ Hid (Box X 0 (0) wr) ∧ Hid (Below w.heap.size w wr)) (fun i _ => n - (intOf i).toNat)
    case atStart => exact ⟨0, Nat.zero_le _, rfl, KS0, HFN⟩
    case round =>
      obtain ⟨j, hj, rfl, HX, HB⟩ := hrel
      by_cases hjn : j < n
      · obtain ⟨b1, o1, rfl, hb1, g1⟩ := HC.out (by omega)
        obtain ⟨x, hx⟩ := getElem?_of_lt Hn.out hjn
        obtain ⟨p0, p1, p2, p3⟩ := (g1 j x hx).below (HB.out.mono hB) hb1
        have C := Lib.hid (istok_any x wr (HT.out x (List.mem_of_getElem? hx)))
        rw [HOK.out x (List.mem_of_getElem? hx)] at C
        unfold Tk.v at C
        clear HC g1 hx
        go_wp2_with fail
        refine C.out.mono ?_
        rintro e W4 ⟨rfl, hb4⟩
        have HX4 := Lib.hid (HX.out.below hb4)
        have HF4 := Lib.hid (HB.out.trans (hb4.mono HB.out.size))
        clear hb4 C
        go_wp2_with fail
        go_roundw
        case rel => exact ⟨j + 1, by omega, by go_num, HX4, HF4⟩
        case measure => simp [intOf]; omega
      · obtain rfl : j = n := by omega
        have C := Lib.hid (ttext_any B _ ts wr (H.out.below (HB.out.mono hB)) (Nat.le_trans hB HB.out.size) HL4.out HOK.out)
        clear HC HW3 KS0
        go_wp2_with fail
        refine C.out.mono ?_
        rintro e W4 ⟨rfl, hb4⟩
        have hb := HX.out.below hb4
        have HF4 := Lib.hid (HB.out.trans (hb4.mono HB.out.size))
        obtain ⟨sj, hsj⟩ : ∃ sj : ByteArray, sj = ⟨(joinL ts).toArray⟩ := ⟨_, rfl⟩
        have hsz : sj.size = (joinL ts).length := by rw [hsj]; rfl
        rw [show strV (joinL ts) = .string sj from by rw [hsj]]
        have H8' := H8.out
        rw [← hsz] at H8'
        clear hb4 C hsj hsz
        obtain ⟨d0, d1⟩ := hb
        have hno : ¬ 8000 < sj.size := by omega
        have heq : (sj.toList == sj.toList) = true := by simp
        clear H8'
        go_wp2_with fail
        go_ret
        exact ⟨rfl, HF4.out⟩
end Go.Proofs.YtccnaoabmgkblaaDoor.Tok
