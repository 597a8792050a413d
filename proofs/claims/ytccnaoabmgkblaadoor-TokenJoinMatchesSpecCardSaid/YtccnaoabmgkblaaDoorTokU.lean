/- Contracts of the reference's decimal, Number, TokenText, IsToken and TokensText. Conditions: the readings. -/
import Derived.IntWalk
import Derived.Test.YtccnaoabmgkblaaDoorTokJ
import Derived.Test.YtccnaoabmgkblaaDoorTokS
namespace Go.Proofs.YtccnaoabmgkblaaDoor.Tok
open Go Go.RowKit

theorem digits_at : ∀ (d : Nat), d < 10 → (ByteArray.mk #[48, 49, 50, 51, 52, 53, 54, 55, 56, 57]).extract d (d + 1) = ⟨[UInt8.ofNat (48 + d)].toArray⟩ := by
  intro d hd
  have : d = 0 ∨ d = 1 ∨ d = 2 ∨ d = 3 ∨ d = 4 ∨ d = 5 ∨ d = 6 ∨ d = 7 ∨ d = 8 ∨ d = 9 := by omega
  rcases this with rfl | rfl | rfl | rfl | rfl | rfl | rfl | rfl | rfl | rfl <;> rfl
theorem ba_append (x y : List UInt8) : (⟨x.toArray⟩ : ByteArray) ++ ⟨y.toArray⟩ = ⟨(x ++ y).toArray⟩ := by
  apply ByteArray.ext
  simp
theorem dec_len : ∀ (n : Nat), n < 18446744073709551616 → (Lib.decDigits n).length ≤ 21 := by
  intro n hn
  have h : ∀ (k n : Nat), n < 10 ^ k → (Lib.decDigits n).length ≤ k + 1 := by
    intro k
    induction k with
    | zero => intro n h; rw [dec_lt (by omega)]; simp
    | succ k ih =>
      intro n h
      by_cases h10 : n < 10
      · rw [dec_lt h10]; simp
      · rw [dec_ge h10, List.length_append]
        have := ih (n / 10) (by rw [Nat.pow_succ] at h; omega)
        simp
        exact this
  exact h 20 n (by omega)
theorem u64_id {x : Int} (h0 : 0 ≤ x) (h1 : x < 18446744073709551616) : IntKind.u64.wrap x = x := by
  have : IntKind.u64.wrap x = x % 18446744073709551616 := by simp [IntKind.wrap, IntKind.bits, IntKind.signed]
  rw [this]
  omega
theorem int_div10 (n : Nat) : (n : Int).tdiv 10 = ((n / 10 : Nat) : Int) := by rfl
theorem int_mod10 (n : Nat) : (n : Int).tmod 10 = ((n % 10 : Nat) : Int) := by rfl
set_option maxRecDepth 100000 in
set_option maxHeartbeats 1000000 in
theorem decimal_any : ∀ (n : Nat), n < 18446744073709551616 → ∀ (w : World), Calls Tryd.prog 54 #[.int .u64 (n : Int)] w fun e w' => e = .returned (strV (Lib.decDigits n)) ∧ ∃ m, w' = w.drewN m := by
  intro n
  induction n using Nat.strongRecOn with
  | ind n ih =>
    intro hn w
    by_cases h : n < 10
    · rw [dec_lt h]
      clear ih hn
      have hd : decide ((n : Int) < 10) = true := decide_eq_true (by omega)
      go_enter Tryd.func54, Tryd.ntmps54
      go_wp2_with fail
      refine bodyPost_ret (v := strV [UInt8.ofNat (48 + n)]) ?_ rfl ⟨rfl, 0, rfl⟩
      simp [results, Tryd.results54, go_sem, digits_at n h]
    · rw [dec_ge h]
      have C := Lib.hid (ih (n / 10) (by omega) (by omega))
      have hd : decide ((n : Int) < 10) = false := decide_eq_false (by omega)
      have hq := int_div10 n
      have hr := int_mod10 n
      have hr10 : n % 10 < 10 := Nat.mod_lt _ (by decide)
      have hw1 : IntKind.u64.wrap ((n / 10 : Nat) : Int) = ((n / 10 : Nat) : Int) := u64_id (by omega) (by omega)
      have hw2 : IntKind.u64.wrap ((n % 10 : Nat) : Int) = ((n % 10 : Nat) : Int) := u64_id (by omega) (by omega)
      have hw3 : IntKind.u64.wrap (((n % 10 : Nat) : Int) + 1) = ((n % 10 : Nat) : Int) + 1 := u64_id (by omega) (by omega)
      have hdg := Lib.hid (digits_at (n % 10) hr10)
      have hlen := dec_len (n / 10) (by omega)
      generalize n % 10 = r at *
      generalize n / 10 = q at *
      have hl1 : (Lib.decDigits q).length + 1 ≤ 9223372036854775807 := by omega
      clear ih hlen hn h
      go_enter Tryd.func54, Tryd.ntmps54
      go_wp2_with fail
      go_quiet ((go_at_call 54; exact Calls.quiet_of (C.out _)))
      go_wp2_with fail
      refine bodyPost_ret (v := strV (Lib.decDigits q ++ [UInt8.ofNat (48 + r)])) ?_ rfl ⟨rfl, _, rfl⟩
      simp [results, Tryd.results54, go_sem, hdg.out, ba_append]
set_option maxRecDepth 100000 in
set_option maxHeartbeats 1000000 in
theorem rnumber_any (n : Int) (h0 : 0 ≤ n) (h1 : n ≤ 4294967295) (w : World) : Calls Tryd.prog 42 #[.int .i64 n] w fun e w' => e = .returned (strV (Lib.itoa n)) ∧ ∃ m, w' = w.drewN m := by
  obtain ⟨m, rfl⟩ : ∃ m : Nat, n = (m : Int) := ⟨n.toNat, by omega⟩
  rw [itoa_nat h0, show ((m : Int)).toNat = m by omega]
  have hm : m < 18446744073709551616 := by omega
  have C := Lib.hid (decimal_any m hm)
  have hd : decide ((m : Int) < 0) = false := decide_eq_false (by omega)
  have hw1 : IntKind.u64.wrap (m : Int) = (m : Int) := u64_id (by omega) (by omega)
  go_enter Tryd.func42, Tryd.ntmps42
  go_wp2_with fail
  refine (C.out _).mono ?_
  rintro e W1 ⟨rfl, a, rfl⟩
  go_wp2_with fail
  go_ret
  exact ⟨rfl, a, rfl⟩
theorem tb_cells {w W : World} {t : Tk} (hb : Below (tokBW w t).heap.size (tokBW w t) W) : W.cell? ⟨w.heap.size, 0, none⟩ = some (.int .i64 t.kind) ∧ W.cell? ⟨w.heap.size, 1, none⟩ = some (strV t.text) ∧ W.cell? ⟨w.heap.size, 2, none⟩ = some (.int .i64 t.val) ∧ W.cell? ⟨w.heap.size, 3, none⟩ = some (.int .i64 t.pos) ∧ w.heap.size < W.heap.size := by
  have hfc : W.heap[w.heap.size]? = some (.cells #[.int .i64 t.kind, strV t.text, .int .i64 t.val, .int .i64 t.pos] 37 (0, 0)) := (hb.block w.heap.size (by simp [tokBW])).trans (heap_alloc_new w _)
  exact ⟨by simp [World.cell?, hfc], by simp [World.cell?, hfc], by simp [World.cell?, hfc], by simp [World.cell?, hfc], lt_of_block hfc⟩
set_option maxHeartbeats 400000 in
/-- TokenText, where a number is one -/
theorem rtext_any (t : Tk) (h : t.kind = 2 → 0 ≤ t.val ∧ t.val ≤ 4294967295) (w : World) : Calls Tryd.prog 30 #[t.v] w fun e w' => e = .returned (strV (textL t)) ∧ Below w.heap.size w w' := by
  obtain ⟨k, s, v, p⟩ := t
  have HB := Lib.hid (tokBW_below w ⟨k, s, v, p⟩)
  unfold Tk.v
  dsimp only at h ⊢
  by_cases h2 : k = 2
  · have C := Lib.hid (rnumber_any v (h h2).1 (h h2).2 (tokBW w ⟨k, s, v, p⟩))
    subst h2
    unfold tokBW at C
    dsimp only at C
    clear h
    go_enter Tryd.func30, Tryd.ntmps30
    go_wp2_with fail
    refine C.out.mono ?_
    rintro e W ⟨rfl, m, rfl⟩
    clear C
    go_wp2_with fail
    go_ret
    exact ⟨rfl, below_drewN HB.out m⟩
  · have h2' : (k == 2) = false := beq_eq_false_iff_ne.2 h2
    have E := Lib.hid (show textL ⟨k, s, v, p⟩ = s by unfold textL; rw [if_neg h2])
    clear h2 h
    go_enter Tryd.func30, Tryd.ntmps30
    go_wp2_with fail
    go_ret
    exact ⟨by rw [E.out]; rfl, HB.out⟩
/-! ## IsToken -/
theorem sign_noname {s : List UInt8} (h : isSign s = true) : isName s = false := by
  have hf : ∀ s ∈ signs, isName s = false := by decide
  rw [isSign_mem] at h
  exact hf s (by simpa using h)
theorem tokOf_dec {v : Int} (h0 : 0 ≤ v) (h1 : v ≤ 4294967295) : tokOf (Lib.itoa v) = some ⟨2, [], v, 0⟩ := by
  rw [itoa_nat h0]
  have hall := dig_name (dec_digits v.toNat)
  have hs : isSign (Lib.decDigits v.toNat) = false := by
    cases hd : Lib.decDigits v.toNat with
    | nil => exact absurd hd (dec_ne _)
    | cons c q => exact isSign_false_name (List.all_eq_true.1 hall c (by rw [hd]; exact List.mem_cons_self))
  rw [tof_num hs (num_decDigits (by omega)), show ((v.toNat : Nat) : Int) = v by omega]
/-- whether a token of another kind than a number is the token that its text is -/
def sameT (t : Tk) : Bool := match tokOf t.text with | some y => y.kind == t.kind && decide (y.text = t.text) && y.val == t.val | none => false
theorem okT_same {t : Tk} (h : t.kind ≠ 2) : okT t = sameT t := by
  obtain ⟨k, s, v, p⟩ := t
  have h2 : (k == 2) = false := beq_eq_false_iff_ne.2 h
  unfold sameT
  dsimp only
  cases hs : isSign s with
  | true =>
    rw [tof_sign hs]
    simp only [okT, sign_noname hs, hs, h2]
    rw [Bool.eq_iff_iff]
    simp
    omega
  | false =>
    cases hn : num s with
    | some n =>
      rw [tof_num hs hn]
      have hnm : isName s = false := by
        cases hm : isName s with
        | false => rfl
        | true => rw [num_name hm] at hn; cases hn
      simp [okT, hnm, hs, h2, Ne.symm h]
    | none =>
      cases hm : isName s with
      | true =>
        rw [tof_name hs hn hm]
        simp only [okT, hm, hs, h2]
        rw [Bool.eq_iff_iff]
        simp
        omega
      | false =>
        rw [tof_no hs hn hm]
        simp [okT, hm, hs, h2]
/-- whether a token is the token that its text is -/
def sameX (t : Tk) : Bool := match tokOf (textL t) with | some y => y.kind == t.kind && decide (y.text = t.text) && y.val == t.val | none => false
theorem okT_sameX {t : Tk} (h : t.kind = 2 → 0 ≤ t.val ∧ t.val ≤ 4294967295) : okT t = sameX t := by
  by_cases h2 : t.kind = 2
  · obtain ⟨h3, h4⟩ := h h2
    unfold sameX
    have ht : textL t = Lib.itoa t.val := by unfold textL; rw [if_pos h2]
    rw [ht, tokOf_dec h3 h4]
    obtain ⟨k, s, v, p⟩ := t
    dsimp only at h2 h3 h4 ⊢
    subst h2
    have a1 : decide (0 ≤ v) = true := decide_eq_true h3
    have a2 : decide (v ≤ 4294967295) = true := decide_eq_true h4
    cases s <;> simp [okT, a1, a2]
  · rw [okT_same h2]
    unfold sameT sameX
    have ht : textL t = t.text := by unfold textL; rw [if_neg h2]
    rw [ht]
theorem sameX_some {t y : Tk} (h : tokOf (textL t) = some y) : sameX t = (y.kind == t.kind && decide (y.text = t.text) && y.val == t.val) := by unfold sameX; rw [h]
theorem sameX_none {t : Tk} (h : tokOf (textL t) = none) : sameX t = false := by unfold sameX; rw [h]
theorem okT_far {t : Tk} (h2 : t.kind = 2) (h : inB t.val 0 4294967295 = false) : okT t = false := by
  obtain ⟨k, s, v, p⟩ := t
  dsimp only at h2 h
  subst h2
  unfold inB at h
  rw [Bool.eq_false_iff] at h ⊢
  intro ho
  apply h
  simp [okT] at ho
  simp
  exact ⟨ho.1.1, ho.1.2⟩
set_option maxHeartbeats 4000000 in
set_option maxRecDepth 100000 in
theorem istok_far (t : Tk) (w : World) (h2 : t.kind = 2) (h : inB t.val 0 4294967295 = false) : Calls Tryd.prog 14 #[t.v] w fun e w' => e = .returned (.bool (okT t)) ∧ Below w.heap.size w w' := by
  have E := Lib.hid (okT_far h2 h)
  obtain ⟨k, s, v, p⟩ := t
  have HB := Lib.hid (tokBW_below w ⟨k, s, v, p⟩)
  unfold Tk.v
  dsimp only at h2 h ⊢
  subst h2
  go_enter Tryd.func14, Tryd.ntmps14
  go_wp2_with (go_at_call 29; refine (in_any _ _ _ _).mono ?_; rintro e w' ⟨rfl, rfl⟩; rw [h])
  go_ret
  exact ⟨ret_bool E.out.symm, HB.out⟩
set_option maxHeartbeats 8000000 in
set_option maxRecDepth 100000 in
theorem istok_near (t : Tk) (w : World) (ht : t.text.length ≤ 140737488351232) (h : (t.kind == 2) = false ∨ ((t.kind == 2) = true ∧ inB t.val 0 4294967295 = true)) : Calls Tryd.prog 14 #[t.v] w fun e w' => e = .returned (.bool (okT t)) ∧ Below w.heap.size w w' := by
  have hr : t.kind = 2 → 0 ≤ t.val ∧ t.val ≤ 4294967295 := fun e => by
    rcases h with h | ⟨-, h⟩
    · rw [e] at h; cases h
    · unfold inB at h; simpa using h
  have E := Lib.hid (okT_sameX hr)
  have C1 := Lib.hid (rtext_any t hr (tokBW w t))
  have htl : (textL t).length ≤ 9223372036854775806 := by
    unfold textL
    split
    · rename_i hk
      have h5 := hr hk
      have := Lib.itoa_length_le t.val (by omega) (by omega)
      omega
    · omega
  have C2 := Lib.hid (fun w => tokenOf_any (textL t) w htl)
  have HB := Lib.hid (tokBW_below w t)
  have HC := Lib.hid (fun (W : World) (hb : Below (tokBW w t).heap.size (tokBW w t) W) => tb_cells hb)
  have HY := Lib.hid (show ∀ y, tokOf (textL t) = some y → sameX t = (y.kind == t.kind && decide (y.text = t.text) && y.val == t.val) from fun y h => sameX_some h)
  have HN := Lib.hid (show tokOf (textL t) = none → sameX t = false from fun h => sameX_none h)
  obtain ⟨X, hX⟩ : ∃ X, X = sameX t := ⟨_, rfl⟩
  rw [← hX] at E HY HN
  clear hX htl hr ht
  obtain ⟨k, s, v, p⟩ := t
  generalize textL ⟨k, s, v, p⟩ = tx at *
  obtain ⟨s2, hs2⟩ : ∃ s2 : ByteArray, s2 = ⟨s.toArray⟩ := ⟨_, rfl⟩
  have HS2 := Lib.hid hs2
  unfold tokBW at C1
  unfold Tk.v at C1 ⊢
  dsimp only at h C1 HY ⊢
  rw [show strV s = .string s2 from by rw [hs2]] at C1 ⊢
  have HSV := Lib.hid (show strV s = .string s2 from by rw [hs2])
  have HTB := Lib.hid (show w.alloc (.cells #[.int .i64 k, .string s2, .int .i64 v, .int .i64 p] 37) = tokBW w ⟨k, s, v, p⟩ by unfold tokBW; rw [hs2])
  clear hs2
  have key : Calls Tryd.prog 14 #[.agg #[.int .i64 k, .string s2, .int .i64 v, .int .i64 p]] w fun e w' => e = .returned (.bool X) ∧ Below w.heap.size w w' := by
    rcases h with h | ⟨h, h'⟩
    all_goals
      go_enter Tryd.func14, Tryd.ntmps14
      go_wp2_with (first | (go_at_call 29; refine (in_any _ _ _ _).mono ?_; rintro e w' ⟨rfl, rfl⟩; rw [h']) | fail)
      refine C1.out.mono ?_
      rintro e W ⟨rfl, hb⟩
      rw [HTB.out] at hb
      have HW := Lib.hid hb
      have HS := Lib.hid (HB.out.trans (hb.mono HB.out.size))
      clear hb
      go_wp2_with fail
      refine (C2.out _).mono ?_
      rintro e W2 ⟨⟨y, hy, rfl⟩ | ⟨hy, rfl⟩, hb2⟩
      · have hyx := HY.out y hy
        obtain ⟨yk, ys, yv, yp⟩ := y
        dsimp only at hyx
        obtain ⟨s1, hs1⟩ : ∃ s1 : ByteArray, s1 = ⟨ys.toArray⟩ := ⟨_, rfl⟩
        have hst : (s1.toList == s2.toList) = decide (ys = s) := by
          rw [hs1, HS2.out]
          simp only [ByteArray.toList_eq]
          rw [Bool.eq_iff_iff]
          simp
        rw [← hst] at hyx
        unfold Tk.v
        rw [show strV ys = .string s1 from by rw [hs1]]
        have HYX := Lib.hid hyx
        have HB2 := Lib.hid (HW.out.trans (hb2.mono HW.out.size))
        have HB3 := Lib.hid (HS.out.trans (hb2.mono HS.out.size))
        obtain ⟨a0, a1, a2, a3, a4⟩ := HC.out W2 HB2.out
        try dsimp only at a0 a1 a2 a3
        rw [HSV.out] at a1
        clear hy hb2 hyx hst hs1 HY HN C1 C2
        cases b1 : (yk == k) with
        | false =>
          rw [b1] at HYX
          go_wp2_with fail
          go_ret
          exact ⟨ret_bool (by rw [HYX.out]; rfl), HB3.out.alloc HB3.out.size _⟩
        | true =>
          rw [b1] at HYX
          cases b2 : (s1.toList == s2.toList) with
          | false =>
            rw [b2] at HYX
            go_wp2_with fail
            go_ret
            exact ⟨ret_bool (by rw [HYX.out]; rfl), HB3.out.alloc HB3.out.size _⟩
          | true =>
            rw [b2] at HYX
            go_wp2_with fail
            go_ret
            exact ⟨ret_bool (by rw [HYX.out]; simp), HB3.out.alloc HB3.out.size _⟩
      · have hyx := HN.out hy
        have HYX := Lib.hid hyx
        have HB3 := Lib.hid (HS.out.trans (hb2.mono HS.out.size))
        unfold zeroTk Tk.v
        clear hy hb2 hyx HY HN C1 C2
        go_wp2_with fail
        go_ret
        exact ⟨ret_bool (by rw [HYX.out]), HB3.out.alloc HB3.out.size _⟩
  refine key.mono ?_
  rintro e w' ⟨rfl, hb⟩
  exact ⟨by rw [E.out], hb⟩
theorem istok_any (t : Tk) (w : World) (ht : t.text.length ≤ 140737488351232) : Calls Tryd.prog 14 #[t.v] w fun e w' => e = .returned (.bool (okT t)) ∧ Below w.heap.size w w' := by
  cases h2 : (t.kind == 2) with
  | false => exact istok_near t w ht (.inl h2)
  | true =>
    cases h : inB t.val 0 4294967295 with
    | false => exact istok_far t w (beq_iff_eq.1 h2) h
    | true => exact istok_near t w ht (.inr ⟨h2, h⟩)
/-! ## TokensText -/
theorem ok_range {t : Tk} (h : okT t = true) : t.kind = 2 → 0 ≤ t.val ∧ t.val ≤ 4294967295 := by
  intro h2
  cases hi : inB t.val 0 4294967295 with
  | false => rw [okT_far h2 hi] at h; cases h
  | true => unfold inB at hi; simpa using hi
set_option maxHeartbeats 4000000 in
set_option maxRecDepth 100000 in
theorem ttext_any (B : Nat) (v : Value) (ts : List Tk) (w : World) (h : TksAt B w v ts) (hB : B ≤ w.heap.size) (hl : ts.length ≤ 4000) (hok : ∀ t ∈ ts, okT t = true) : Calls Tryd.prog 15 #[v] w fun e w' => e = .returned (strV (joinL ts)) ∧ Below w.heap.size w w' := by
  have H := Lib.hid h
  have HOK := Lib.hid hok
  obtain ⟨A, n, c, rfl, Hn, ⟨hn, -⟩, -, HC⟩ := h.opens
  have hn4 : n ≤ 4000 := by rw [← Hn.out]; exact hl
  clear h hok hl
  go_enter Tryd.func15, Tryd.ntmps15
  go_wp2
  go_loopw [3, 4] (fun u i wr => ∃ k : Nat, k ≤ n ∧ i = .int .i64 k ∧ u = strV (joinL (ts.take k)) ∧ Hid (Below w.heap.size w wr)) (fun _ i _ => n - (intOf i).toNat)
  case atStart => exact ⟨0, Nat.zero_le _, rfl, rfl, Lib.hid (Below.refl _ _)⟩
  case round =>
    obtain ⟨k, hk, rfl, rfl, HB⟩ := hrel
    by_cases hlt : k < n
    · obtain ⟨b1, o1, rfl, hb1, g1⟩ := HC.out (by omega)
      obtain ⟨x, hx⟩ := getElem?_of_lt Hn.out hlt
      have hxo := HOK.out x (List.mem_of_getElem? hx)
      obtain ⟨p0, p1, p2, p3⟩ := (g1 k x hx).below (HB.out.mono hB) hb1
      have HTX := Lib.hid hx
      have hl30 := (ok_facts hxo).2
      have C := Lib.hid (rtext_any x (ok_range hxo) wr)
      unfold Tk.v at C
      have hql : (joinL (ts.take k)).length ≤ 124000 := by
        have h1 := joinL_len (ts.take k) (fun t ht => (ok_facts (HOK.out t (List.mem_of_mem_take ht))).2)
        rw [List.length_take] at h1
        omega
      have hql1 : (joinL (ts.take k)).length + 1 ≤ 9223372036854775807 := by omega
      have hql2 : (joinL (ts.take k)).length + (textL x).length ≤ 9223372036854775807 := by omega
      have hql3 : (joinL (ts.take k)).length + 1 + (textL x).length ≤ 9223372036854775807 := by omega
      clear HC g1 hx hxo
      by_cases hk0 : k = 0
      · have hk1 : ¬ 0 < k := by omega
        have HN := Lib.hid (show joinL (ts.take (k + 1)) = joinL (ts.take k) ++ textL x by
          rw [take_snoc HTX.out, hk0]
          rw [show ts.take 0 = [] from rfl, List.nil_append, joinL_first]
          rfl)
        generalize joinL (ts.take k) = q at *
        clear hk0
        go_wp2_with fail
        refine C.out.mono ?_
        rintro e W ⟨rfl, hb⟩
        have HB2 := Lib.hid (HB.out.trans (hb.mono HB.out.size))
        clear hb C
        go_wp2_with fail
        go_roundw
        case rel => exact ⟨k + 1, by omega, by go_num, by rw [HN.out]; exact congrArg Value.string (ba_append _ _), HB2⟩
        case measure => simp [intOf]; omega
      · have hk1 : 0 < k := by omega
        have HN := Lib.hid (show joinL (ts.take (k + 1)) = (joinL (ts.take k) ++ [32]) ++ textL x by
          rw [take_snoc HTX.out]
          refine joinL_snoc (fun e => ?_) x
          have h3 : (ts.take k).length = 0 := by rw [e]; rfl
          rw [List.length_take, Hn.out] at h3
          omega)
        generalize joinL (ts.take k) = q at *
        clear hk0
        go_wp2_with fail
        refine C.out.mono ?_
        rintro e W ⟨rfl, hb⟩
        have HB2 := Lib.hid (HB.out.trans (hb.mono HB.out.size))
        clear hb C
        go_wp2_with fail
        go_roundw
        case rel => exact ⟨k + 1, by omega, by go_num, by rw [HN.out]; exact congrArg Value.string (by rw [show (⟨#[32]⟩ : ByteArray) = ⟨[32].toArray⟩ from rfl, ba_append, ba_append]), HB2⟩
        case measure => simp [intOf]; omega
    · obtain rfl : k = n := by omega
      go_wp2
      go_ret
      exact ⟨by rw [List.take_of_length_le (by rw [Hn.out]; omega)]; rfl, HB.out⟩
end Go.Proofs.YtccnaoabmgkblaaDoor.Tok
