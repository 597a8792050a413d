/- The iterator strings.SplitSeq, at the separator that stands between operands: it gives the pieces of the string, one behind the other. Conditions: the string is not longer than a text may be; the library's variable MaxLen holds a number. -/
import Derived.Test.YtcngpciblbdgbaaGreatDoorDisE
import Derived.Deep.CutBlock
import Derived.Test.YtcngpciblbdgbaaGreatDoorDisLR
/-! Contracts of the reference's decimal, Number, Signed. Condition: the number is an int (decimal: a 64-bit number without a sign). -/
namespace Go.Proofs.YtcngpciblbdgbaaGreatDoor
open Go Go.RowKit Go.Shelf
theorem dec_small {n : Nat} (h : n < 10) : Lib.decDigits n = [UInt8.ofNat (48 + n)] := by rw [Lib.decDigits, dif_pos h]
theorem dec_big {n : Nat} (h : ¬ n < 10) : Lib.decDigits n = Lib.decDigits (n / 10) ++ [UInt8.ofNat (48 + n % 10)] := by rw [Lib.decDigits, dif_neg h]
theorem digits_at : ∀ (d : Nat), d < 10 → (ByteArray.mk #[48, 49, 50, 51, 52, 53, 54, 55, 56, 57]).extract d (d + 1) = ⟨[UInt8.ofNat (48 + d)].toArray⟩ := by
  intro d hd
  have : d = 0 ∨ d = 1 ∨ d = 2 ∨ d = 3 ∨ d = 4 ∨ d = 5 ∨ d = 6 ∨ d = 7 ∨ d = 8 ∨ d = 9 := by omega
  rcases this with rfl | rfl | rfl | rfl | rfl | rfl | rfl | rfl | rfl | rfl <;> rfl
theorem dec_len : ∀ (n : Nat), n < 18446744073709551616 → (Lib.decDigits n).length ≤ 21 := by
  intro n hn
  have h : ∀ (k n : Nat), n < 10 ^ k → (Lib.decDigits n).length ≤ k + 1 := by
    intro k
    induction k with
    | zero => intro n h; rw [dec_small (by omega)]; simp
    | succ k ih =>
      intro n h
      by_cases h10 : n < 10
      · rw [dec_small h10]; simp
      · rw [dec_big h10, List.length_append]
        have := ih (n / 10) (by rw [Nat.pow_succ] at h; omega)
        simp
        exact this
  exact h 20 n (by omega)
theorem u64_id {x : Int} (h0 : 0 ≤ x) (h1 : x < 18446744073709551616) : IntKind.u64.wrap x = x := by
  have : IntKind.u64.wrap x = x % 18446744073709551616 := by simp [IntKind.wrap, IntKind.bits, IntKind.signed]
  rw [this]
  omega
theorem int_div10 (n : Nat) : (n : Int).tdiv 10 = ((n / 10 : Nat) : Int) := by rfl
theorem int_mod10 (n : Nat) : (n : Int).tmod 10 = ((n % 10 : Nat) : Int) := by rfl
set_option maxRecDepth 100000 in
set_option maxHeartbeats 1000000 in
theorem decimal_any : ∀ (n : Nat), n < 18446744073709551616 → ∀ (w : World), Calls Tryz.prog 47 #[.int .u64 (n : Int)] w fun e w' => e = .returned (strV (Lib.decDigits n)) ∧ ∃ m, w' = w.drewN m := by
  intro n
  induction n using Nat.strongRecOn with
  | ind n ih =>
    intro hn w
    by_cases h : n < 10
    · rw [dec_small h]
      clear ih hn
      have hd : decide ((n : Int) < 10) = true := decide_eq_true (by omega)
      go_enter Tryz.func47, Tryz.ntmps47
      go_wp2_with fail
      refine bodyPost_ret (v := strV [UInt8.ofNat (48 + n)]) ?_ rfl ⟨rfl, 0, rfl⟩
      simp [results, Tryz.results47, go_sem, digits_at n h]
    · rw [dec_big h]
      have C := Lib.hid (ih (n / 10) (by omega) (by omega))
      have hd : decide ((n : Int) < 10) = false := decide_eq_false (by omega)
      have hq := int_div10 n
      have hr := int_mod10 n
      have hr10 : n % 10 < 10 := Nat.mod_lt _ (by decide)
      have hw1 : IntKind.u64.wrap ((n / 10 : Nat) : Int) = ((n / 10 : Nat) : Int) := u64_id (by omega) (by omega)
      have hw2 : IntKind.u64.wrap ((n % 10 : Nat) : Int) = ((n % 10 : Nat) : Int) := u64_id (by omega) (by omega)
      have hw3 : IntKind.u64.wrap (((n % 10 : Nat) : Int) + 1) = ((n % 10 : Nat) : Int) + 1 := u64_id (by omega) (by omega)
      have hdg := Lib.hid (digits_at (n % 10) hr10)
      have hlen := dec_len (n / 10) (by omega)
      generalize n % 10 = r at *
      generalize n / 10 = q at *
      have hl1 : (Lib.decDigits q).length + 1 ≤ 9223372036854775807 := by omega
      clear ih hlen hn h
      go_enter Tryz.func47, Tryz.ntmps47
      go_wp2_with fail
      go_quiet ((go_at_call 47; exact Calls.quiet_of (C.out _)))
      go_wp2_with fail
      refine bodyPost_ret (v := strV (Lib.decDigits q ++ [UInt8.ofNat (48 + r)])) ?_ rfl ⟨rfl, _, rfl⟩
      simp [results, Tryz.results47, go_sem, hdg.out, ba_append]
theorem itoa_neg {m : Nat} : Lib.itoa (-((m + 1 : Nat) : Int)) = 45 :: Lib.decDigits (m + 1) := by
  unfold Lib.itoa
  rw [if_pos (by omega)]
  congr 2
theorem itoa_pos (m : Nat) : Lib.itoa (m : Int) = Lib.decDigits m := by
  unfold Lib.itoa
  rw [if_neg (by omega)]
  rfl
set_option maxRecDepth 100000 in
set_option maxHeartbeats 1000000 in
theorem number_any (n : Int) (h0 : -9223372036854775808 ≤ n) (h1 : n ≤ 9223372036854775807) (w : World) : Calls Tryz.prog 32 #[.int .i64 n] w fun e w' => e = .returned (strV (Lib.itoa n)) ∧ ∃ m, w' = w.drewN m := by
  by_cases hn : n < 0
  · obtain ⟨m, rfl⟩ : ∃ m : Nat, n = -((m + 1 : Nat) : Int) := ⟨(-n).toNat - 1, by omega⟩
    rw [itoa_neg]
    have hm : m + 1 < 18446744073709551616 := by omega
    have C := Lib.hid (decimal_any (m + 1) hm)
    have hd : decide (-((m + 1 : Nat) : Int) < 0) = true := decide_eq_true hn
    have ha : -((m + 1 : Nat) : Int) + 1 = -(m : Int) := by omega
    have hw1 : IntKind.u64.wrap (m : Int) = (m : Int) := u64_id (by omega) (by omega)
    have hw2 : IntKind.i64.wrap (m : Int) = (m : Int) := IntWalk.i64_in _ (by omega)
    have hb : (m : Int) + 1 = ((m + 1 : Nat) : Int) := by omega
    have hw3 : IntKind.u64.wrap ((m + 1 : Nat) : Int) = ((m + 1 : Nat) : Int) := u64_id (by omega) (by omega)
    have hlen := dec_len (m + 1) hm
    have hl1 : 1 + (Lib.decDigits (m + 1)).length ≤ 9223372036854775807 := by omega
    have hl2 : (Lib.decDigits (m + 1)).length + 1 ≤ 9223372036854775807 := by omega
    generalize m + 1 = p at *
    generalize -(p : Int) = x at *
    clear hn hlen
    go_enter Tryz.func32, Tryz.ntmps32
    go_wp2_with fail
    refine (C.out _).mono ?_
    rintro e W1 ⟨rfl, a, rfl⟩
    go_wp2_with fail
    refine bodyPost_ret (v := strV (45 :: Lib.decDigits p)) ?_ rfl ⟨rfl, a, rfl⟩
    simp [results, Tryz.results32, go_sem]
    exact ba_append [45] (Lib.decDigits p)
  · obtain ⟨m, rfl⟩ : ∃ m : Nat, n = (m : Int) := ⟨n.toNat, by omega⟩
    rw [itoa_pos]
    have hm : m < 18446744073709551616 := by omega
    have C := Lib.hid (decimal_any m hm)
    have hd : decide ((m : Int) < 0) = false := decide_eq_false hn
    have hw1 : IntKind.u64.wrap (m : Int) = (m : Int) := u64_id (by omega) (by omega)
    go_enter Tryz.func32, Tryz.ntmps32
    go_wp2_with fail
    refine (C.out _).mono ?_
    rintro e W1 ⟨rfl, a, rfl⟩
    go_wp2_with fail
    refine bodyPost_ret (v := strV (Lib.decDigits m)) ?_ rfl ⟨rfl, a, rfl⟩
    simp [results, Tryz.results32, go_sem]
def signT (n : Int) : List UInt8 := if 0 ≤ n then 43 :: Lib.itoa n else Lib.itoa n
theorem signed_any (n : Int) (h0 : -9223372036854775808 ≤ n) (h1 : n ≤ 9223372036854775807) (w : World) : Calls Tryz.prog 33 #[.int .i64 n] w fun e w' => e = .returned (strV (signT n)) ∧ ∃ m, w' = w.drewN m := by
  have C := Lib.hid (number_any n h0 h1)
  have hl := Lib.itoa_length_le n h0 h1
  by_cases hn : n < 0
  · have e1 : signT n = Lib.itoa n := by unfold signT; rw [if_neg (by omega)]
    rw [e1]
    have hd : decide (n < 0) = true := decide_eq_true hn
    go_enter Tryz.func33, Tryz.ntmps33
    go_wp2_with fail
    refine (C.out _).mono ?_
    rintro e W1 ⟨rfl, a, rfl⟩
    go_wp2_with fail
    refine bodyPost_ret (v := strV (Lib.itoa n)) ?_ rfl ⟨rfl, a, rfl⟩
    simp [results, Tryz.results33, go_sem]
  · have e1 : signT n = 43 :: Lib.itoa n := by unfold signT; rw [if_pos (by omega)]
    rw [e1]
    have hd : decide (n < 0) = false := decide_eq_false hn
    have hl1 : 1 + (Lib.itoa n).length ≤ 9223372036854775807 := by omega
    have hl2 : (Lib.itoa n).length + 1 ≤ 9223372036854775807 := by omega
    clear hl
    go_enter Tryz.func33, Tryz.ntmps33
    go_wp2_with fail
    refine (C.out _).mono ?_
    rintro e W1 ⟨rfl, a, rfl⟩
    go_wp2_with fail
    refine bodyPost_ret (v := strV (43 :: Lib.itoa n)) ?_ rfl ⟨rfl, a, rfl⟩
    simp [results, Tryz.results33, go_sem]
    exact ba_append [43] (Lib.itoa n)
end Go.Proofs.YtcngpciblbdgbaaGreatDoor

/-! Contract of the reference's InsText. Conditions: the form is valid by itself, its kinds and the arguments read as numbers, as many of each, the arguments inside. -/
namespace Go.Proofs.YtcngpciblbdgbaaGreatDoor
open Go Go.RowKit Go.Shelf
theorem sign_len {n : Int} (h0 : -9223372036854775808 ≤ n) (h1 : n ≤ 9223372036854775807) : (signT n).length ≤ 22 := by
  have h3 := Lib.itoa_length_le n h0 h1
  unfold signT
  split <;> simp <;> omega
theorem known_six {k : Int} (h : 1 ≤ k ∧ k ≤ 6) : k = 1 ∨ k = 2 ∨ k = 3 ∨ k = 4 ∨ k = 5 ∨ k = 6 := by omega
theorem sep_next {T : List UInt8} {j : Nat} (h : ¬ j = 0) : (⟨T.toArray⟩ : ByteArray) ++ ⟨#[44, 32]⟩ = ⟨(T ++ sepT j).toArray⟩ := by
  rw [show sepT j = [44, 32] by simp [sepT, h]]
  exact ba_append T [44, 32]
theorem sep_first {T : List UInt8} : (⟨T.toArray⟩ : ByteArray) ++ ⟨#[32]⟩ = ⟨(T ++ sepT 0).toArray⟩ := ba_append T [32]
theorem opT_one (a : Int) : opT 1 a = [114] ++ Lib.itoa a := by simp [opT, numT, leadL, signB]
theorem opT_two (a : Int) : opT 2 a = [118] ++ Lib.itoa a := by simp [opT, numT, leadL, signB]
theorem opT_three (a : Int) : opT 3 a = signT a := by simp [opT, numT, leadL, signB, signT]
theorem opT_four (a : Int) : opT 4 a = Lib.itoa a := by simp [opT, numT, leadL, signB]
theorem opT_five (a : Int) : opT 5 a = [115, 104, 111, 114, 116, 32] ++ signT a := by simp [opT, numT, leadL, signB, signT]
theorem opT_six (a : Int) : opT 6 a = [110, 101, 97, 114, 32] ++ signT a := by simp [opT, numT, leadL, signB, signT]
theorem app3 (l a b : List UInt8) : (⟨l.toArray⟩ : ByteArray) ++ ⟨a.toArray⟩ ++ ⟨b.toArray⟩ = ⟨(l ++ (a ++ b)).toArray⟩ := by rw [ba_append, ba_append, List.append_assoc]
theorem text_pre {T S : List UInt8} {j : Nat} (h : T.length ≤ 16 + 30 * j) (hj : j < 4) (hs : S.length ≤ 2) : T.length + 2 ≤ 9223372036854775807 ∧ T.length + 1 ≤ 9223372036854775807 ∧ (T ++ S).length ≤ 150 := by
  rw [List.length_append]
  omega
theorem next_sum {j : Nat} (hj : j < 4) : wrap64 ((j : Int) + 1) = (j : Int) + 1 := IntWalk.wrap64_in _ (by omega)
theorem text_lens {l s i : List UInt8} (hl : l.length ≤ 150) (hs : s.length ≤ 22) (hi : i.length ≤ 21) :
    l.length + 1 ≤ 9223372036854775807 ∧ l.length + 5 ≤ 9223372036854775807 ∧ l.length + 6 ≤ 9223372036854775807 ∧ l.length + 1 + i.length ≤ 9223372036854775807 ∧ l.length + i.length ≤ 9223372036854775807 ∧
    l.length + s.length ≤ 9223372036854775807 ∧ l.length + 5 + s.length ≤ 9223372036854775807 ∧ l.length + 6 + s.length ≤ 9223372036854775807 := by omega
set_option maxRecDepth 100000 in
set_option maxHeartbeats 2000000 in
theorem insText_any (B : Nat) (f : Frm) (av : Value) (xs : List Int) (w : World) (hk : KindsAt B w f.kv f.kinds) (ha : KindsAt B w av xs) (hB : B ≤ w.heap.size) (hok : FormOk f) (hl : xs.length = f.kinds.length) (hi : insideAll f.kinds xs) :
    Calls Tryz.prog 18 #[.agg #[.string f.name, .int .i64 f.code, f.kv], av] w fun e w' => e = .returned (strV (insT f.name.data.toList (opsT f.kinds xs))) ∧ Below w.heap.size w w' := by
  have HKN := Lib.hid hok.known
  have HSH := Lib.hid hok.short
  have HNM := hok.name
  clear hok
  obtain ⟨nm, q, kv, ks⟩ := f
  obtain ⟨A3, n3, c3, e3, hl3, -, -⟩ := hk.opens
  obtain ⟨A1, n1, c1, rfl, hl1, -, -⟩ := ha.opens
  dsimp only at e3 hl hi hk hl3 HKN HSH HNM ⊢
  subst e3
  obtain ⟨nl, rfl⟩ : ∃ nl : List UInt8, nm = ⟨nl.toArray⟩ := ⟨nm.data.toList, by simp⟩
  have hnl : nl.length ≤ 16 := by
    simp [nameOk] at HNM
    exact HNM.2.2
  have bf := one_more w (.cells #[strV nl, .int .i64 q, .slice A3 n3 c3] 39)
  have HW := Lib.hid bf
  have HK := Lib.hid (hk.below (bf.mono hB))
  have HA := Lib.hid (ha.below (bf.mono hB))
  have HB2 := Lib.hid (Nat.le_trans hB bf.size)
  have HI := Lib.hid hi
  have HL := Lib.hid hl
  have HNL := Lib.hid hnl
  have d0 : (w.alloc (.cells #[strV nl, .int .i64 q, .slice A3 n3 c3] 39)).cell? ⟨w.heap.size, 0, none⟩ = some (strV nl) := by simp
  have D2 := Lib.hid (show (w.alloc (.cells #[strV nl, .int .i64 q, .slice A3 n3 c3] 39)).cell? ⟨w.heap.size, 2, none⟩ = some (.slice A3 n3 c3) by simp)
  obtain rfl : n3 = n1 := by rw [← hl3.out, ← hl1.out]; exact hl.symm
  clear bf hk ha hi hl hnl HNM
  go_enter Tryz.func18, Tryz.ntmps18
  go_wp2_with fail
  obtain ⟨W2, hW2⟩ : ∃ W2, W2 = w.alloc (.cells #[strV nl, .int .i64 q, .slice A3 n3 c3] 39) := ⟨_, rfl⟩
  rw [← hW2] at HW HK HA HB2 D2
  replace HW : Hid (Below w.heap.size w W2) := HW
  have e2 : w.alloc (.cells #[.string ⟨nl.toArray⟩, .int .i64 q, .slice A3 n3 c3] 39) = W2 := hW2.symm
  rw [e2]
  clear hW2 e2 d0
  go_loopw [5, 6] (fun tx i wr => ∃ j : Nat, j ≤ n3 ∧ i = .int .i64 (j : Int) ∧ tx = strV (textT nl ks xs j) ∧ Below W2.heap.size W2 wr) (fun _ i _ => n3 - (intOf i).toNat)
  case atStart => exact ⟨0, Nat.zero_le _, rfl, rfl, Below.refl _ _⟩
  case round =>
    obtain ⟨j, hj, rfl, rfl, hbr⟩ := hrel
    by_cases hlt : j < n3
    · have d2 : wr.cell? ⟨w.heap.size, 2, none⟩ = some (.slice A3 n3 c3) := cell_below D2.out hbr
      have hz := block_lt_of_cell d2
      have hjk : j < ks.length := by rw [hl3.out]; exact hlt
      obtain ⟨b3, o3, hA3, -, g3⟩ := kinds_at_cell (HK.out.below (hbr.mono HB2.out)) hlt
      obtain ⟨b2, o2, hA2, -, g2⟩ := kinds_at_cell (HA.out.below (hbr.mono HB2.out)) hlt
      subst hA3
      subst hA2
      have hz2 := block_lt_of_cell g2
      have hz3 := block_lt_of_cell g3
      have hr := arg_range HI.out hjk
      have C1 := Lib.hid (number_any (xs[j]?.getD 0) hr.1 hr.2)
      have C2 := Lib.hid (signed_any (xs[j]?.getD 0) hr.1 hr.2)
      have hs1 := Lib.itoa_length_le (xs[j]?.getD 0) hr.1 hr.2
      have hs2 := sign_len hr.1 hr.2
      have hjb : j < 4 := Nat.lt_of_lt_of_le hjk HSH.out
      have hT := textT_len HL.out HI.out HNL.out j (Nat.le_of_lt hjk)
      have hsep := sep_len j
      have HN := Lib.hid (textT_next (nl := nl) HL.out hjk)
      have hkn := known_six (HKN.out (ks[j]?.getD 0) (by rw [List.getElem?_eq_getElem hjk, Option.getD_some]; exact List.getElem_mem hjk))
      have Hbr := Lib.hid hbr
      generalize ks[j]?.getD 0 = kj at *
      generalize xs[j]?.getD 0 = xj at *
      clear hr hbr hjk
      have hw := next_sum hjb
      obtain ⟨hl0, hl1, hlen⟩ := text_pre hT hjb hsep
      have HN' := Lib.hid (show textT nl ks xs (j + 1) = (textT nl ks xs j ++ sepT j) ++ opT kj xj by rw [HN.out, List.append_assoc])
      have E0 := Lib.hid (show j = 0 → (⟨(textT nl ks xs j).toArray⟩ : ByteArray) ++ ⟨#[32]⟩ = ⟨(textT nl ks xs j ++ sepT j).toArray⟩ from fun h => by subst h; exact sep_first)
      have E1 := Lib.hid (show ¬ j = 0 → (⟨(textT nl ks xs j).toArray⟩ : ByteArray) ++ ⟨#[44, 32]⟩ = ⟨(textT nl ks xs j ++ sepT j).toArray⟩ from fun h => sep_next h)
      generalize textT nl ks xs j ++ sepT j = l at HN' E0 E1 hlen
      generalize textT nl ks xs j = T at *
      obtain ⟨m1, m2, m3, m4, m5, m6, m7, m8⟩ := text_lens hlen hs2 hs1
      have H8 := Lib.hid hkn
      clear hT hsep hs1 hs2 hlen HN hkn
      by_cases hj0 : j = 0
      · have hd : ((j : Int) == 0) = true := by simpa using hj0
        have HJ0 := Lib.hid hj0
        clear hj0
        go_upto_region 8 with fail
        rw [E0.out HJ0.out]
        clear hl0 hl1 hd E0 E1
        rcases H8.out with rfl | rfl | rfl | rfl | rfl | rfl
        · go_wp2_with fail
          refine (C1.out _).mono ?_
          rintro e W4 ⟨rfl, a, rfl⟩
          go_wp2_with fail
          clear m1 m2 m3 m4 m5 m6 m7 m8
          go_round
          case rel =>
            refine ⟨j + 1, hlt, by go_num, ?_, below_drewN Hbr.out a⟩
            rw [HN'.out, opT_one]
            exact congrArg Value.string (app3 l _ _)
          case measure => simp [intOf]; omega
        · go_wp2_with fail
          refine (C1.out _).mono ?_
          rintro e W4 ⟨rfl, a, rfl⟩
          go_wp2_with fail
          clear m1 m2 m3 m4 m5 m6 m7 m8
          go_round
          case rel =>
            refine ⟨j + 1, hlt, by go_num, ?_, below_drewN Hbr.out a⟩
            rw [HN'.out, opT_two]
            exact congrArg Value.string (app3 l _ _)
          case measure => simp [intOf]; omega
        · go_wp2_with fail
          refine (C2.out _).mono ?_
          rintro e W4 ⟨rfl, a, rfl⟩
          go_wp2_with fail
          clear m1 m2 m3 m4 m5 m6 m7 m8
          go_round
          case rel =>
            refine ⟨j + 1, hlt, by go_num, ?_, below_drewN Hbr.out a⟩
            rw [HN'.out, opT_three]
            exact congrArg Value.string (ba_append l _)
          case measure => simp [intOf]; omega
        · go_wp2_with fail
          refine (C1.out _).mono ?_
          rintro e W4 ⟨rfl, a, rfl⟩
          go_wp2_with fail
          clear m1 m2 m3 m4 m5 m6 m7 m8
          go_round
          case rel =>
            refine ⟨j + 1, hlt, by go_num, ?_, below_drewN Hbr.out a⟩
            rw [HN'.out, opT_four]
            exact congrArg Value.string (ba_append l _)
          case measure => simp [intOf]; omega
        · go_wp2_with fail
          refine (C2.out _).mono ?_
          rintro e W4 ⟨rfl, a, rfl⟩
          go_wp2_with fail
          clear m1 m2 m3 m4 m5 m6 m7 m8
          go_round
          case rel =>
            refine ⟨j + 1, hlt, by go_num, ?_, below_drewN Hbr.out a⟩
            rw [HN'.out, opT_five]
            exact congrArg Value.string (app3 l _ _)
          case measure => simp [intOf]; omega
        · go_wp2_with fail
          refine (C2.out _).mono ?_
          rintro e W4 ⟨rfl, a, rfl⟩
          go_wp2_with fail
          clear m1 m2 m3 m4 m5 m6 m7 m8
          go_round
          case rel =>
            refine ⟨j + 1, hlt, by go_num, ?_, below_drewN Hbr.out a⟩
            rw [HN'.out, opT_six]
            exact congrArg Value.string (app3 l _ _)
          case measure => simp [intOf]; omega
      · have hd : ((j : Int) == 0) = false := by simpa using hj0
        have HJ0 := Lib.hid hj0
        clear hj0
        go_upto_region 8 with fail
        rw [E1.out HJ0.out]
        clear hl0 hl1 hd E0 E1
        rcases H8.out with rfl | rfl | rfl | rfl | rfl | rfl
        · go_wp2_with fail
          refine (C1.out _).mono ?_
          rintro e W4 ⟨rfl, a, rfl⟩
          go_wp2_with fail
          clear m1 m2 m3 m4 m5 m6 m7 m8
          go_round
          case rel =>
            refine ⟨j + 1, hlt, by go_num, ?_, below_drewN Hbr.out a⟩
            rw [HN'.out, opT_one]
            exact congrArg Value.string (app3 l _ _)
          case measure => simp [intOf]; omega
        · go_wp2_with fail
          refine (C1.out _).mono ?_
          rintro e W4 ⟨rfl, a, rfl⟩
          go_wp2_with fail
          clear m1 m2 m3 m4 m5 m6 m7 m8
          go_round
          case rel =>
            refine ⟨j + 1, hlt, by go_num, ?_, below_drewN Hbr.out a⟩
            rw [HN'.out, opT_two]
            exact congrArg Value.string (app3 l _ _)
          case measure => simp [intOf]; omega
        · go_wp2_with fail
          refine (C2.out _).mono ?_
          rintro e W4 ⟨rfl, a, rfl⟩
          go_wp2_with fail
          clear m1 m2 m3 m4 m5 m6 m7 m8
          go_round
          case rel =>
            refine ⟨j + 1, hlt, by go_num, ?_, below_drewN Hbr.out a⟩
            rw [HN'.out, opT_three]
            exact congrArg Value.string (ba_append l _)
          case measure => simp [intOf]; omega
        · go_wp2_with fail
          refine (C1.out _).mono ?_
          rintro e W4 ⟨rfl, a, rfl⟩
          go_wp2_with fail
          clear m1 m2 m3 m4 m5 m6 m7 m8
          go_round
          case rel =>
            refine ⟨j + 1, hlt, by go_num, ?_, below_drewN Hbr.out a⟩
            rw [HN'.out, opT_four]
            exact congrArg Value.string (ba_append l _)
          case measure => simp [intOf]; omega
        · go_wp2_with fail
          refine (C2.out _).mono ?_
          rintro e W4 ⟨rfl, a, rfl⟩
          go_wp2_with fail
          clear m1 m2 m3 m4 m5 m6 m7 m8
          go_round
          case rel =>
            refine ⟨j + 1, hlt, by go_num, ?_, below_drewN Hbr.out a⟩
            rw [HN'.out, opT_five]
            exact congrArg Value.string (app3 l _ _)
          case measure => simp [intOf]; omega
        · go_wp2_with fail
          refine (C2.out _).mono ?_
          rintro e W4 ⟨rfl, a, rfl⟩
          go_wp2_with fail
          clear m1 m2 m3 m4 m5 m6 m7 m8
          go_round
          case rel =>
            refine ⟨j + 1, hlt, by go_num, ?_, below_drewN Hbr.out a⟩
            rw [HN'.out, opT_six]
            exact congrArg Value.string (app3 l _ _)
          case measure => simp [intOf]; omega
    · obtain rfl : j = n3 := Nat.le_antisymm hj (Nat.not_lt.1 hlt)
      have HT := Lib.hid (textT_all (nl := nl) HL.out)
      have HF := Lib.hid (HW.out.trans (hbr.mono HW.out.size))
      clear hbr
      go_wp2_with fail
      have hj3 : ks.length = j := hl3.out
      refine bodyPost_ret (v := strV (insT nl (opsT ks xs))) ?_ rfl ⟨?_, HF.out⟩
      · rw [← HT.out, hj3]
        simp [results, Tryz.results18, go_sem]
      · simp
end Go.Proofs.YtcngpciblbdgbaaGreatDoor

/-! Contract of readOperand. Conditions: what the listed variables of the library hold; the text is not longer than a text may be. -/
namespace Go.Proofs.YtcngpciblbdgbaaGreatDoor
open Go Go.RowKit Go.Shelf
theorem readOp_hit {l : List UInt8} {k : Nat} {v : Int} (h1 : 1 ≤ k) (h6 : k ≤ 6) (hno : ∀ j : Nat, 1 ≤ j → j < k → tryOp l (j : Int) = none) (h : tryOp l (k : Int) = some v) : readOp l = some ((k : Int), v) := by
  have t : ∀ j : Nat, 1 ≤ j → j < k → tryOp l (j : Int) = none := hno
  have : k = 1 ∨ k = 2 ∨ k = 3 ∨ k = 4 ∨ k = 5 ∨ k = 6 := by omega
  unfold readOp
  rcases this with rfl | rfl | rfl | rfl | rfl | rfl
  · have a1 : tryOp l 1 = some v := h
    simp [readFrom, a1]
  · have a1 : tryOp l 1 = none := t 1 (by decide) (by decide)
    have a2 : tryOp l 2 = some v := h
    simp [readFrom, a1, a2]
  · have a1 : tryOp l 1 = none := t 1 (by decide) (by decide)
    have a2 : tryOp l 2 = none := t 2 (by decide) (by decide)
    have a3 : tryOp l 3 = some v := h
    simp [readFrom, a1, a2, a3]
  · have a1 : tryOp l 1 = none := t 1 (by decide) (by decide)
    have a2 : tryOp l 2 = none := t 2 (by decide) (by decide)
    have a3 : tryOp l 3 = none := t 3 (by decide) (by decide)
    have a4 : tryOp l 4 = some v := h
    simp [readFrom, a1, a2, a3, a4]
  · have a1 : tryOp l 1 = none := t 1 (by decide) (by decide)
    have a2 : tryOp l 2 = none := t 2 (by decide) (by decide)
    have a3 : tryOp l 3 = none := t 3 (by decide) (by decide)
    have a4 : tryOp l 4 = none := t 4 (by decide) (by decide)
    have a5 : tryOp l 5 = some v := h
    simp [readFrom, a1, a2, a3, a4, a5]
  · have a1 : tryOp l 1 = none := t 1 (by decide) (by decide)
    have a2 : tryOp l 2 = none := t 2 (by decide) (by decide)
    have a3 : tryOp l 3 = none := t 3 (by decide) (by decide)
    have a4 : tryOp l 4 = none := t 4 (by decide) (by decide)
    have a5 : tryOp l 5 = none := t 5 (by decide) (by decide)
    have a6 : tryOp l 6 = some v := h
    simp [readFrom, a1, a2, a3, a4, a5, a6]
theorem readOp_miss {l : List UInt8} (t : ∀ j : Nat, 1 ≤ j → j < 7 → tryOp l (j : Int) = none) : readOp l = none := by
  unfold readOp
  have a1 : tryOp l 1 = none := t 1 (by decide) (by decide)
  have a2 : tryOp l 2 = none := t 2 (by decide) (by decide)
  have a3 : tryOp l 3 = none := t 3 (by decide) (by decide)
  have a4 : tryOp l 4 = none := t 4 (by decide) (by decide)
  have a5 : tryOp l 5 = none := t 5 (by decide) (by decide)
  have a6 : tryOp l 6 = none := t 6 (by decide) (by decide)
  simp [readFrom, a1, a2, a3, a4, a5, a6]
theorem trim_any (s p : List UInt8) (w : World) : Calls Tryz.prog 67 #[strV s, strV p] w fun e w' => e = .returned (strV (Lib.trimPrefix s p)) ∧ w = w' :=
  (Tryz.strings_TrimPrefix ⟨s.toArray⟩ ⟨p.toArray⟩ w).mono fun e w' ⟨he, hw⟩ => ⟨by simpa using he, hw.symm⟩
theorem atoi_good {l : List UInt8} {v : Int} (hl : l.length ≤ 8000) (h : Lib.atoiAll l = .ok v) (w : World) : Calls Tryz.prog 66 #[strV l] w fun e w' => e = .returned (.tuple #[.int .i64 v, .nilIface]) ∧ Below w.heap.size w w' :=
  (Tryz.strconv_Atoi_ok ⟨l.toArray⟩ (by show l.length ≤ _; omega) v (by simpa using h) w).mono fun e w' ⟨he, hw⟩ => ⟨he, by
    rcases hw with rfl | ⟨t, rfl⟩
    · exact Below.refl _ _
    · exact Lib.bytesWorld_below _ _ _⟩
theorem atoi_bad {l : List UInt8} {B : Nat} (hl : l.length ≤ 8000) (h : ∀ v, Lib.atoiAll l ≠ .ok v) (w : World) (hV : VarsAt B w) : Calls Tryz.prog 66 #[strV l] w fun e w' => ∃ x N, e = .returned (.tuple #[.int .i64 x, .iface 140 (.pointer (some ⟨N, 0, none⟩))]) ∧ Below w.heap.size w w' := by
  cases hs : Lib.atoiAll l with
  | ok v => exact absurd hs (h v)
  | range =>
    obtain ⟨ev, hc, hi⟩ := hV.rng
    exact (Tryz.strconv_Atoi_range ⟨l.toArray⟩ (by show l.length ≤ _; omega) (by simpa using hs) ev w hc hi).mono fun e w' ⟨N, he, _, _, hb⟩ => ⟨_, N, he, hb⟩
  | _ =>
    obtain ⟨ev, hc, hi⟩ := hV.syn
    exact (Tryz.strconv_Atoi_none ⟨l.toArray⟩ (by show l.length ≤ _; omega) (by simpa using h) (by simp [hs]) ev w hc hi).mono fun e w' ⟨N, he, _, _, hb⟩ => ⟨_, N, he, hb⟩
theorem trim_len (s p : List UInt8) : (Lib.trimPrefix s p).length ≤ s.length := by
  unfold Lib.trimPrefix
  split
  · rw [List.length_drop]; omega
  · exact Nat.le_refl _
theorem try_good {l : List UInt8} {k v : Int} (h : Lib.atoiAll (Lib.trimPrefix l (leadL k)) = .ok v) : tryOp l k = if opT k v = l then some v else none := by
  unfold tryOp
  rw [h]
theorem try_bad {l : List UInt8} {k : Int} (h : ∀ v, Lib.atoiAll (Lib.trimPrefix l (leadL k)) ≠ .ok v) : tryOp l k = none := by
  unfold tryOp
  cases hs : Lib.atoiAll (Lib.trimPrefix l (leadL k)) with
  | ok v => exact absurd hs (h v)
  | range => rfl
  | _ => rfl
theorem no_next {l : List UInt8} {k : Nat} (h : ∀ j : Nat, 1 ≤ j → j < k → tryOp l (j : Int) = none) (hk : tryOp l (k : Int) = none) : ∀ j : Nat, 1 ≤ j → j < k + 1 → tryOp l (j : Int) = none := fun j h1 h2 => by
  rcases Nat.lt_succ_iff_lt_or_eq.1 h2 with h3 | rfl
  · exact h j h1 h3
  · exact hk
theorem six_sum {k : Nat} (h : k ≤ 7) : wrap64 ((k : Int) + 1) = (k : Int) + 1 := IntWalk.wrap64_in _ (by omega)
def gotT (r : Option (Int × Int)) : Value := match r with
  | some (k, v) => .tuple #[.int .i64 k, .int .i64 v, .bool true]
  | none => .tuple #[.int .i64 0, .int .i64 0, .bool false]
set_option maxRecDepth 100000 in
set_option maxHeartbeats 1000000 in
theorem readOperand_any (B : Nat) (l : List UInt8) (hl : l.length ≤ 8000) (w : World) (hV : VarsAt B w) (hB : B ≤ w.heap.size) :
    Calls Tryz.prog 45 #[strV l] w fun e w' => e = .returned (gotT (readOp l)) ∧ Below w.heap.size w w' := by
  have HV := Lib.hid hV
  have HL := Lib.hid hl
  clear hV hl
  go_enter Tryz.func45, Tryz.ntmps45
  go_wp2_with fail
  go_loopw [5] (fun i wr => ∃ k : Nat, 1 ≤ k ∧ k ≤ 7 ∧ i = .int .i64 (k : Int) ∧ Hid (∀ j : Nat, 1 ≤ j → j < k → tryOp l (j : Int) = none) ∧ Below w.heap.size w wr) (fun i _ => 7 - (intOf i).toNat)
  case atStart => exact ⟨1, Nat.le_refl _, by decide, rfl, Lib.hid (fun j h1 h2 => absurd h1 (by omega)), Below.refl _ _⟩
  case round =>
    obtain ⟨k, hk1, hk7, rfl, HNO, hbr⟩ := hrel
    have Hbr := Lib.hid hbr
    have HVr := Lib.hid (HV.out.below (hbr.mono hB))
    clear hbr
    by_cases hlt : k ≤ 6
    · go_wp2_with fail
      refine (lead_any _ _).mono ?_
      rintro e w' ⟨rfl, rfl⟩
      go_wp2_with fail
      refine (trim_any _ _ _).mono ?_
      rintro e w' ⟨rfl, rfl⟩
      go_wp2_with fail
      have htl := Nat.le_trans (trim_len l (leadL (k : Int))) HL.out
      by_cases hg : ∃ v, Lib.atoiAll (Lib.trimPrefix l (leadL (k : Int))) = .ok v
      · obtain ⟨v, hv⟩ := hg
        refine (atoi_good htl hv _).mono ?_
        rintro e W1 ⟨rfl, hb1⟩
        have C := Lib.hid (operand_any B (k : Int) v (atoi_bound hv).1 (atoi_bound hv).2 W1 (HVr.out.below (hb1.mono (Nat.le_trans hB Hbr.out.size))))
        have Hb1 := Lib.hid (Hbr.out.trans (hb1.mono Hbr.out.size))
        have HT := Lib.hid (try_good hv)
        clear hv hb1 htl
        go_wp2_with fail
        refine C.out.mono ?_
        rintro e W2 ⟨rfl, hb2⟩
        have Hb2 := Lib.hid (Hb1.out.trans (hb2.mono Hb1.out.size))
        clear hb2
        by_cases he : opT (k : Int) v = l
        · have HR := Lib.hid (readOp_hit hk1 hlt HNO.out (by rw [HT.out, if_pos he]))
          rw [he]
          go_wp2_with fail
          refine bodyPost_ret (v := gotT (readOp l)) ?_ rfl ⟨rfl, Hb2.out⟩
          rw [HR.out]
          simp [results, Tryz.results45, go_sem, gotT]
        · have HN := Lib.hid (no_next HNO.out (by rw [HT.out, if_neg he]))
          have hne : (opT (k : Int) v == l) = false := by simpa using he
          clear he
          go_wp2_with fail
          have hw := six_sum hk7
          go_round
          case rel => exact ⟨k + 1, by omega, by omega, by go_num, HN, Hb2.out⟩
          case measure => simp [intOf]; omega
      · have hg' : ∀ v, Lib.atoiAll (Lib.trimPrefix l (leadL (k : Int))) ≠ .ok v := fun v h => hg ⟨v, h⟩
        refine (atoi_bad htl hg' _ HVr.out).mono ?_
        rintro e W1 ⟨x, N, rfl, hb1⟩
        have Hb1 := Lib.hid (Hbr.out.trans (hb1.mono Hbr.out.size))
        have HN := Lib.hid (no_next HNO.out (try_bad hg'))
        clear hb1 htl hg hg'
        go_wp2_with fail
        have hw := six_sum hk7
        go_round
        case rel => exact ⟨k + 1, by omega, by omega, by go_num, HN, Hb1.out⟩
        case measure => simp [intOf]; omega
    · obtain rfl : k = 7 := by omega
      have HR := Lib.hid (readOp_miss HNO.out)
      go_wp2_with fail
      refine bodyPost_ret (v := gotT (readOp l)) ?_ rfl ⟨rfl, Hbr.out⟩
      rw [HR.out]
      simp [results, Tryz.results45, go_sem, gotT]
end Go.Proofs.YtcngpciblbdgbaaGreatDoor

/-! The iterator strings.SplitSeq, at the separator that stands between operands: it gives the pieces of the string, one behind the other. Conditions: the string is not longer than a text may be; the library's variable MaxLen holds a number. -/
namespace Go.Proofs.YtcngpciblbdgbaaGreatDoor
open Go Go.RowKit Go.Shelf
attribute [local go_sem] Oper.semAt_some
theorem ba_take (l : List UInt8) (i : Nat) : (⟨l.toArray⟩ : ByteArray).extract 0 i = ⟨(l.take i).toArray⟩ := by
  apply ByteArray.ext
  simp
theorem ba_drop (l : List UInt8) (i : Nat) : (⟨l.toArray⟩ : ByteArray).extract i l.length = ⟨(l.drop i).toArray⟩ := by
  apply ByteArray.ext
  simp
  rw [List.take_of_length_le (by rw [List.length_drop]; omega)]
theorem index_room {s : List UInt8} {i : Nat} (h : Lib.index s [44, 32] = (i : Int)) : i + 2 ≤ s.length := by
  rcases Lib.index_spec s [44, 32] with ⟨h1, -⟩ | ⟨j, h1, h2, h3, -⟩
  · rw [h1] at h; omega
  · have : j = i := by rw [h1] at h; omega
    subst this
    rcases Lib.occAt_room h3 with h4 | h4
    · simpa using h4
    · simp at h4
theorem pieces_last {m : Nat} {s : List UInt8} (h : Lib.index s [44, 32] < 0) : pieces m s = [s] := by
  cases m with
  | zero => rfl
  | succ m => unfold pieces; rw [if_pos h]
theorem pieces_more {m i : Nat} {s : List UInt8} (h : Lib.index s [44, 32] = (i : Int)) (hm : s.length ≤ m) : ∃ m', pieces m s = s.take i :: pieces m' (s.drop (i + 2)) ∧ (s.drop (i + 2)).length ≤ m' := by
  have hr := index_room h
  cases m with
  | zero => omega
  | succ m =>
    refine ⟨m, ?_, by rw [List.length_drop]; omega⟩
    show (if Lib.index s [44, 32] < 0 then [s] else s.take (Lib.index s [44, 32]).toNat :: pieces m (s.drop ((Lib.index s [44, 32]).toNat + 2))) = _
    rw [if_neg (by rw [h]; omega), h, Int.toNat_natCast]
theorem split_sums {i c : Nat} (h : i + 2 ≤ c) (hc : c ≤ 8000) : wrap64 (i : Int) = (i : Int) ∧ wrap64 ((i : Int) + 2) = (i : Int) + 2 ∧ (i : Int) ≤ (c : Int) ∧ (i : Int) + 2 ≤ (c : Int) ∧ (0 : Int) ≤ (i : Int) ∧ (0 : Int) ≤ (i : Int) + 2 :=
  ⟨IntWalk.wrap64_in _ (by omega), IntWalk.wrap64_in _ (by omega), by omega, by omega, by omega, by omega⟩
theorem take_short {l : List UInt8} (k : Nat) (h : l.length ≤ 8000) : (l.take k).length ≤ 8000 := by
  rw [List.length_take]; omega
theorem pre_less {α : Type} (pre r : List α) (x : α) : pre.length < (pre ++ x :: r).length := by simp
theorem index_two (s : List UInt8) : Lib.index s [44, 32] = -1 ∨ ∃ i : Nat, Lib.index s [44, 32] = (i : Int) := by
  have := Lib.index_ge s [44, 32]
  by_cases h : Lib.index s [44, 32] = -1
  · exact .inl h
  · exact .inr ⟨(Lib.index s [44, 32]).toNat, by omega⟩
/-- the blocks of the iterator's variables, and the library's MaxLen -/
def ZSplit (b : Nat) (k : Nat) : Prop := k = b ∨ k = b + 1 ∨ k = b + 2 ∨ k = 0
def OwnSplit (b : Nat) (A B : World) : Prop := ∃ s, B = A.setCell ⟨b, 0, none⟩ (.string s)
abbrev encL1 (x : List UInt8) : Array Value := #[strV x]
structure SplitAt (b : Nat) (s : List UInt8) (w : World) : Prop where
  s : Boxed w b 9 (strV s)
  sep : Boxed w (b + 1) 9 (strV [44, 32])
  save : Boxed w (b + 2) 3 (.int .i64 0)
  max : ∃ m, w.cell? ⟨0, 0, none⟩ = some (.int .i64 m)
  low : 0 < b
theorem SplitAt.keep {b : Nat} {s : List UInt8} {w w' : World} (h : SplitAt b s w) (k : KeepZ (ZSplit b) w w') : SplitAt b s w' :=
  ⟨(k.blk b (.inl rfl)).trans h.s, (k.blk (b + 1) (.inr (.inl rfl))).trans h.sep, (k.blk (b + 2) (.inr (.inr (.inl rfl)))).trans h.save,
    by obtain ⟨m, hm⟩ := h.max; exact ⟨m, (World.cell?_of_block (a := ⟨0, 0, none⟩) (k.blk _ (.inr (.inr (.inr rfl))))).trans hm⟩, h.low⟩
theorem SplitAt.set {b : Nat} {s : List UInt8} {w : World} (h : SplitAt b s w) (s' : List UInt8) : SplitAt b s' (w.setCell ⟨b, 0, none⟩ (strV s')) :=
  ⟨h.s.set _, h.sep.other (by omega) _, h.save.other (by omega) _, by
    obtain ⟨m, hm⟩ := h.max
    have hl := h.low
    exact ⟨m, (((Below.refl b w).setCell (p := ⟨b, 0, none⟩) (Nat.le_refl _) (strV s')).cell (p := ⟨0, 0, none⟩) hl).trans hm⟩, h.low⟩
theorem sidx_any (s : List UInt8) (m : Int) (w : World) (hs : s.length ≤ 8000) (hm : w.cell? ⟨0, 0, none⟩ = some (.int .i64 m)) : Calls Tryz.prog 82 #[strV s, strV [44, 32]] w fun e w' => e = .returned (.int .i64 (Lib.index s [44, 32])) ∧ w = w' :=
  (Tryz.strings_Index ⟨s.toArray⟩ ⟨[44, 32].toArray⟩ m w (by show s.length < _; omega) hm).mono fun e w' ⟨he, hw⟩ => ⟨by simpa using he, hw.symm⟩
theorem drop_short {l : List UInt8} {k : Nat} (h : l.length ≤ 8000) : (l.drop k).length ≤ 8000 := by rw [List.length_drop]; omega
def strLen : Option Value → Nat
  | some (.string s) => s.size
  | _ => 0
theorem drop_less {l : List UInt8} {i : Nat} (h : i + 2 ≤ l.length) : strLen (some (strV (l.drop (i + 2)))) < strLen (some (strV l)) := by
  show (l.drop (i + 2)).length < l.length
  rw [List.length_drop]
  omega
set_option maxRecDepth 100000 in
set_option maxHeartbeats 2000000 in
theorem split1_in (n : Nat) (hn : 2 ≤ n) (l b : Nat) (s : List UInt8) (hs : s.length ≤ 8000) (J Jx : List (List UInt8) → World → Prop)
    (W : World) (hJ : ∀ s A B, J s A → OwnSplit b A B → J s B)
    (hY : ∀ pre x W1, J pre W1 → pre.length < (pieces s.length s).length → x.length ≤ 8000 → YieldAt Fence.wide (n - 1) Tryz.prog l (encL1 x) W1 fun e W' =>
      (e = .returned (.bool true) ∧ J (pre ++ [x]) W' ∧ KeepZ (ZSplit b) W1 W') ∨ (e = .returned (.bool false) ∧ Jx (pre ++ [x]) W'))
    (h0 : J [] W) (hc : SplitAt b s W) :
    CallsIn Fence.wide n Tryz.prog 80 #[.func (.yield l) #[] #[], .pointer (some ⟨b + 1, 0, none⟩), .pointer (some ⟨b, 0, none⟩), .pointer (some ⟨b + 2, 0, none⟩)] W fun e W' => (∃ v, e = .returned v) ∧
      ((∃ ys, ys = pieces s.length s ∧ J ys W') ∨ (∃ pre, pre <+: pieces s.length s ∧ Jx pre W')) := by
  refine callsIn_of_wp Tryz.func80 rfl trivial ?_ rfl
  simp only [Tryz.ntmps80, List.size_toArray, List.length_cons, List.length_nil, Nat.reduceAdd, Nat.reduceSub, Array.replicate_succ, Array.replicate_zero, List.push_toArray, List.append_toArray, List.nil_append, List.cons_append]
  have hw : ∀ f, Fence.wide.fn f := fun _ => trivial
  have h1n : 1 ≤ n := by omega
  have Hc := Lib.hid hc
  have c1 := hc.sep.cell
  clear hc
  gi_wp2_with fail
  gi_loopw [7] (fun ix wr => ∃ (pre : List (List UInt8)) (cur : List UInt8) (m : Nat), Hid (pieces s.length s = pre ++ pieces m cur) ∧ Hid (cur.length ≤ m) ∧ Hid (cur.length ≤ 8000) ∧ Hid (J pre wr) ∧ Hid (SplitAt b cur wr)) (fun _ wr => strLen (wr.cell? ⟨b, 0, none⟩))
  case atStart => exact ⟨[], s, s.length, Lib.hid rfl, Lib.hid (Nat.le_refl _), Lib.hid hs, Lib.hid h0, Hc⟩
  case round =>
    obtain ⟨pre, cur, m, HP, HM, HL, HJ, HS⟩ := hrel
    have x1 := HS.out.s.cell
    have x2 := HS.out.sep.cell
    have x3 := HS.out.save.cell
    have z1 := HS.out.s.lt
    obtain ⟨mx, hmx⟩ := HS.out.max
    have C := Lib.hid (sidx_any cur mx wr HL.out hmx)
    clear hmx c1
    rcases index_two cur with hi | ⟨i, hi⟩
    · have HP2 := HP.out
      rw [show pieces m cur = [cur] from pieces_last (by rw [hi]; decide)] at HP2
      have HP3 := Lib.hid HP2
      obtain ⟨f1, t1, a1, b1, hy1, hR1⟩ := hY pre cur wr HJ.out (by rw [HP2]; exact pre_less pre [] cur) HL.out
      dsimp only [encL1] at hy1
      have Hr1 := Lib.hid hR1
      rw [hi] at C
      clear HP2 hR1 hi
      gi_wp2_with (gi_at_call 82; refine (callsIn_wide.2 C.out).mono ?_; rintro e W1 ⟨rfl, rfl⟩)
      clear hy1
      refine Hr1.out.mono ?_
      clear Hr1
      rintro e W2 (⟨rfl, hJ2, hk2⟩ | ⟨rfl, hx2⟩)
      · gi_wp2
        go_end0
        exact ⟨⟨_, rfl⟩, .inl ⟨_, HP3.out.symm, hJ2⟩⟩
      · gi_wp2
        go_end0
        exact ⟨⟨_, rfl⟩, .inr ⟨_, by rw [HP3.out]; exact List.prefix_refl _, hx2⟩⟩
    · obtain ⟨m', hm1, hm2⟩ := pieces_more hi HM.out
      have hr := index_room hi
      obtain ⟨s1, s2, s3, s4, s5, s6⟩ := split_sums hr HL.out
      have HP2 := HP.out
      rw [hm1] at HP2
      have HP3 := Lib.hid HP2
      have HM3 := Lib.hid hm2
      have HR := Lib.hid hr
      obtain ⟨f1, t1, a1, b1, hy1, hR1⟩ := hY pre (cur.take i) wr HJ.out (by rw [HP2]; exact pre_less pre _ _) (take_short i HL.out)
      dsimp only [encL1] at hy1
      rw [show strV (cur.take i) = .string ((⟨cur.toArray⟩ : ByteArray).extract 0 i) from congrArg Value.string (ba_take cur i).symm] at hy1
      have Hr1 := Lib.hid hR1
      rw [hi] at C
      clear HP2 hR1 hi hm1 hm2 hr
      gi_wp2_with (gi_at_call 82; refine (callsIn_wide.2 C.out).mono ?_; rintro e W1 ⟨rfl, rfl⟩)
      clear hy1
      refine Hr1.out.mono ?_
      clear Hr1 x1 x2 x3 z1
      rintro e W2 (⟨rfl, hJ2, hk2⟩ | ⟨rfl, hx2⟩)
      · have HS2 := Lib.hid (HS.out.keep hk2)
        have HJ2 := Lib.hid hJ2
        have y1 := HS2.out.s.cell
        have y2 := HS2.out.sep.cell
        have y3 := HS2.out.s.frozen
        have z2 := HS2.out.s.lt
        clear hJ2 hk2
        gi_wp2
        rw [show Value.string ((⟨cur.toArray⟩ : ByteArray).extract (i + 2) cur.length) = strV (cur.drop (i + 2)) from congrArg Value.string (ba_drop cur (i + 2))]
        have HB := Lib.hid (HS2.out.set (cur.drop (i + 2)))
        go_roundw
        case rel => exact ⟨pre ++ [cur.take i], cur.drop (i + 2), m', Lib.hid (by rw [HP3.out]; simp), HM3, Lib.hid (drop_short HL.out), Lib.hid (hJ _ _ _ HJ2.out ⟨_, rfl⟩), HB⟩
        case measure =>
          rw [HB.out.s.cell, HS.out.s.cell]
          exact drop_less HR.out
      · gi_wp2
        refine bodyPost_ret (results_none rfl _ _ _) rfl ⟨⟨_, rfl⟩, .inr ⟨_, ?_, hx2⟩⟩
        rw [HP3.out]
        exact ⟨pieces m' (cur.drop (i + 2)), by simp⟩
/-- strings.SplitSeq's iterator, for a range over it -/
theorem split_owns (n : Nat) (hn : 2 ≤ n) (b : Nat) (s : List UInt8) (hs : s.length ≤ 8000) (w : World) (hc : SplitAt b s w) :
    SeqOwns Fence.wide n Tryz.prog 80 #[.pointer (some ⟨b + 1, 0, none⟩), .pointer (some ⟨b, 0, none⟩), .pointer (some ⟨b + 2, 0, none⟩)] encL1 (fun _ => ZSplit b) (OwnSplit b) (fun x W0 W1 => W0 = W1 ∧ x.length ≤ 8000) (fun xs => xs = pieces s.length s) (fun pre => pre <+: pieces s.length s) (pieces s.length s).length w :=
  fun l J Jx W hW hJ _ hY h0 => split1_in n hn l b s hs J Jx W hJ (fun pre x W1 hj hlen h8 => hY pre x W1 W1 hj hj ⟨rfl, h8⟩ hlen) h0 (hc.keep (KeepZ.below hW fun k hk => by
    have h3 := hc.save.lt
    have h4 := hc.low
    rcases hk with rfl | rfl | rfl | rfl <;> omega))
/-- the world behind the call of SplitSeq: the boxes of its three parameters -/
def splW (w : World) (s : List UInt8) : World := ((w.alloc (.cells #[strV s] 9)).alloc (.cells #[strV [44, 32]] 9)).alloc (.cells #[.int .i64 0] 3)
theorem splW_below (w : World) (s : List UInt8) : Below w.heap.size w (splW w s) := (two_more w _ _).alloc (by simp; omega) _
theorem splW_at {w : World} {s : List UInt8} (hm : ∃ m, w.cell? ⟨0, 0, none⟩ = some (.int .i64 m)) (hl : 0 < w.heap.size) : SplitAt w.heap.size s (splW w s) := by
  have e1 := Boxed.new w 9 (strV s)
  have e2 := Boxed.new (w.alloc (.cells #[strV s] 9)) 9 (strV [44, 32])
  have e3 := Boxed.new ((w.alloc (.cells #[strV s] 9)).alloc (.cells #[strV [44, 32]] 9)) 3 (.int .i64 0)
  rw [World.size_alloc] at e2
  rw [World.size_alloc, World.size_alloc] at e3
  obtain ⟨m, hm⟩ := hm
  exact ⟨(e1.alloc _).alloc _, e2.alloc _, e3, ⟨m, ((splW_below w s).cell (p := ⟨0, 0, none⟩) hl).trans hm⟩, hl⟩
set_option maxHeartbeats 400000 in
theorem splitSeq_any (s : List UInt8) (w : World) : Calls Tryz.prog 44 #[strV s, strV [44, 32]] w fun e w' => e = .returned (.func (.func 80) #[] #[.pointer (some ⟨w.heap.size + 1, 0, none⟩), .pointer (some ⟨w.heap.size, 0, none⟩), .pointer (some ⟨w.heap.size + 2, 0, none⟩)]) ∧ w' = splW w s := by
  go_enter Tryz.func44, Tryz.ntmps44
  go_wp2
  refine bodyPost_ret (v := .func (.func 80) #[] #[.pointer (some ⟨w.heap.size + 1, 0, none⟩), .pointer (some ⟨w.heap.size, 0, none⟩), .pointer (some ⟨w.heap.size + 2, 0, none⟩)]) ?_ rfl ⟨rfl, rfl⟩
  simp [results, Tryz.results44, go_sem]
theorem cut_any (s : List UInt8) (m : Int) (w : World) (hs : s.length ≤ 8000) (hm : w.cell? ⟨0, 0, none⟩ = some (.int .i64 m)) :
    Calls Tryz.prog 43 #[strV s, strV [32]] w fun e w' => e = .returned (.tuple #[strV (Lib.cut s [32]).1, strV (Lib.cut s [32]).2.1, .bool (Lib.cut s [32]).2.2]) ∧ Below w.heap.size w w' :=
  (Tryz.strings_Cut ⟨s.toArray⟩ ⟨[32].toArray⟩ m w (by show s.length < _; omega) hm).mono fun e w' ⟨he, n, hw⟩ => ⟨by simpa using he, by rw [hw]; exact below_drewN (Below.refl _ _) n⟩
end Go.Proofs.YtcngpciblbdgbaaGreatDoor
