/- The law ExprSpaces. Conditions: the reading, its bulk; the table of kinds. -/
import Derived.Test.YtchpkdpefpiegaaDoorExT
import Derived.Test.YtchpkdpefpiegaaDoorExX
namespace Go.Proofs.YtchpkdpefpiegaaDoor.Tok
open Go Go.RowKit

def sgT (c : UInt8) : Tk := ⟨3, [c], 0, 0⟩
theorem sgT_short (c : UInt8) : (sgT c).text.length ≤ 140737488351232 := by show 1 ≤ _; decide
/-- a literal of tokens, owned -/
theorem own_lit (w : World) (B : Nat) (ts : List Tk) (hB : B ≤ w.heap.size) (hn : ts.length ≤ 1000) : (w.alloc (.cells (tkv ts).toArray 31)).ownsRow B 31 4 (.slice (some ⟨w.heap.size, 0, none⟩) ts.length ts.length) ts.length (tkv ts) := by
  have := World.ownsRow_lit (base := B) (e := 31) (size := 4) w (tkv ts).toArray ts.length hB (by unfold maxLen; omega) (by rw [List.size_toArray, tkv_length])
  simpa using this
theorem own_lit2 (w : World) (o : Obj) (B : Nat) (ts : List Tk) (hB : B ≤ w.heap.size) (hn : ts.length ≤ 1000) : ((w.alloc o).alloc (.cells (tkv ts).toArray 31)).ownsRow B 31 4 (.slice (some ⟨w.heap.size + 1, 0, none⟩) ts.length ts.length) ts.length (tkv ts) := by
  have := own_lit (w.alloc o) B ts (by rw [World.size_alloc]; omega) hn
  rwa [World.size_alloc] at this
theorem below_two {K : Nat} {w0 w : World} (h : Below K w0 w) (hK : K ≤ w.heap.size) (o p : Obj) : Below K w0 ((w.alloc o).alloc p) := (h.alloc hK o).alloc (by rw [World.size_alloc]; omega) p
set_option maxHeartbeats 4000000 in
set_option maxRecDepth 100000 in
theorem law_spaces (B : Nat) (v : Value) (ts : List Tk) (w : World) (h : TksAt B w v ts) (hB : B ≤ w.heap.size) (hK : KindsAt w) (hl : ts.length * 40 ≤ 140737488351232) :
    Calls Tryd.prog 8 #[v] w fun e w' => e = .returned (.bool true) ∧ Below w.heap.size w w' := by
  have C0 := Lib.hid (example_any w hK)
  have HK := Lib.hid (fun W (hb : Below w.heap.size w W) => hK.up hb)
  have HT := Lib.hid (fun W (hb : Below w.heap.size w W) => h.below (hb.mono hB))
  have HL := Lib.hid hl
  obtain ⟨A, n0, c0, rfl, -, -, hsh, -⟩ := h.opens
  clear h hK hl
  go_enter Tryd.func8, Tryd.ntmps8
  go_wp2_with fail
  refine C0.out.mono ?_
  rintro e W1 ⟨rfl, hb1⟩
  have HB1 := Lib.hid hb1
  clear hb1 C0
  go_wp2_with fail
  refine (func4_any [40] W1).mono ?_
  rintro e W2 ⟨rfl, hb2⟩
  have HB2 := Lib.hid (HB1.out.trans (hb2.mono HB1.out.size))
  clear hb2
  unfold Tk.v
  have key1 := Lib.hid (show ∀ (ops : Array Oper) (rest : List Oper) (o : Oper) (a : Act) (Q : Exit → Act → World → Prop), o.guard = none → o.op = .call { callee := .builtin .append, args := #[.tmp 19, .tmp 20], argTypes := #[22, 22] } →
      a.eval (.tmp 19) = .slice (some ⟨W2.heap.size + 1, 0, none⟩) 1 1 → a.eval (.tmp 20) = .slice A n0 c0 →
      (∀ v' w', w'.ownsRow w.heap.size 31 4 v' ([sgT 40] ++ ts).length (tkv ([sgT 40] ++ ts)) → Below w.heap.size w w' → wpList Tryd.prog ops Q rest (a.put o.dst v') w') →
      wpList Tryd.prog ops Q (o :: rest) a ((W2.alloc (.cells #[.int .i64 3, .string ⟨#[40]⟩, .int .i64 0, .int .i64 0] 31)).alloc (.cells #[.int .i64 3, .string ⟨#[40]⟩, .int .i64 0, .int .i64 0] 31)) from fun ops rest o a Q h1 h2 h3 h4 h5 => by
    have hown := own_lit2 W2 (.cells #[.int .i64 3, .string ⟨#[40]⟩, .int .i64 0, .int .i64 0] 31) w.heap.size [sgT 40] HB2.out.size (by decide)
    have hbw := below_two HB2.out HB2.out.size (.cells #[.int .i64 3, .string ⟨#[40]⟩, .int .i64 0, .int .i64 0] 31) (.cells #[.int .i64 3, .string ⟨#[40]⟩, .int .i64 0, .int .i64 0] 31)
    exact wp_append_toks h1 (.tmp 19) (.tmp 20) h2 w.heap.size _ [sgT 40] h3 hown B _ ts h4 (HT.out _ hbw) (by have := HL.out; show (1 + _) * 40 ≤ _; omega) hbw.size (fun v' w' h6 h7 => h5 v' w' h6 (hbw.grown h7 hbw.size (fun k e => (hown.lt k e).1))))
  go_wp2_with (at_builtin; refine key1.out _ _ _ _ _ rfl rfl rfl rfl ?_; intro v1 U1 hown1 hu1; have HO1 := Lib.hid hown1; have HU1 := Lib.hid hu1; clear hown1 hu1)
  clear key1
  refine (func4_any [41] U1).mono ?_
  rintro e W3 ⟨rfl, hb3⟩
  have HO2 := Lib.hid (ownsRow_below HO1.out hb3)
  have HU3 := Lib.hid (HU1.out.trans (hb3.mono HU1.out.size))
  clear hb3 HO1
  unfold Tk.v
  have key2 := Lib.hid (show ∀ (ops : Array Oper) (rest : List Oper) (o : Oper) (a : Act) (Q : Exit → Act → World → Prop), o.guard = none → o.op = .call { callee := .builtin .append, args := #[.tmp 21, .tmp 23], argTypes := #[22, 22] } →
      a.eval (.tmp 21) = v1 → a.eval (.tmp 23) = .slice (some ⟨W3.heap.size, 0, none⟩) 1 1 →
      (∀ v' w', w'.ownsRow w.heap.size 31 4 v' ([sgT 40] ++ ts ++ [sgT 41]).length (tkv ([sgT 40] ++ ts ++ [sgT 41])) → Below w.heap.size w w' → wpList Tryd.prog ops Q rest (a.put o.dst v') w') →
      wpList Tryd.prog ops Q (o :: rest) a (W3.alloc (.cells #[.int .i64 3, .string ⟨#[41]⟩, .int .i64 0, .int .i64 0] 31)) from fun ops rest o a Q h1 h2 h3 h4 h5 => by
    have hown := HO2.out.alloc (.cells #[.int .i64 3, .string ⟨#[41]⟩, .int .i64 0, .int .i64 0] 31)
    have hbw := HU3.out.alloc HU3.out.size (.cells #[.int .i64 3, .string ⟨#[41]⟩, .int .i64 0, .int .i64 0] 31)
    exact wp_append_toks h1 (.tmp 21) (.tmp 23) h2 w.heap.size v1 ([sgT 40] ++ ts) h3 hown _ _ [sgT 41] h4 (tks_new W3 [sgT 41] (by decide) (fun t ht => by rw [List.mem_singleton] at ht; subst ht; exact sgT_short 41))
      (by have := HL.out; rw [List.length_append]; show (1 + _ + 1) * 40 ≤ _; omega) hbw.size (fun v' w' h6 h7 => h5 v' w' h6 (hbw.grown h7 hbw.size (fun k e => (hown.lt k e).1))))
  go_wp2_with (at_builtin; refine key2.out _ _ _ _ _ rfl rfl rfl rfl ?_; intro v2 U2 hown2 hu2; have HO3 := Lib.hid hown2; have HU2 := Lib.hid hu2; clear hown2 hu2)
  clear key2 HO2 HU3 HU1
  have HI := Lib.hid (toks_of_rowB HO3.out (by have := HL.out; rw [List.length_append, List.length_append]; show (1 + _ + 1) * 40 ≤ _; omega) (fun t ht => by
    rcases List.mem_append.1 ht with ht | ht
    · rcases List.mem_append.1 ht with ht | ht
      · rw [List.mem_singleton] at ht; subst ht; exact sgT_short 40
      · exact hsh.out t ht
    · rw [List.mem_singleton] at ht; subst ht; exact sgT_short 41))
  obtain ⟨A2, d2, rfl⟩ := row_is HO3.out
  generalize ([sgT 40] ++ ts ++ [sgT 41]).length = n2 at HO3 HI ⊢
  clear HO3
  refine (parse_gen B _ ts U2 (HT.out _ HU2.out) (Nat.le_trans hB HU2.out.size) (HK.out _ HU2.out)).mono ?_
  rintro e W4 ⟨⟨v3, c1, j1, a, rfl, hna, hz1, ha⟩, hb4⟩
  have HI4 := Lib.hid (HI.out.below hb4)
  have HU4 := Lib.hid (HU2.out.trans (hb4.mono HU2.out.size))
  have HS2 := Lib.hid hb4.size
  have HNA := Lib.hid hna
  have HZ1 := Lib.hid hz1
  have HA := Lib.hid ha
  clear hb4 hna hz1 ha HI
  go_wp2_with fail
  have hf1 := heap_alloc_new W4 (.cells #[.int .i64 c1, .int .i64 j1] 26)
  have hX := (Below.refl W4.heap.size W4).alloc (Nat.le_refl _) (.cells #[.int .i64 c1, .int .i64 j1] 26)
  have HU5 := Lib.hid (HU4.out.trans (hX.mono HU4.out.size))
  have HI5 := Lib.hid (HI4.out.below (hX.mono HS2.out))
  have HNA5 := Lib.hid ((HNA.out.below hX).more hX.size)
  have hS5 := Nat.le_trans HS2.out hX.size
  clear hX HU4 HI4 HNA
  generalize hY : W4.alloc (.cells #[.int .i64 c1, .int .i64 j1] 26) = Y at hf1 HU5 HI5 HNA5 hS5 ⊢
  clear hY
  refine (parse_gen U2.heap.size _ _ Y HI5.out hS5 (HK.out _ HU5.out)).mono ?_
  rintro e W5 ⟨⟨v5, c2, j2, b, rfl, hnb, hz2, hb⟩, hb5⟩
  have HI6 := Lib.hid (HI5.out.below (hb5.mono hS5))
  have HU6 := Lib.hid (HU5.out.trans (hb5.mono HU5.out.size))
  have HS6 := Lib.hid (Nat.le_trans hS5 hb5.size)
  have HNA6 := Lib.hid ((HNA5.out.below hb5).more hb5.size)
  have HNB := Lib.hid hnb
  have HZ2 := Lib.hid hz2
  have HPB := Lib.hid hb
  obtain ⟨x1, x2, x3⟩ := cells_of ((hb5.block _ (lt_of_block hf1)).trans hf1)
  have f0 : W5.cell? ⟨W4.heap.size, 0, none⟩ = some (.int .i64 c1) := x1 0 _ rfl
  clear hb5 hnb hz2 hb HI5 HU5 HNA5 hS5 hf1 x1 x2
  by_cases e1 : c1 = 0
  · by_cases e2 : c2 = 0
    · subst e1 e2
      clear HZ1 HZ2
      obtain ⟨pa, la⟩ := HA.out rfl
      obtain ⟨pb, lb⟩ := HPB.out rfl
      obtain rfl : a = b := same_par (o := sgT 40) (c := sgT 41) pa pb rfl rfl (by decide) (by decide)
      have HPA := Lib.hid pa
      have HLA := Lib.hid la
      clear pa la pb lb HA HPB
      have HV := Lib.hid ((Below.refl W5.heap.size W5).alloc (Nat.le_refl _) (.cells #[.int .i64 0, .int .i64 j2] 26))
      go_wp2_with fail
      refine (func4_any [45] _).mono ?_
      rintro e W6 ⟨rfl, hb6⟩
      have HV6 := Lib.hid (HV.out.trans (hb6.mono HV.out.size))
      clear hb6 HV x3 f0
      go_wp2_with fail
      refine (func4_any [45] W6).mono ?_
      rintro e W7 ⟨rfl, hb7⟩
      have HV7 := Lib.hid (HV6.out.trans (hb7.mono HV6.out.size))
      clear hb7 HV6
      unfold Tk.v
      have key3 := Lib.hid (show ∀ (ops : Array Oper) (rest : List Oper) (o : Oper) (a : Act) (Q : Exit → Act → World → Prop), o.guard = none → o.op = .call { callee := .builtin .append, args := #[.tmp 54, .tmp 55], argTypes := #[22, 22] } →
          a.eval (.tmp 54) = .slice (some ⟨W7.heap.size, 0, none⟩) 2 2 → a.eval (.tmp 55) = .slice A2 n2 d2 →
          (∀ v' w', w'.ownsRow W5.heap.size 31 4 v' ([sgT 45, sgT 45] ++ ([sgT 40] ++ ts ++ [sgT 41])).length (tkv ([sgT 45, sgT 45] ++ ([sgT 40] ++ ts ++ [sgT 41]))) → Below W5.heap.size W5 w' → wpList Tryd.prog ops Q rest (a.put o.dst v') w') →
          wpList Tryd.prog ops Q (o :: rest) a (W7.alloc (.cells #[.int .i64 3, .string ⟨#[45]⟩, .int .i64 0, .int .i64 0, .int .i64 3, .string ⟨#[45]⟩, .int .i64 0, .int .i64 0] 31)) from fun ops rest o a Q h1 h2 h3 h4 h5 => by
        have hown := own_lit W7 W5.heap.size [sgT 45, sgT 45] HV7.out.size (by decide)
        have hbw := HV7.out.alloc HV7.out.size (.cells #[.int .i64 3, .string ⟨#[45]⟩, .int .i64 0, .int .i64 0, .int .i64 3, .string ⟨#[45]⟩, .int .i64 0, .int .i64 0] 31)
        exact wp_append_toks h1 (.tmp 54) (.tmp 55) h2 W5.heap.size _ [sgT 45, sgT 45] h3 hown U2.heap.size _ _ h4 (HI6.out.below (hbw.mono HS6.out)) (by have := HL.out; rw [List.length_append, List.length_append]; show (2 + (1 + _ + 1)) * 40 ≤ _; omega) hbw.size (fun v' w' h6 h7 => h5 v' w' h6 (hbw.grown h7 hbw.size (fun k e => (hown.lt k e).1))))
      go_wp2_with (at_builtin; refine key3.out _ _ _ _ _ rfl rfl rfl rfl ?_; intro v8 U8 hown8 hu8; have HO8 := Lib.hid hown8; have HV8 := Lib.hid hu8; clear hown8 hu8)
      clear key3 HV7
      have HI8 := Lib.hid (toks_of_rowB HO8.out (by have := HL.out; rw [List.length_append, List.length_append, List.length_append]; show (2 + (1 + _ + 1)) * 40 ≤ _; omega) (fun t ht => by
        rcases List.mem_append.1 ht with ht | ht
        · simp only [List.mem_cons, List.not_mem_nil, or_false] at ht
          rcases ht with rfl | rfl <;> exact sgT_short 45
        · rcases List.mem_append.1 ht with ht | ht
          · rcases List.mem_append.1 ht with ht | ht
            · rw [List.mem_singleton] at ht; subst ht; exact sgT_short 40
            · exact hsh.out t ht
          · rw [List.mem_singleton] at ht; subst ht; exact sgT_short 41))
      clear HO8
      refine (parse_gen U8.heap.size _ _ U8 HI8.out (Nat.le_refl _) (HK.out _ (HU6.out.trans (HV8.out.mono HU6.out.size)))).mono ?_
      rintro e W9 ⟨⟨v9, c3, j3, n, rfl, hnn, -, hn⟩, hb9⟩
      have HV9 := Lib.hid (HV8.out.trans (hb9.mono HV8.out.size))
      have HNN := Lib.hid hnn
      have HE := Lib.hid (show c3 = 0 → (valueL a []).2.1 = 0 → valueL n [] = valueL a [] from fun h0 h1 => by
        obtain ⟨pn, ln⟩ := hn h0
        obtain ⟨q1, q2⟩ := neg_par (m1 := sgT 45) (m2 := sgT 45) (o := sgT 40) (c := sgT 41) HPA.out pn rfl rfl (by decide) (by decide) rfl rfl (by decide) (by decide) (by decide) (by decide)
        obtain ⟨-, -, -, -, -, -, hsm, -⟩ := HNA6.out.opens
        exact value_neg h1 hsm.out q1 q2 ln)
      clear hb9 hnn hn HI8 HV8 HPA HLA HI6 HS6 HL hsh HT
      have hX := (Below.refl W9.heap.size W9).alloc (Nat.le_refl _) (.cells #[.int .i64 c3, .int .i64 j3] 26)
      have hf3 := heap_alloc_new W9 (.cells #[.int .i64 c3, .int .i64 j3] 26)
      have HVa := Lib.hid (HV9.out.trans (hX.mono HV9.out.size))
      have HX := Lib.hid hX
      have CA := Lib.hid (value_any W5.heap.size v3 (.slice none 0 0) a [] _ (HNA6.out.below HVa.out) ((NmsAt.nil _).more (Nat.zero_le _)) HVa.out.size (HK.out _ (HU6.out.trans (HVa.out.mono HU6.out.size))))
      have CB := Lib.hid (fun W (hb : Below W9.heap.size W9 W) => value_any W9.heap.size v9 (.slice none 0 0) n [] W (HNN.out.below hb) ((NmsAt.nil W).more (Nat.zero_le _)) hb.size (HK.out _ (HU6.out.trans ((HV9.out.trans (hb.mono HV9.out.size)).mono HU6.out.size))))
      clear hX
      generalize valueL a [] = r1 at CA HE
      generalize valueL n [] = r2 at CB HE
      obtain ⟨l1, f1, g1⟩ := r1
      obtain ⟨l2, f2, g2⟩ := r2
      unfold faultV at CA CB
      dsimp only at CA CB HE
      go_wp2_with fail
      refine CA.out.mono ?_
      rintro e W10 ⟨rfl, hb10⟩
      have hf4 := (hb10.block _ (lt_of_block hf3)).trans hf3
      have HV10 := Lib.hid (HVa.out.trans (hb10.mono HVa.out.size))
      have HX10 := Lib.hid (HX.out.trans (hb10.mono HX.out.size))
      clear hb10 HVa HX hf3 CA
      unfold Ln.v
      go_wp2_with fail
      have hX := below_two HX10.out HX10.out.size (.cells #[.string ⟨l1.sym.toArray⟩, .string ⟨l1.minus.toArray⟩, .int .i64 l1.num] 40) (.cells #[.int .i64 f1, .int .i64 g1] 26)
      have hf5 := heap_allocL (.cells #[.int .i64 f1, .int .i64 g1] 26) (heap_alloc_new W10 (.cells #[.string ⟨l1.sym.toArray⟩, .string ⟨l1.minus.toArray⟩, .int .i64 l1.num] 40))
      have hf6 := heap_newM W10 (.cells #[.string ⟨l1.sym.toArray⟩, .string ⟨l1.minus.toArray⟩, .int .i64 l1.num] 40) (.cells #[.int .i64 f1, .int .i64 g1] 26)
      have hf7 := heap_allocL (.cells #[.int .i64 f1, .int .i64 g1] 26) (heap_allocL (.cells #[.string ⟨l1.sym.toArray⟩, .string ⟨l1.minus.toArray⟩, .int .i64 l1.num] 40) hf4)
      have HV11 := Lib.hid (below_two HV10.out HV10.out.size (.cells #[.string ⟨l1.sym.toArray⟩, .string ⟨l1.minus.toArray⟩, .int .i64 l1.num] 40) (.cells #[.int .i64 f1, .int .i64 g1] 26))
      have hs11 : W10.heap.size + 1 < ((W10.alloc (.cells #[.string ⟨l1.sym.toArray⟩, .string ⟨l1.minus.toArray⟩, .int .i64 l1.num] 40)).alloc (.cells #[.int .i64 f1, .int .i64 g1] 26)).heap.size := by rw [World.size_alloc, World.size_alloc]; omega
      generalize hY : (W10.alloc (.cells #[.string ⟨l1.sym.toArray⟩, .string ⟨l1.minus.toArray⟩, .int .i64 l1.num] 40)).alloc (.cells #[.int .i64 f1, .int .i64 g1] 26) = Y at hX hf5 hf6 hf7 HV11 hs11 ⊢
      clear hY hf4 HX10 HV10
      refine (CB.out Y hX).mono ?_
      rintro e W11 ⟨rfl, hb11⟩
      have hg5 := (hb11.block _ (lt_of_block hf5)).trans hf5
      have hg6 := (hb11.block _ (lt_of_block hf6)).trans hf6
      have hg7 := (hb11.block _ (lt_of_block hf7)).trans hf7
      have HV12 := Lib.hid (HV11.out.trans (hb11.mono HV11.out.size))
      clear hb11 hf5 hf6 hf7 HV11 hs11 CB hX
      unfold Ln.v
      go_wp2_with fail
      have hh5 := heap_allocL (.cells #[.int .i64 f2, .int .i64 g2] 26) (heap_allocL (.cells #[.string ⟨l2.sym.toArray⟩, .string ⟨l2.minus.toArray⟩, .int .i64 l2.num] 40) hg5)
      have hh6 := heap_allocL (.cells #[.int .i64 f2, .int .i64 g2] 26) (heap_allocL (.cells #[.string ⟨l2.sym.toArray⟩, .string ⟨l2.minus.toArray⟩, .int .i64 l2.num] 40) hg6)
      have hh7 := heap_allocL (.cells #[.int .i64 f2, .int .i64 g2] 26) (heap_allocL (.cells #[.string ⟨l2.sym.toArray⟩, .string ⟨l2.minus.toArray⟩, .int .i64 l2.num] 40) hg7)
      have hh8 := heap_allocL (.cells #[.int .i64 f2, .int .i64 g2] 26) (heap_alloc_new W11 (.cells #[.string ⟨l2.sym.toArray⟩, .string ⟨l2.minus.toArray⟩, .int .i64 l2.num] 40))
      have hh9 := heap_newM W11 (.cells #[.string ⟨l2.sym.toArray⟩, .string ⟨l2.minus.toArray⟩, .int .i64 l2.num] 40) (.cells #[.int .i64 f2, .int .i64 g2] 26)
      have HV13 := Lib.hid (below_two HV12.out HV12.out.size (.cells #[.string ⟨l2.sym.toArray⟩, .string ⟨l2.minus.toArray⟩, .int .i64 l2.num] 40) (.cells #[.int .i64 f2, .int .i64 g2] 26))
      generalize hY : (W11.alloc (.cells #[.string ⟨l2.sym.toArray⟩, .string ⟨l2.minus.toArray⟩, .int .i64 l2.num] 40)).alloc (.cells #[.int .i64 f2, .int .i64 g2] 26) = Z at hh5 hh6 hh7 hh8 hh9 HV13 ⊢
      clear hY hg5 hg6 hg7 HV12
      refine (nodes_any W5.heap.size v3 v5 a Z (HNA6.out.below HV13.out) (HNB.out.below HV13.out)).mono ?_
      rintro e W14 ⟨rfl, q, rfl⟩
      obtain ⟨p1, -, p3⟩ := cells_of hh5
      obtain ⟨q1, -, q3⟩ := cells_of hh6
      obtain ⟨r1, -, r3⟩ := cells_of hh7
      obtain ⟨s1, -, s3⟩ := cells_of hh8
      obtain ⟨t1, -, t3⟩ := cells_of hh9
      have c50 : Z.cell? ⟨W10.heap.size, 0, none⟩ = some (strV l1.sym) := p1 0 _ rfl
      have c51 : Z.cell? ⟨W10.heap.size, 1, none⟩ = some (strV l1.minus) := p1 1 _ rfl
      have c52 : Z.cell? ⟨W10.heap.size, 2, none⟩ = some (.int .i64 l1.num) := p1 2 _ rfl
      have c60 : Z.cell? ⟨W10.heap.size + 1, 0, none⟩ = some (.int .i64 f1) := q1 0 _ rfl
      have c70 : Z.cell? ⟨W9.heap.size, 0, none⟩ = some (.int .i64 c3) := r1 0 _ rfl
      have c80 : Z.cell? ⟨W11.heap.size, 0, none⟩ = some (strV l2.sym) := s1 0 _ rfl
      have c81 : Z.cell? ⟨W11.heap.size, 1, none⟩ = some (strV l2.minus) := s1 1 _ rfl
      have c82 : Z.cell? ⟨W11.heap.size, 2, none⟩ = some (.int .i64 l2.num) := s1 2 _ rfl
      have c90 : Z.cell? ⟨W11.heap.size + 1, 0, none⟩ = some (.int .i64 f2) := t1 0 _ rfl
      clear hh5 hh6 hh7 hh8 hh9 p1 q1 r1 s1 t1 HNN HNA6 HNB
      have HEND := Lib.hid (show Below w.heap.size w (Z.drewN q) from below_drewN (HU6.out.trans (HV13.out.mono HU6.out.size)) q)
      by_cases e3 : c3 = 0
      · by_cases e4 : f1 = 0
        · have he := HE.out e3 e4
          injection he with he1 he2
          injection he2 with he2 he3
          subst e3 e4
          subst he1 he2 he3
          clear HE
          go_wp2_with fail
          go_ret
          exact ⟨rfl, HEND.out⟩
        · subst e3
          have n2 : (f1 == 0) = false := beq_eq_false_iff_ne.2 e4
          have n3 : (f1 != 0) = true := by simp [bne, n2]
          clear e4 HE
          go_wp2_with fail
          go_ret
          exact ⟨rfl, HEND.out⟩
      · have n2 : (c3 == 0) = false := beq_eq_false_iff_ne.2 e3
        have n3 : (c3 != 0) = true := by simp [bne, n2]
        clear e3 HE
        go_wp2_with fail
        go_ret
        exact ⟨rfl, HEND.out⟩
    · subst e1
      have n2 : (c2 == 0) = false := beq_eq_false_iff_ne.2 e2
      have n3 : (c2 != 0) = true := by simp [bne, n2]
      clear e2
      go_wp2_with fail
      go_ret
      exact ⟨rfl, HU6.out.alloc HU6.out.size _⟩
  · obtain rfl := HZ1.out e1
    have n2 : (c1 == 0) = false := beq_eq_false_iff_ne.2 e1
    have n3 : (c1 != 0) = true := by simp [bne, n2]
    clear e1 HZ1 HNA6
    go_wp2_with fail
    go_ret
    exact ⟨rfl, HU6.out.alloc HU6.out.size _⟩
end Go.Proofs.YtchpkdpefpiegaaDoor.Tok
