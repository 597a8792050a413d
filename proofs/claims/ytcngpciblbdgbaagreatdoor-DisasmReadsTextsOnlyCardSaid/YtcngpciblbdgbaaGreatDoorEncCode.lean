/- The reference's Code is encL. Conditions: the kinds and the arguments read as ints, as many as one another. -/
import Derived.Maps.AppendAt
import Derived.Deep.RegionHeldLaw
import Derived.Deep.AppendLies
import Derived.Test.YtcngpciblbdgbaaGreatDoorEncDF
namespace Go.Proofs.YtcngpciblbdgbaaGreatDoor
open Go Go.RowKit Go.Shelf
theorem pack_even : ∀ (a b : List Int), a.length % 2 = 0 → pack (a ++ b) = pack a ++ pack b
  | [], _, _ => rfl
  | [_], _, h => by simp at h
  | x :: y :: r, b, h => by
    have ih := pack_even r b (by simp at h; omega)
    show UInt8.ofNat (x + 16 * y).toNat :: pack (r ++ b) = _
    rw [ih]
    rfl
theorem pack_pad : ∀ (a : List Int), a.length % 2 = 1 → pack (a ++ [0]) = pack a
  | [], h => by simp at h
  | [x], _ => by
    show [UInt8.ofNat (x + 16 * 0).toNat] = [UInt8.ofNat x.toNat]
    rw [Int.mul_zero, Int.add_zero]
  | x :: y :: r, h => by
    have ih := pack_pad r (by simp at h; omega)
    show UInt8.ofNat (x + 16 * y).toNat :: pack (r ++ [0]) = _
    rw [ih]
    rfl
def padL (a : List Int) : List Int := if a.length % 2 = 1 then a ++ [0] else a
theorem padL_pack (a : List Int) : pack (padL a) = pack a := by
  unfold padL
  split
  · exact pack_pad a ‹_›
  · rfl
theorem padL_len (a : List Int) : (padL a).length = 2 * ((a.length + 1) / 2) := by
  unfold padL
  split
  · simp; omega
  · omega
theorem padL_small {a : List Int} (h : ∀ y ∈ a, 0 ≤ y ∧ y < 16) : ∀ y ∈ padL a, 0 ≤ y ∧ y < 16 := by
  unfold padL
  split
  · intro y hy
    rcases List.mem_append.1 hy with h1 | h1
    · exact h y h1
    · simp at h1; subst h1; decide
  · exact h
theorem pack_next {a : List Int} (h : ∀ y ∈ a, 0 ≤ y ∧ y < 16) {t : Nat} (ht : 2 * t + 1 < a.length) {x y : Int} (hx : x = a[2 * t]?.getD 0) (hy : y = a[2 * t + 1]?.getD 0) :
    bv (pack (a.take (2 * t))) ++ [.int .u8 ((x + 16 * y) % 256)] = bv (pack (a.take (2 * (t + 1)))) := by
  have e : a.take (2 * (t + 1)) = a.take (2 * t) ++ [x, y] := by
    rw [show 2 * (t + 1) = 2 * t + 1 + 1 by omega, List.take_add_one, List.take_add_one, hx, hy, List.getElem?_eq_getElem ht, List.getElem?_eq_getElem (show 2 * t < a.length by omega), List.append_assoc]
    rfl
  have h1 : 0 ≤ x ∧ x < 16 := by rw [hx, List.getElem?_eq_getElem (show 2 * t < a.length by omega)]; exact h _ (List.getElem_mem _)
  have h2 : 0 ≤ y ∧ y < 16 := by rw [hy, List.getElem?_eq_getElem ht]; exact h _ (List.getElem_mem _)
  rw [e, pack_even _ _ (by rw [List.length_take]; omega)]
  have e2 : ((UInt8.ofNat (x + 16 * y).toNat).toNat : Int) = (x + 16 * y) % 256 := by rw [ofNat_toNat _ (by omega)]; omega
  show _ = bv (pack (a.take (2 * t)) ++ [UInt8.ofNat (x + 16 * y).toNat])
  unfold bv
  rw [List.map_append, List.map_cons, List.map_nil, e2]
theorem pair_next {ks xs : List Int} (h : xs.length = ks.length) {j : Nat} (hj : j < ks.length) {kj xj : Int} (h1 : kj = ks[j]?.getD 0) (h2 : xj = xs[j]?.getD 0) : (ks.zip xs).take (j + 1) = (ks.zip xs).take j ++ [(kj, xj)] := by
  rw [h1, h2]
  exact zip_take_succ h hj
theorem halves_next (l : List (Int × Int)) (k x : Int) : halves (l ++ [(k, x)]) = if isReg k then halves l ++ [x] else halves l := by
  rw [halves_append]
  cases hk : isReg k <;> simp [halves, hk]
theorem nums_next (l : List (Int × Int)) (k x : Int) : nums (l ++ [(k, x)]) = nums l ++ numB k x := by
  rw [nums_append]
  simp [nums]
def codeW (w : World) (nm : ByteArray) (cd : Int) (kv : Value) : World := (w.alloc (.cells #[.string nm, .int .i64 cd, kv] 39)).alloc (.cells #[.int .u8 (cd % 256)] 5)
theorem round_num {j n : Nat} (h : j < n) (hn : n ≤ 4) : wrap64 ((j : Int) + 1) = ((j + 1 : Nat) : Int) ∧ n - (intOf (.int .i64 ((j + 1 : Nat) : Int))).toNat < n - (intOf (.int .i64 (j : Int))).toNat := by
  refine ⟨by rw [IntWalk.wrap64_in _ (by omega)]; omega, ?_⟩
  simp [intOf]
  omega
theorem and_255 (x : Int) : bits .and .i64 x 255 = x % 256 := by
  show IntKind.i64.wrap ((BitVec.ofInt 64 x &&& BitVec.ofInt 64 255).toNat : Int) = _
  have e2 : (BitVec.ofInt 64 255).toNat = 2 ^ 8 - 1 := by decide
  rw [BitVec.toNat_and, e2, Nat.and_two_pow_sub_one_eq_mod, BitVec.toNat_ofInt, i64_small _ (by omega)]
  omega
theorem and_255_byte (x : Int) (j : Nat) : bits .and .i64 (x / 256 ^ j) 255 % 256 = ((byteOf x j).toNat : Int) := by
  rw [and_255]
  unfold byteOf
  rw [ofNat_toNat _ (by omega)]
  omega
theorem bv_snoc (l : List UInt8) (x : Int) : bv l ++ [.int .u8 (bits .and .i64 x 255 % 256)] = bv (l ++ [byteOf x 0]) := by
  have := and_255_byte x 0
  rw [Int.pow_zero, Int.ediv_one] at this
  rw [this]
  simp [bv]
theorem bv_two (l : List UInt8) (x : Int) : bv l ++ [.int .u8 (bits .and .i64 x 255 % 256), .int .u8 (bits .and .i64 (x / 256) 255 % 256)] = bv (l ++ [byteOf x 0, byteOf x 1]) := by
  have h0 := and_255_byte x 0
  have h1 := and_255_byte x 1
  rw [Int.pow_zero, Int.ediv_one] at h0
  rw [show (256 : Int) ^ 1 = 256 by decide] at h1
  rw [h0, h1]
  simp [bv]
theorem bv_four (l : List UInt8) (x : Int) : bv l ++ [.int .u8 (bits .and .i64 x 255 % 256), .int .u8 (bits .and .i64 (x / 256) 255 % 256), .int .u8 (bits .and .i64 (x / 65536) 255 % 256), .int .u8 (bits .and .i64 (x / 16777216) 255 % 256)] = bv (l ++ [byteOf x 0, byteOf x 1, byteOf x 2, byteOf x 3]) := by
  have h0 := and_255_byte x 0
  have h1 := and_255_byte x 1
  have h2 := and_255_byte x 2
  have h3 := and_255_byte x 3
  rw [Int.pow_zero, Int.ediv_one] at h0
  rw [show (256 : Int) ^ 1 = 256 by decide] at h1
  rw [show (256 : Int) ^ 2 = 65536 by decide] at h2
  rw [show (256 : Int) ^ 3 = 16777216 by decide] at h3
  rw [h0, h1, h2, h3]
  simp [bv]
/-- two rows kept apart, when the first has grown -/
theorem apart_step {b rn : Nat} {e : TypeId} {hv rv v' : Value} {ys : List Value} {wr W' : World} {o : Obj} (HR : wr.ownsRow b e 1 rv rn ys) (hg : (wr.alloc o).grownBy W' hv.ownBlock) (hS : ∀ r, hv.ownBlock = some r → rv.ownBlock ≠ some r) (hat : v'.ownBlock = hv.ownBlock ∨ v'.ownBlock = some (wr.alloc o).heap.size) :
    W'.ownsRow b e 1 rv rn ys ∧ (∀ r, v'.ownBlock = some r → rv.ownBlock ≠ some r) := by
  refine ⟨(HR.alloc o).kept hg ?_, fun r hr hr2 => ?_⟩
  · cases hrv : rv.ownBlock with
    | none => exact .inl rfl
    | some r => exact .inr fun h => hS r h.symm hrv
  · rcases hat with h | h
    · exact hS r (h ▸ hr) hr2
    · have := (HR.lt r hr2).2
      rw [h] at hr
      injection hr with hr
      simp at hr
      omega
theorem grown_below {b n size : Nat} {e : TypeId} {hv : Value} {xs : List Value} {a wr W' : World} {o : Obj} (HB : Below b a wr) (hb : b ≤ wr.heap.size) (HH : wr.ownsRow b e size hv n xs) (hg : (wr.alloc o).grownBy W' hv.ownBlock) : Below b a W' :=
  (HB.alloc hb o).grown hg (Nat.le_trans hb (by simp)) fun r h => (HH.lt r h).1
theorem apart_sym {hv rv : Value} (h : ∀ r, hv.ownBlock = some r → rv.ownBlock ≠ some r) : ∀ r, rv.ownBlock = some r → hv.ownBlock ≠ some r := fun r h1 h2 => h r h2 h1
theorem lit_cell (w : World) (x : Value) (t : TypeId) : ∀ j u, [x][j]? = some u → (w.alloc (.cells #[x] t)).cell? ((⟨w.heap.size, 0, none⟩ : Addr).add j) = some u := by
  intro j u h
  match j, h with
  | 0, h => injection h with h; subst h; simp [Addr.add]
  | j + 1, h => simp at h
theorem iv_snoc (l : List Int) (x : Int) : iv (l ++ [x]) = iv l ++ [.int .i64 x] := by simp [iv]
theorem row_is {w : World} {B n size : Nat} {e : TypeId} {v : Value} {xs : List Value} (h : w.ownsRow B e size v n xs) : ∃ A c, v = .slice A n c := by
  rcases h.2 with ⟨rfl, rfl⟩ | ⟨g, cap, cur, rfl, _⟩
  · exact ⟨_, _, rfl⟩
  · exact ⟨_, _, rfl⟩
theorem small_at {l : List Int} (h : ∀ y ∈ l, 0 ≤ y ∧ y < 16) {j : Nat} (hj : j < l.length) : 0 ≤ l[j]?.getD 0 ∧ l[j]?.getD 0 < 16 := by
  rw [List.getElem?_eq_getElem hj]
  exact h _ (List.getElem_mem hj)
theorem pair_nums {k m : Nat} {x y : Int} (hk : k + 1 < m) (hm : m ≤ 4) (hx : 0 ≤ x ∧ x < 16) (hy : 0 ≤ y ∧ y < 16) : IntKind.i64.wrap ((k : Int) + 1) = (k : Int) + 1 ∧ ((k : Int) + 1).toNat = k + 1 ∧ (0 : Int) ≤ (k : Int) + 1 ∧ (k : Int) + 1 < (m : Int) ∧ IntKind.i64.wrap (16 * y) = 16 * y ∧ IntKind.i64.wrap (x + 16 * y) = x + 16 * y ∧ (k : Int) < (m : Int) :=
  ⟨IntWalk.i64_in _ (by omega), by omega, by omega, by omega, IntWalk.i64_in _ (by omega), IntWalk.i64_in _ (by omega), by omega⟩
theorem pair_round {t k m : Nat} (_hk : k < m) (hkt : k = 2 * t) (h : 2 * t + 1 < m) (hm : m ≤ 4) : wrap64 ((k : Int) + 2) = ((k + 2 : Nat) : Int) ∧ m - (intOf (.int .i64 ((k + 2 : Nat) : Int))).toNat < m - (intOf (.int .i64 (k : Int))).toNat ∧ k + 2 ≤ m ∧ t ≤ 1 := by
  refine ⟨by rw [IntWalk.wrap64_in _ (by omega)]; omega, ?_, by omega, by omega⟩
  simp [intOf]
  omega
theorem bytes_of_row' {w : World} {B n c : Nat} {A : Option Addr} {l : List UInt8} (h : w.ownsRow B 5 1 (.slice A n c) n (bv l)) (hn : n ≤ 16) : BytesAt w.heap.size w (.slice A n c) l := by
  rcases h.2 with ⟨e, h0⟩ | ⟨g, cap, cur, e, _, _, h3, _⟩
  · injection e with e1 e2 e3
    subst e1
    subst e3
    subst h0
    have hl : l = [] := by have := h.1; rw [bv_length] at this; exact List.eq_nil_of_length_eq_zero (by omega)
    subst hl
    exact ⟨none, 0, rfl, ⟨by simp, Nat.le_refl _⟩, fun h => absurd h (by simp)⟩
  · injection e with e1 e2 e3
    subst e1
    exact bytes_of_row h (by omega) (by omega)
theorem apart_gap {W0 : World} {B n gb b m cap : Nat} {e : TypeId} {v : Value} {xs : List Value} (h : W0.ownsRow B e 1 v n xs) (hg : gb < B ∨ W0.heap.size ≤ gb) (_hB : B ≤ W0.heap.size) : v.ownBlock = none ∨ v.ownBlock ≠ (Value.slice (some ⟨gb, b, none⟩) m cap).ownBlock := by
  cases hv : v.ownBlock with
  | none => exact .inl rfl
  | some r =>
    refine .inr fun h2 => ?_
    have h3 := h.lt r hv
    have h4 : r = gb := by simpa [Value.ownBlock] using h2
    omega
/-- the row of the literal with the code's byte, still there -/
theorem code_lit {w V wr : World} {nm : ByteArray} {cd : Int} {kv : Value} (hV : V = codeW w nm cd kv) (hs : V.heap.size = w.heap.size + 1 + 1) (hb : Below V.heap.size V wr) :
    wr.ownsRow w.heap.size 5 1 (.slice (some ⟨w.heap.size + 1, 0, none⟩) 1 1) 1 (bv [UInt8.ofNat (cd % 256).toNat]) := by
  have h1 : V.heap[w.heap.size + 1]? = some (.cells #[.int .u8 (cd % 256)] 5 (0, 0)) := by
    have := heap_alloc_new (w.alloc (.cells #[.string nm, .int .i64 cd, kv] 39)) (.cells #[.int .u8 (cd % 256)] 5)
    rw [World.size_alloc] at this
    rw [hV]
    exact this
  have h2 := hb.block (w.heap.size + 1) (by omega)
  rw [h1] at h2
  have e : ((UInt8.ofNat (cd % 256).toNat).toNat : Int) = cd % 256 := by rw [ofNat_toNat _ (by omega)]; omega
  refine ⟨by simp [bv], .inr ⟨w.heap.size + 1, 1, #[.int .u8 (cd % 256)], rfl, by omega, h2, Nat.le_refl _, by unfold maxLen; omega, rfl, ?_⟩⟩
  unfold bv
  rw [List.map_cons, List.map_nil, e]
  rfl
theorem lit_kept {wr W' : World} {g b c n : Nat} {e : TypeId} {hv : Value} {xs : List Value} {o : Obj} {B : Nat} (h : wr.ownsRow B e 1 (.slice (some ⟨g, 0, none⟩) n c) n xs) (hg : (wr.alloc o).grownBy W' hv.ownBlock) (hgb : g < b) (_hb : b ≤ wr.heap.size) (hr : ∀ r, hv.ownBlock = some r → b ≤ r) : W'.ownsRow B e 1 (.slice (some ⟨g, 0, none⟩) n c) n xs := by
  refine (h.alloc o).kept hg (.inr fun h2 => ?_)
  have := hr g h2.symm
  omega
theorem below_grown_lit {wr W' : World} {b : Nat} {row : Option Nat} {o : Obj} (hg : (wr.alloc o).grownBy W' row) (hb : b ≤ wr.heap.size) (hr : ∀ r, row = some r → b ≤ r) : Below b wr W' :=
  ((Below.refl b wr).alloc hb o).grown hg (Nat.le_trans hb (by simp)) hr
set_option maxRecDepth 100000 in
set_option maxHeartbeats 2000000 in
theorem code_any (B : Nat) (nm : ByteArray) (cd : Int) (kv av : Value) (ks xs : List Int) (w : World) (hk : KindsAt B w kv ks) (ha : KindsAt B w av xs) (hB : B ≤ w.heap.size) (hl : xs.length = ks.length) (h4 : ks.length ≤ 4) (hkn : Known ks) (hi : insideAll ks xs) :
    Calls Tryz.prog 28 #[.agg #[.string nm, .int .i64 cd, kv], av] w fun e w' => ∃ v', e = .returned v' ∧ w'.ownsRow w.heap.size 5 1 v' (sizeOf ks) (bv (encL cd (ks.zip xs))) ∧ Below w.heap.size w w' := by
  obtain ⟨A, n, c, rfl, hln, -, -⟩ := hk.opens
  obtain ⟨A2, n2, c2, rfl, hl2, -, -⟩ := ha.opens
  obtain rfl : n2 = n := by rw [← hl2.out, ← hln.out]; exact hl
  obtain ⟨i0, hi0, hz0, hz1, hz2'⟩ := info_parts infoInt
  obtain ⟨i1, hi1, hy0, hy1, hy2⟩ := info_parts infoByte
  have hn4 : n2 ≤ 4 := by rw [← hln.out]; exact h4
  have HK := Lib.hid hk
  have HA := Lib.hid ha
  have HI := Lib.hid hi
  have HKN := Lib.hid hkn
  have HL := Lib.hid hl
  clear hk ha hi hkn hl h4
  go_enter Tryz.func28, Tryz.ntmps28
  go_wp2_with fail
  obtain ⟨V, hV⟩ : ∃ V, V = codeW w nm cd (.slice A n2 c) := ⟨_, rfl⟩
  have hVb : Below w.heap.size w V := by rw [hV]; exact two_more _ _ _
  have hVs : V.heap.size = w.heap.size + 1 + 1 := by rw [hV]; simp [codeW]
  have hbox : V.cell? ⟨w.heap.size, 2, none⟩ = some (.slice A n2 c) := by rw [hV]; exact cell_alloc_l _ (by simp)
  have HBX := Lib.hid hbox
  have HVB := Lib.hid hVb
  go_loopw [6, 7, 8] (fun hv rv i wr => ∃ j hn rn : Nat, j ≤ n2 ∧ i = .int .i64 (j : Int) ∧ hn ≤ j ∧ rn ≤ 4 * j ∧ Hid (wr.ownsRow V.heap.size 3 1 hv hn (iv (halves ((ks.zip xs).take j)))) ∧ Hid (wr.ownsRow V.heap.size 5 1 rv rn (bv (nums ((ks.zip xs).take j)))) ∧ Hid (∀ r, hv.ownBlock = some r → rv.ownBlock ≠ some r) ∧ Hid (Below V.heap.size V wr)) (fun _ _ i _ => n2 - (intOf i).toNat)
  case atStart =>
    refine ⟨0, 0, 0, Nat.zero_le _, rfl, Nat.le_refl _, Nat.le_refl _, Lib.hid ⟨rfl, .inl ⟨rfl, rfl⟩⟩, Lib.hid ⟨rfl, .inl ⟨rfl, rfl⟩⟩, Lib.hid (fun r h => by simp [Value.ownBlock] at h), Lib.hid ?_⟩
    rw [hV]
    exact Below.refl _ _
  case round =>
    obtain ⟨j, hn, rn, hj, rfl, h1, h2, HH, HR, HS, HBW⟩ := hrel
    by_cases hlt : j < n2
    · have d0 := cell_below HBX.out HBW.out
      have z0 := block_lt_of_cell d0
      have hBV : B ≤ V.heap.size := Nat.le_trans hB HVB.out.size
      have bw := HVB.out.trans (HBW.out.mono HVB.out.size)
      obtain ⟨b3, o3, hA3, hb3, g3⟩ := kinds_at_cell (HK.out.below (bw.mono hB)) hlt
      obtain ⟨b2, o2, hA2, hb2, g2⟩ := kinds_at_cell (HA.out.below (bw.mono hB)) hlt
      subst hA3
      subst hA2
      have hz2 := block_lt_of_cell g2
      have hz3 := block_lt_of_cell g3
      have hjk : j < ks.length := by rw [hln.out]; exact hlt
      obtain ⟨kj, hkj⟩ : ∃ kj, kj = ks[j]?.getD 0 := ⟨_, rfl⟩
      obtain ⟨xj, hxj⟩ : ∃ xj, xj = xs[j]?.getD 0 := ⟨_, rfl⟩
      have hpn := pair_next HL.out hjk hkj hxj
      have hkn' := known_at HKN.out hjk
      rw [← hkj] at g3 hkn'
      rw [← hxj] at g2
      have HPN := Lib.hid hpn
      have hV2 := Lib.hid (HBW.out.size)
      clear hkj hxj hpn bw hb3 hbox hVb hVs hV
      have HRN := Lib.hid (round_num hlt hn4)
      have HNN := Lib.hid (show hn + 1 ≤ j + 1 ∧ rn ≤ 4 * (j + 1) ∧ rn + 1 ≤ 32 ∧ rn + 1 ≤ 4 * (j + 1) ∧ hn ≤ j + 1 by omega)
      have ab : Hid (u7.ownBlock ≠ some b2) := Lib.hid (fun h => by have := (HR.out.lt b2 h).1; have h4 := Nat.lt_of_lt_of_le hb2 hBV; exact absurd h4 (Nat.not_lt.2 this))
      have HN2 := Lib.hid (show rn + 2 ≤ maxLen ∧ (rn + 2) * 1 ≤ 140737488355328 ∧ rn + 4 ≤ maxLen ∧ (rn + 4) * 1 ≤ 140737488355328 ∧ rn + 2 ≤ 4 * (j + 1) ∧ rn + 4 ≤ 4 * (j + 1) by unfold maxLen; omega)
      have hsz : hn + 1 ≤ 8 := by omega
      have HSZ := Lib.hid hsz
      have hk6 := known_cases hkn'
      clear hkn' hsz h1 h2 hj hn4 hb2
      rcases hk6 with rfl | rfl | rfl | rfl | rfl | rfl
      · go_wp2_with (at_builtin; refine wpList_append_own_at _ rfl (.tmp 28) (.tmp 33) 32 rfl V.heap.size 3 i0 _ 1 8 Tryz.underlying32 hi0 hz0 hz1 hz2' (by rfl) (by decide) u6 hn _ rfl (HH.out.alloc _) ⟨wr.heap.size, 0, none⟩ 1 1 [.int .i64 xj] rfl rfl (lit_cell _ _ _) (by simp [Value.oneCell']) (Nat.le_trans HSZ.out (by decide)) (Nat.le_trans (Nat.mul_le_mul_right 8 HSZ.out) (by decide)) (Nat.le_trans hV2.out (by simp)) ?_; intro v' W' hrow hg hnil hat; obtain ⟨a1, a2⟩ := apart_step HR.out hg HS.out hat; have a3 := grown_below HBW.out hV2.out HH.out hg)
        rw [HRN.out.1]
        exact ⟨⟨j + 1, hn + 1, rn, hlt, rfl, HNN.out.1, HNN.out.2.1, Lib.hid (by rw [HPN.out, halves_next, if_pos (by rfl), iv_snoc]; exact hrow), Lib.hid (by rw [HPN.out, nums_next, show numB 1 xj = [] from rfl, List.append_nil]; exact a1), Lib.hid a2, Lib.hid a3⟩, HRN.out.2⟩
      · go_wp2_with (at_builtin; refine wpList_append_own_at _ rfl (.tmp 28) (.tmp 33) 32 rfl V.heap.size 3 i0 _ 1 8 Tryz.underlying32 hi0 hz0 hz1 hz2' (by rfl) (by decide) u6 hn _ rfl (HH.out.alloc _) ⟨wr.heap.size, 0, none⟩ 1 1 [.int .i64 xj] rfl rfl (lit_cell _ _ _) (by simp [Value.oneCell']) (Nat.le_trans HSZ.out (by decide)) (Nat.le_trans (Nat.mul_le_mul_right 8 HSZ.out) (by decide)) (Nat.le_trans hV2.out (by simp)) ?_; intro v' W' hrow hg hnil hat; obtain ⟨a1, a2⟩ := apart_step HR.out hg HS.out hat; have a3 := grown_below HBW.out hV2.out HH.out hg)
        rw [HRN.out.1]
        exact ⟨⟨j + 1, hn + 1, rn, hlt, rfl, HNN.out.1, HNN.out.2.1, Lib.hid (by rw [HPN.out, halves_next, if_pos (by rfl), iv_snoc]; exact hrow), Lib.hid (by rw [HPN.out, nums_next, show numB 2 xj = [] from rfl, List.append_nil]; exact a1), Lib.hid a2, Lib.hid a3⟩, HRN.out.2⟩
      · go_wp2_with (at_builtin; refine wpList_append_own_at _ rfl (.tmp 38) (.tmp 45) 23 rfl V.heap.size 5 i1 _ 1 1 Tryz.underlying23 hi1 hy0 hy1 hy2 (by rfl) (by decide) u7 rn _ rfl (HR.out.alloc _) ⟨wr.heap.size, 0, none⟩ 1 1 _ rfl rfl (lit_cell _ _ _) (by simp [Value.oneCell']) (Nat.le_trans HNN.out.2.2.1 (by decide)) (Nat.le_trans (Nat.mul_le_mul_right 1 HNN.out.2.2.1) (by decide)) (Nat.le_trans hV2.out (by simp)) ?_; intro v' W' hrow hg hnil hat; obtain ⟨a1, a2⟩ := apart_step HH.out hg (apart_sym HS.out) hat; have a3 := grown_below HBW.out hV2.out HR.out hg)
        rw [HRN.out.1]
        exact ⟨⟨j + 1, hn, rn + 1, hlt, rfl, HNN.out.2.2.2.2, HNN.out.2.2.2.1, Lib.hid (by rw [HPN.out, halves_next, if_neg (by decide)]; exact a1), Lib.hid (by rw [HPN.out, nums_next, show numB 3 xj = [byteOf xj 0] from rfl, ← bv_snoc]; exact hrow), Lib.hid (apart_sym a2), Lib.hid a3⟩, HRN.out.2⟩
      · go_wp2_with fail
        have hown := HR.out
        go_region_held_law (fun w' => w'.cell? ⟨b2, o2 + j, none⟩ = some (.int .i64 xj))
          (first
            | go_keep
            | (rw [hgrow.cell_far _ (by simp; omega) (Ne.symm ab.out)]; assumption))
          ((refine step_append_lies _ (by rfl) _ _ _ (by rfl) V.heap.size 5 i1 _ 1 1 Tryz.underlying23 hi1 hy0 hy1 hy2 rfl (by decide) u7 rn _ (by rfl) ((hown.alloc _).drew)
              ⟨wr.heap.size, 0, none⟩ 4 4 [.int .u8 (bits .and .i64 xj 255 % 256), .int .u8 (bits .and .i64 (xj / 256) 255 % 256), .int .u8 (bits .and .i64 (xj / 65536) 255 % 256), .int .u8 (bits .and .i64 (xj / 16777216) 255 % 256)] (by rfl) (by rfl) (World.news_of_block (cs := #[.int .u8 (bits .and .i64 xj 255 % 256), .int .u8 (bits .and .i64 (xj / 256) 255 % 256), .int .u8 (bits .and .i64 (xj / 65536) 255 % 256), .int .u8 (bits .and .i64 (xj / 16777216) 255 % 256)]) (t := 5) (fr := (0, 0)) (heap_alloc_new wr _)) (by simp [Value.oneCell'])
              (by decide) HN2.out.2.2.1 HN2.out.2.2.2.1 (Nat.le_trans hV2.out (by simp)) (wr.heap.size + 1) (by simp) ?_; intro gg cap w1 hown1 hgrow hat hlt1))
        have hg' : (wr.alloc _).grownBy w1 u7.ownBlock := ⟨hgrow.os, hgrow.tape, hgrow.output, hgrow.size, hgrow.block⟩
        obtain ⟨a1, a2⟩ := apart_step (v' := .slice (some ⟨gg, 0, none⟩) (rn + 4) cap) HH.out hg' (apart_sym HS.out) (hat.elim (fun h => .inl h.symm) (fun h => .inr (by rw [h]; simp [Value.ownBlock])))
        have a3 := grown_below HBW.out hV2.out HR.out hg'
        have HROW := Lib.hid hown1
        clear hgrow hg' hat hown1 hown
        go_wp2_with fail
        rw [HRN.out.1]
        exact ⟨⟨j + 1, hn, rn + 4, hlt, rfl, HNN.out.2.2.2.2, HN2.out.2.2.2.2.2, Lib.hid (by rw [HPN.out, halves_next, if_neg (by decide)]; exact a1), Lib.hid (by rw [HPN.out, nums_next, show numB 4 xj = [byteOf xj 0, byteOf xj 1, byteOf xj 2, byteOf xj 3] from rfl, ← bv_four]; exact HROW.out), Lib.hid (apart_sym a2), Lib.hid a3⟩, HRN.out.2⟩
      · go_wp2_with (at_builtin; refine wpList_append_own_at _ rfl (.tmp 38) (.tmp 45) 23 rfl V.heap.size 5 i1 _ 1 1 Tryz.underlying23 hi1 hy0 hy1 hy2 (by rfl) (by decide) u7 rn _ rfl (HR.out.alloc _) ⟨wr.heap.size, 0, none⟩ 1 1 _ rfl rfl (lit_cell _ _ _) (by simp [Value.oneCell']) (Nat.le_trans HNN.out.2.2.1 (by decide)) (Nat.le_trans (Nat.mul_le_mul_right 1 HNN.out.2.2.1) (by decide)) (Nat.le_trans hV2.out (by simp)) ?_; intro v' W' hrow hg hnil hat; obtain ⟨a1, a2⟩ := apart_step HH.out hg (apart_sym HS.out) hat; have a3 := grown_below HBW.out hV2.out HR.out hg)
        rw [HRN.out.1]
        exact ⟨⟨j + 1, hn, rn + 1, hlt, rfl, HNN.out.2.2.2.2, HNN.out.2.2.2.1, Lib.hid (by rw [HPN.out, halves_next, if_neg (by decide)]; exact a1), Lib.hid (by rw [HPN.out, nums_next, show numB 5 xj = [byteOf xj 0] from rfl, ← bv_snoc]; exact hrow), Lib.hid (apart_sym a2), Lib.hid a3⟩, HRN.out.2⟩
      · go_wp2_with fail
        have hown := HR.out
        go_region_held_law (fun w' => w'.cell? ⟨b2, o2 + j, none⟩ = some (.int .i64 xj))
          (first
            | go_keep
            | (rw [hgrow.cell_far _ (by simp; omega) (Ne.symm ab.out)]; assumption))
          ((refine step_append_lies _ (by rfl) _ _ _ (by rfl) V.heap.size 5 i1 _ 1 1 Tryz.underlying23 hi1 hy0 hy1 hy2 rfl (by decide) u7 rn _ (by rfl) ((hown.alloc _).drew)
              ⟨wr.heap.size, 0, none⟩ 2 2 [.int .u8 (bits .and .i64 xj 255 % 256), .int .u8 (bits .and .i64 (xj / 256) 255 % 256)] (by rfl) (by rfl) (World.news_of_block (cs := #[.int .u8 (bits .and .i64 xj 255 % 256), .int .u8 (bits .and .i64 (xj / 256) 255 % 256)]) (t := 5) (fr := (0, 0)) (heap_alloc_new wr _)) (by simp [Value.oneCell'])
              (by decide) HN2.out.1 HN2.out.2.1 (Nat.le_trans hV2.out (by simp)) (wr.heap.size + 1) (by simp) ?_; intro gg cap w1 hown1 hgrow hat hlt1))
        have hg' : (wr.alloc _).grownBy w1 u7.ownBlock := ⟨hgrow.os, hgrow.tape, hgrow.output, hgrow.size, hgrow.block⟩
        obtain ⟨a1, a2⟩ := apart_step (v' := .slice (some ⟨gg, 0, none⟩) (rn + 2) cap) HH.out hg' (apart_sym HS.out) (hat.elim (fun h => .inl h.symm) (fun h => .inr (by rw [h]; simp [Value.ownBlock])))
        have a3 := grown_below HBW.out hV2.out HR.out hg'
        have HROW := Lib.hid hown1
        clear hgrow hg' hat hown1 hown
        go_wp2_with fail
        rw [HRN.out.1]
        exact ⟨⟨j + 1, hn, rn + 2, hlt, rfl, HNN.out.2.2.2.2, HN2.out.2.2.2.2.1, Lib.hid (by rw [HPN.out, halves_next, if_neg (by decide)]; exact a1), Lib.hid (by rw [HPN.out, nums_next, show numB 6 xj = [byteOf xj 0, byteOf xj 1] from rfl, ← bv_two]; exact HROW.out), Lib.hid (apart_sym a2), Lib.hid a3⟩, HRN.out.2⟩
    · obtain rfl : j = n2 := Nat.le_antisymm hj (Nat.not_lt.1 hlt)
      have htk : (ks.zip xs).take j = ks.zip xs := List.take_of_length_le (by rw [List.length_zip, hln.out]; exact Nat.min_le_left _ _)
      have hH := HH.out
      have hR := HR.out
      rw [htk] at hH hR
      have hsm := halves_small HL.out HI.out
      have henc : encL cd (ks.zip xs) = UInt8.ofNat (cd % 256).toNat :: (pack (halves (ks.zip xs)) ++ nums (ks.zip xs)) := rfl
      have hlen := encL_length (code := cd) HL.out
      rw [henc] at hlen
      obtain ⟨hs, hhs⟩ : ∃ hs, hs = halves (ks.zip xs) := ⟨_, rfl⟩
      obtain ⟨ns, hns⟩ : ∃ ns, ns = nums (ks.zip xs) := ⟨_, rfl⟩
      rw [← hhs] at hH hsm hlen henc
      rw [← hns] at hR hlen henc
      have hO := code_lit (wr := wr) hV hVs HBW.out
      obtain ⟨A6, c6, rfl⟩ := row_is hH
      obtain ⟨A7, c7, rfl⟩ := row_is hR
      have hsl : hs.length = hn := by have := hH.1; rw [iv_length] at this; omega
      have hnl : ns.length = rn := by have := hR.1; rw [bv_length] at this; omega
      have hVW : V.heap.size ≤ wr.heap.size := HBW.out.size
      have HO := Lib.hid hO
      have HHs := Lib.hid hH
      have HRs := Lib.hid hR
      have HSM := Lib.hid (padL_small hsm)
      have HEN := Lib.hid henc
      have HLN := Lib.hid hlen
      have HN4 := Lib.hid (show hn ≤ 4 ∧ rn ≤ 16 by omega)
      have HSL := Lib.hid hsl
      have HNL := Lib.hid hnl
      have HV3 := Lib.hid hVs
      have HVW := Lib.hid hVW
      have HBx := Lib.hid (HVB.out.trans (HBW.out.mono HVB.out.size))
      clear hH hR hsm henc hlen htk hhs hns hln hl2 HH HR HK HA hbox HBX hV hj hlt hVb hVs hO hsl hnl hVW h1 h2 hn4
      rcases Nat.mod_two_eq_zero_or_one hn with hpar | hpar
      · have hb : ((hn : Int) % 2 == 1) = false := by simp; omega
        go_wp2_with fail
        have hpad : hs = padL hs := by unfold padL; rw [if_neg (by rw [HSL.out]; omega)]
        have hrow := HHs.out
        rw [hpad] at hrow
        have hm : (padL hs).length = hn := by rw [padL_len, HSL.out]; omega
        obtain ⟨W0, rfl⟩ : ∃ W0, W0 = wr := ⟨_, rfl⟩
        have HP0 := Lib.hid hrow
        have HR0 := Lib.hid HRs.out
        have HO0 := Lib.hid HO.out
        have HB0 := Lib.hid HBx.out
        have HVS := Lib.hid (show V.heap.size ≤ W0.heap.size from HVW.out)
        have HM := Lib.hid hm
        have HM4 := Lib.hid (show hn ≤ 4 ∧ 2 * ((hn + 1) / 2) = hn by have := HN4.out.1; omega)
        clear hrow hm hb hpad hpar
        go_loopw [5, 9] (fun ov i w2 => ∃ t k gb cap : Nat, k ≤ hn ∧ i = .int .i64 (k : Int) ∧ Hid (k = 2 * t) ∧ ov = .slice (some ⟨gb, 0, none⟩) (1 + t) cap ∧ Hid (w2.ownsRow w.heap.size 5 1 ov (1 + t) (bv (UInt8.ofNat (cd % 256).toNat :: pack ((padL hs).take (2 * t))))) ∧ Hid (gb < V.heap.size ∨ W0.heap.size ≤ gb) ∧ Hid (w2.ownsRow V.heap.size 3 1 (.slice A6 hn c6) hn (iv (padL hs)) ∧ w2.ownsRow V.heap.size 5 1 (.slice A7 rn c7) rn (bv ns)) ∧ Hid (Below w.heap.size w w2) ∧ Hid (W0.heap.size ≤ w2.heap.size)) (fun _ i _ => hn - (intOf i).toNat)
        case atStart => exact ⟨0, 0, _, _, Nat.zero_le _, rfl, Lib.hid rfl, rfl, Lib.hid (by rw [show pack ((padL hs).take (2 * 0)) = [] from rfl]; exact HO0.out), Lib.hid (.inl (by rw [HV3.out]; exact Nat.lt_succ_self _)), Lib.hid ⟨HP0.out, HR0.out⟩, HB0, Lib.hid (Nat.le_refl _)⟩
        case round =>
          obtain ⟨t, k, gb, cap, htm, rfl, HKT, rfl, HOV, HGB, HPR, HBW2, HSZ⟩ := hrel
          by_cases hlt0 : k < hn
          · have hlt : 2 * t < hn := by rw [← HKT.out]; exact hlt0
            have hmt : 2 * t + 1 < hn := by have := HM4.out.2; omega
            obtain ⟨g6, c9, e6, -⟩ := row_some HPR.out.1 (Nat.lt_of_le_of_lt (Nat.zero_le _) hlt)
            injection e6 with e6a e6b e6c
            subst e6a
            subst e6c
            have hx1 : 2 * t < (padL hs).length := by rw [HM.out]; exact hlt
            have hy1 : 2 * t + 1 < (padL hs).length := by rw [HM.out]; exact hmt
            have hxm := small_at HSM.out hx1
            have hym := small_at HSM.out hy1
            have gx := iv_cell HPR.out.1 (2 * t) hx1
            have gy := iv_cell HPR.out.1 (2 * t + 1) hy1
            obtain ⟨x, hx⟩ : ∃ x, x = (padL hs)[2 * t]?.getD 0 := ⟨_, rfl⟩
            obtain ⟨y, hy⟩ : ∃ y, y = (padL hs)[2 * t + 1]?.getD 0 := ⟨_, rfl⟩
            have HNX := Lib.hid (pack_next HSM.out hy1 hx hy)
            rw [← hx] at gx hxm
            rw [← hy] at gy hym
            obtain ⟨q1, q2, q3, q4, q5, q6, q7⟩ := pair_nums hmt HM4.out.1 hxm hym
            have HT := Lib.hid (pair_round hlt0 HKT.out hmt HM4.out.1)
            have hk := HKT.out
            rw [← hk] at gx gy q1 q2 q3 q4 q7
            have hz6 := block_lt_of_cell gx
            have ab : Hid ((Value.slice (some ⟨gb, 0, none⟩) (1 + t) cap).ownBlock ≠ some g6) := Lib.hid (fun h => by
              have h1 := (HP0.out.lt g6 rfl)
              have h3 : gb = g6 := by simpa [Value.ownBlock] using h
              rcases HGB.out with h2 | h2 <;> omega)
            have hown := HOV.out
            clear hx hy hxm hym hmt hlt htm hk hx1 hy1 hlt0
            go_wp2_with fail
            go_region_held_law (fun w' => w'.cell? ⟨g6, k, none⟩ = some (.int .i64 x) ∧ w'.cell? ⟨g6, k + 1, none⟩ = some (.int .i64 y))
              (first
                | go_keep
                | (exact ⟨gx, gy⟩)
                | (refine ⟨(hgrow.cell_far _ (by simp; omega) (Ne.symm ab.out)).trans ?_, (hgrow.cell_far _ (by simp; omega) (Ne.symm ab.out)).trans ?_⟩ <;> first | exact And.left (by assumption) | exact And.right (by assumption)))
              ((refine step_append_lies _ (by rfl) _ _ _ (by rfl) w.heap.size 5 i1 _ 1 1 Tryz.underlying23 hi1 hy0 hy1 hy2 rfl (by decide) (.slice (some ⟨gb, 0, none⟩) (1 + t) cap) (1 + t) _ (by rfl) ((hown.alloc _).drew)
                  ⟨wr.heap.size, 0, none⟩ 1 1 [.int .u8 ((x + 16 * y) % 256)] (by rfl) (by rfl) (World.news_of_block (cs := #[.int .u8 ((x + 16 * y) % 256)]) (t := 5) (fr := (0, 0)) (heap_alloc_new wr _)) (by simp [Value.oneCell'])
                  (by decide) (by have := HT.out.2.2.2; unfold maxLen; omega) (by have := HT.out.2.2.2; omega) (by have := HBW2.out.size; simp; omega) (wr.heap.size + 1) (by simp) ?_; intro gg cap2 w1 hown1 hgrow hat hlt1))
            have hg' : (wr.alloc (.cells #[.int .u8 ((x + 16 * y) % 256)] 5)).grownBy w1 (Value.slice (some ⟨gb, 0, none⟩) (1 + t) cap).ownBlock := ⟨hgrow.os, hgrow.tape, hgrow.output, hgrow.size, hgrow.block⟩
            have hge : ∀ r, (Value.slice (some ⟨gb, 0, none⟩) (1 + t) cap).ownBlock = some r → w.heap.size ≤ r := fun r h => (HOV.out.lt r h).1
            have a5 := below_grown_lit hg' HBW2.out.size hge
            have hgg : gg < V.heap.size ∨ W0.heap.size ≤ gg := by
              rcases hat with h | h
              · have : gb = gg := by simpa [Value.ownBlock] using h
                exact this ▸ HGB.out
              · refine .inr ?_
                rw [h]
                exact Nat.le_trans HSZ.out (by simp)
            have hp1 := (HPR.out.1.alloc (.cells #[.int .u8 ((x + 16 * y) % 256)] 5)).kept hg' (.inr (Ne.symm ab.out))
            have hp2 := (HPR.out.2.alloc (.cells #[.int .u8 ((x + 16 * y) % 256)] 5)).kept hg' (apart_gap (HR0.out) HGB.out HVS.out)
            have HROW := Lib.hid hown1
            have HSZ3 := Lib.hid (Nat.le_trans HSZ.out a5.size)
            have HP5 := Lib.hid (And.intro hp1 hp2)
            have HB5 := Lib.hid (HBW2.out.trans a5)
            have HGG := Lib.hid hgg
            clear hgrow hg' hat hown1 hown hge a5 hgg hp1 hp2 gx gy q1 q2 q3 q4 q5 q6 q7
            go_wp2_with fail
            rw [HT.out.1]
            refine ⟨⟨t + 1, k + 2, gg, cap2, HT.out.2.2.1, rfl, Lib.hid (by rw [HKT.out]; rfl), rfl, Lib.hid ?_, HGG, HP5, HB5, HSZ3⟩, HT.out.2.1⟩
            have h7 := HROW.out
            rw [show bv (UInt8.ofNat (cd % 256).toNat :: pack ((padL hs).take (2 * t))) ++ [.int .u8 ((x + 16 * y) % 256)] = bv (UInt8.ofNat (cd % 256).toNat :: pack ((padL hs).take (2 * (t + 1)))) from congrArg (List.cons _) HNX.out] at h7
            exact h7
          · have hneg : ¬ (k : Int) < ((hn : Nat) : Int) := by omega
            have HT5 := Lib.hid (show 1 + t + ns.length ≤ 2000 by rw [HNL.out]; have := HN4.out.2; have := HM4.out.1; have := HKT.out; omega)
            have HEQ := Lib.hid (show (padL hs).take (2 * t) = padL hs from List.take_of_length_le (by rw [HM.out, ← HKT.out]; omega))
            clear htm hlt0
            go_wp2_with (at_builtin; refine wp_append_bytes rfl (.tmp 125) (.tmp 126) rfl w.heap.size (.slice (some ⟨gb, 0, none⟩) (1 + t) cap) (1 + t) _ rfl HOV.out wr.heap.size _ ns rfl (bytes_of_row' HPR.out.2 HN4.out.2) HT5.out HBW2.out.size ?_; intro v' w3 hrow hg)
            have hb3 := HBW2.out.grown hg HBW2.out.size (fun r h => (HOV.out.lt r h).1)
            rw [HEQ.out, padL_pack, List.cons_append, ← HEN.out] at hrow
            refine bodyPost_ret (v := v') (by simp [results, Tryz.results28, go_sem]) rfl ⟨v', rfl, ?_, hb3⟩
            rw [show sizeOf ks = 1 + t + ns.length from ?_]
            · exact hrow
            · have h5 := hrow.1
              rw [bv_length, HEN.out, HLN.out] at h5
              omega
      · have hb : ((hn : Int) % 2 == 1) = true := by simp; omega
        have HP := Lib.hid hpar
        clear hpar
        go_wp2_with (at_builtin; refine wpList_append_own_at _ rfl (.tmp 101) (.tmp 102) 32 rfl V.heap.size 3 i0 _ 1 8 Tryz.underlying32 hi0 hz0 hz1 hz2' (by rfl) (by decide) (.slice A6 hn c6) hn _ rfl (HHs.out.alloc _) ⟨wr.heap.size, 0, none⟩ 1 1 [.int .i64 0] rfl rfl (lit_cell _ _ _) (by simp [Value.oneCell']) (by have := HN4.out.1; unfold maxLen; omega) (by have := HN4.out.1; omega) (Nat.le_trans HVW.out (by simp)) ?_; intro v' W0 hrow hg hnil hat; obtain ⟨a1, a2⟩ := apart_step HRs.out hg HS.out hat; have a3 := grown_below HBW.out HVW.out HHs.out hg; have a4 := lit_kept (b := V.heap.size) HO.out hg (by rw [HV3.out]; omega) HVW.out (fun r h => (HHs.out.lt r h).1))
        have hpad : iv hs ++ [.int .i64 0] = iv (padL hs) := by unfold padL; rw [if_pos (by rw [HSL.out]; exact HP.out), iv_snoc]
        rw [hpad] at hrow
        obtain ⟨A8, c8, rfl⟩ := row_is hrow
        have hm : (padL hs).length = hn + 1 := by rw [padL_len, HSL.out]; have := HP.out; omega
        have hbW := HBx.out.trans ((show Below w.heap.size wr W0 from below_grown_lit hg (by rw [← HV3.out] at *; exact Nat.le_trans HVB.out.size HVW.out) (fun r h => Nat.le_trans HVB.out.size (HHs.out.lt r h).1)))
        have hsz : V.heap.size ≤ W0.heap.size := a3.size
        clear hat hnil hg hpad
        have HP0 := Lib.hid hrow
        have HR0 := Lib.hid a1
        have HO0 := Lib.hid a4
        have HB0 := Lib.hid hbW
        have HVS := Lib.hid (show V.heap.size ≤ W0.heap.size from hsz)
        have HM := Lib.hid hm
        have HM4 := Lib.hid (show (hn + 1) ≤ 4 ∧ 2 * ((hn + 1) / 2) = (hn + 1) by have := HN4.out.1; have := HP.out; omega)
        clear hrow hm hb a1 a2 a3 a4 hbW hsz
        go_loopw [5, 9] (fun ov i w2 => ∃ t k gb cap : Nat, k ≤ (hn + 1) ∧ i = .int .i64 (k : Int) ∧ Hid (k = 2 * t) ∧ ov = .slice (some ⟨gb, 0, none⟩) (1 + t) cap ∧ Hid (w2.ownsRow w.heap.size 5 1 ov (1 + t) (bv (UInt8.ofNat (cd % 256).toNat :: pack ((padL hs).take (2 * t))))) ∧ Hid (gb < V.heap.size ∨ W0.heap.size ≤ gb) ∧ Hid (w2.ownsRow V.heap.size 3 1 (.slice A8 (hn + 1) c8) (hn + 1) (iv (padL hs)) ∧ w2.ownsRow V.heap.size 5 1 (.slice A7 rn c7) rn (bv ns)) ∧ Hid (Below w.heap.size w w2) ∧ Hid (W0.heap.size ≤ w2.heap.size)) (fun _ i _ => (hn + 1) - (intOf i).toNat)
        case atStart => exact ⟨0, 0, _, _, Nat.zero_le _, rfl, Lib.hid rfl, rfl, Lib.hid (by rw [show pack ((padL hs).take (2 * 0)) = [] from rfl]; exact HO0.out), Lib.hid (.inl (by rw [HV3.out]; exact Nat.lt_succ_self _)), Lib.hid ⟨HP0.out, HR0.out⟩, HB0, Lib.hid (Nat.le_refl _)⟩
        case round =>
          obtain ⟨t, k, gb, cap, htm, rfl, HKT, rfl, HOV, HGB, HPR, HBW2, HSZ⟩ := hrel
          by_cases hlt0 : k < (hn + 1)
          · have hlt : 2 * t < (hn + 1) := by rw [← HKT.out]; exact hlt0
            have hmt : 2 * t + 1 < (hn + 1) := by have := HM4.out.2; omega
            obtain ⟨g6, c9, e6, -⟩ := row_some HPR.out.1 (Nat.lt_of_le_of_lt (Nat.zero_le _) hlt)
            injection e6 with e6a e6b e6c
            subst e6a
            subst e6c
            have hx1 : 2 * t < (padL hs).length := by rw [HM.out]; exact hlt
            have hy1 : 2 * t + 1 < (padL hs).length := by rw [HM.out]; exact hmt
            have hxm := small_at HSM.out hx1
            have hym := small_at HSM.out hy1
            have gx := iv_cell HPR.out.1 (2 * t) hx1
            have gy := iv_cell HPR.out.1 (2 * t + 1) hy1
            obtain ⟨x, hx⟩ : ∃ x, x = (padL hs)[2 * t]?.getD 0 := ⟨_, rfl⟩
            obtain ⟨y, hy⟩ : ∃ y, y = (padL hs)[2 * t + 1]?.getD 0 := ⟨_, rfl⟩
            have HNX := Lib.hid (pack_next HSM.out hy1 hx hy)
            rw [← hx] at gx hxm
            rw [← hy] at gy hym
            obtain ⟨q1, q2, q3, q4, q5, q6, q7⟩ := pair_nums hmt HM4.out.1 hxm hym
            have HT := Lib.hid (pair_round hlt0 HKT.out hmt HM4.out.1)
            have hk := HKT.out
            rw [← hk] at gx gy q1 q2 q3 q4 q7
            have hz6 := block_lt_of_cell gx
            have ab : Hid ((Value.slice (some ⟨gb, 0, none⟩) (1 + t) cap).ownBlock ≠ some g6) := Lib.hid (fun h => by
              have h1 := (HP0.out.lt g6 rfl)
              have h3 : gb = g6 := by simpa [Value.ownBlock] using h
              rcases HGB.out with h2 | h2 <;> omega)
            have hown := HOV.out
            clear hx hy hxm hym hmt hlt htm hk hx1 hy1 hlt0
            go_wp2_with fail
            go_region_held_law (fun w' => w'.cell? ⟨g6, k, none⟩ = some (.int .i64 x) ∧ w'.cell? ⟨g6, k + 1, none⟩ = some (.int .i64 y))
              (first
                | go_keep
                | (exact ⟨gx, gy⟩)
                | (refine ⟨(hgrow.cell_far _ (by simp; omega) (Ne.symm ab.out)).trans ?_, (hgrow.cell_far _ (by simp; omega) (Ne.symm ab.out)).trans ?_⟩ <;> first | exact And.left (by assumption) | exact And.right (by assumption)))
              ((refine step_append_lies _ (by rfl) _ _ _ (by rfl) w.heap.size 5 i1 _ 1 1 Tryz.underlying23 hi1 hy0 hy1 hy2 rfl (by decide) (.slice (some ⟨gb, 0, none⟩) (1 + t) cap) (1 + t) _ (by rfl) ((hown.alloc _).drew)
                  ⟨wr.heap.size, 0, none⟩ 1 1 [.int .u8 ((x + 16 * y) % 256)] (by rfl) (by rfl) (World.news_of_block (cs := #[.int .u8 ((x + 16 * y) % 256)]) (t := 5) (fr := (0, 0)) (heap_alloc_new wr _)) (by simp [Value.oneCell'])
                  (by decide) (by have := HT.out.2.2.2; unfold maxLen; omega) (by have := HT.out.2.2.2; omega) (by have := HBW2.out.size; simp; omega) (wr.heap.size + 1) (by simp) ?_; intro gg cap2 w1 hown1 hgrow hat hlt1))
            have hg' : (wr.alloc (.cells #[.int .u8 ((x + 16 * y) % 256)] 5)).grownBy w1 (Value.slice (some ⟨gb, 0, none⟩) (1 + t) cap).ownBlock := ⟨hgrow.os, hgrow.tape, hgrow.output, hgrow.size, hgrow.block⟩
            have hge : ∀ r, (Value.slice (some ⟨gb, 0, none⟩) (1 + t) cap).ownBlock = some r → w.heap.size ≤ r := fun r h => (HOV.out.lt r h).1
            have a5 := below_grown_lit hg' HBW2.out.size hge
            have hgg : gg < V.heap.size ∨ W0.heap.size ≤ gg := by
              rcases hat with h | h
              · have : gb = gg := by simpa [Value.ownBlock] using h
                exact this ▸ HGB.out
              · refine .inr ?_
                rw [h]
                exact Nat.le_trans HSZ.out (by simp)
            have hp1 := (HPR.out.1.alloc (.cells #[.int .u8 ((x + 16 * y) % 256)] 5)).kept hg' (.inr (Ne.symm ab.out))
            have hp2 := (HPR.out.2.alloc (.cells #[.int .u8 ((x + 16 * y) % 256)] 5)).kept hg' (apart_gap (HR0.out) HGB.out HVS.out)
            have HROW := Lib.hid hown1
            have HSZ3 := Lib.hid (Nat.le_trans HSZ.out a5.size)
            have HP5 := Lib.hid (And.intro hp1 hp2)
            have HB5 := Lib.hid (HBW2.out.trans a5)
            have HGG := Lib.hid hgg
            clear hgrow hg' hat hown1 hown hge a5 hgg hp1 hp2 gx gy q1 q2 q3 q4 q5 q6 q7
            go_wp2_with fail
            rw [HT.out.1]
            refine ⟨⟨t + 1, k + 2, gg, cap2, HT.out.2.2.1, rfl, Lib.hid (by rw [HKT.out]; rfl), rfl, Lib.hid ?_, HGG, HP5, HB5, HSZ3⟩, HT.out.2.1⟩
            have h7 := HROW.out
            rw [show bv (UInt8.ofNat (cd % 256).toNat :: pack ((padL hs).take (2 * t))) ++ [.int .u8 ((x + 16 * y) % 256)] = bv (UInt8.ofNat (cd % 256).toNat :: pack ((padL hs).take (2 * (t + 1)))) from congrArg (List.cons _) HNX.out] at h7
            exact h7
          · have hneg : ¬ (k : Int) < (((hn + 1) : Nat) : Int) := by omega
            have HT5 := Lib.hid (show 1 + t + ns.length ≤ 2000 by rw [HNL.out]; have := HN4.out.2; have := HM4.out.1; have := HKT.out; omega)
            have HEQ := Lib.hid (show (padL hs).take (2 * t) = padL hs from List.take_of_length_le (by rw [HM.out, ← HKT.out]; omega))
            clear htm hlt0
            go_wp2_with (at_builtin; refine wp_append_bytes rfl (.tmp 125) (.tmp 126) rfl w.heap.size (.slice (some ⟨gb, 0, none⟩) (1 + t) cap) (1 + t) _ rfl HOV.out wr.heap.size _ ns rfl (bytes_of_row' HPR.out.2 HN4.out.2) HT5.out HBW2.out.size ?_; intro v' w3 hrow hg)
            have hb3 := HBW2.out.grown hg HBW2.out.size (fun r h => (HOV.out.lt r h).1)
            rw [HEQ.out, padL_pack, List.cons_append, ← HEN.out] at hrow
            refine bodyPost_ret (v := v') (by simp [results, Tryz.results28, go_sem]) rfl ⟨v', rfl, ?_, hb3⟩
            rw [show sizeOf ks = 1 + t + ns.length from ?_]
            · exact hrow
            · have h5 := hrow.1
              rw [bv_length, HEN.out, HLN.out] at h5
              omega
end Go.Proofs.YtcngpciblbdgbaaGreatDoor
