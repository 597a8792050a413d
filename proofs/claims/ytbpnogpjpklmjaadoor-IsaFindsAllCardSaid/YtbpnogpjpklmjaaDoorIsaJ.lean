/- The iterator strings.FieldsSeq over a string of ASCII bytes gives its fields, one behind the other. Conditions: every byte of the string lies below 128; the library's table of white space reads as its text lays it. -/
import Derived.Lib.Space
import Derived.Test.YtbpnogpjpklmjaaDoorIsaE
namespace Go.Proofs.YtbpnogpjpklmjaaDoor
open Go Go.RowKit Go.Shelf Go.Lib
attribute [local go_sem] Oper.semAt_some

/-- the table of white space lies in memory as its text lays it -/
def SpaceAt (w : World) : Prop := ∀ c, c < 256 → w.cell? ⟨0, c, none⟩ = some (.int .u8 (if isSp (UInt8.ofNat c) then 1 else 0))

/-- one byte more: where a field has begun (-1: none has), and the fields that have ended -/
def fstep (s : ByteArray) (st : Int × List ByteArray) (i : Nat) : Int × List ByteArray :=
  if isSp (s.get! i) then (if 0 ≤ st.1 then (-1, st.2 ++ [s.extract st.1.toNat i]) else st) else (if st.1 < 0 then ((i : Int), st.2) else st)
def fscan (s : ByteArray) : Nat → Int × List ByteArray
  | 0 => (-1, [])
  | i + 1 => fstep s (fscan s i) i
/-- the fields of s -/
def fieldsOf (s : ByteArray) : List ByteArray := (fscan s s.size).2 ++ (if 0 ≤ (fscan s s.size).1 then [s.extract (fscan s s.size).1.toNat s.size] else [])

theorem fscan_start (s : ByteArray) : ∀ i, (fscan s i).1 = -1 ∨ (0 ≤ (fscan s i).1 ∧ (fscan s i).1 < i)
  | 0 => .inl rfl
  | i + 1 => by
    rcases fscan_start s i with h | ⟨h1, h2⟩
    · simp only [fscan, fstep]
      rw [h]
      split
      · left; simp [h]
      · right; simp; omega
    · simp only [fscan, fstep]
      split
      · left; simp
      · rw [if_neg (by omega)]; right; omega
theorem fscan_prefix (s : ByteArray) : ∀ d i, (fscan s i).2 <+: (fscan s (i + d)).2
  | 0, i => List.prefix_refl _
  | d + 1, i => by
    refine (fscan_prefix s d i).trans ?_
    show _ <+: (fstep s (fscan s (i + d)) (i + d)).2
    unfold fstep
    split
    · split
      · exact List.prefix_append _ _
      · exact List.prefix_refl _
    · split <;> exact List.prefix_refl _
theorem fscan_fields (s : ByteArray) {i : Nat} (h : i ≤ s.size) : (fscan s i).2 <+: fieldsOf s := by
  have := fscan_prefix s (s.size - i) i
  rw [show i + (s.size - i) = s.size by omega] at this
  exact this.trans (List.prefix_append _ _)

/-- the two blocks b and g lie as they lay -/
def Blk2 (b g : Nat) (w w' : World) : Prop := w'.heap[b]? = w.heap[b]? ∧ w'.heap[g]? = w.heap[g]?
theorem Blk2.refl (b g : Nat) (w : World) : Blk2 b g w w := ⟨rfl, rfl⟩
theorem Blk2.trans {b g : Nat} {u v w : World} (h : Blk2 b g u v) (k : Blk2 b g v w) : Blk2 b g u w := ⟨k.1.trans h.1, k.2.trans h.2⟩
theorem Blk2.below {B b g : Nat} {u v : World} (h : Below B u v) (hb : b < B) (hg : g < B) : Blk2 b g u v := ⟨h.block b hb, h.block g hg⟩
theorem blk2_b {b g : Nat} {w : World} (hb : b < w.heap.size) (hg : g < w.heap.size) (W : World) (l : Nat) (o o' : Obj) (hl : w.heap.size ≤ l) (_ : W.heap[l]? = some o) (_ : o.isCells = false) (_ : o.isWalk = false) : Blk2 b g W (W.putObj l o') :=
  ⟨World.putObj_heap_other (by omega), World.putObj_heap_other (by omega)⟩

abbrev encS (x : ByteArray) : Array Value := #[.string x]

set_option maxRecDepth 100000 in
set_option maxHeartbeats 2000000 in
theorem fields1_in (n : Nat) (hn : 2 ≤ n) (l b : Nat) (s : ByteArray) (hs : s.size ≤ 9223372036854775807) (hasc : Hid (∀ i, i < s.size → (s.get! i).toNat < 128)) (J Jx : List ByteArray → World → Prop)
    (W : World) (hY : ∀ pre x W1, J pre W1 → pre.length < (fieldsOf s).length → YieldAt Fence.wide (n - 1) Tryd.prog l (encS x) W1 fun e W' =>
      (e = .returned (.bool true) ∧ J (pre ++ [x]) W' ∧ Blk2 b 0 W1 W') ∨ (e = .returned (.bool false) ∧ Jx (pre ++ [x]) W'))
    (h0 : J [] W) (hc : W.cell? ⟨b, 0, none⟩ = some (.string s)) (hsp : Hid (SpaceAt W)) :
    CallsIn Fence.wide n Tryd.prog 39 #[.func (.yield l) #[] #[], .pointer (some ⟨b, 0, none⟩)] W fun e W' => (∃ v, e = .returned v) ∧
      ((∃ ys, ys = fieldsOf s ∧ J ys W') ∨ (∃ pre, pre <+: fieldsOf s ∧ Jx pre W')) := by
  refine callsIn_of_wp Tryd.func39 rfl trivial ?_ rfl
  simp only [Tryd.ntmps39, List.size_toArray, List.length_cons, List.length_nil, Nat.reduceAdd, Nat.reduceSub, Array.replicate_succ, Array.replicate_zero, List.push_toArray, List.append_toArray, List.nil_append, List.cons_append]
  have hw : ∀ f, Fence.wide.fn f := fun _ => trivial
  have h1n : 1 ≤ n := by omega
  have Hc := Lib.hid hc
  clear hc
  gi_wp2
  gi_loopw [3, 4] (fun st i wr => ∃ (k : Nat) (z : Int), k ≤ s.size ∧ i = .int .i64 (k : Int) ∧ st = .int .i64 z ∧ Hid ((fscan s k).1 = z) ∧ (z = -1 ∨ (0 ≤ z ∧ z < k)) ∧ Hid (J (fscan s k).2 wr) ∧ Blk2 b 0 W wr) (fun _ i _ => s.size - (intOf i).toNat)
  case atStart => exact ⟨0, -1, Nat.zero_le _, rfl, rfl, Lib.hid rfl, .inl rfl, Lib.hid h0, Blk2.refl _ _ _⟩
  case round =>
    obtain ⟨k, z, hk, rfl, rfl, Hz, hzz, HJ, hbw⟩ := hrel
    have c0 : wr.cell? ⟨b, 0, none⟩ = some (.string s) := (World.cell?_of_block (a := ⟨b, 0, none⟩) hbw.1).trans Hc.out
    by_cases hlt : k < s.size
    · have ha : (s.get! k).toNat < 128 := hasc.out k hlt
      have hge := get!_get s k hlt
      rw [hge] at ha
      have hcell : wr.cell? ⟨0, s[k].toNat, none⟩ = some (.int .u8 (if isSp s[k] then 1 else 0)) := by
        refine (World.cell?_of_block (a := ⟨0, s[k].toNat, none⟩) hbw.2).trans ?_
        have := hsp.out s[k].toNat (by omega)
        simpa using this
      have Hge := Lib.hid hge
      clear hge
      have hlow : ¬ (128 : Int) ≤ (s[k].toNat : Int) := by omega
      cases hsb : isSp s[k] with
      | true =>
        rw [hsb, if_pos rfl] at hcell
        have Hsb := Lib.hid hsb
        clear hsb
        rcases hzz with rfl | ⟨hz0, hzk⟩
        · have hst : fscan s (k + 1) = fscan s k := by
            show fstep s (fscan s k) k = _
            unfold fstep
            rw [Hge.out, Hsb.out, if_pos rfl, if_neg (by rw [Hz.out]; omega)]
          have Hst := Lib.hid hst
          clear hst
          gi_wp2
          go_roundw
          case rel => exact ⟨k + 1, -1, by omega, by go_num, rfl, by rw [Hst.out]; exact Hz, .inl rfl, by rw [Hst.out]; exact HJ, hbw⟩
          case measure => simp [intOf]; omega
        · obtain ⟨zn, rfl⟩ := Int.eq_ofNat_of_zero_le hz0
          have hst : fscan s (k + 1) = (-1, (fscan s k).2 ++ [s.extract zn k]) := by
            show fstep s (fscan s k) k = _
            unfold fstep
            rw [Hge.out, Hsb.out, if_pos rfl, if_pos (by rw [Hz.out]; omega), Hz.out]; rfl
          have Hst := Lib.hid hst
          have hlen : (fscan s k).2.length < (fieldsOf s).length := by
            have := (fscan_fields s (show k + 1 ≤ s.size by omega)).length_le
            rw [hst] at this
            simp at this; omega
          obtain ⟨f1, t1, a1, b1, hy1, hR1⟩ := hY _ (s.extract zn k) wr HJ.out hlen
          dsimp only [encS] at hy1
          have Hr1 := Lib.hid hR1
          clear hst hR1 hlen
          gi_wp2
          clear hy1
          refine Hr1.out.mono ?_
          clear Hr1
          rintro e W2 (⟨rfl, hJ2, hk2⟩ | ⟨rfl, hx2⟩)
          · gi_wp2
            go_roundw
            case rel => exact ⟨k + 1, -1, by omega, by go_num, rfl, by rw [Hst.out]; exact Lib.hid rfl, .inl rfl, by rw [Hst.out]; exact Lib.hid hJ2, hbw.trans hk2⟩
            case measure => simp [intOf]; omega
          · gi_wp2
            refine bodyPost_ret (results_none rfl _ _ _) rfl ?_
            refine ⟨⟨_, rfl⟩, .inr ⟨_, ?_, hx2⟩⟩
            have := fscan_fields s (show k + 1 ≤ s.size by omega)
            rw [Hst.out] at this
            exact this
      | false =>
        rw [hsb, if_neg (by simp)] at hcell
        have Hsb := Lib.hid hsb
        clear hsb
        rcases hzz with rfl | ⟨hz0, hzk⟩
        · have hst : fscan s (k + 1) = ((k : Int), (fscan s k).2) := by
            show fstep s (fscan s k) k = _
            unfold fstep
            rw [Hge.out, Hsb.out, if_neg (by simp), if_pos (by rw [Hz.out]; omega)]
          have Hst := Lib.hid hst
          clear hst
          gi_wp2
          go_roundw
          case rel => exact ⟨k + 1, k, by omega, by go_num, rfl, by rw [Hst.out]; exact Lib.hid rfl, .inr ⟨by omega, by omega⟩, by rw [Hst.out]; exact HJ, hbw⟩
          case measure => simp [intOf]; omega
        · have hst : fscan s (k + 1) = fscan s k := by
            show fstep s (fscan s k) k = _
            unfold fstep
            rw [Hge.out, Hsb.out, if_neg (by simp), if_neg (by rw [Hz.out]; omega)]
          have Hst := Lib.hid hst
          clear hst
          gi_wp2
          go_roundw
          case rel => exact ⟨k + 1, z, by omega, by go_num, rfl, by rw [Hst.out]; exact Hz, .inr ⟨hz0, by omega⟩, by rw [Hst.out]; exact HJ, hbw⟩
          case measure => simp [intOf]; omega
    · obtain rfl : k = s.size := by omega
      rcases hzz with rfl | ⟨hz0, hzk⟩
      · have hfd : fieldsOf s = (fscan s s.size).2 := by
          unfold fieldsOf; rw [if_neg (by rw [Hz.out]; omega), List.append_nil]
        have Hfd := Lib.hid hfd
        clear hfd
        gi_wp2
        go_end0
        exact ⟨⟨_, rfl⟩, .inl ⟨_, Hfd.out.symm, HJ.out⟩⟩
      · obtain ⟨zn, rfl⟩ := Int.eq_ofNat_of_zero_le hz0
        have hfd : fieldsOf s = (fscan s s.size).2 ++ [s.extract zn s.size] := by
          unfold fieldsOf; rw [if_pos (by rw [Hz.out]; omega), Hz.out]; rfl
        have Hfd := Lib.hid hfd
        obtain ⟨f1, t1, a1, b1, hy1, hR1⟩ := hY _ (s.extract zn s.size) wr HJ.out (by rw [hfd]; simp)
        dsimp only [encS] at hy1
        have Hr1 := Lib.hid hR1
        clear hfd hR1
        gi_wp2
        clear hy1
        refine Hr1.out.mono ?_
        clear Hr1
        rintro e W2 (⟨rfl, hJ2, hk2⟩ | ⟨rfl, hx2⟩)
        · gi_wp2
          go_end0
          exact ⟨⟨_, rfl⟩, .inl ⟨_, Hfd.out.symm, hJ2⟩⟩
        · gi_wp2
          go_end0
          exact ⟨⟨_, rfl⟩, .inr ⟨_, by rw [Hfd.out]; exact List.prefix_refl _, hx2⟩⟩

theorem SpaceAt.below {B : Nat} {w w' : World} (h : SpaceAt w) (hb : Below B w w') (hg : 0 < B) : SpaceAt w' := fun c hc => (hb.cell (p := ⟨0, c, none⟩) hg).trans (h c hc)
theorem fields_stops (n : Nat) (hn : 2 ≤ n) (b : Nat) (s : ByteArray) (hg : 0 < b) (hs : s.size ≤ 9223372036854775807) (hasc : ∀ i, i < s.size → (s.get! i).toNat < 128) (w : World)
    (hc : w.cell? ⟨b, 0, none⟩ = some (.string s)) (hsp : SpaceAt w) :
    SeqStopsK Fence.wide n Tryd.prog 39 #[.pointer (some ⟨b, 0, none⟩)] encS (Blk2 b 0) (fun xs => xs = fieldsOf s) (fun pre => pre <+: fieldsOf s) (fieldsOf s).length w := fun l J Jx W hW _ _ hY h0 =>
  have hb := block_lt_of_cell hc
  fields1_in n hn l b s hs (Lib.hid hasc) J Jx W hY h0 ((hW.cell (p := ⟨b, 0, none⟩) hb).trans hc) (Lib.hid (hsp.below hW (Nat.lt_trans hg hb)))
set_option maxHeartbeats 400000 in
theorem fieldsSeq_any (s : ByteArray) (w : World) : Calls Tryd.prog 29 #[.string s] w fun e w' => e = .returned (.func (.func 39) #[] #[.pointer (some ⟨w.heap.size, 0, none⟩)]) ∧ w' = w.alloc (.cells #[.string s] 9) := by
  go_enter Tryd.func29, Tryd.ntmps29
  go_wp2
  go_ret
  exact ⟨rfl, rfl⟩
end Go.Proofs.YtbpnogpjpklmjaaDoor
