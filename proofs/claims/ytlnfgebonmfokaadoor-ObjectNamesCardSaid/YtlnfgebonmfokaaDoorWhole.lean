/- An object's front and body, as the document tells them: the walks. -/
import Derived.Test.YtlnfgebonmfokaaDoorPath
import Derived.Test.YtlnfgebonmfokaaDoorMid
namespace Go.Proofs.YtlnfgebonmfokaaDoor
open Go.RowKit Plain
set_option linter.unusedVariables false
theorem src_bytes {w : World} {a : Option Addr} {m c : Nat} {ys : List Int} (h : Bytes w a m ys) : Src Tryd.prog 1 22 (.slice a m c) m (U8 ys) w := by
  obtain ⟨h1, h2, h3, rfl | ⟨b, off, rfl, hc⟩⟩ := h
  · obtain rfl : ys = [] := List.eq_nil_of_length_eq_zero h1
    cases a with
    | none => exact Src.ofNil w Tryd.underlying22 c
    | some x => exact Src.ofSlice w Tryd.underlying22 x 0 c [] rfl (fun j u hu => by simp at hu) (fun u hu => by cases hu)
  · refine Src.ofSlice w Tryd.underlying22 ⟨b, off, none⟩ m c (U8 ys) (by rw [U8_length]; omega) (fun j u hu => ?_) (U8_one ys)
    rw [Addr.add_mid]
    have hj : j < ys.length := by
      rcases Nat.lt_or_ge j ys.length with h | h
      · exact h
      · rw [List.getElem?_eq_none (by rw [U8_length]; exact h)] at hu; cases hu
    rw [hc j (by omega)]
    unfold U8 at hu
    rw [List.getElem?_map, List.getElem?_eq_getElem hj] at hu
    rw [List.getElem?_eq_getElem hj]
    exact hu
theorem src_text {w : World} (s : ByteArray) : Src Tryd.prog 1 9 (.string s) s.size (U8 (numsOf s)) w := by
  have := Src.ofString (P := Tryd.prog) w (tx := 9) Tryd.underlying9 s
  have e : byteCells s = U8 (numsOf s) := by unfold byteCells U8 numsOf; rw [List.map_map]; rfl
  rwa [e] at this
theorem wpList_append_mid {w : World} {ops : Array Oper} {rest : List Oper} {o : Oper} {ac : Act} {Q : Exit → Act → World → Prop} (hgd : o.guard = none) (s x : Operand) (tx : TypeId)
    (ho : o.op = .call { callee := .builtin .append, args := #[s, x], argTypes := #[22, tx] })
    (base : Nat) (v : Value) (n : Nat) (xs : List Int) (hs : ac.eval s = v) (hown : Mid w base v n xs) (xv : Value) (m : Nat) (ys : List Int) (hx : ac.eval x = xv) (hsrc : Src Tryd.prog 1 tx xv m (U8 ys) w)
    (hsum : n + m ≤ 70368744177664) (hbase : base ≤ w.heap.size)
    (h : ∀ v' w', Mid w' base v' (n + m) (xs ++ ys) → w.grownBy w' v.ownBlock → wpList Tryd.prog ops Q rest (ac.put o.dst v') w') : wpList Tryd.prog ops Q (o :: rest) ac w := by
  refine wpList_plain hgd fun K hK => ?_
  obtain ⟨v', w', hrun, r1, r2, -⟩ := mid_append w o.type tx base v n xs hown xv m ys hsrc hsum hbase
  unfold Oper.wp
  simp [execOp, ho, resolve, invoke, builtin, hs, hx, hrun, Result.andThen]
  exact hK _ _ (h v' w' r1 r2)
/-- A text's bytes in a new row: a slice of the call's own. -/
theorem mid_text (w : World) (s : ByteArray) (hs : s.size ≤ 1000000) : ∃ c, (convert 9 22 (.string s)).run Tryd.prog w = .ok (.slice (some ⟨w.heap.size, 0, none⟩) s.size c) (Lib.bytesWorld w 5 s) ∧
    Mid (Lib.bytesWorld w 5 s) w.heap.size (.slice (some ⟨w.heap.size, 0, none⟩) s.size c) s.size (numsOf s) := by
  have hge := grownCap_ge w s.size 0 5
  have hcm : grownCap w s.size 0 5 ≤ maxLen := grownCap_le_maxLen w s.size 0 5 (by unfold maxLen; omega)
  refine ⟨_, Lib.run_convert_string_bytes w 9 22 5 s Tryd.underlying9 Tryd.underlying22 Tryd.underlying5, numsOf_length s, .inr ⟨w.heap.size, 0, _, rfl, Nat.le_refl _, ?_, hge, by unfold maxLen at hcm; omega, ?_, ?_⟩⟩
  · rw [Lib.bytesWorld_size]; omega
  · intro j v hv
    have hj : j < s.size := by
      rcases Nat.lt_or_ge j s.size with h | h
      · exact h
      · rw [List.getElem?_eq_none (by rw [U8_length, numsOf_length]; exact h)] at hv; cases hv
    rw [Nat.zero_add, Lib.bytesWorld_cell w 5 s j hj, ← hv]
    have hj' : j < s.data.toList.length := by simpa using hj
    unfold U8 numsOf
    rw [List.getElem?_map, List.getElem?_map, List.getElem?_eq_getElem hj', List.getD_eq_getElem?_getD, List.getElem?_eq_getElem hj']
    rfl
  · intro j hj
    have hn := Lib.bytesWorld_at_new w 5 s
    have hsz : (Lib.bytesCells w 5 s).size = grownCap w s.size 0 5 := by
      unfold Lib.bytesCells
      rw [Array.size_append, Array.size_map, Array.size_replicate]
      have : s.data.size = s.size := rfl
      omega
    rw [Nat.zero_add]
    constructor
    · simp only [World.cell?, hn]
      rw [Array.getElem?_eq_getElem (by rw [hsz]; exact hj)]
      rfl
    · simp only [World.frozen?, hn, hsz]
      simp
      omega
/-- One digit's text. -/
theorem one_text (w : World) (x : Nat) (hx : x < 256) (t : TypeId) : (convert 22 9 (.slice (some ⟨w.heap.size, 0, none⟩) 1 1)).run Tryd.prog (w.alloc (.cells #[.int .u8 (x : Int)] t)) = .ok (.string ⟨#[UInt8.ofNat x]⟩) (w.alloc (.cells #[.int .u8 (x : Int)] t)) := by
  have h := text_run (w.alloc (.cells #[.int .u8 (x : Int)] t)) (some ⟨w.heap.size, 0, none⟩) 1 1 [(x : Int)] (Bytes.lit w w.heap.size rfl [(x : Int)] t (0, 0) 1 rfl (by omega) (by intro y hy; simp at hy; omega))
  rw [h]
  congr 2
theorem digit_nat (d : Nat) (h : d < 10) : (UInt8.ofNat (48 + d)).toNat = 48 + d := by
  show (48 + d) % 256 = 48 + d
  omega
theorem cat_list (c : UInt8) (S : ByteArray) : ((⟨#[c]⟩ : ByteArray) ++ S).data.toList = c :: S.data.toList := by
  simp [ByteArray.data_append]
theorem div_rule10 (n q : Nat) (h : n / 10 = q) : ∀ n' : Int, n' = (n : Int) → n' / 10 = (q : Int) := fun n' hn => by rw [hn, ← h]; simp
theorem mod_rule10 (n q : Nat) (h : n % 10 = q) : ∀ n' : Int, n' = (n : Int) → n' % 10 = (q : Int) := fun n' hn => by rw [hn, ← h]; simp
theorem add_rule48 (d x : Nat) (h : 48 + d = x) : ∀ d' : Int, d' = (d : Int) → 48 + d' = (x : Int) := fun d' hd => by rw [hd, ← h]; simp
set_option maxRecDepth 100000 in
set_option maxHeartbeats 4000000 in
theorem refDec_any (n : Nat) (hn : n ≤ 1000000) (w : World) : Calls Tryd.prog 34 #[.int .i64 (n : Int)] w fun e w' => e = .returned (.string ⟨(Lib.decDigits n).toArray⟩) ∧ Below w.heap.size w w' := by
  have hn0 : ¬ (n : Int) < 0 := by omega
  have hlen := dec_len n (by omega)
  have HLEN : Hid ((Lib.decDigits n).length ≤ 21) := hlen
  clear hlen
  obtain ⟨q, hq⟩ : ∃ q, n / 10 = q := ⟨_, rfl⟩
  obtain ⟨d, hd⟩ : ∃ d, n % 10 = d := ⟨_, rfl⟩
  obtain ⟨x, hx⟩ : ∃ x, 48 + d = x := ⟨_, rfl⟩
  have hd10 : d < 10 := by omega
  have r1 := div_rule10 n q hq
  have r2 := mod_rule10 n d hd
  have r3 := add_rule48 d x hx
  have hx8 : x < 256 := by omega
  have ho := fun W t => one_text W x hx8 t
  have HS0 : Hid (if q = 0 then Lib.decDigits n = [UInt8.ofNat x] else Lib.decDigits n = Lib.decDigits q ++ [UInt8.ofNat x]) := by
    show if q = 0 then _ else _
    rw [Lib.decDigits]
    split
    · rw [dif_pos (by omega), show 48 + n = x by omega]
    · rw [dif_neg (by omega), hq, hd, hx]
  have hqb : q ≤ 1000000 := by omega
  clear hq hd hx
  go_enter Tryd.func34, Tryd.ntmps34
  go_wp2_with fail
  go_loopw [0, 4] (fun v u wr => ∃ (m : Nat) (S : ByteArray), v = .int .i64 (m : Int) ∧ u = .string S ∧ m ≤ 1000000 ∧ (if m = 0 then Lib.decDigits n = S.data.toList else Lib.decDigits n = Lib.decDigits m ++ S.data.toList) ∧ Below w.heap.size w wr) (fun v u wr => (intOf v).toNat)
  case atStart => exact ⟨q, ⟨#[UInt8.ofNat x]⟩, rfl, rfl, by omega, HS0.out, (Below.refl _ _).alloc (Nat.le_refl _) _⟩
  case round =>
    obtain ⟨m, S, rfl, rfl, hm, hp, hb⟩ := hrel
    have HP : Hid (if m = 0 then Lib.decDigits n = S.data.toList else Lib.decDigits n = Lib.decDigits m ++ S.data.toList) := hp
    have HB : Hid (Below w.heap.size w wr) := hb
    clear hp hb ho r1 r2 r3 HS0
    by_cases h0 : m = 0
    · subst h0
      have HE : Hid ((⟨(Lib.decDigits n).toArray⟩ : ByteArray) = S) := by
        have := HP.out; rw [if_pos rfl] at this
        show _ = _
        rw [this]
      go_wp2_with fail
      go_ret
      rw [HE.out]
      exact ⟨rfl, HB.out⟩
    · have hpos : 0 < m := by omega
      have hposi : (0 : Int) < m := by omega
      have hsz : S.size ≤ 21 := by
        have h1 := HP.out; rw [if_neg h0] at h1
        have h2 := HLEN.out
        rw [h1, List.length_append] at h2
        have : S.data.toList.length = S.size := rfl
        omega
      obtain ⟨q1, hq⟩ : ∃ q, m / 10 = q := ⟨_, rfl⟩
      obtain ⟨d1, hd⟩ : ∃ d, m % 10 = d := ⟨_, rfl⟩
      obtain ⟨x1, hx⟩ : ∃ x, 48 + d1 = x := ⟨_, rfl⟩
      have hd10 : d1 < 10 := by omega
      have r1 := div_rule10 m q1 hq
      have r2 := mod_rule10 m d1 hd
      have r3 := add_rule48 d1 x1 hx
      have hx8 : x1 < 256 := by omega
      have ho := fun W t => one_text W x1 hx8 t
      have hl1 : ¬ 9223372036854775807 < 1 + S.size := by omega
      have hql : q1 < m := by omega
      have HN : Hid (if q1 = 0 then Lib.decDigits n = ((⟨#[UInt8.ofNat x1]⟩ : ByteArray) ++ S).data.toList else Lib.decDigits n = Lib.decDigits q1 ++ ((⟨#[UInt8.ofNat x1]⟩ : ByteArray) ++ S).data.toList) := by
        show if q1 = 0 then _ else _
        have h1 := HP.out; rw [if_neg h0] at h1
        rw [cat_list, h1]
        split
        · have hdm : Lib.decDigits m = [UInt8.ofNat x1] := by rw [Lib.decDigits, dif_pos (by omega), show 48 + m = x1 by omega]
          rw [hdm]; rfl
        · have hdm : Lib.decDigits m = Lib.decDigits q1 ++ [UInt8.ofNat x1] := by rw [Lib.decDigits, dif_neg (by omega), hq, hd, hx]
          rw [hdm, List.append_assoc]; rfl
      have HB2 : Hid (∀ o, Below w.heap.size w (wr.alloc o)) := fun o => HB.out.alloc HB.out.size o
      have hm2 : q1 ≤ 1000000 := by omega
      clear hq hd hx
      go_wp2_with fail
      exact ⟨⟨q1, _, rfl, rfl, hm2, HN.out, HB2.out _⟩, by simp [intOf]; omega⟩
theorem numsOf_append (a b : ByteArray) : numsOf (a ++ b) = numsOf a ++ numsOf b := by
  unfold numsOf
  rw [ByteArray.data_append, Array.toList_append, List.map_append]
/-- Front and body. -/
def wholeOf (k : Int) (m : Nat) (xs : List Int) : List Int := numsOf (frontOf k m) ++ xs
set_option maxRecDepth 100000 in
set_option maxHeartbeats 4000000 in
theorem whole_any (k : Int) (a : Option Addr) (m cap : Nat) (xs : List Int) (hm : m ≤ 600) (w : World) (H : Bytes w a m xs) :
    Calls Tryd.prog 21 #[.int .i64 k, .slice a m cap] w fun e w' => (∃ xa n c, e = .returned (.slice xa n c) ∧ n ≤ 1000 ∧ (xa = none → c = 0) ∧ Bytes w' xa n (wholeOf k m xs)) ∧ Below w.heap.size w w' := by
  have HH : Hid (Bytes w a m xs) := H
  have hws := wordAt_size k
  go_enter Tryd.func21, Tryd.ntmps21
  go_wp2_with fail
  refine (refWord_any k w).mono ?_
  rintro e w1 ⟨rfl, hw⟩
  subst hw
  obtain ⟨c0, hcv, hmid⟩ := mid_text w1 (wordAt k) (by omega)
  have HB0 : Hid (Below w1.heap.size w1 (Lib.bytesWorld w1 5 (wordAt k))) := Lib.bytesWorld_below w1 _ _
  obtain ⟨V0, hV0⟩ : ∃ V, V = Value.slice (some ⟨w1.heap.size, 0, none⟩) (wordAt k).size c0 := ⟨_, rfl⟩
  rw [← hV0] at hcv hmid
  have HM : Hid (Mid (Lib.bytesWorld w1 5 (wordAt k)) w1.heap.size V0 (wordAt k).size (numsOf (wordAt k))) := hmid
  have HWN : Hid (numsOf (frontOf k m) = numsOf (wordAt k) ++ [32] ++ numsOf (⟨(Lib.decDigits m).toArray⟩ : ByteArray) ++ [0]) := by
    show _ = _
    unfold frontOf
    rw [numsOf_append, numsOf_append, numsOf_append]
    rfl
  have HDL : Hid ((⟨(Lib.decDigits m).toArray⟩ : ByteArray).size ≤ 21) := dec_len m (by omega)
  clear hmid hV0
  generalize Lib.bytesWorld w1 5 (wordAt k) = W0 at *
  generalize numsOf (wordAt k) = wb at *
  generalize wordAt k = wk at *
  have tok : True := trivial
  go_wp2_with (
    have _t := tok
    at_builtin
    refine wpList_append_mid rfl _ _ 22 rfl w1.heap.size V0 wk.size wb rfl (HM.out.below ((Below.refl _ _).alloc (Nat.le_refl _) _)) _ 1 [32] rfl (src_bytes (Bytes.lit W0 W0.heap.size rfl [32] 5 (0, 0) 1 rfl (by omega) (by intro y hy; simp at hy; omega))) (by omega) (by have := HB0.out.size; simp; omega) ?_
    intro v2 w2 hm2 hg2
    have HM2 : Hid (Mid w2 w1.heap.size v2 (wk.size + 1) (wb ++ [32])) := hm2
    have HB2 : Hid (Below w1.heap.size w1 w2) := (HB0.out.alloc HB0.out.size _).trans ((HM.out.below ((Below.refl _ _).alloc (Nat.le_refl _) _)).off (by have := HB0.out.size; simp; omega) hg2)
    clear tok hm2 hg2
    refine Hid.out ?_)
  refine unhid ?_
  clear hcv HM HB0
  go_wp2_with fail
  refine (refDec_any m (by omega) w2).mono ?_
  rintro e w3 ⟨rfl, hb3⟩
  have HM3 : Hid (Mid w3 w1.heap.size v2 (wk.size + 1) (wb ++ [32])) := HM2.out.below hb3
  have HB3 : Hid (Below w1.heap.size w1 w3) := HB2.out.trans (hb3.mono HB2.out.size)
  clear hb3 HM2 HB2
  generalize (⟨(Lib.decDigits m).toArray⟩ : ByteArray) = D at *
  have hdl := HDL.out
  have tok : True := trivial
  go_wp2_with (
    have _t := tok
    at_builtin
    refine wpList_append_mid rfl _ _ 9 rfl w1.heap.size v2 (wk.size + 1) (wb ++ [32]) rfl HM3.out _ D.size (numsOf D) rfl (src_text D) (by omega) HB3.out.size ?_
    intro v4 w4 hm4 hg4
    have HM4 : Hid (Mid w4 w1.heap.size v4 (wk.size + 1 + D.size) (wb ++ [32] ++ numsOf D)) := hm4
    have HB4 : Hid (Below w1.heap.size w1 w4) := HB3.out.trans (HM3.out.off HB3.out.size hg4)
    clear tok hm4 hg4
    refine Hid.out ?_)
  refine unhid ?_
  clear HM3 HB3
  have tok : True := trivial
  go_wp2_with (
    have _t := tok
    at_builtin
    refine wpList_append_mid rfl _ _ 22 rfl w1.heap.size v4 (wk.size + 1 + D.size) (wb ++ [32] ++ numsOf D) rfl (HM4.out.below ((Below.refl _ _).alloc (Nat.le_refl _) _)) _ 1 [0] rfl (src_bytes (Bytes.lit w4 w4.heap.size rfl [0] 5 (0, 0) 1 rfl (by omega) (by intro y hy; simp at hy; omega))) (by omega) (by have := HB4.out.size; simp; omega) ?_
    intro v5 w5 hm5 hg5
    have HM5 : Hid (Mid w5 w1.heap.size v5 (wk.size + 1 + D.size + 1) (wb ++ [32] ++ numsOf D ++ [0])) := hm5
    have HB5 : Hid (Below w1.heap.size w1 w5) := (HB4.out.alloc HB4.out.size _).trans ((HM4.out.below ((Below.refl _ _).alloc (Nat.le_refl _) _)).off (by have := HB4.out.size; simp; omega) hg5)
    clear tok hm5 hg5
    refine Hid.out ?_)
  refine unhid ?_
  clear HM4 HB4
  have tok : True := trivial
  go_wp2_with (
    have _t := tok
    at_builtin
    refine wpList_append_mid rfl _ _ 22 rfl w1.heap.size v5 (wk.size + 1 + D.size + 1) (wb ++ [32] ++ numsOf D ++ [0]) rfl HM5.out _ m xs rfl (src_bytes (HH.out.below HB5.out)) (by omega) HB5.out.size ?_
    intro v6 w6 hm6 hg6
    have HB6 : Hid (Below w1.heap.size w1 w6) := HB5.out.trans (HM5.out.off HB5.out.size hg6)
    have HL : Hid (wb ++ [32] ++ numsOf D ++ [0] ++ xs = wholeOf k m xs) := by
      show _ = _
      unfold wholeOf
      rw [HWN.out]
    obtain ⟨a6, c6, e6, -, hn6, -⟩ := hm6.shape
    subst e6
    have HY : Hid (Bytes w6 a6 (wk.size + 1 + D.size + 1 + m) (wholeOf k m xs)) := by
      rw [HL.out] at hm6
      refine hm6.bytes fun j => ?_
      unfold wholeOf
      exact range_append (range_of_mem (numsOf_bytes _)) HH.out.2.2.1 j
    have HNN : Hid (a6 = none → c6 = 0) := hn6
    clear tok hm6 hg6 hn6
    refine Hid.out ?_)
  refine unhid ?_
  have hsum : wk.size + 1 + D.size + 1 + m ≤ 1000 := by omega
  generalize wk.size + 1 + D.size + 1 + m = tot at *
  go_wp2_with fail
  go_ret
  exact ⟨⟨a6, tot, c6, rfl, hsum, HNN.out, HY.out⟩, HB6.out⟩
end Go.Proofs.YtlnfgebonmfokaaDoor
