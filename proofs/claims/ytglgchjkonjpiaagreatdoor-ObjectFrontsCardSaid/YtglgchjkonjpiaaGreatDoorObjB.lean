/- Where an object lies: the walk; the chapter's example. -/
import Derived.Test.YtglgchjkonjpiaaGreatDoorObjA
import Derived.Test.YtglgchjkonjpiaaGreatDoorBase
import Derived.Test.YtglgchjkonjpiaaGreatDoorInfA
import Derived.Test.YtglgchjkonjpiaaGreatDoorFromDec
/-! Where an object lies: the walk; the chapter's example. -/
namespace Go.Proofs.YtglgchjkonjpiaaGreatDoor
open Go.RowKit Plain
set_option linter.unusedVariables false
theorem hexSum_any (s : Five) (w : World) : Calls Tryz.prog 19 #[.agg (idTo s 20)] w fun e w' => e = .returned (.string ⟨(hexOf (tbs s)).toArray⟩) ∧ Below w.heap.size w w' := by
  rw [idTo_tbs]
  exact hex_any _ w (tbs_length s) (tbs_bytes s)
def hexT (s : Five) : ByteArray := ⟨(hexOf (tbs s)).toArray⟩
def objectsT : ByteArray := ⟨#[111, 98, 106, 101, 99, 116, 115, 47]⟩
def slashT : ByteArray := ⟨#[47]⟩
/-- A path. -/
def pathT (h : ByteArray) : ByteArray := objectsT ++ h.extract 0 2 ++ slashT ++ h.extract 2 40
theorem hexT_size (s : Five) : (hexT s).size = 40 := by
  show (hexOf (tbs s)).toArray.size = 40
  rw [List.size_toArray, hexOf_length, tbs_length]
set_option maxRecDepth 100000 in
set_option maxHeartbeats 4000000 in
theorem path_any (s : Five) (w : World) : Calls Tryz.prog 21 #[.agg (idTo s 20)] w fun e w' => e = .returned (.string (pathT (hexT s))) ∧ Below w.heap.size w w' := by
  have HI : Hid ((Tryz.prog.info? 43).map (·.size) = some (idTo s 20).size) := infoId _ (idTo_size _ _)
  have HS : Hid ((hexT s).size = 40) := hexT_size s
  have hso : (idTo s 20).size = 20 := idTo_size _ _
  have HX := hexSum_any s
  change ∀ w, Calls Tryz.prog 19 #[.agg (idTo s 20)] w fun e w' => e = .returned (.string (hexT s)) ∧ Below w.heap.size w w' at HX
  generalize hexT s = h at *
  generalize idTo s 20 = row at *
  have HXH : Hid (∀ w, Calls Tryz.prog 19 #[.agg row] w fun e w' => e = .returned (.string h) ∧ Below w.heap.size w w') := HX
  clear HX
  go_enter Tryz.func21, Tryz.ntmps21
  have HN : Hid ((w.alloc (.cells row 43)).heap[w.heap.size]? = some (.cells row 43 (0, 0))) := heap_alloc_new w _
  have HB : Hid (Below w.heap.size w (w.alloc (.cells row 43))) := (Below.refl _ _).alloc (Nat.le_refl _) _
  have tok : True := trivial
  go_wp2_with (have _t := tok; refine wpList_load_row rfl 43 _ rfl w.heap.size rfl 43 row (0, 0) (.array 20 5) HN.out Tryz.underlying43 rfl HI.out ?_; clear tok)
  generalize w.alloc (.cells row 43) = w0 at *
  refine (HXH.out w0).mono ?_
  rintro e w1 ⟨rfl, hb1⟩
  have HW1 : Hid (Below w.heap.size w w1) := HB.out.trans (hb1.mono HB.out.size)
  clear hb1
  have hs := HS.out
  have hs1 : (h.extract 0 2).size = 2 := by rw [ByteArray.size_extract, hs]; rfl
  have hs2 : (h.extract 2 40).size = 38 := by rw [ByteArray.size_extract, hs]; rfl
  go_wp2_with fail
  go_region
  go_wp2_with fail
  go_ret
  exact ⟨rfl, HW1.out.drew⟩
theorem wpList_load_row_g {P : Program} {ops : Array Oper} {rest : List Oper} {o : Oper} {a : Act} {w : World} {Q : Exit → Act → World → Prop} (hw : Region.wanted o (yielded ops a.tmps) = true) (ty : TypeId) (x : Operand) (ho : o.op = .load ty x)
    (g : Nat) (hx : a.eval x = .pointer (some ⟨g, 0, none⟩)) (t : TypeId) (cs : Array Value) (fr : Nat × Nat) (d : TypeDesc) (hg : w.heap[g]? = some (.cells cs t fr))
    (hu : P.underlying ty = some d) (hd : (match d with | .struct _ | .array _ _ => true | _ => false) = true) (hi : (P.info? ty).map (·.size) = some cs.size)
    (h : wpList P ops Q rest (a.put o.dst (.agg cs)) w) : wpList P ops Q (o :: rest) a w := by
  unfold wpList
  rw [if_pos hw]
  exact .inl (wp_load_row ty x ho g hx t cs fr d hg hu hd hi h)
theorem id_empty : hexT (idSum 3 0 []) = ⟨#[101, 54, 57, 100, 101, 50, 57, 98, 98, 50, 100, 49, 100, 54, 52, 51, 52, 98, 56, 98, 50, 57, 97, 101, 55, 55, 53, 97, 100, 56, 99, 50, 101, 52, 56, 99, 53, 51, 57, 49]⟩ := by
  have e1 : numsOf (frontOf 3 0) ++ [] = [98, 108, 111, 98, 32, 48, 0] := by
    unfold numsOf frontOf
    rw [Lib.decDigits, dif_pos (by omega)]
    rfl
  unfold hexT idSum
  rw [e1]
  have e2 : hexOf (tbs (sumOf [98, 108, 111, 98, 32, 48, 0])) = [101, 54, 57, 100, 101, 50, 57, 98, 98, 50, 100, 49, 100, 54, 52, 51, 52, 98, 56, 98, 50, 57, 97, 101, 55, 55, 53, 97, 100, 56, 99, 50, 101, 52, 56, 99, 53, 51, 57, 49] := by decide +kernel
  rw [e2]
theorem path_empty : pathT (hexT (idSum 3 0 [])) = ⟨#[111, 98, 106, 101, 99, 116, 115, 47, 101, 54, 47, 57, 100, 101, 50, 57, 98, 98, 50, 100, 49, 100, 54, 52, 51, 52, 98, 56, 98, 50, 57, 97, 101, 55, 55, 53, 97, 100, 56, 99, 50, 101, 52, 56, 99, 53, 51, 57, 49]⟩ := by
  rw [id_empty]
  rfl
theorem idSum_same (xs : List Int) (h : xs = []) : idSum 3 0 xs = idSum 3 0 [] := by rw [h]
set_option maxRecDepth 100000 in
set_option maxHeartbeats 4000000 in
theorem known_any (w : World) (htab : Lib.TabIs Tryz.prog w "internal/strconv.uint64pow10" .u64 Lib.pow10Tab) : Calls Tryz.prog 10 #[] w fun e w' => e = .returned (.bool true) ∧ Below w.heap.size w w' := by
  have hz := zeroId_run
  have ez : zeroId.size = 20 := zeroId_size
  have HX := hexSum_any (idSum 3 0 [])
  have HPA := path_any (idSum 3 0 [])
  change ∀ w, Calls Tryz.prog 19 #[.agg (idTo (idSum 3 0 []) 20)] w fun e w' => e = .returned (.string (hexT (idSum 3 0 []))) ∧ Below w.heap.size w w' at HX
  rw [id_empty] at HX
  rw [path_empty] at HPA
  have HI : Hid ((Tryz.prog.info? 43).map (·.size) = some (idTo (idSum 3 0 []) 20).size) := infoId _ (idTo_size _ _)
  have HL : Hid ((idTo (idSum 3 0 []) 20).size = zeroId.size) := (idTo_size _ _).trans ez.symm
  have HO : Hid ((idTo (idSum 3 0 []) 20).all (·.oneCell') = true) := oneId _ _
  have HQ : Hid (∀ e, IdPost 3 0 [] e → e = .returned (.tuple #[.agg (idTo (idSum 3 0 []) 20), .int .i64 0])) := fun e h => by
    rcases h with ⟨h, -⟩ | ⟨-, h, -⟩ | ⟨-, -, h⟩
    · exact absurd h (by decide)
    · omega
    · exact h
  generalize idTo (idSum 3 0 []) 20 = row at *
  have H1 : Hid (∀ w, Calls Tryz.prog 19 #[.agg row] w fun e w' => e = .returned (.string ⟨#[101, 54, 57, 100, 101, 50, 57, 98, 98, 50, 100, 49, 100, 54, 52, 51, 52, 98, 56, 98, 50, 57, 97, 101, 55, 55, 53, 97, 100, 56, 99, 50, 101, 52, 56, 99, 53, 51, 57, 49]⟩) ∧ Below w.heap.size w w') := HX
  have H2 : Hid (∀ w, Calls Tryz.prog 21 #[.agg row] w fun e w' => e = .returned (.string ⟨#[111, 98, 106, 101, 99, 116, 115, 47, 101, 54, 47, 57, 100, 101, 50, 57, 98, 98, 50, 100, 49, 100, 54, 52, 51, 52, 98, 56, 98, 50, 57, 97, 101, 55, 55, 53, 97, 100, 56, 99, 50, 101, 52, 56, 99, 53, 51, 57, 49]⟩) ∧ Below w.heap.size w w') := HPA
  clear HX HPA
  go_enter Tryz.func10, Tryz.ntmps10
  go_wp2_with fail
  refine (id_any 3 none 0 0 [] (by omega) (Nat.le_refl _) w ⟨rfl, by omega, by simp, .inl rfl⟩ htab).mono ?_
  rintro e w1 ⟨hp, hb1⟩
  have he := HQ.out e hp
  subst he
  have HW1 : Hid (Below w.heap.size w w1) := hb1
  clear hb1 hp htab
  have HN1 : Hid ((w1.alloc (.cells zeroId 43)).heap[w1.heap.size]? = some (.cells zeroId 43 (0, 0))) := heap_alloc_new w1 _
  have HB1 : Hid (Below w.heap.size w (w1.alloc (.cells zeroId 43))) := HW1.out.alloc HW1.out.size _
  have HS1 : Hid (w.heap.size ≤ w1.heap.size) := HW1.out.size
  have tok : True := trivial
  go_wp2_with (have _t := tok; refine wpList_store_row rfl 43 (.tmp 1) (.tmp 5) rfl w1.heap.size row rfl rfl 43 zeroId HN1.out HI.out HL.out.symm HO.out ?_; clear tok; refine Hid.out ?_)
  have HN2 : Hid (((w1.alloc (.cells zeroId 43)).setRow w1.heap.size row).heap[w1.heap.size]? = some (.cells row 43 (0, 0))) := setRow_heap _ _ _ _ _ _ HN1.out
  have HB2 : Hid (Below w.heap.size w ((w1.alloc (.cells zeroId 43)).setRow w1.heap.size row)) := below_setRow HB1.out HS1.out _
  have HSZ : Hid (w1.heap.size < ((w1.alloc (.cells zeroId 43)).setRow w1.heap.size row).heap.size) := by
    rcases Nat.lt_or_ge w1.heap.size ((w1.alloc (.cells zeroId 43)).setRow w1.heap.size row).heap.size with h | h
    · exact h
    · have := HN2.out; rw [Array.getElem?_eq_none h] at this; cases this
  clear ez
  generalize (w1.alloc (.cells zeroId 43)).setRow w1.heap.size row = w2 at *
  generalize w1.heap.size = g at *
  refine unhid ?_
  have tok : True := trivial
  go_wp2_with (have _t := tok; refine wpList_load_row_g (by rfl) 43 _ rfl g rfl 43 row (0, 0) (.array 20 5) HN2.out Tryz.underlying43 rfl HI.out ?_; clear tok)
  refine (H1.out w2).mono ?_
  rintro e w3 ⟨rfl, hb3⟩
  have HN3 : Hid (w3.heap[g]? = some (.cells row 43 (0, 0))) := (hb3.block _ HSZ.out).trans HN2.out
  have HS3 : Hid (g < w3.heap.size) := Nat.lt_of_lt_of_le HSZ.out hb3.size
  have HB3 : Hid (Below w.heap.size w w3) := HB2.out.trans (hb3.mono HB2.out.size)
  clear hb3 HN2 HSZ
  go_wp2_with fail
  refine (word_any 4 w3).mono ?_
  rintro e w4 ⟨rfl, hb4⟩
  have HN4 : Hid (w4.heap[g]? = some (.cells row 43 (0, 0))) := (hb4.block _ HS3.out).trans HN3.out
  have HB4 : Hid (Below w.heap.size w w4) := HB3.out.trans (hb4.mono HB3.out.size)
  clear hb4 HN3 HS3
  rw [show wordAt 4 = (⟨#[116, 97, 103]⟩ : ByteArray) from rfl]
  have tok : True := trivial
  go_wp2_with (have _t := tok; refine wpList_load_row_g (by rfl) 43 _ rfl g rfl 43 row (0, 0) (.array 20 5) HN4.out Tryz.underlying43 rfl HI.out ?_; clear tok)
  refine (H2.out w4).mono ?_
  rintro e w5 ⟨rfl, hb5⟩
  have HB5 : Hid (Below w.heap.size w w5) := HB4.out.trans (hb5.mono HB4.out.size)
  clear hb5 HN4
  go_wp2_with fail
  go_ret
  exact ⟨rfl, HB5.out⟩
end Go.Proofs.YtglgchjkonjpiaaGreatDoor
/-! An object's front and body, as the document tells them: the walks. -/
namespace Go.Proofs.YtglgchjkonjpiaaGreatDoor
open Go.RowKit Plain
set_option linter.unusedVariables false
theorem src_text {w : World} (s : ByteArray) : Src Tryz.prog 1 9 (.string s) s.size (U8 (numsOf s)) w := by
  have := Src.ofString (P := Tryz.prog) w (tx := 9) Tryz.underlying9 s
  have e : byteCells s = U8 (numsOf s) := by unfold byteCells U8 numsOf; rw [List.map_map]; rfl
  rwa [e] at this
theorem wpList_append_mido {w : World} {ops : Array Oper} {rest : List Oper} {o : Oper} {ac : Act} {Q : Exit → Act → World → Prop} (hgd : o.guard = none) (s x : Operand) (tx : TypeId)
    (ho : o.op = .call { callee := .builtin .append, args := #[s, x], argTypes := #[22, tx] })
    (base : Nat) (v : Value) (n : Nat) (xs : List Int) (hs : ac.eval s = v) (hown : Mid w base v n xs) (xv : Value) (m : Nat) (ys : List Int) (hx : ac.eval x = xv) (hsrc : Src Tryz.prog 1 tx xv m (U8 ys) w)
    (hsum : n + m ≤ 70368744177664) (hbase : base ≤ w.heap.size)
    (h : ∀ v' w', Mid w' base v' (n + m) (xs ++ ys) → w.grownBy w' v.ownBlock → wpList Tryz.prog ops Q rest (ac.put o.dst v') w') : wpList Tryz.prog ops Q (o :: rest) ac w := by
  refine wpList_plain hgd fun K hK => ?_
  obtain ⟨v', w', hrun, r1, r2, -⟩ := mid_append w o.type tx base v n xs hown xv m ys hsrc hsum hbase
  unfold Oper.wp
  simp [execOp, ho, resolve, invoke, builtin, hs, hx, hrun, Result.andThen]
  exact hK _ _ (h v' w' r1 r2)
/-- A text's bytes in a new row: a slice of the call's own. -/
theorem mid_text (w : World) (s : ByteArray) (hs : s.size ≤ 1000000) : ∃ c, (convert 9 22 (.string s)).run Tryz.prog w = .ok (.slice (some ⟨w.heap.size, 0, none⟩) s.size c) (Lib.bytesWorld w 5 s) ∧
    Mid (Lib.bytesWorld w 5 s) w.heap.size (.slice (some ⟨w.heap.size, 0, none⟩) s.size c) s.size (numsOf s) := by
  have hge := grownCap_ge w s.size 0 5
  have hcm : grownCap w s.size 0 5 ≤ maxLen := grownCap_le_maxLen w s.size 0 5 (by unfold maxLen; omega)
  refine ⟨_, Lib.run_convert_string_bytes w 9 22 5 s Tryz.underlying9 Tryz.underlying22 Tryz.underlying5, numsOf_length s, .inr ⟨w.heap.size, 0, _, rfl, Nat.le_refl _, ?_, hge, by unfold maxLen at hcm; omega, ?_, ?_⟩⟩
  · rw [Lib.bytesWorld_size]; omega
  · intro j v hv
    have hj : j < s.size := by
      rcases Nat.lt_or_ge j s.size with h | h
      · exact h
      · rw [List.getElem?_eq_none (by rw [U8_length, numsOf_length]; exact h)] at hv; cases hv
    rw [Nat.zero_add, Lib.bytesWorld_cell w 5 s j hj, ← hv]
    have hj' : j < s.data.toList.length := by simpa using hj
    unfold U8 numsOf
    rw [List.getElem?_map, List.getElem?_map, List.getElem?_eq_getElem hj', List.getD_eq_getElem?_getD, List.getElem?_eq_getElem hj']
    rfl
  · intro j hj
    have hn := Lib.bytesWorld_at_new w 5 s
    have hsz : (Lib.bytesCells w 5 s).size = grownCap w s.size 0 5 := by
      unfold Lib.bytesCells
      rw [Array.size_append, Array.size_map, Array.size_replicate]
      have : s.data.size = s.size := rfl
      omega
    rw [Nat.zero_add]
    constructor
    · simp only [World.cell?, hn]
      rw [Array.getElem?_eq_getElem (by rw [hsz]; exact hj)]
      rfl
    · simp only [World.frozen?, hn, hsz]
      simp
      omega
/-- One digit's text. -/
theorem one_text (w : World) (x : Nat) (hx : x < 256) (t : TypeId) : (convert 22 9 (.slice (some ⟨w.heap.size, 0, none⟩) 1 1)).run Tryz.prog (w.alloc (.cells #[.int .u8 (x : Int)] t)) = .ok (.string ⟨#[UInt8.ofNat x]⟩) (w.alloc (.cells #[.int .u8 (x : Int)] t)) := by
  have h := text_run (w.alloc (.cells #[.int .u8 (x : Int)] t)) (some ⟨w.heap.size, 0, none⟩) 1 1 [(x : Int)] (Bytes.lit w w.heap.size rfl [(x : Int)] t (0, 0) 1 rfl (by omega) (by intro y hy; simp at hy; omega))
  rw [h]
  congr 2
theorem cat_list (c : UInt8) (S : ByteArray) : ((⟨#[c]⟩ : ByteArray) ++ S).data.toList = c :: S.data.toList := by
  simp [ByteArray.data_append]
theorem div_rule10 (n q : Nat) (h : n / 10 = q) : ∀ n' : Int, n' = (n : Int) → n' / 10 = (q : Int) := fun n' hn => by rw [hn, ← h]; simp
theorem mod_rule10 (n q : Nat) (h : n % 10 = q) : ∀ n' : Int, n' = (n : Int) → n' % 10 = (q : Int) := fun n' hn => by rw [hn, ← h]; simp
theorem add_rule48 (d x : Nat) (h : 48 + d = x) : ∀ d' : Int, d' = (d : Int) → 48 + d' = (x : Int) := fun d' hd => by rw [hd, ← h]; simp
set_option maxRecDepth 100000 in
set_option maxHeartbeats 4000000 in
theorem refDec_any (n : Nat) (hn : n ≤ 1000000) (w : World) : Calls Tryz.prog 26 #[.int .i64 (n : Int)] w fun e w' => e = .returned (.string ⟨(Lib.decDigits n).toArray⟩) ∧ Below w.heap.size w w' := by
  have hn0 : ¬ (n : Int) < 0 := by omega
  have hlen := dec_len n (by omega)
  have HLEN : Hid ((Lib.decDigits n).length ≤ 21) := hlen
  clear hlen
  obtain ⟨q, hq⟩ : ∃ q, n / 10 = q := ⟨_, rfl⟩
  obtain ⟨d, hd⟩ : ∃ d, n % 10 = d := ⟨_, rfl⟩
  obtain ⟨x, hx⟩ : ∃ x, 48 + d = x := ⟨_, rfl⟩
  have hd10 : d < 10 := by omega
  have r1 := div_rule10 n q hq
  have r2 := mod_rule10 n d hd
  have r3 := add_rule48 d x hx
  have hx8 : x < 256 := by omega
  have ho := fun W t => one_text W x hx8 t
  have HS0 : Hid (if q = 0 then Lib.decDigits n = [UInt8.ofNat x] else Lib.decDigits n = Lib.decDigits q ++ [UInt8.ofNat x]) := by
    show if q = 0 then _ else _
    rw [Lib.decDigits]
    split
    · rw [dif_pos (by omega), show 48 + n = x by omega]
    · rw [dif_neg (by omega), hq, hd, hx]
  have hqb : q ≤ 1000000 := by omega
  clear hq hd hx
  go_enter Tryz.func26, Tryz.ntmps26
  go_wp2_with fail
  go_loopw [0, 4] (fun v u wr => ∃ (m : Nat) (S : ByteArray), v = .int .i64 (m : Int) ∧ u = .string S ∧ m ≤ 1000000 ∧ (if m = 0 then Lib.decDigits n = S.data.toList else Lib.decDigits n = Lib.decDigits m ++ S.data.toList) ∧ Below w.heap.size w wr) (fun v u wr => (intOf v).toNat)
  case atStart => exact ⟨q, ⟨#[UInt8.ofNat x]⟩, rfl, rfl, by omega, HS0.out, (Below.refl _ _).alloc (Nat.le_refl _) _⟩
  case round =>
    obtain ⟨m, S, rfl, rfl, hm, hp, hb⟩ := hrel
    have HP : Hid (if m = 0 then Lib.decDigits n = S.data.toList else Lib.decDigits n = Lib.decDigits m ++ S.data.toList) := hp
    have HB : Hid (Below w.heap.size w wr) := hb
    clear hp hb ho r1 r2 r3 HS0
    by_cases h0 : m = 0
    · subst h0
      have HE : Hid ((⟨(Lib.decDigits n).toArray⟩ : ByteArray) = S) := by
        have := HP.out; rw [if_pos rfl] at this
        show _ = _
        rw [this]
      go_wp2_with fail
      go_ret
      rw [HE.out]
      exact ⟨rfl, HB.out⟩
    · have hpos : 0 < m := by omega
      have hposi : (0 : Int) < m := by omega
      have hsz : S.size ≤ 21 := by
        have h1 := HP.out; rw [if_neg h0] at h1
        have h2 := HLEN.out
        rw [h1, List.length_append] at h2
        have : S.data.toList.length = S.size := rfl
        omega
      obtain ⟨q1, hq⟩ : ∃ q, m / 10 = q := ⟨_, rfl⟩
      obtain ⟨d1, hd⟩ : ∃ d, m % 10 = d := ⟨_, rfl⟩
      obtain ⟨x1, hx⟩ : ∃ x, 48 + d1 = x := ⟨_, rfl⟩
      have hd10 : d1 < 10 := by omega
      have r1 := div_rule10 m q1 hq
      have r2 := mod_rule10 m d1 hd
      have r3 := add_rule48 d1 x1 hx
      have hx8 : x1 < 256 := by omega
      have ho := fun W t => one_text W x1 hx8 t
      have hl1 : ¬ 9223372036854775807 < 1 + S.size := by omega
      have hql : q1 < m := by omega
      have HN : Hid (if q1 = 0 then Lib.decDigits n = ((⟨#[UInt8.ofNat x1]⟩ : ByteArray) ++ S).data.toList else Lib.decDigits n = Lib.decDigits q1 ++ ((⟨#[UInt8.ofNat x1]⟩ : ByteArray) ++ S).data.toList) := by
        show if q1 = 0 then _ else _
        have h1 := HP.out; rw [if_neg h0] at h1
        rw [cat_list, h1]
        split
        · have hdm : Lib.decDigits m = [UInt8.ofNat x1] := by rw [Lib.decDigits, dif_pos (by omega), show 48 + m = x1 by omega]
          rw [hdm]; rfl
        · have hdm : Lib.decDigits m = Lib.decDigits q1 ++ [UInt8.ofNat x1] := by rw [Lib.decDigits, dif_neg (by omega), hq, hd, hx]
          rw [hdm, List.append_assoc]; rfl
      have HB2 : Hid (∀ o, Below w.heap.size w (wr.alloc o)) := fun o => HB.out.alloc HB.out.size o
      have hm2 : q1 ≤ 1000000 := by omega
      clear hq hd hx
      go_wp2_with fail
      exact ⟨⟨q1, _, rfl, rfl, hm2, HN.out, HB2.out _⟩, by simp [intOf]; omega⟩
theorem numsOf_append (a b : ByteArray) : numsOf (a ++ b) = numsOf a ++ numsOf b := by
  unfold numsOf
  rw [ByteArray.data_append, Array.toList_append, List.map_append]
/-- Front and body. -/
def wholeOf (k : Int) (m : Nat) (xs : List Int) : List Int := numsOf (frontOf k m) ++ xs
set_option maxRecDepth 100000 in
set_option maxHeartbeats 4000000 in
theorem whole_any (k : Int) (a : Option Addr) (m cap : Nat) (xs : List Int) (hm : m ≤ 100000) (w : World) (H : Bytes w a m xs) :
    Calls Tryz.prog 13 #[.int .i64 k, .slice a m cap] w fun e w' => (∃ xa n c, e = .returned (.slice xa n c) ∧ n ≤ m + 400 ∧ n ≤ c ∧ c ≤ 9223372036854775807 ∧ (xa = none → c = 0) ∧ Bytes w' xa n (wholeOf k m xs)) ∧ Below w.heap.size w w' := by
  have HH : Hid (Bytes w a m xs) := H
  have hws := wordAt_size k
  go_enter Tryz.func13, Tryz.ntmps13
  go_wp2_with fail
  refine (refWord_any k w).mono ?_
  rintro e w1 ⟨rfl, hw⟩
  subst hw
  obtain ⟨c0, hcv, hmid⟩ := mid_text w1 (wordAt k) (by omega)
  have HB0 : Hid (Below w1.heap.size w1 (Lib.bytesWorld w1 5 (wordAt k))) := Lib.bytesWorld_below w1 _ _
  obtain ⟨V0, hV0⟩ : ∃ V, V = Value.slice (some ⟨w1.heap.size, 0, none⟩) (wordAt k).size c0 := ⟨_, rfl⟩
  rw [← hV0] at hcv hmid
  have HM : Hid (Mid (Lib.bytesWorld w1 5 (wordAt k)) w1.heap.size V0 (wordAt k).size (numsOf (wordAt k))) := hmid
  have HWN : Hid (numsOf (frontOf k m) = numsOf (wordAt k) ++ [32] ++ numsOf (⟨(Lib.decDigits m).toArray⟩ : ByteArray) ++ [0]) := by
    show _ = _
    unfold frontOf
    rw [numsOf_append, numsOf_append, numsOf_append]
    rfl
  have HDL : Hid ((⟨(Lib.decDigits m).toArray⟩ : ByteArray).size ≤ 21) := dec_len m (by omega)
  clear hmid hV0
  generalize Lib.bytesWorld w1 5 (wordAt k) = W0 at *
  generalize numsOf (wordAt k) = wb at *
  generalize wordAt k = wk at *
  have tok : True := trivial
  go_wp2_with (
    have _t := tok
    at_builtin
    refine wpList_append_mido rfl _ _ 22 rfl w1.heap.size V0 wk.size wb rfl (HM.out.below ((Below.refl _ _).alloc (Nat.le_refl _) _)) _ 1 [32] rfl (src_bytes (Bytes.lit W0 W0.heap.size rfl [32] 5 (0, 0) 1 rfl (by omega) (by intro y hy; simp at hy; omega))) (by omega) (by have := HB0.out.size; simp; omega) ?_
    intro v2 w2 hm2 hg2
    have HM2 : Hid (Mid w2 w1.heap.size v2 (wk.size + 1) (wb ++ [32])) := hm2
    have HB2 : Hid (Below w1.heap.size w1 w2) := (HB0.out.alloc HB0.out.size _).trans ((HM.out.below ((Below.refl _ _).alloc (Nat.le_refl _) _)).off (by have := HB0.out.size; simp; omega) hg2)
    clear tok hm2 hg2
    refine Hid.out ?_)
  refine unhid ?_
  clear hcv HM HB0
  go_wp2_with fail
  refine (refDec_any m (by omega) w2).mono ?_
  rintro e w3 ⟨rfl, hb3⟩
  have HM3 : Hid (Mid w3 w1.heap.size v2 (wk.size + 1) (wb ++ [32])) := HM2.out.below hb3
  have HB3 : Hid (Below w1.heap.size w1 w3) := HB2.out.trans (hb3.mono HB2.out.size)
  clear hb3 HM2 HB2
  generalize (⟨(Lib.decDigits m).toArray⟩ : ByteArray) = D at *
  have hdl := HDL.out
  have tok : True := trivial
  go_wp2_with (
    have _t := tok
    at_builtin
    refine wpList_append_mido rfl _ _ 9 rfl w1.heap.size v2 (wk.size + 1) (wb ++ [32]) rfl HM3.out _ D.size (numsOf D) rfl (src_text D) (by omega) HB3.out.size ?_
    intro v4 w4 hm4 hg4
    have HM4 : Hid (Mid w4 w1.heap.size v4 (wk.size + 1 + D.size) (wb ++ [32] ++ numsOf D)) := hm4
    have HB4 : Hid (Below w1.heap.size w1 w4) := HB3.out.trans (HM3.out.off HB3.out.size hg4)
    clear tok hm4 hg4
    refine Hid.out ?_)
  refine unhid ?_
  clear HM3 HB3
  have tok : True := trivial
  go_wp2_with (
    have _t := tok
    at_builtin
    refine wpList_append_mido rfl _ _ 22 rfl w1.heap.size v4 (wk.size + 1 + D.size) (wb ++ [32] ++ numsOf D) rfl (HM4.out.below ((Below.refl _ _).alloc (Nat.le_refl _) _)) _ 1 [0] rfl (src_bytes (Bytes.lit w4 w4.heap.size rfl [0] 5 (0, 0) 1 rfl (by omega) (by intro y hy; simp at hy; omega))) (by omega) (by have := HB4.out.size; simp; omega) ?_
    intro v5 w5 hm5 hg5
    have HM5 : Hid (Mid w5 w1.heap.size v5 (wk.size + 1 + D.size + 1) (wb ++ [32] ++ numsOf D ++ [0])) := hm5
    have HB5 : Hid (Below w1.heap.size w1 w5) := (HB4.out.alloc HB4.out.size _).trans ((HM4.out.below ((Below.refl _ _).alloc (Nat.le_refl _) _)).off (by have := HB4.out.size; simp; omega) hg5)
    clear tok hm5 hg5
    refine Hid.out ?_)
  refine unhid ?_
  clear HM4 HB4
  have tok : True := trivial
  go_wp2_with (
    have _t := tok
    at_builtin
    refine wpList_append_mido rfl _ _ 22 rfl w1.heap.size v5 (wk.size + 1 + D.size + 1) (wb ++ [32] ++ numsOf D ++ [0]) rfl HM5.out _ m xs rfl (src_bytes (HH.out.below HB5.out)) (by omega) HB5.out.size ?_
    intro v6 w6 hm6 hg6
    have HB6 : Hid (Below w1.heap.size w1 w6) := HB5.out.trans (HM5.out.off HB5.out.size hg6)
    have HL : Hid (wb ++ [32] ++ numsOf D ++ [0] ++ xs = wholeOf k m xs) := by
      show _ = _
      unfold wholeOf
      rw [HWN.out]
    obtain ⟨a6, c6, e6, hl6, hn6, hc6⟩ := hm6.shape
    subst e6
    have HY : Hid (Bytes w6 a6 (wk.size + 1 + D.size + 1 + m) (wholeOf k m xs)) := by
      rw [HL.out] at hm6
      refine hm6.bytes fun j => ?_
      unfold wholeOf
      exact range_append (range_of_mem (numsOf_bytes _)) HH.out.2.2.1 j
    have HNN : Hid (a6 = none → c6 = 0) := hn6
    have HLC := Lib.hid hl6
    have HCM := Lib.hid hc6
    clear tok hm6 hg6 hn6 hl6 hc6
    refine Hid.out ?_)
  refine unhid ?_
  have hsum : wk.size + 1 + D.size + 1 + m ≤ m + 400 := by omega
  generalize wk.size + 1 + D.size + 1 + m = tot at *
  go_wp2_with fail
  go_ret
  exact ⟨⟨a6, tot, c6, rfl, hsum, HLC.out, HCM.out, HNN.out, HY.out⟩, HB6.out⟩
end Go.Proofs.YtglgchjkonjpiaaGreatDoor
/-! The kind of a word; an id, as the document tells it: the walks. -/
namespace Go.Proofs.YtglgchjkonjpiaaGreatDoor
open Go.RowKit Plain
set_option linter.unusedVariables false
def kindUpto (s : ByteArray) : Nat → Nat
  | 0 => 0
  | i + 1 => if wordAt ((i + 1 : Nat) : Int) = s then i + 1 else kindUpto s i
theorem beq_list (a b : ByteArray) (h : ¬ a = b) : (a.toList == b.toList) = false := by
  rw [toList_eq, toList_eq]
  refine beq_eq_false_iff_ne.2 fun e => h ?_
  exact ByteArray.ext (Array.toList_inj.1 e)
theorem kindUpto_le (s : ByteArray) : ∀ i, kindUpto s i ≤ i
  | 0 => Nat.le_refl _
  | i + 1 => by
    unfold kindUpto
    split
    · exact Nat.le_refl _
    · exact Nat.le_succ_of_le (kindUpto_le s i)
theorem kind_first (s : ByteArray) (k : Nat) (hk : k < 4) (h : wordAt ((k + 1 : Nat) : Int) = s) : kindUpto s 4 = k + 1 := by
  subst h
  obtain rfl | rfl | rfl | rfl : k = 0 ∨ k = 1 ∨ k = 2 ∨ k = 3 := by omega
  all_goals decide
theorem wordsRow_get (k : Nat) (hk : k < 4) : wordsRow[k]? = some (.string (wordAt ((k + 1 : Nat) : Int))) := by
  obtain rfl | rfl | rfl | rfl : k = 0 ∨ k = 1 ∨ k = 2 ∨ k = 3 := by omega
  all_goals rfl
theorem index_words (k : Nat) (hk : k < 4) (W : World) : (Instr.index 77 (.agg wordsRow) (.int .i64 (k : Int))).run Tryz.prog W = .ok (.string (wordAt ((k + 1 : Nat) : Int))) W := by
  obtain rfl | rfl | rfl | rfl : k = 0 ∨ k = 1 ∨ k = 2 ∨ k = 3 := by omega
  · show _ = Result.ok (Value.string wCommit) W; kernel_rfl
  · show _ = Result.ok (Value.string wTree) W; kernel_rfl
  · show _ = Result.ok (Value.string wBlob) W; kernel_rfl
  · show _ = Result.ok (Value.string wTag) W; kernel_rfl
set_option maxRecDepth 100000 in
set_option maxHeartbeats 4000000 in
theorem kind_any (s : ByteArray) (w : World) : Calls Tryz.prog 45 #[.string s] w fun e w' => e = .returned (.int .i64 ((kindUpto s 4 : Nat) : Int)) ∧ Below w.heap.size w w' := by
  have hz := zeroWords
  go_enter Tryz.func45, Tryz.ntmps45
  go_wp2_with fail
  refine (kinds_any w).mono ?_
  rintro e w1 ⟨rfl, hb1⟩
  have HB1 : Hid (Below w.heap.size w w1) := hb1
  clear hb1
  have e4 : wordsRow.size = 4 := rfl
  go_wp2_with fail
  go_loopw [6] (fun i wr => ∃ k : Nat, k ≤ 4 ∧ i = .int .i64 (k : Int) ∧ kindUpto s k = 0 ∧ Below w.heap.size w wr) (fun i _ => 4 - (intOf i).toNat)
  case atStart => exact ⟨0, by omega, rfl, rfl, HB1.out⟩
  case round =>
    obtain ⟨k, hk, rfl, hz0, hb⟩ := hrel
    have HZ : Hid (kindUpto s k = 0) := hz0
    have HB : Hid (Below w.heap.size w wr) := hb
    clear hz0 hb
    by_cases hlt : k < 4
    · have hli : (k : Int) < 4 := by omega
      have hg := fun W => index_words k hlt W
      by_cases hs : wordAt ((k + 1 : Nat) : Int) = s
      · have HK : Hid (kindUpto s 4 = k + 1) := kind_first s k hlt hs
        rw [hs] at hg
        clear hs
        have hw1 : wrap64 (1 + (k : Int)) = 1 + (k : Int) := by unfold wrap64; omega
        go_wp2_with fail
        go_ret
        rw [HK.out]
        exact ⟨congrArg (fun x => Ending.returned (Value.int .i64 x)) (by omega), HB.out⟩
      · have hne := beq_list _ _ hs
        have HK : Hid (kindUpto s (k + 1) = 0) := by
          show _ = _
          unfold kindUpto
          rw [if_neg hs, HZ.out]
        generalize wordAt ((k + 1 : Nat) : Int) = wk at *
        go_wp2_with fail
        exact ⟨⟨k + 1, by omega, by go_num, HK.out, HB.out⟩, by simp [intOf]; omega⟩
    · obtain rfl : k = 4 := by omega
      go_wp2_with fail
      go_ret
      rw [HZ.out]
      exact ⟨rfl, HB.out⟩
end Go.Proofs.YtglgchjkonjpiaaGreatDoor
