/- Kinds' words, ids, paths: the walk. -/
import Derived.Test.YtlnfgebonmfokaaDoorKind
import Derived.Test.YtlnfgebonmfokaaDoorRefHex
import Derived.Test.YtlnfgebonmfokaaDoorEq
namespace Go.Proofs.YtlnfgebonmfokaaDoor
open Go.RowKit Plain
set_option linter.unusedVariables false
/-- The document's id is the sum of front and body. -/
def RefIdOk : Prop := ∀ (k : Int) (a : Option Addr) (m cap : Nat) (xs : List Int) (w : World), m ≤ 600 → Bytes w a m xs →
  Calls Tryd.prog 12 #[.int .i64 k, .slice a m cap] w fun e w' => e = .returned (.agg (idTo (idSum k m xs) 20)) ∧ Below w.heap.size w w'
theorem min2_run {P : Program} (ts : Array TypeId) (t : TypeId) (k k1 : IntKind) (x y : Int) (w : World) : (Builtin.min_ ts t #[.int k x, .int k1 y]).run P w = .ok (.int k (min x y)) w := by
  have e : ∀ p q : Int, (if q < p then q else p) = min p q := fun p q => by split <;> omega
  simp [Builtin.min_, Builtin.min2, e]
theorem slice_to (a : Option Addr) (m cap hi : Nat) (h2 : hi ≤ cap) (w : World) :
    (Instr.sliceAt 22 (.slice a m cap) none (some (.int .i64 (hi : Int))) none).run Tryd.prog w = .ok (.slice a hi cap) w := by
  have hsz : ∀ W : World, (sizeOf (Tryd.prog.elem 22)).run Tryd.prog W = .ok 1 W := fun W => by kernel_rfl
  have h0 : ∀ x : Addr, x.add 0 = x := fun x => by unfold Addr.add; simp
  rw [run_sliceAt_slice w 22 _ _ _ _ (by kernel_rfl), run_slice_h w 22 a m cap (by kernel_rfl) .i64 (hi : Int) (by omega) (by omega), hsz]
  simp [Result.andThen_ok, sliced, h0]
theorem few_any (a : Option Addr) (len cap q : Nat) (hq : min len 600 = q) (hlc : len ≤ cap) (hcm : cap ≤ 9223372036854775807) (w : World) :
    Calls Tryd.prog 5 #[.slice a len cap] w fun e w' => e = .returned (.slice a q cap) ∧ w' = w := by
  have hmn : ∀ (ts : Array TypeId) (t : TypeId) (W : World), (Builtin.min_ ts t #[.int .i64 (len : Int), .int .i64 600]).run Tryd.prog W = .ok (.int .i64 (q : Int)) W := fun ts t W => by
    rw [show (q : Int) = min (len : Int) 600 by omega]; exact min2_run ts t .i64 .i64 len 600 W
  have hqc : q ≤ cap := by omega
  have sl := fun W => slice_to a len cap q hqc W
  clear hq
  go_enter Tryd.func5, Tryd.ntmps5
  go_wp2_with fail
  go_ret
  exact ⟨rfl, rfl⟩
theorem eq_id (s : Five) (k : Nat) (W : World) : (Op.equalIn 10000 25 (.agg (idTo s k)) (.agg (idTo s k))).run Tryd.prog W = .ok true W := by
  have e : idTo s k = V8 ((List.range 20).map fun i => if i < k then tb s i else 0) := by
    unfold idTo V8
    rw [List.map_map]
    rfl
  rw [e, run_equalIn_arr W 25 20 Tryd.underlying25 _ _ (by simp) (by simp)]
  simp
theorem eq_id24 (s : Five) (W : World) : (Op.equalIn 10000 24 (.agg (idTo s 20)) (.agg (idTo s 20))).run Tryd.prog W = .ok true W := by
  rw [idTo_tbs, run_equalIn_arr W 24 20 Tryd.underlying24 _ _ (tbs_length s) (tbs_length s)]
  simp
theorem kindUpto_at (s : ByteArray) (j : Nat) (h : 1 ≤ j) : kindUpto s j = if wordAt (j : Int) = s then j else kindUpto s (j - 1) := by
  obtain ⟨i, rfl⟩ : ∃ i, j = i + 1 := ⟨j - 1, by omega⟩
  rfl
theorem kindUpto_next (s : ByteArray) (i : Nat) : kindUpto s (i + 1) = if wordAt ((i + 1 : Nat) : Int) = s then i + 1 else kindUpto s i := rfl
set_option maxRecDepth 100000 in
set_option maxHeartbeats 8000000 in
theorem names_any (RI : RefIdOk) (k : Int) (s0 : ByteArray) (hs0 : s0.size ≤ maxLen) (a2 : Option Addr) (len2 cap2 q : Nat) (bs : List Int) (w : World) (htab : Lib.TabIs Tryd.prog w "internal/strconv.uint64pow10" .u64 Lib.pow10Tab)
    (hlc : len2 ≤ cap2) (hcm : cap2 ≤ 9223372036854775807) (hq : min len2 600 = q) (hB : Bytes w a2 q bs) :
    Calls Tryd.prog 3 #[.int .i64 k, .string s0, .slice a2 len2 cap2] w fun e w' => e = .returned (.bool true) ∧ Below w.heap.size w w' := by
  have HRI : Hid RefIdOk := RI
  have HT : Hid (Lib.TabIs Tryd.prog w "internal/strconv.uint64pow10" .u64 Lib.pow10Tab) := htab
  have HB : Hid (Bytes w a2 q bs) := hB
  have hz := zeroId_run
  have ez : zeroId.size = 20 := zeroId_size
  have hq6 : q ≤ 600 := by omega
  have hqc : q ≤ cap2 := by omega
  clear RI htab hB
  obtain ⟨p, hp⟩ : ∃ p, min s0.size 100 = p := ⟨_, rfl⟩
  have hpi : min (s0.size : Int) 100 = (p : Int) := by omega
  have hp1 : p ≤ s0.size := by omega
  have hmin := fun (ts : Array TypeId) (t : TypeId) (W : World) => min2_run (P := Tryd.prog) ts t .i64 .i64 (s0.size : Int) 100 W
  rw [hpi] at hmin
  clear hp hpi
  go_enter Tryd.func3, Tryd.ntmps3
  go_wp2_with fail
  refine (few_any a2 len2 cap2 q hq hlc hcm w).mono ?_
  rintro e w0 ⟨rfl, rfl⟩
  clear hq
  go_wp2_with fail
  generalize s0.extract 0 p = S at *
  clear hmin hp1 hs0
  refine (id_any k a2 q cap2 bs (by omega) hqc w0 HB.out HT.out).mono ?_
  rintro e w1 ⟨hp, hb1⟩
  obtain ⟨row, er, hp2, hrow⟩ : ∃ row er, e = .returned (.tuple #[.agg row, .int .i64 er]) ∧ ((wordAt k = wNone ∧ row = zeroId ∧ er = 1) ∨ (wordAt k ≠ wNone ∧ row = idTo (idSum k q bs) 20 ∧ er = 0)) := by
    rcases hp with ⟨h, rfl⟩ | ⟨-, h, -⟩ | ⟨h, -, rfl⟩
    · exact ⟨_, _, rfl, .inl ⟨h, rfl, rfl⟩⟩
    · omega
    · exact ⟨_, _, rfl, .inr ⟨h, rfl, rfl⟩⟩
  subst hp2
  have HROW : Hid ((wordAt k = wNone ∧ row = zeroId ∧ er = 1) ∨ (wordAt k ≠ wNone ∧ row = idTo (idSum k q bs) 20 ∧ er = 0)) := hrow
  have HRS : Hid (row.size = 20) := by
    rcases hrow with ⟨-, rfl, -⟩ | ⟨-, rfl, -⟩
    · exact ez
    · exact idTo_size _ _
  have HRO : Hid (row.all (·.oneCell') = true) := by
    rcases hrow with ⟨-, rfl, -⟩ | ⟨-, rfl, -⟩
    · exact oneId _ _
    · exact oneId _ _
  clear hp hrow
  have HW1 : Hid (Below w0.heap.size w0 w1) := hb1
  clear hb1
  have HI : Hid ((Tryd.prog.info? 25).map (·.size) = some row.size) := infoId _ HRS.out
  have HLZ : Hid (zeroId.size = row.size) := ez.trans HRS.out.symm
  have HN1 : Hid ((w1.alloc (.cells zeroId 25)).heap[w1.heap.size]? = some (.cells zeroId 25 (0, 0))) := heap_alloc_new w1 _
  have HB1 : Hid (Below w0.heap.size w0 (w1.alloc (.cells zeroId 25))) := HW1.out.alloc HW1.out.size _
  have HS1 : Hid (w0.heap.size ≤ w1.heap.size) := HW1.out.size
  have tok : True := trivial
  go_wp2_with (have _t := tok; refine wpList_store_row rfl 25 (.tmp 7) (.tmp 23) rfl w1.heap.size row rfl rfl 25 zeroId HN1.out HI.out HLZ.out HRO.out ?_; clear tok; refine Hid.out ?_)
  have HN2 : Hid (((w1.alloc (.cells zeroId 25)).setRow w1.heap.size row).heap[w1.heap.size]? = some (.cells row 25 (0, 0))) := setRow_heap _ _ _ _ _ _ HN1.out
  have HB2 : Hid (Below w0.heap.size w0 ((w1.alloc (.cells zeroId 25)).setRow w1.heap.size row)) := below_setRow HB1.out HS1.out _
  have HSZ : Hid (w1.heap.size < ((w1.alloc (.cells zeroId 25)).setRow w1.heap.size row).heap.size) := by
    rcases Nat.lt_or_ge w1.heap.size ((w1.alloc (.cells zeroId 25)).setRow w1.heap.size row).heap.size with h | h
    · exact h
    · have := HN2.out; rw [Array.getElem?_eq_none h] at this; cases this
  clear HN1 HB1 HS1 HW1 ez
  generalize (w1.alloc (.cells zeroId 25)).setRow w1.heap.size row = w2 at *
  generalize w1.heap.size = g at *
  refine unhid ?_
  go_wp2_with fail
  go_loopw [9, 10] (fun u v wr => ∃ j : Nat, 1 ≤ j ∧ j ≤ 5 ∧ v = .int .i64 (j : Int) ∧ u = .int .i64 ((kindUpto S (j - 1) : Nat) : Int) ∧ wr = w2) (fun _ v _ => 5 - (intOf v).toNat)
  case atStart => exact ⟨1, by omega, by omega, rfl, rfl, rfl⟩
  case round =>
    obtain ⟨j, hj1, hj5, rfl, rfl, rfl⟩ := hrel
    by_cases hlt : j ≤ 4
    · have hli : (j : Int) ≤ 4 := by omega
      have hku := kindUpto_at S j hj1
      have hul := kindUpto_le S (j - 1)
      go_wp2_with fail
      refine (refWord_any (j : Int) wr).mono ?_
      rintro e w' ⟨rfl, hw⟩
      subst hw
      by_cases hs : wordAt (j : Int) = S
      · rw [if_pos hs] at hku
        have HKU : Hid (kindUpto S j = j) := hku
        rw [hs]
        clear hku hul hs
        go_wp2_with fail
        exact ⟨⟨j + 1, by omega, by omega, by go_num, by rw [Nat.add_sub_cancel, HKU.out], trivial⟩, by simp [intOf]; omega⟩
      · rw [if_neg hs] at hku
        have HKU : Hid (kindUpto S j = kindUpto S (j - 1)) := hku
        have hne := beq_list _ _ hs
        clear hku hs
        generalize wordAt (j : Int) = wj at *
        generalize kindUpto S (j - 1) = kv at *
        go_wp2_with fail
        exact ⟨⟨j + 1, by omega, by omega, by go_num, by rw [Nat.add_sub_cancel, HKU.out], trivial⟩, by simp [intOf]; omega⟩
    · obtain rfl : j = 5 := by omega
      rw [show (5 - 1 : Nat) = 4 from rfl]
      clear hj1 hj5 hlt
      go_wp2_with fail
      refine (known_any wr (tab_below HT.out HB2.out)).mono ?_
      rintro e w3 ⟨rfl, hb3⟩
      have HN3 : Hid (w3.heap[g]? = some (.cells row 25 (0, 0))) := (hb3.block _ HSZ.out).trans HN2.out
      have HS3 : Hid (g < w3.heap.size) := Nat.lt_of_lt_of_le HSZ.out hb3.size
      have HB3 : Hid (Below w0.heap.size w0 w3) := HB2.out.trans (hb3.mono HB2.out.size)
      clear hb3 HN2 HSZ HB2
      go_wp2_with fail
      refine (word_any k w3).mono ?_
      rintro e w4 ⟨rfl, hb4⟩
      have HN4 : Hid (w4.heap[g]? = some (.cells row 25 (0, 0))) := (hb4.block _ HS3.out).trans HN3.out
      have HS4 : Hid (g < w4.heap.size) := Nat.lt_of_lt_of_le HS3.out hb4.size
      have HB4 : Hid (Below w0.heap.size w0 w4) := HB3.out.trans (hb4.mono HB3.out.size)
      clear hb4 HN3 HS3 HB3
      go_wp2_with fail
      refine (refWord_any k w4).mono ?_
      rintro e w' ⟨rfl, hw⟩
      subst hw
      go_wp2_with fail
      refine (kind_any S w').mono ?_
      rintro e w5 ⟨rfl, hb5⟩
      have HN5 : Hid (w5.heap[g]? = some (.cells row 25 (0, 0))) := (hb5.block _ HS4.out).trans HN4.out
      have HS5 : Hid (g < w5.heap.size) := Nat.lt_of_lt_of_le HS4.out hb5.size
      have HB5 : Hid (Below w0.heap.size w0 w5) := HB4.out.trans (hb5.mono HB4.out.size)
      clear hb5 HN4 HS4 HB4
      go_wp2_with fail
      refine (refWord_any k w5).mono ?_
      rintro e w'' ⟨rfl, hw⟩
      subst hw
      obtain ⟨wk, hwk⟩ : ∃ wk, wordAt k = wk := ⟨_, rfl⟩
      have HWK : Hid (wordAt k = wk) := hwk
      rw [hwk]
      clear hwk
      rcases HROW.out with ⟨hw, hr, he⟩ | ⟨hw, hr, he⟩
      · rw [HWK.out] at hw
        subst hw hr he
        have hem := none_empty
        have heq : ∀ W : World, (Op.equalIn 10000 25 (.agg zeroId) (.agg zeroId)).run Tryd.prog W = .ok true W := fun W => eq_id (sumOf []) 0 W
        clear HROW HWK
        have tok : True := trivial
        go_wp2_with (have _t := tok; refine wpList_load_row_g (by rfl) 25 _ rfl g rfl 25 zeroId (0, 0) (.array 20 5) HN5.out Tryd.underlying25 rfl HI.out ?_; clear tok)
        go_ret
        exact ⟨rfl, HB5.out⟩
      · rw [HWK.out] at hw
        have hne := some_full wk hw
        have HX : Hid (∀ W : World, Calls Tryd.prog 11 #[.agg row] W fun e W' => e = .returned (.string (hexT (idSum k q bs))) ∧ Below W.heap.size W W') := fun W => by
          rw [hr, idTo_tbs]
          have := refHex_any (tbs (idSum k q bs)) W (tbs_length _) (tbs_bytes _)
          rwa [hexN_text _ (tbs_bytes _)] at this
        have HP : Hid (∀ W : World, Calls Tryd.prog 13 #[.agg row] W fun e W' => e = .returned (.string ((⟨#[111, 98, 106, 101, 99, 116, 115, 47]⟩ : ByteArray) ++ (hexT (idSum k q bs)).extract 0 2 ++ (⟨#[47]⟩ : ByteArray) ++ (hexT (idSum k q bs)).extract 2 40)) ∧ Below W.heap.size W W') := fun W => by
          rw [hr]; exact path_any _ W
        have HR : Hid (∀ W : World, Below w0.heap.size w0 W → Calls Tryd.prog 12 #[.int .i64 k, .slice a2 q cap2] W fun e W' => e = .returned (.agg row) ∧ Below W.heap.size W W') := fun W hW => by
          rw [hr]; exact HRI.out k a2 q cap2 bs W hq6 (HB.out.below hW)
        have HE : Hid (∀ W : World, (Op.equalIn 10000 24 (.agg row) (.agg row)).run Tryd.prog W = .ok true W) := fun W => by
          rw [hr]; exact eq_id24 _ W
        have HHS : Hid ((hexT (idSum k q bs)).size = 40) := hexT_size _
        clear HROW HWK hr HRI HRS HRO HLZ HT HB
        subst he
        generalize hexT (idSum k q bs) = h at *
        have tok : True := trivial
        go_wp2_with (have _t := tok; refine wpList_load_row_g (by rfl) 25 _ rfl g rfl 25 row (0, 0) (.array 20 5) HN5.out Tryd.underlying25 rfl HI.out ?_; clear tok)
        refine (HX.out w'').mono ?_
        rintro e w6 ⟨rfl, hb6⟩
        have HN6 : Hid (w6.heap[g]? = some (.cells row 25 (0, 0))) := (hb6.block _ HS5.out).trans HN5.out
        have HS6 : Hid (g < w6.heap.size) := Nat.lt_of_lt_of_le HS5.out hb6.size
        have HB6 : Hid (Below w0.heap.size w0 w6) := HB5.out.trans (hb6.mono HB5.out.size)
        clear hb6 HN5 HS5 HB5 HX hne
        obtain ⟨cs, rfl⟩ : ∃ cs : List Value, row = cs.toArray := ⟨row.toList, by simp⟩
        have HLD : Hid (∀ W : World, W.heap[g]? = some (.cells cs.toArray 25 (0, 0)) → W.rangeAt g 0 cs) := fun W hW j v hv => by
          rw [Nat.zero_add, cell_row W g j _ _ _ hW]; simpa using hv
        have hun := Tryd.underlying25
        have hin : (Tryd.prog.info? 25).map (·.size) = some cs.length := by rw [HI.out]; simp
        have hs := HHS.out
        have hs1 : (h.extract 0 2).size = 2 := by rw [ByteArray.size_extract, hs]; rfl
        have hs2 : (h.extract 2 40).size = 38 := by rw [ByteArray.size_extract, hs]; rfl
        have heq : ∀ W : World, (binOp .eql 24 (.agg cs.toArray) (.agg cs.toArray)).run Tryd.prog W = .ok (.bool true) W := fun W => by
          rw [run_eql_struct, HE.out]; rfl
        go_wp2_with fail
        refine wp_region_noPanic ?_
        refine wp_region_held_drew (S := fun W => W.rangeAt g 0 cs) (by kernel_rfl) ?_ (fun hHeld => ?_)
        · exact HLD.out _ HN6.out
        refine wpAnyH_take (i := 0) (v := ?_) (by simp only [List.getElem?_toArray, List.getElem?_cons_zero]; rfl) (by kernel_rfl) (by kernel_rfl) (by kernel_rfl) (fun _ _ _ h => h) (Or.inl ⟨by rfl, ?_⟩) (by assumption) ?_
        rotate_left
        · intro w hSw
          go_simp
          try with_reducible rfl
        try simp only [Act.put, List.setIfInBounds_toArray, List.set_cons_zero, List.set_cons_succ]
        refine wpAnyH_take (i := 1) (v := ?_) (by simp only [List.getElem?_toArray, List.getElem?_cons_succ, List.getElem?_cons_zero]; rfl) (by kernel_rfl) (by kernel_rfl) (by kernel_rfl) (fun _ _ _ h => h) (Or.inl ⟨by rfl, ?_⟩) (by assumption) ?_
        rotate_left
        · intro w hSw
          go_simp
          try with_reducible rfl
        try simp only [Act.put, List.setIfInBounds_toArray, List.set_cons_zero, List.set_cons_succ]
        refine wpAnyH_take (i := 2) (v := ?_) (by simp only [List.getElem?_toArray, List.getElem?_cons_succ, List.getElem?_cons_zero]; rfl) (by kernel_rfl) (by kernel_rfl) (by kernel_rfl) (fun _ _ _ h => h) (Or.inl ⟨by rfl, ?_⟩) (by assumption) ?_
        rotate_left
        · intro w hSw
          go_simp
          try with_reducible rfl
        try simp only [Act.put, List.setIfInBounds_toArray, List.set_cons_zero, List.set_cons_succ]
        refine wpAnyH_take (i := 3) (by simp only [List.getElem?_toArray, List.getElem?_cons_succ, List.getElem?_cons_zero]; rfl) (by kernel_rfl) (by kernel_rfl) (by kernel_rfl) (fun _ _ _ h => h) (yieldsIf_load_mid (by rfl) _ _ rfl g 0 rfl cs (.array 20 5) (fun w h => h) hun rfl hin) (by assumption) ?_
        try simp only [Act.put, List.setIfInBounds_toArray, List.set_cons_zero, List.set_cons_succ]
        refine wpAnyH_take (i := 4) (v := ?_) (by simp only [List.getElem?_toArray, List.getElem?_cons_succ, List.getElem?_cons_zero]; rfl) (by kernel_rfl) (by kernel_rfl) (by kernel_rfl) (fun _ _ _ h => h) (Or.inl ⟨by rfl, ?_⟩) (by assumption) ?_
        rotate_left
        · intro w hSw
          go_simp
          try with_reducible rfl
        try simp only [Act.put, List.setIfInBounds_toArray, List.set_cons_zero, List.set_cons_succ]
        refine wpAnyH_take (i := 5) (v := ?_) (by simp only [List.getElem?_toArray, List.getElem?_cons_succ, List.getElem?_cons_zero]; rfl) (by kernel_rfl) (by kernel_rfl) (by kernel_rfl) (fun _ _ _ h => h) (Or.inl ⟨by rfl, ?_⟩) (by assumption) ?_
        rotate_left
        · intro w hSw
          go_simp
          try with_reducible rfl
        try simp only [Act.put, List.setIfInBounds_toArray, List.set_cons_zero, List.set_cons_succ]
        refine wpAnyH_ready (rs := [6]) (by kernel_rfl) (by simp) ?_
        refine AllReadyH.cons (by simp only [List.getElem?_toArray, List.getElem?_cons_succ, List.getElem?_cons_zero]; rfl) (fun K hK => ?_) AllReadyH.nil
        go_simp
        refine (HR.out _ (Below.drew HB6.out)).mono ?_
        rintro e wa ⟨rfl, hba⟩
        have HNa : Hid (wa.heap[g]? = some (.cells cs.toArray 25 (0, 0))) := (hba.block _ HS6.out).trans HN6.out
        have HSa : Hid (g < wa.heap.size) := Nat.lt_of_lt_of_le HS6.out hba.size
        have HBa : Hid (Below w0.heap.size w0 wa) := HB6.out.drew.trans (hba.mono HB6.out.size)
        clear hba
        go_wp2_with fail
        refine hK.out _ _ (HLD.out _ HNa.out) (fun hHeld => ?_)
        clear hK K
        try simp only [Act.put, List.setIfInBounds_toArray, List.set_cons_zero, List.set_cons_succ]
        refine wpAnyH_take (i := 7) (v := ?_) (by simp only [List.getElem?_toArray, List.getElem?_cons_succ, List.getElem?_cons_zero]; rfl) (by kernel_rfl) (by kernel_rfl) (by kernel_rfl) (fun _ _ _ h => h) (Or.inl ⟨by rfl, ?_⟩) (by assumption) ?_
        rotate_left
        · intro w hSw
          go_simp
          try with_reducible rfl
        try simp only [Act.put, List.setIfInBounds_toArray, List.set_cons_zero, List.set_cons_succ]
        refine wpAnyH_take (i := 8) (v := ?_) (by simp only [List.getElem?_toArray, List.getElem?_cons_succ, List.getElem?_cons_zero]; rfl) (by kernel_rfl) (by kernel_rfl) (by kernel_rfl) (fun _ _ _ h => h) (Or.inl ⟨by rfl, ?_⟩) (by assumption) ?_
        rotate_left
        · intro w hSw
          go_simp
          try with_reducible rfl
        try simp only [Act.put, List.setIfInBounds_toArray, List.set_cons_zero, List.set_cons_succ]
        refine wpAnyH_take (i := 9) (v := ?_) (by simp only [List.getElem?_toArray, List.getElem?_cons_succ, List.getElem?_cons_zero]; rfl) (by kernel_rfl) (by kernel_rfl) (by kernel_rfl) (fun _ _ _ h => h) (Or.inl ⟨by rfl, ?_⟩) (by assumption) ?_
        rotate_left
        · intro w hSw
          go_simp
          try with_reducible rfl
        try simp only [Act.put, List.setIfInBounds_toArray, List.set_cons_zero, List.set_cons_succ]
        refine wpAnyH_take (i := 10) (by simp only [List.getElem?_toArray, List.getElem?_cons_succ, List.getElem?_cons_zero]; rfl) (by kernel_rfl) (by kernel_rfl) (by kernel_rfl) (fun _ _ _ h => h) (yieldsIf_load_mid (by rfl) _ _ rfl g 0 rfl cs (.array 20 5) (fun w h => h) hun rfl hin) (by assumption) ?_
        try simp only [Act.put, List.setIfInBounds_toArray, List.set_cons_zero, List.set_cons_succ]
        refine wpAnyH_take (i := 12) (v := ?_) (by simp only [List.getElem?_toArray, List.getElem?_cons_succ, List.getElem?_cons_zero]; rfl) (by kernel_rfl) (by kernel_rfl) (by kernel_rfl) (fun _ _ _ h => h) (Or.inl ⟨by rfl, ?_⟩) (by assumption) ?_
        rotate_left
        · intro w hSw
          go_simp
          try with_reducible rfl
        try simp only [Act.put, List.setIfInBounds_toArray, List.set_cons_zero, List.set_cons_succ]
        refine wpAnyH_take (i := 13) (v := ?_) (by simp only [List.getElem?_toArray, List.getElem?_cons_succ, List.getElem?_cons_zero]; rfl) (by kernel_rfl) (by kernel_rfl) (by kernel_rfl) (fun _ _ _ h => h) (Or.inl ⟨by rfl, ?_⟩) (by assumption) ?_
        rotate_left
        · intro w hSw
          go_simp
          try with_reducible rfl
        try simp only [Act.put, List.setIfInBounds_toArray, List.set_cons_zero, List.set_cons_succ]
        refine wpAnyH_take (i := 14) (v := ?_) (by simp only [List.getElem?_toArray, List.getElem?_cons_succ, List.getElem?_cons_zero]; rfl) (by kernel_rfl) (by kernel_rfl) (by kernel_rfl) (fun _ _ _ h => h) (Or.inl ⟨by rfl, ?_⟩) (by assumption) ?_
        rotate_left
        · intro w hSw
          go_simp
          try with_reducible rfl
        try simp only [Act.put, List.setIfInBounds_toArray, List.set_cons_zero, List.set_cons_succ]
        refine wpAnyH_take (i := 15) (v := ?_) (by simp only [List.getElem?_toArray, List.getElem?_cons_succ, List.getElem?_cons_zero]; rfl) (by kernel_rfl) (by kernel_rfl) (by kernel_rfl) (fun _ _ _ h => h) (Or.inl ⟨by rfl, ?_⟩) (by assumption) ?_
        rotate_left
        · intro w hSw
          go_simp
          try with_reducible rfl
        try simp only [Act.put, List.setIfInBounds_toArray, List.set_cons_zero, List.set_cons_succ]
        refine wpAnyH_take (i := 16) (v := ?_) (by simp only [List.getElem?_toArray, List.getElem?_cons_succ, List.getElem?_cons_zero]; rfl) (by kernel_rfl) (by kernel_rfl) (by kernel_rfl) (fun _ _ _ h => h) (Or.inl ⟨by rfl, ?_⟩) (by assumption) ?_
        rotate_left
        · intro w hSw
          go_simp
          try with_reducible rfl
        try simp only [Act.put, List.setIfInBounds_toArray, List.set_cons_zero, List.set_cons_succ]
        refine wpAnyH_take (i := 17) (v := ?_) (by simp only [List.getElem?_toArray, List.getElem?_cons_succ, List.getElem?_cons_zero]; rfl) (by kernel_rfl) (by kernel_rfl) (by kernel_rfl) (fun _ _ _ h => h) (Or.inl ⟨by rfl, ?_⟩) (by assumption) ?_
        rotate_left
        · intro w hSw
          go_simp
          try with_reducible rfl
        try simp only [Act.put, List.setIfInBounds_toArray, List.set_cons_zero, List.set_cons_succ]
        refine wpAnyH_take (i := 18) (v := ?_) (by simp only [List.getElem?_toArray, List.getElem?_cons_succ, List.getElem?_cons_zero]; rfl) (by kernel_rfl) (by kernel_rfl) (by kernel_rfl) (fun _ _ _ h => h) (Or.inl ⟨by rfl, ?_⟩) (by assumption) ?_
        rotate_left
        · intro w hSw
          go_simp
          try with_reducible rfl
        try simp only [Act.put, List.setIfInBounds_toArray, List.set_cons_zero, List.set_cons_succ]
        refine wpAnyH_ready (rs := [11]) (by kernel_rfl) (by simp) ?_
        refine AllReadyH.cons (by simp only [List.getElem?_toArray, List.getElem?_cons_succ, List.getElem?_cons_zero]; rfl) (fun K hK => ?_) AllReadyH.nil
        go_simp
        refine (HP.out _).mono ?_
        rintro e wb ⟨rfl, hbb⟩
        have HNb : Hid (wb.heap[g]? = some (.cells cs.toArray 25 (0, 0))) := (hbb.block _ HSa.out).trans HNa.out
        have HBb : Hid (Below w0.heap.size w0 wb) := HBa.out.trans (hbb.mono HBa.out.size)
        clear hbb
        go_wp2_with fail
        refine hK.out _ _ (HLD.out _ HNb.out) (fun hHeld => ?_)
        clear hK K
        try simp only [Act.put, List.setIfInBounds_toArray, List.set_cons_zero, List.set_cons_succ]
        refine wpAnyH_take (i := 19) (v := ?_) (by simp only [List.getElem?_toArray, List.getElem?_cons_succ, List.getElem?_cons_zero]; rfl) (by kernel_rfl) (by kernel_rfl) (by kernel_rfl) (fun _ _ _ h => h) (Or.inl ⟨by rfl, ?_⟩) (by assumption) ?_
        rotate_left
        · intro w hSw
          go_simp
          try with_reducible rfl
        try simp only [Act.put, List.setIfInBounds_toArray, List.set_cons_zero, List.set_cons_succ]
        refine wpAnyH_take (i := 20) (v := ?_) (by simp only [List.getElem?_toArray, List.getElem?_cons_succ, List.getElem?_cons_zero]; rfl) (by kernel_rfl) (by kernel_rfl) (by kernel_rfl) (fun _ _ _ h => h) (Or.inl ⟨by rfl, ?_⟩) (by assumption) ?_
        rotate_left
        · intro w hSw
          go_simp
          try with_reducible rfl
        try simp only [Act.put, List.setIfInBounds_toArray, List.set_cons_zero, List.set_cons_succ]
        refine wpAnyH_take (i := 21) (v := ?_) (by simp only [List.getElem?_toArray, List.getElem?_cons_succ, List.getElem?_cons_zero]; rfl) (by kernel_rfl) (by kernel_rfl) (by kernel_rfl) (fun _ _ _ h => h) (Or.inl ⟨by rfl, ?_⟩) (by assumption) ?_
        rotate_left
        · intro w hSw
          go_simp
          try with_reducible rfl
        try simp only [Act.put, List.setIfInBounds_toArray, List.set_cons_zero, List.set_cons_succ]
        refine wpAnyH_done (by kernel_rfl) ?_ _
        refine NoPanic.normal ?_
        go_wp2_with fail
        go_ret
        exact ⟨rfl, HBb.out⟩
end Go.Proofs.YtlnfgebonmfokaaDoor
