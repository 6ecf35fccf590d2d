/- ManifestDiffs: the walk. -/
import Derived.Test.YtcbjadecocggjaaDoorMgRef
import Derived.Test.YtcbjadecocggjaaDoorMgFind
import Derived.Test.YtcbjadecocggjaaDoorMfKnown
namespace Go.Proofs.YtcbjadecocggjaaDoor
open Go.Sort Go.RowKit Go.WideMaps Go.Maps Plain Go.ChangeShapes Go.WideShapes Go.ChangeAt Go.Great
set_option linter.unusedVariables false
set_option linter.unusedSimpArgs false
theorem yieldsIf_buildM {P : Program} {ops : Array Oper} {S : World → Prop} {op : Oper} {a : Act} (hw : Region.wanted op (yielded ops a.tmps) = true) (ty : TypeId) (ps : Array (Nat × Operand)) (ho : op.op = .build ty ps)
    (qs : Array (Nat × Value)) (hq : (ps.map fun (i, x) => (i, a.eval x)) = qs) (v : Value) (hr : ∀ W, (Instr.build ty qs).run P W = .ok v W) : YieldsIf P ops S op v a := by
  refine .inl ⟨hw, fun W hS => ?_⟩
  unfold execOp
  simp only [ho, hq, Sem.run_bind, hr, Result.andThen_ok]
  rfl
theorem slice_frontM (s : ByteArray) (m : Nat) (h2 : m ≤ s.size) (x : Int) (hx : x = (m : Int)) (w : World) : (Instr.slice 9 (.string s) none (some (.int .i64 x)) none).run Tryd.prog w = .ok (.string (s.extract 0 m)) w := by
  subst hx
  have ht := Tryd.underlying9
  simp [Instr.slice, run_underlying ht, Instr.sliceBounds, run_sliceBound, h2]
theorem neq_sameM (s : ByteArray) (W : World) : (binOp .neq 9 (.string s) (.string s)).run Tryd.prog W = .ok (.bool false) W :=
  ne_str s s true (beq_self_eq_true _) W
theorem fewF_size (x : MF) : (fewF x).p.size ≤ 100000 := by
  show (x.p.extract 0 (min x.p.size 300)).size ≤ 100000
  rw [ByteArray.size_extract]; omega
/-- The two rows are one list. -/
theorem one_list {A B : List MF} {ss os : List (List UInt8)} (h1 : ss.Nodup) (h2 : ∀ a, a ∈ ss ↔ InD A B a) (h3 : Ord os) (h4 : os.Nodup) (h5 : ∀ a, a ∈ os ↔ InD A B a) : (ss.mergeSort fun x y => decide (x ≤ y)) = os :=
  (sorted_one h1 h4 fun a => (h2 a).trans (h5 a).symm).trans (ord_self h3)
/-- The first place at or behind j. -/
def fromAt (f : MF → Bool) (l : List MF) (j : Nat) : Int := match foundI f (l.drop j) with | some k => ((j + k : Nat) : Int) | none => -1
theorem fromAt_end {f : MF → Bool} {l : List MF} {j : Nat} (h : l.length ≤ j) : fromAt f l j = -1 := by
  unfold fromAt
  rw [List.drop_eq_nil_of_le h]; rfl
theorem drop_at {l : List MF} {j : Nat} {x : MF} (h : l[j]? = some x) : l.drop j = x :: l.drop (j + 1) := by
  obtain ⟨hl, rfl⟩ := List.getElem?_eq_some_iff.1 h
  exact List.drop_eq_getElem_cons hl
theorem fromAt_hit {f : MF → Bool} {l : List MF} {j : Nat} {x : MF} (h : l[j]? = some x) (hf : f x = true) : fromAt f l j = (j : Int) := by
  unfold fromAt
  rw [drop_at h]
  unfold foundI
  rw [if_pos hf]; rfl
theorem fromAt_miss {f : MF → Bool} {l : List MF} {j : Nat} {x : MF} (h : l[j]? = some x) (hf : f x = false) : fromAt f l j = fromAt f l (j + 1) := by
  unfold fromAt
  rw [drop_at h]
  conv => lhs; unfold foundI
  rw [if_neg (by rw [hf]; decide)]
  cases foundI f (l.drop (j + 1)) with
  | none => rfl
  | some k => show ((j + (k + 1) : Nat) : Int) = ((j + 1 + k : Nat) : Int); omega
theorem fromAt_zero (f : MF → Bool) (l : List MF) : fromAt f l 0 = foundV (foundI f l) := by
  unfold fromAt foundV
  rw [List.drop_zero]
  cases foundI f l with
  | none => rfl
  | some k => show ((0 + k : Nat) : Int) = (k : Int); omega
theorem OwnF.emptyN (w : World) : OwnF 32 (w.alloc (.cells #[] 32)) w.heap.size (.slice (some ⟨w.heap.size, 0, none⟩) 0 0) [] :=
  ⟨⟨rfl, .inr ⟨w.heap.size, 0, #[], rfl, Nat.le_refl _, heap_alloc_new w _, Nat.le_refl _, by unfold maxLen; omega, rfl, rfl⟩⟩, by simp⟩
theorem slice_noNF (W : World) : (Instr.buildSlice 23 0 #[]).run Tryd.prog W = .ok (.slice (some ⟨W.heap.size, 0, none⟩) 0 0) (W.alloc (.cells #[] 32)) := by
  obtain ⟨i, hi, hz, h1, -⟩ := parts_file
  simp [Instr.buildSlice, Instr.fill, run_underlying Tryd.underlying23, sizeOf, typeInfo, hi, newRow]
  have e : ∀ f : Nat → Value, Array.map f (Array.range 0) = #[] := fun f => Array.eq_empty_of_size_eq_zero (by simp)
  rw [e]
theorem wp_append_filesNR {w : World} {o : Oper} {ac : Act} {K : Act → World → Prop} {Q : Exit → Act → World → Prop} (s x : Operand)
    (ho : o.op = .call { callee := .builtin .append, args := #[s, x], argTypes := #[23, 23] })
    (base : Nat) (v : Value) (xs : List MF) (n : Nat) (hn : xs.length = n) (hs : ac.eval s = v) (hown : OwnF 32 w base v xs) (g0 off m c : Nat) (ys : List MF) (hm : ys.length = m) (hm0 : 0 < m) (hy20 : ∀ y ∈ ys, y.n.length = 20)
    (hx : ac.eval x = .slice (some ⟨g0, off, none⟩) m c) (hy : ∀ (j : Nat) y, ys[j]? = some y → w.rangeAt g0 (off + j * 22) (fileL y)) (n2 : Nat) (zs : List MF) (hn2 : n + m = n2) (hzs : xs ++ ys = zs)
    (hsum : n2 ≤ 1000001) (hbase : base ≤ w.heap.size)
    (h : ∀ g c w', OwnF 32 w' base (.slice (some ⟨g, 0, none⟩) n2 c) zs → w.grownBy w' v.ownBlock → (v.ownBlock = some g ∨ g = w.heap.size) → g < w'.heap.size → K (ac.put o.dst (.slice (some ⟨g, 0, none⟩) n2 c)) w') :
    Oper.wp Tryd.prog o ac w K Q := by
  obtain ⟨i, hi, hz, h1, h8⟩ := parts_file
  subst hn hn2 hzs
  refine wp_append_lies w s x 23 ho base 32 i (.agg (fileA noFile)) 22 56 Tryd.underlying23 hi hz h1 h8 (by show (fileA noFile).size = 22; rw [fileA_size _ zeros20_len]) (by omega) v xs.length _ hs hown.1 ⟨g0, off, none⟩ m c (flatF ys) hx (by rw [flatF_len ys hy20, hm]) (flat_cells hy20 hy) (flatF_ones ys) hm0 (by unfold maxLen; omega) (by omega) hbase _ rfl fun g c w' a1 a2 a3 a4 => ?_
  refine h g c w' ⟨?_, fun q hq => ?_⟩ a2 a3 a4
  · rw [flatF_append, List.length_append, hm]; exact a1
  · rcases List.mem_append.1 hq with hq | hq
    · exact hown.2 q hq
    · exact hy20 q hq
theorem wp_append_filesN {w : World} {o : Oper} {ac : Act} {K : Act → World → Prop} {Q : Exit → Act → World → Prop} (s x : Operand)
    (ho : o.op = .call { callee := .builtin .append, args := #[s, x], argTypes := #[23, 23] })
    (base : Nat) (v : Value) (xs : List MF) (n : Nat) (hn : xs.length = n) (hs : ac.eval s = v) (hown : OwnF 32 w base v xs) (ax : Option Addr) (m c : Nat) (ys : List MF) (hm : ys.length = m)
    (hx : ac.eval x = .slice ax m c) (hy : FsAt w ax ys) (n2 : Nat) (zs : List MF) (hn2 : n + m = n2) (hzs : xs ++ ys = zs) (hsum : n2 ≤ 1000001) (hbase : base ≤ w.heap.size)
    (h : ∀ v' w', OwnF 32 w' base v' zs → w.grownBy w' v.ownBlock → K (ac.put o.dst v') w') :
    Oper.wp Tryd.prog o ac w K Q := by
  by_cases h0 : m = 0
  · subst h0
    have e : ys = [] := List.length_eq_zero_iff.1 hm
    subst e hzs
    rw [List.append_nil] at h
    obtain ⟨i, hi, -⟩ := parts_file
    have hrun := run_append_zero (P := Tryd.prog) w base 23 o.type 32 i 22 (Tryd.underlying23) hi v _ _ hown.1 ax c
    unfold Oper.wp
    simp [execOp, ho, resolve, invoke, builtin, hs, hx, hrun, Result.andThen]
    exact h v w hown (⟨rfl, rfl, rfl, Nat.le_refl _, fun _ _ _ => rfl⟩)
  · obtain ⟨b, off, rfl, hb, hc⟩ := hy.rows.resolve_left (by omega)
    exact wp_append_filesNR s x ho base v xs n hn hs hown b off m c ys hm (by omega) (fun y hy' => hy.each y hy') hx hc n2 zs hn2 hzs hsum hbase fun g c w' h1 h2 _ _ => h _ w' h1 h2
theorem wpList_append_filesN {w : World} {ops : Array Oper} {rest : List Oper} {o : Oper} {ac : Act} {Q : Exit → Act → World → Prop} (hw : Region.wanted o (yielded ops ac.tmps) = true) (s x : Operand)
    (ho : o.op = .call { callee := .builtin .append, args := #[s, x], argTypes := #[23, 23] })
    (base : Nat) (v : Value) (xs : List MF) (n : Nat) (hn : xs.length = n) (hs : ac.eval s = v) (hown : OwnF 32 w base v xs) (ax : Option Addr) (m c : Nat) (ys : List MF) (hm : ys.length = m)
    (hx : ac.eval x = .slice ax m c) (hy : FsAt w ax ys) (n2 : Nat) (zs : List MF) (hn2 : n + m = n2) (hzs : xs ++ ys = zs) (hsum : n2 ≤ 1000001) (hbase : base ≤ w.heap.size)
    (h : ∀ v' w', OwnF 32 w' base v' zs → w.grownBy w' v.ownBlock → wpList Tryd.prog ops Q rest (ac.put o.dst v') w') :
    wpList Tryd.prog ops Q (o :: rest) ac w := by
  refine wpList_step ?_
  intro K hK
  rw [if_pos hw]
  exact wp_append_filesN s x ho base v xs n hn hs hown ax m c ys hm hx hy n2 zs hn2 hzs hsum hbase fun v' w' h1 h2 => hK _ _ (h v' w' h1 h2)
set_option maxRecDepth 100000 in
set_option maxHeartbeats 32000000 in
theorem lawmgdiffs_any (a : Option Addr) (c : Nat) (xs : List MF) (b : Option Addr) (cb : Nat) (ys : List MF) (s : ByteArray) (w : World) (hE : Env w) (h1 : FsAt w a xs) (hn : xs.length ≤ 9223372036854775807) (h2 : FsAt w b ys) (hm : ys.length ≤ 9223372036854775807) :
    Calls Tryd.prog 3 #[.slice a xs.length c, .slice b ys.length cb, .string s] w fun e w' => e = .returned (.bool true) ∧ Below w.heap.size w w' := by
  have HE := Lib.hid hE
  obtain ⟨A, hA⟩ : ∃ A, (xs.take 40).map fewF = A := ⟨_, rfl⟩
  obtain ⟨B, hB⟩ : ∃ B, (ys.take 40).map fewF = B := ⟨_, rfl⟩
  obtain ⟨n, hn1⟩ : ∃ n, A.length = n := ⟨_, rfl⟩
  obtain ⟨m, hm1⟩ : ∃ m, B.length = m := ⟨_, rfl⟩
  have HN := Lib.hid hn1
  have HM := Lib.hid hm1
  have HNB : Hid (n ≤ 40 ∧ m ≤ 40) := by
    refine ⟨?_, ?_⟩
    · rw [← hn1, ← hA, List.length_map, List.length_take]; omega
    · rw [← hm1, ← hB, List.length_map, List.length_take]; omega
  have HAP : Hid (∀ x ∈ A, x.p.size ≤ 100000) := fun x hx => by
    rw [← hA] at hx
    obtain ⟨y, -, rfl⟩ := List.mem_map.1 hx
    exact fewF_size y
  have HBP : Hid (∀ x ∈ B, x.p.size ≤ 100000) := fun x hx => by
    rw [← hB] at hx
    obtain ⟨y, -, rfl⟩ := List.mem_map.1 hx
    exact fewF_size y
  have HF1 := few_any a c xs w h1 hn
  rw [hA] at HF1
  have HF1 := Lib.hid HF1
  have HF2 : Hid (∀ W, Below w.heap.size w W → Calls Tryd.prog 5 #[.slice b ys.length cb] W fun e w' => (∃ v, e = .returned v ∧ OwnF 32 w' W.heap.size v B) ∧ Below W.heap.size W w') := fun W hW => by
    have h := few_any b cb ys W (h2.below hW) hm
    rwa [hB] at h
  have hkm : min (s.size : Int) 300 = ((min s.size 300 : Nat) : Int) := by omega
  have hks : ∀ W, (Instr.slice 9 (.string s) none (some (.int .i64 ((min s.size 300 : Nat) : Int))) none).run Tryd.prog W = .ok (.string (s.extract 0 (min s.size 300))) W := fun W => slice_frontM s (min s.size 300) (by omega) _ rfl W
  clear hA hB hn1 hm1 h1 h2 hn hm hE
  generalize xs.length = xn at *
  generalize ys.length = yn at *
  go_enter Tryd.func3, Tryd.ntmps3
  go_wp2_with fail
  refine HF1.out.mono ?_
  rintro e w1 ⟨⟨v1, rfl, ho⟩, hb⟩
  have HB1 := Lib.hid hb
  obtain ⟨la, lc, rfl, hat, -, -⟩ := ho.at
  have HA1 := Lib.hid hat
  rw [HN.out]
  clear hat ho hb HF1
  go_wp2_with fail
  refine (HF2.out w1 HB1.out).mono ?_
  rintro e w2 ⟨⟨v2, rfl, ho⟩, hb⟩
  have HB2 := Lib.hid (HB1.out.trans (hb.mono HB1.out.size))
  have HA2 := Lib.hid (HA1.out.below hb)
  obtain ⟨ma, mc, rfl, hat, -, -⟩ := ho.at
  have HM2 := Lib.hid hat
  rw [HM.out]
  have HD := diff_any la lc A ma mc B w2 HA2.out HM2.out (by rw [HN.out]; have := HNB.out; omega) (by rw [HM.out]; have := HNB.out; omega) HAP.out HBP.out
  rw [HN.out, HM.out] at HD
  have HD := Lib.hid HD
  clear hat ho hb HF2 HA1 HB1
  go_wp2_with fail
  refine HD.out.mono ?_
  rintro e w3 ⟨⟨dv, ss, rfl, hro, hnd, -, hmem⟩, hb⟩
  clear hkm hks HD
  generalize s.extract 0 (min s.size 300) = P at *
  have HB3 := Lib.hid (HB2.out.trans (hb.mono HB2.out.size))
  have HA3 := Lib.hid (HA2.out.below hb)
  have HM3 := Lib.hid (HM2.out.below hb)
  have HRO : Hid (OwnS w3 w2.heap.size dv (ss.mergeSort fun x y => decide (x ≤ y))) := hro
  have HND := Lib.hid hnd
  have HMEM := Lib.hid hmem
  have HS1 := as_any la lc A w3 HA3.out (by rw [HN.out]; have := HNB.out; omega)
  rw [HN.out] at HS1
  have HS1 := Lib.hid HS1
  clear hro hnd hmem hb HA2 HM2
  go_wp2_with fail
  refine HS1.out.mono ?_
  rintro e w4 ⟨⟨v4, rfl, ho⟩, hb⟩
  have HB4 := Lib.hid (HB3.out.trans (hb.mono HB3.out.size))
  have HC4 := Lib.hid hb
  obtain ⟨ra, rc, rfl, hat, -, -⟩ := ho.at
  have HR4 := Lib.hid hat
  rw [HN.out]
  have HS2 := as_any ma mc B w4 (HM3.out.below hb) (by rw [HM.out]; have := HNB.out; omega)
  rw [HM.out] at HS2
  have HS2 := Lib.hid HS2
  clear hat ho hb HS1
  go_wp2_with fail
  refine HS2.out.mono ?_
  rintro e w5 ⟨⟨v5, rfl, ho⟩, hb⟩
  have HB5 := Lib.hid (HB4.out.trans (hb.mono HB4.out.size))
  have HC5 : Hid (Below w3.heap.size w3 w5) := HC4.out.trans (hb.mono HC4.out.size)
  obtain ⟨qa, qc, rfl, hat, -, -⟩ := ho.at
  rw [HM.out]
  have HRD := refdiff_any ra qa rc qc A B w5 (HR4.out.below hb) hat (by rw [HN.out]; have := HNB.out; omega) (by rw [HM.out]; have := HNB.out; omega)
  rw [HN.out, HM.out] at HRD
  have HRD := Lib.hid HRD
  clear hat ho hb HS2 HR4
  go_wp2_with fail
  refine HRD.out.mono ?_
  rintro e w6 ⟨⟨wv, os, rfl, hos, hord, hnd2, hol, hmem2⟩, hb⟩
  have HC6 : Hid (Below w3.heap.size w3 w6) := HC5.out.trans (hb.mono HC5.out.size)
  have HB6 := Lib.hid (HB5.out.trans (hb.mono HB5.out.size))
  have hone := one_list HND.out HMEM.out hord hnd2 hmem2
  have hro := HRO.out
  rw [hone] at hro
  obtain ⟨da, dc, rfl, hda, -, -⟩ := hro.at
  obtain ⟨ea, ec, rfl, hea, -, -⟩ := hos.at
  have HDA := Lib.hid (hda.below HC6.out)
  have HEA := Lib.hid hea
  have HA6 := Lib.hid (HA3.out.below HC6.out)
  obtain ⟨q, hq⟩ : ∃ q, os.length = q := ⟨_, rfl⟩
  have HQ := Lib.hid hq
  have HQB : Hid (q ≤ 2000) := by rw [← hq]; exact hol
  rw [hq]
  have hqq : ((q : Int) != (q : Int)) = false := by simp
  clear hone hro hda hea hos hord hnd2 hmem2 hol hq hb HRD HRO HND HMEM HC4 HC5 HC6 HB2 HB3 HB4 HB5 HA3 HM3
  go_wp2_with fail
  go_loopw [11] (fun iv wr => ∃ k : Nat, k ≤ q ∧ iv = .int .i64 (k : Int) ∧ Below w6.heap.size w6 wr) (fun iv _ => q - (intOf iv).toNat)
  case atStart => exact ⟨0, Nat.zero_le _, rfl, Below.refl _ _⟩
  case round =>
    obtain ⟨k, hk, rfl, hbl⟩ := hrel
    have HBL := Lib.hid hbl
    clear hbl
    by_cases hkq : k < q
    · have hki : (k : Int) < (q : Int) := by omega
      have hk0 : (0 : Int) ≤ (k : Int) := Int.natCast_nonneg k
      have WK := Lib.hid (next_int k (by have := HQB.out; omega))
      obtain ⟨b1, o1, y, rfl, hy, -, hc1⟩ := strsAt_get (HDA.out.below HBL.out) (show k < os.length by rw [HQ.out]; exact hkq)
      obtain ⟨b2, o2, y', rfl, hy', -, hc2⟩ := strsAt_get (HEA.out.below HBL.out) (show k < os.length by rw [HQ.out]; exact hkq)
      obtain rfl : y = y' := by rw [hy] at hy'; injection hy'
      have HCC : Hid (wr.drew.cell? ⟨b1, o1 + k, none⟩ = some (.string ⟨y.toArray⟩) ∧ wr.drew.cell? ⟨b2, o2 + k, none⟩ = some (.string ⟨y.toArray⟩)) := ⟨hc1, hc2⟩
      have HKQ : Hid (k < q) := hkq
      clear hy hy' hc1 hc2 hkq hk
      go_wp2_with fail
      refine wp_region_noPanic ?_
      refine wp_region_held_drew (S := fun W => W.cell? ⟨b1, o1 + k, none⟩ = some (.string ⟨y.toArray⟩) ∧ W.cell? ⟨b2, o2 + k, none⟩ = some (.string ⟨y.toArray⟩)) (by kernel_rfl) ?_ (fun hHeld => ?_)
      · exact HCC.out
      refine wpAnyH_take (i := 0) (v := ?_) (by simp only [List.getElem?_toArray, List.getElem?_cons_zero]; rfl) (by kernel_rfl) (by kernel_rfl) (by kernel_rfl) (fun _ _ _ h => h) (Or.inl ⟨by rfl, ?_⟩) (by assumption) ?_
      rotate_left
      · intro W hSW
        go_simp
        try with_reducible rfl
      try simp only [Act.put, List.setIfInBounds_toArray, List.set_cons_zero, List.set_cons_succ]
      refine wpAnyH_take (i := 1) (v := ?_) (by simp only [List.getElem?_toArray, List.getElem?_cons_succ, List.getElem?_cons_zero]; rfl) (by kernel_rfl) (by kernel_rfl) (by kernel_rfl) (fun _ _ _ h => h) (Or.inl ⟨by rfl, ?_⟩) (by assumption) ?_
      rotate_left
      · intro W hSW
        go_simp
        try with_reducible rfl
      try simp only [Act.put, List.setIfInBounds_toArray, List.set_cons_zero, List.set_cons_succ]
      refine wpAnyH_take (i := 2) (v := ?_) (by simp only [List.getElem?_toArray, List.getElem?_cons_succ, List.getElem?_cons_zero]; rfl) (by kernel_rfl) (by kernel_rfl) (by kernel_rfl) (fun _ _ _ h => h) (Or.inl ⟨by rfl, ?_⟩) (by assumption) ?_
      rotate_left
      · intro W hSW
        go_simp
        try with_reducible rfl
      try simp only [Act.put, List.setIfInBounds_toArray, List.set_cons_zero, List.set_cons_succ]
      refine wpAnyH_take (i := 3) (by simp only [List.getElem?_toArray, List.getElem?_cons_succ, List.getElem?_cons_zero]; rfl) (by kernel_rfl) (by kernel_rfl) (by kernel_rfl) (fun _ _ _ h => h) (yieldsIf_load_str (by rfl) 9 _ rfl b1 (o1 + k) rfl ⟨y.toArray⟩ (fun W h => h.1) Tryd.underlying9) (by assumption) ?_
      try simp only [Act.put, List.setIfInBounds_toArray, List.set_cons_zero, List.set_cons_succ]
      refine wpAnyH_take (i := 4) (v := ?_) (by simp only [List.getElem?_toArray, List.getElem?_cons_succ, List.getElem?_cons_zero]; rfl) (by kernel_rfl) (by kernel_rfl) (by kernel_rfl) (fun _ _ _ h => h) (Or.inl ⟨by rfl, ?_⟩) (by assumption) ?_
      rotate_left
      · intro W hSW
        go_simp
        try with_reducible rfl
      try simp only [Act.put, List.setIfInBounds_toArray, List.set_cons_zero, List.set_cons_succ]
      refine wpAnyH_take (i := 5) (v := ?_) (by simp only [List.getElem?_toArray, List.getElem?_cons_succ, List.getElem?_cons_zero]; rfl) (by kernel_rfl) (by kernel_rfl) (by kernel_rfl) (fun _ _ _ h => h) (Or.inl ⟨by rfl, ?_⟩) (by assumption) ?_
      rotate_left
      · intro W hSW
        go_simp
        try with_reducible rfl
      try simp only [Act.put, List.setIfInBounds_toArray, List.set_cons_zero, List.set_cons_succ]
      refine wpAnyH_take (i := 6) (v := ?_) (by simp only [List.getElem?_toArray, List.getElem?_cons_succ, List.getElem?_cons_zero]; rfl) (by kernel_rfl) (by kernel_rfl) (by kernel_rfl) (fun _ _ _ h => h) (Or.inl ⟨by rfl, ?_⟩) (by assumption) ?_
      rotate_left
      · intro W hSW
        go_simp
        try with_reducible rfl
      try simp only [Act.put, List.setIfInBounds_toArray, List.set_cons_zero, List.set_cons_succ]
      refine wpAnyH_take (i := 7) (by simp only [List.getElem?_toArray, List.getElem?_cons_succ, List.getElem?_cons_zero]; rfl) (by kernel_rfl) (by kernel_rfl) (by kernel_rfl) (fun _ _ _ h => h) (yieldsIf_load_str (by rfl) 9 _ rfl b2 (o2 + k) rfl ⟨y.toArray⟩ (fun W h => h.2) Tryd.underlying9) (by assumption) ?_
      try simp only [Act.put, List.setIfInBounds_toArray, List.set_cons_zero, List.set_cons_succ]
      refine wpAnyH_take (i := 8) (by simp only [List.getElem?_toArray, List.getElem?_cons_succ, List.getElem?_cons_zero]; rfl) (by kernel_rfl) (by kernel_rfl) (by kernel_rfl) (fun _ _ _ h => h) (yieldsIf_eql (by rfl) .neq 9 _ _ _ rfl (.string ⟨y.toArray⟩) (.string ⟨y.toArray⟩) rfl rfl (.bool false) (fun W => guard_ne _ _ _ _ W) (fun W => neq_sameM _ W)) (by assumption) ?_
      try simp only [Act.put, List.setIfInBounds_toArray, List.set_cons_zero, List.set_cons_succ]
      refine wpAnyH_done (by kernel_rfl) ?_ _
      refine NoPanic.normal ?_
      clear hHeld
      go_wp2_with fail
      exact ⟨⟨k + 1, HKQ.out, by first | rw [WK.out _ rfl] | rfl, HBL.out.drew⟩, by have := HKQ.out; (first | rw [WK.out _ rfl] | skip); simp [intOf]; omega⟩
    · have hki : ¬ (k : Int) < (q : Int) := by omega
      have HB7 := Lib.hid (HB6.out.trans (HBL.out.mono HB6.out.size))
      have HA7 := Lib.hid (HA6.out.below HBL.out)
      have HFD := find_any la lc A P wr HA7.out (by rw [HN.out]; have := HNB.out; omega)
      rw [HN.out] at HFD
      have HFD := Lib.hid HFD
      obtain ⟨fo, hfo⟩ : ∃ fo, foundI (fun x => pL x == P.data.toList) A = fo := ⟨_, rfl⟩
      have HFO := Lib.hid hfo
      rw [hfo] at HFD
      have HF20 : Hid ((fileAt A fo).n.length = 20) := by
        cases fo with
        | none => exact zeros20_len
        | some k =>
          obtain ⟨x, hx, -, -⟩ := foundI_some hfo
          show (A[k]?.getD noFile).n.length = 20
          rw [hx]
          exact HA7.out.each x (List.mem_of_getElem? hx)
      have hzf := zero_file
      clear hkq hk hfo
      go_wp2_with fail
      refine HFD.out.mono ?_
      rintro e w8 ⟨rfl, hb⟩
      have HB8 := Lib.hid (HB7.out.trans (hb.mono HB7.out.size))
      have HA8 := Lib.hid (HA7.out.below hb)
      obtain ⟨F, hF⟩ : ∃ F, fileAt A fo = F := ⟨_, rfl⟩
      have HFF := Lib.hid hF
      rw [hF] at HF20
      rw [hF]
      have HZ : Hid ((w8.alloc (.cells (fileA noFile) 32)).heap[w8.heap.size]? = some (.cells (fileA noFile) 32 (0, 0))) := heap_alloc_new _ _
      have HSZ : Hid ((fileA noFile).size = (fileA F).size) := by show _ = _; rw [fileA_size _ HF20.out, fileA_size _ zeros20_len]
      have HIF := Lib.hid (file_info F HF20.out)
      have HBS : Hid (Below w8.heap.size w8 ((w8.alloc (.cells (fileA noFile) 32)).setRow w8.heap.size (fileA F))) := below_setRow ((Below.refl _ _).alloc (Nat.le_refl _) _) (Nat.le_refl _) _
      have HRS := Lib.hid (setRow_heap _ _ _ (fileA F) _ _ HZ.out)
      clear hb hF HFD
      go_wp2_with (first
        | refine wpList_store_row rfl 32 _ _ rfl w8.heap.size (fileA F) rfl rfl 32 (fileA noFile) HZ.out HIF.out HSZ.out (fileA_one _) ?_)
      have HW0 : Hid (wrap64 ((n : Int) - 1) = (n : Int) - 1) := IntWalk.wrap64_in _ (by have := HNB.out; omega)
      try simp only [HW0.out]
      obtain ⟨g, hg⟩ : ∃ g, w8.heap.size = g := ⟨_, rfl⟩
      have HA9 := Lib.hid (HA8.out.below HBS.out)
      have HB9 := Lib.hid (HB8.out.trans (HBS.out.mono HB8.out.size))
      have HGL := Lib.hid (Array.getElem?_eq_some_iff.1 HRS.out).1
      rw [hg] at HRS HA9 HB9 HGL ⊢
      generalize (w8.alloc (.cells (fileA noFile) 32)).setRow g (fileA F) = w9 at *
      obtain ⟨f, hf⟩ : ∃ f : MF → Bool, (fun x => pL x == P.data.toList) = f := ⟨_, rfl⟩
      have HFE : Hid (∀ x, f x = (pL x == P.data.toList)) := fun x => by rw [← hf]
      rw [hf] at HFO
      clear hg hf HZ HBS HSZ HBL
      go_loopw [14, 15] (fun av iv wr => ∃ (j : Nat) (ji t : Int), ji = (j : Int) - 1 ∧ iv = .int .i64 ji ∧ av = .int .i64 t ∧ t = fromAt f A j ∧ j ≤ n ∧ Below w9.heap.size w9 wr) (fun _ iv _ => (intOf iv + 1).toNat)
      case atStart => exact ⟨n, (n : Int) - 1, -1, rfl, by first | rw [HW0.out] | rfl, rfl, (fromAt_end (by rw [HN.out]; exact Nat.le_refl _)).symm, Nat.le_refl _, Below.refl _ _⟩
      case round =>
        obtain ⟨j, ji, t, hji, rfl, rfl, ht, hjn, hbl⟩ := hrel
        have HBL := Lib.hid hbl
        have HA10 := Lib.hid (HA9.out.below hbl)
        have HB10 := Lib.hid (HB9.out.trans (hbl.mono HB9.out.size))
        cases j with
        | succ p =>
          obtain rfl : ji = (p : Int) := by omega
          have hp0 : (0 : Int) ≤ (p : Int) := Int.natCast_nonneg p
          have hpn : (p : Int) < (n : Int) := by omega
          have HPN : Hid (p < n) := by show _ < _; omega
          have WP : Hid (wrap64 ((p : Int) - 1) = (p : Int) - 1) := IntWalk.wrap64_in _ (by have := HNB.out; omega)
          obtain ⟨bx, ox, x, rfl, hx, hx20, hbx, hrx⟩ := HA10.out.at (show p < A.length by rw [HN.out]; exact HPN.out)
          have q1 : wr.cell? ⟨bx, ox + p * 22, none⟩ = some (.string x.p) := range_path hrx
          obtain ⟨bl, hbl2⟩ : ∃ b, (x.p.toList == P.toList) = b := ⟨_, rfl⟩
          have HEQ : Hid (∀ W, (binOp .eql 9 (.string x.p) (.string P)).run Tryd.prog W = .ok (.bool bl) W) := fun W => by rw [eq_strM, hbl2]
          have hfx : f x = bl := by rw [HFE.out x, ← hbl2, path_eq]; rfl
          cases bl
          · have HT : Hid (t = fromAt f A p) := by show _ = _; rw [ht, fromAt_miss hx hfx]
            clear hji ht hjn hbl hx hx20 hbx hrx hbl2 hfx
            go_wp2_with (first
              | refine wpList_eql (by rfl) .eql 9 _ _ _ rfl (.string x.p) (.string P) rfl rfl (.bool false) (guard_eq _ _ _ _) (fun W => HEQ.out W) ?_)
            exact ⟨⟨p, (p : Int) - 1, t, rfl, by first | rw [WP.out] | rfl, rfl, HT.out, Nat.le_of_lt HPN.out, HBL.out⟩, by (first | rw [WP.out] | skip); simp [intOf]; try omega⟩
          · have HT : Hid ((p : Int) = fromAt f A p) := (fromAt_hit hx hfx).symm
            clear hji ht hjn hbl hx hx20 hbx hrx hbl2 hfx
            go_wp2_with (first
              | refine wpList_eql (by rfl) .eql 9 _ _ _ rfl (.string x.p) (.string P) rfl rfl (.bool true) (guard_eq _ _ _ _) (fun W => HEQ.out W) ?_)
            exact ⟨⟨p, (p : Int) - 1, (p : Int), rfl, by first | rw [WP.out] | rfl, rfl, HT.out, Nat.le_of_lt HPN.out, HBL.out⟩, by (first | rw [WP.out] | skip); simp [intOf]; try omega⟩
        | zero =>
          have hj0 : ¬ (0 : Int) ≤ ji := by omega
          have HIL := Lib.hid (file_infoL F HF20.out)
          have HNE : Hid (∀ W, (binOp .neq 32 (.agg (fileA F)) (.agg (fileA F))).run Tryd.prog W = .ok (.bool false) W) := fun W => by rw [neq_pfile F F HF20.out HF20.out, eqM_self]; rfl
          have HRG : Hid (wr.drew.rangeAt g 0 (fileL F)) := row_file ((hbl.block g HGL.out).trans HRS.out)
          rw [fromAt_zero, HFO.out] at ht
          cases fo with
          | none =>
            obtain rfl : t = -1 := ht
            have HRR : Hid (wr.drew.rangeAt g 0 (fileL F)) := HRG.out
            have hFN : noFile = F := HFF.out
            have hbn : ∀ W, (Instr.build 32 #[]).run Tryd.prog W = .ok (.agg (fileA F)) W := fun W => by rw [← hFN]; exact build_nofile W
            clear hji hjn hbl hFN
            go_wp2_with fail
            refine wp_region_noPanic ?_
            refine wp_region_held_drew (S := fun W => W.rangeAt g 0 (fileL F)) (by kernel_rfl) ?_ (fun hHeld => ?_)
            · exact HRR.out
            refine wpAnyH_take (i := 0) (v := ?_) (by simp only [List.getElem?_toArray, List.getElem?_cons_zero]; rfl) (by kernel_rfl) (by kernel_rfl) (by kernel_rfl) (fun _ _ _ h => h) (Or.inl ⟨by rfl, ?_⟩) (by assumption) ?_
            rotate_left
            · intro W hSW
              go_simp
              try with_reducible rfl
            try simp only [Act.put, List.setIfInBounds_toArray, List.set_cons_zero, List.set_cons_succ]
            refine wpAnyH_take (i := 1) (v := ?_) (by simp only [List.getElem?_toArray, List.getElem?_cons_succ, List.getElem?_cons_zero]; rfl) (by kernel_rfl) (by kernel_rfl) (by kernel_rfl) (fun _ _ _ h => h) (Or.inl ⟨by rfl, ?_⟩) (by assumption) ?_
            rotate_left
            · intro W hSW
              go_simp
              try with_reducible rfl
            try simp only [Act.put, List.setIfInBounds_toArray, List.set_cons_zero, List.set_cons_succ]
            refine wpAnyH_take (i := 2) (v := ?_) (by simp only [List.getElem?_toArray, List.getElem?_cons_succ, List.getElem?_cons_zero]; rfl) (by kernel_rfl) (by kernel_rfl) (by kernel_rfl) (fun _ _ _ h => h) (Or.inl ⟨by rfl, ?_⟩) (by assumption) ?_
            rotate_left
            · intro W hSW
              go_simp
              try with_reducible rfl
            try simp only [Act.put, List.setIfInBounds_toArray, List.set_cons_zero, List.set_cons_succ]
            refine wpAnyH_take (i := 3) (v := ?_) (by simp only [List.getElem?_toArray, List.getElem?_cons_succ, List.getElem?_cons_zero]; rfl) (by kernel_rfl) (by kernel_rfl) (by kernel_rfl) (fun _ _ _ h => h) (Or.inl ⟨by rfl, ?_⟩) (by assumption) ?_
            rotate_left
            · intro W hSW
              go_simp
              try with_reducible rfl
            try simp only [Act.put, List.setIfInBounds_toArray, List.set_cons_zero, List.set_cons_succ]
            refine wpAnyH_take (i := 4) (v := ?_) (by simp only [List.getElem?_toArray, List.getElem?_cons_succ, List.getElem?_cons_zero]; rfl) (by kernel_rfl) (by kernel_rfl) (by kernel_rfl) (fun _ _ _ h => h) (Or.inl ⟨by rfl, ?_⟩) (by assumption) ?_
            rotate_left
            · intro W hSW
              go_simp
              try with_reducible rfl
            try simp only [Act.put, List.setIfInBounds_toArray, List.set_cons_zero, List.set_cons_succ]
            refine wpAnyH_take (i := 5) (v := ?_) (by simp only [List.getElem?_toArray, List.getElem?_cons_succ, List.getElem?_cons_zero]; rfl) (by kernel_rfl) (by kernel_rfl) (by kernel_rfl) (fun _ _ _ h => h) (Or.inl ⟨by rfl, ?_⟩) (by assumption) ?_
            rotate_left
            · intro W hSW
              go_simp
              try with_reducible rfl
            try simp only [Act.put, List.setIfInBounds_toArray, List.set_cons_zero, List.set_cons_succ]
            refine wpAnyH_take (i := 6) (v := ?_) (by simp only [List.getElem?_toArray, List.getElem?_cons_succ, List.getElem?_cons_zero]; rfl) (by kernel_rfl) (by kernel_rfl) (by kernel_rfl) (fun _ _ _ h => h) (Or.inl ⟨by rfl, ?_⟩) (by assumption) ?_
            rotate_left
            · intro W hSW
              go_simp
              try with_reducible rfl
            try simp only [Act.put, List.setIfInBounds_toArray, List.set_cons_zero, List.set_cons_succ]
            refine wpAnyH_take (i := 7) (v := undef) (by simp only [List.getElem?_toArray, List.getElem?_cons_succ, List.getElem?_cons_zero]; rfl) (by kernel_rfl) (by kernel_rfl) (by kernel_rfl) (fun _ _ _ h => h) (Or.inr ⟨by rfl, rfl⟩) (by assumption) ?_
            try simp only [Act.put, List.setIfInBounds_toArray, List.set_cons_zero, List.set_cons_succ]
            refine wpAnyH_take (i := 8) (v := undef) (by simp only [List.getElem?_toArray, List.getElem?_cons_succ, List.getElem?_cons_zero]; rfl) (by kernel_rfl) (by kernel_rfl) (by kernel_rfl) (fun _ _ _ h => h) (Or.inr ⟨by rfl, rfl⟩) (by assumption) ?_
            try simp only [Act.put, List.setIfInBounds_toArray, List.set_cons_zero, List.set_cons_succ]
            refine wpAnyH_take (i := 9) (v := undef) (by simp only [List.getElem?_toArray, List.getElem?_cons_succ, List.getElem?_cons_zero]; rfl) (by kernel_rfl) (by kernel_rfl) (by kernel_rfl) (fun _ _ _ h => h) (Or.inr ⟨by rfl, rfl⟩) (by assumption) ?_
            try simp only [Act.put, List.setIfInBounds_toArray, List.set_cons_zero, List.set_cons_succ]
            refine wpAnyH_take (i := 10) (v := undef) (by simp only [List.getElem?_toArray, List.getElem?_cons_succ, List.getElem?_cons_zero]; rfl) (by kernel_rfl) (by kernel_rfl) (by kernel_rfl) (fun _ _ _ h => h) (Or.inr ⟨by rfl, rfl⟩) (by assumption) ?_
            try simp only [Act.put, List.setIfInBounds_toArray, List.set_cons_zero, List.set_cons_succ]
            refine wpAnyH_take (i := 11) (v := undef) (by simp only [List.getElem?_toArray, List.getElem?_cons_succ, List.getElem?_cons_zero]; rfl) (by kernel_rfl) (by kernel_rfl) (by kernel_rfl) (fun _ _ _ h => h) (Or.inr ⟨by rfl, rfl⟩) (by assumption) ?_
            try simp only [Act.put, List.setIfInBounds_toArray, List.set_cons_zero, List.set_cons_succ]
            refine wpAnyH_take (i := 12) (v := undef) (by simp only [List.getElem?_toArray, List.getElem?_cons_succ, List.getElem?_cons_zero]; rfl) (by kernel_rfl) (by kernel_rfl) (by kernel_rfl) (fun _ _ _ h => h) (Or.inr ⟨by rfl, rfl⟩) (by assumption) ?_
            try simp only [Act.put, List.setIfInBounds_toArray, List.set_cons_zero, List.set_cons_succ]
            refine wpAnyH_take (i := 13) (v := ?_) (by simp only [List.getElem?_toArray, List.getElem?_cons_succ, List.getElem?_cons_zero]; rfl) (by kernel_rfl) (by kernel_rfl) (by kernel_rfl) (fun _ _ _ h => h) (Or.inl ⟨by rfl, ?_⟩) (by assumption) ?_
            rotate_left
            · intro W hSW
              go_simp
              try with_reducible rfl
            try simp only [Act.put, List.setIfInBounds_toArray, List.set_cons_zero, List.set_cons_succ]
            refine wpAnyH_take (i := 14) (v := ?_) (by simp only [List.getElem?_toArray, List.getElem?_cons_succ, List.getElem?_cons_zero]; rfl) (by kernel_rfl) (by kernel_rfl) (by kernel_rfl) (fun _ _ _ h => h) (Or.inl ⟨by rfl, ?_⟩) (by assumption) ?_
            rotate_left
            · intro W hSW
              go_simp
              try with_reducible rfl
            try simp only [Act.put, List.setIfInBounds_toArray, List.set_cons_zero, List.set_cons_succ]
            refine wpAnyH_take (i := 15) (v := ?_) (by simp only [List.getElem?_toArray, List.getElem?_cons_succ, List.getElem?_cons_zero]; rfl) (by kernel_rfl) (by kernel_rfl) (by kernel_rfl) (fun _ _ _ h => h) (Or.inl ⟨by rfl, ?_⟩) (by assumption) ?_
            rotate_left
            · intro W hSW
              go_simp
              try with_reducible rfl
            try simp only [Act.put, List.setIfInBounds_toArray, List.set_cons_zero, List.set_cons_succ]
            refine wpAnyH_take (i := 16) (v := ?_) (by simp only [List.getElem?_toArray, List.getElem?_cons_succ, List.getElem?_cons_zero]; rfl) (by kernel_rfl) (by kernel_rfl) (by kernel_rfl) (fun _ _ _ h => h) (Or.inl ⟨by rfl, ?_⟩) (by assumption) ?_
            rotate_left
            · intro W hSW
              go_simp
              try with_reducible rfl
            try simp only [Act.put, List.setIfInBounds_toArray, List.set_cons_zero, List.set_cons_succ]
            refine wpAnyH_take (i := 17) (v := ?_) (by simp only [List.getElem?_toArray, List.getElem?_cons_succ, List.getElem?_cons_zero]; rfl) (by kernel_rfl) (by kernel_rfl) (by kernel_rfl) (fun _ _ _ h => h) (Or.inl ⟨by rfl, ?_⟩) (by assumption) ?_
            rotate_left
            · intro W hSW
              go_simp
              try with_reducible rfl
            try simp only [Act.put, List.setIfInBounds_toArray, List.set_cons_zero, List.set_cons_succ]
            refine wpAnyH_take (i := 18) (v := ?_) (by simp only [List.getElem?_toArray, List.getElem?_cons_succ, List.getElem?_cons_zero]; rfl) (by kernel_rfl) (by kernel_rfl) (by kernel_rfl) (fun _ _ _ h => h) (Or.inl ⟨by rfl, ?_⟩) (by assumption) ?_
            rotate_left
            · intro W hSW
              go_simp
              try with_reducible rfl
            try simp only [Act.put, List.setIfInBounds_toArray, List.set_cons_zero, List.set_cons_succ]
            refine wpAnyH_take (i := 19) (by simp only [List.getElem?_toArray, List.getElem?_cons_succ, List.getElem?_cons_zero]; rfl) (by kernel_rfl) (by kernel_rfl) (by kernel_rfl) (fun _ _ _ h => h) (yieldsIf_load_mid (by rfl) 32 _ rfl g 0 rfl (fileL F) _ (fun W h => h) Tryd.underlying32 rfl HIL.out) (by assumption) ?_
            try simp only [Act.put, List.setIfInBounds_toArray, List.set_cons_zero, List.set_cons_succ]
            refine wpAnyH_take (i := 20) (by simp only [List.getElem?_toArray, List.getElem?_cons_succ, List.getElem?_cons_zero]; rfl) (by kernel_rfl) (by kernel_rfl) (by kernel_rfl) (fun _ _ _ h => h) (yieldsIf_buildM (by rfl) 32 _ rfl #[] (by simp) (.agg (fileA F)) (fun W => hbn W)) (by assumption) ?_
            try simp only [Act.put, List.setIfInBounds_toArray, List.set_cons_zero, List.set_cons_succ]
            refine wpAnyH_take (i := 21) (by simp only [List.getElem?_toArray, List.getElem?_cons_succ, List.getElem?_cons_zero]; rfl) (by kernel_rfl) (by kernel_rfl) (by kernel_rfl) (fun _ _ _ h => h) (yieldsIf_eql (by rfl) .neq 32 _ _ _ rfl (.agg (fileA F)) (.agg (fileA F)) rfl rfl (.bool false) (fun W => guard_pneq _ _ _ _ W) (fun W => HNE.out W)) (by assumption) ?_
            try simp only [Act.put, List.setIfInBounds_toArray, List.set_cons_zero, List.set_cons_succ]
            refine wpAnyH_take (i := 22) (v := ?_) (by simp only [List.getElem?_toArray, List.getElem?_cons_succ, List.getElem?_cons_zero]; rfl) (by kernel_rfl) (by kernel_rfl) (by kernel_rfl) (fun _ _ _ h => h) (Or.inl ⟨by rfl, ?_⟩) (by assumption) ?_
            rotate_left
            · intro W hSW
              go_simp
              try with_reducible rfl
            try simp only [Act.put, List.setIfInBounds_toArray, List.set_cons_zero, List.set_cons_succ]
            refine wpAnyH_take (i := 23) (v := ?_) (by simp only [List.getElem?_toArray, List.getElem?_cons_succ, List.getElem?_cons_zero]; rfl) (by kernel_rfl) (by kernel_rfl) (by kernel_rfl) (fun _ _ _ h => h) (Or.inl ⟨by rfl, ?_⟩) (by assumption) ?_
            rotate_left
            · intro W hSW
              go_simp
              try with_reducible rfl
            try simp only [Act.put, List.setIfInBounds_toArray, List.set_cons_zero, List.set_cons_succ]
            refine wpAnyH_done (by kernel_rfl) ?_ _
            refine NoPanic.normal ?_
            clear hHeld hbn
            have HBX := Lib.hid (HB10.out.drew)
            have HAX : Hid (FsAt wr.drew _ A) := HA10.out.below ((Below.refl _ _).drew)
            go_wp2_with fail
            refine (known_any wr.drew (HE.out.below HBX.out)).mono ?_
            rintro e u1 ⟨rfl, hb⟩
            have HU1 := Lib.hid (HBX.out.trans (hb.mono HBX.out.size))
            have HAU := Lib.hid (HAX.out.below hb)
            have HZB : Hid (Below u1.heap.size u1 (u1.alloc (.cells #[] 32))) := (Below.refl _ _).alloc (Nat.le_refl _) _
            have HZ : Hid (OwnF 32 (u1.alloc (.cells #[] 32)) u1.heap.size (.slice (some ⟨u1.heap.size, 0, none⟩) 0 0) []) := OwnF.emptyN u1
            have tok : True := trivial
            clear hb
            go_wp2_with (first
              | refine wpList_slice (by rfl) _ _ _ rfl #[] (by simp) _ _ (slice_noNF u1) ?_
              | (have _t := tok; at_builtin; clear tok; refine Hid.out ?_))
            refine unhidM ?_
            refine wpList_append_filesN (by rfl) _ _ rfl u1.heap.size _ [] 0 rfl rfl HZ.out _ n lc A HN.out rfl (HAU.out.below HZB.out) n A (Nat.zero_add _) rfl (by have := HNB.out; omega) (by simp) (fun v2 u2 ho hg => ?_)
            have HU2 : Hid (Below u1.heap.size u1 u2) := HZB.out.trans (own_off HZ.out (by simp) hg)
            obtain ⟨xa, xc, rfl, hxa, -, -⟩ := ho.at
            rw [HN.out]
            have HD2 := diff_any _ lc A xa xc A u2 (HAU.out.below HU2.out) hxa (by rw [HN.out]; have := HNB.out; omega) (by rw [HN.out]; have := HNB.out; omega) HAP.out HAP.out
            rw [HN.out] at HD2
            have HD2 := Lib.hid HD2
            clear ho hg hxa HZ HZB
            go_wp2_with fail
            refine HD2.out.mono ?_
            rintro e u3 ⟨⟨dv, ss2, rfl, hro, -, -, hmem⟩, hb⟩
            have HU3 : Hid (Below w.heap.size w u3) := (HU1.out.trans (HU2.out.mono HU1.out.size)).trans (hb.mono (Nat.le_trans HU1.out.size HU2.out.size))
            have e0 : ss2 = [] := List.eq_nil_iff_forall_not_mem.2 fun z hz => by
              have := ((hmem z).1 hz).2
              rw [sameM_self] at this
              cases this
            subst e0
            rw [List.mergeSort_nil] at hro
            obtain ⟨za, zc, rfl, -, -, -⟩ := OwnS.at (show OwnS u3 u2.heap.size dv [] from hro)
            rw [show (([] : List (List UInt8)).length) = 0 from rfl]
            clear hro hmem hb HD2
            go_wp2_with fail
            go_ret
            exact ⟨rfl, HU3.out⟩
          | some k =>
            obtain rfl : t = (k : Int) := ht
            obtain ⟨x, hx, -, -⟩ := foundI_some HFO.out
            have hkn : k < n := by rw [← HN.out]; exact (List.getElem?_eq_some_iff.1 hx).1
            obtain ⟨bk, ok, x', rfl, hx', -, -, hrk⟩ := HA10.out.at (show k < A.length by rw [HN.out]; exact hkn)
            have hxF : x' = F := by
              rw [← HFF.out]
              show x' = A[k]?.getD noFile
              rw [hx']; rfl
            rw [hxF] at hrk
            have HRR : Hid (wr.drew.rangeAt g 0 (fileL F) ∧ wr.drew.rangeAt bk (ok + k * 22) (fileL F)) := ⟨HRG.out, hrk⟩
            have hk0 : (0 : Int) ≤ (k : Int) := Int.natCast_nonneg k
            have hkn2 : (k : Int) < (n : Int) := by omega
            clear hji hjn hbl hx hx' hxF hrk
            go_wp2_with fail
            refine wp_region_noPanic ?_
            refine wp_region_held_drew (S := fun W => W.rangeAt g 0 (fileL F) ∧ W.rangeAt bk (ok + k * 22) (fileL F)) (by kernel_rfl) ?_ (fun hHeld => ?_)
            · exact HRR.out
            refine wpAnyH_take (i := 0) (v := ?_) (by simp only [List.getElem?_toArray, List.getElem?_cons_zero]; rfl) (by kernel_rfl) (by kernel_rfl) (by kernel_rfl) (fun _ _ _ h => h) (Or.inl ⟨by rfl, ?_⟩) (by assumption) ?_
            rotate_left
            · intro W hSW
              go_simp
              try with_reducible rfl
            try simp only [Act.put, List.setIfInBounds_toArray, List.set_cons_zero, List.set_cons_succ]
            refine wpAnyH_take (i := 1) (v := ?_) (by simp only [List.getElem?_toArray, List.getElem?_cons_succ, List.getElem?_cons_zero]; rfl) (by kernel_rfl) (by kernel_rfl) (by kernel_rfl) (fun _ _ _ h => h) (Or.inl ⟨by rfl, ?_⟩) (by assumption) ?_
            rotate_left
            · intro W hSW
              go_simp
              try with_reducible rfl
            try simp only [Act.put, List.setIfInBounds_toArray, List.set_cons_zero, List.set_cons_succ]
            refine wpAnyH_take (i := 2) (v := ?_) (by simp only [List.getElem?_toArray, List.getElem?_cons_succ, List.getElem?_cons_zero]; rfl) (by kernel_rfl) (by kernel_rfl) (by kernel_rfl) (fun _ _ _ h => h) (Or.inl ⟨by rfl, ?_⟩) (by assumption) ?_
            rotate_left
            · intro W hSW
              go_simp
              try with_reducible rfl
            try simp only [Act.put, List.setIfInBounds_toArray, List.set_cons_zero, List.set_cons_succ]
            refine wpAnyH_take (i := 3) (v := ?_) (by simp only [List.getElem?_toArray, List.getElem?_cons_succ, List.getElem?_cons_zero]; rfl) (by kernel_rfl) (by kernel_rfl) (by kernel_rfl) (fun _ _ _ h => h) (Or.inl ⟨by rfl, ?_⟩) (by assumption) ?_
            rotate_left
            · intro W hSW
              go_simp
              try with_reducible rfl
            try simp only [Act.put, List.setIfInBounds_toArray, List.set_cons_zero, List.set_cons_succ]
            refine wpAnyH_take (i := 4) (v := ?_) (by simp only [List.getElem?_toArray, List.getElem?_cons_succ, List.getElem?_cons_zero]; rfl) (by kernel_rfl) (by kernel_rfl) (by kernel_rfl) (fun _ _ _ h => h) (Or.inl ⟨by rfl, ?_⟩) (by assumption) ?_
            rotate_left
            · intro W hSW
              go_simp
              try with_reducible rfl
            try simp only [Act.put, List.setIfInBounds_toArray, List.set_cons_zero, List.set_cons_succ]
            refine wpAnyH_take (i := 5) (v := ?_) (by simp only [List.getElem?_toArray, List.getElem?_cons_succ, List.getElem?_cons_zero]; rfl) (by kernel_rfl) (by kernel_rfl) (by kernel_rfl) (fun _ _ _ h => h) (Or.inl ⟨by rfl, ?_⟩) (by assumption) ?_
            rotate_left
            · intro W hSW
              go_simp
              try with_reducible rfl
            try simp only [Act.put, List.setIfInBounds_toArray, List.set_cons_zero, List.set_cons_succ]
            refine wpAnyH_take (i := 6) (v := ?_) (by simp only [List.getElem?_toArray, List.getElem?_cons_succ, List.getElem?_cons_zero]; rfl) (by kernel_rfl) (by kernel_rfl) (by kernel_rfl) (fun _ _ _ h => h) (Or.inl ⟨by rfl, ?_⟩) (by assumption) ?_
            rotate_left
            · intro W hSW
              go_simp
              try with_reducible rfl
            try simp only [Act.put, List.setIfInBounds_toArray, List.set_cons_zero, List.set_cons_succ]
            refine wpAnyH_take (i := 7) (by simp only [List.getElem?_toArray, List.getElem?_cons_succ, List.getElem?_cons_zero]; rfl) (by kernel_rfl) (by kernel_rfl) (by kernel_rfl) (fun _ _ _ h => h) (yieldsIf_load_mid (by rfl) 32 _ rfl g 0 rfl (fileL F) _ (fun W h => h.1) Tryd.underlying32 rfl HIL.out) (by assumption) ?_
            try simp only [Act.put, List.setIfInBounds_toArray, List.set_cons_zero, List.set_cons_succ]
            refine wpAnyH_take (i := 8) (v := ?_) (by simp only [List.getElem?_toArray, List.getElem?_cons_succ, List.getElem?_cons_zero]; rfl) (by kernel_rfl) (by kernel_rfl) (by kernel_rfl) (fun _ _ _ h => h) (Or.inl ⟨by rfl, ?_⟩) (by assumption) ?_
            rotate_left
            · intro W hSW
              go_simp
              try with_reducible rfl
            try simp only [Act.put, List.setIfInBounds_toArray, List.set_cons_zero, List.set_cons_succ]
            refine wpAnyH_take (i := 9) (v := ?_) (by simp only [List.getElem?_toArray, List.getElem?_cons_succ, List.getElem?_cons_zero]; rfl) (by kernel_rfl) (by kernel_rfl) (by kernel_rfl) (fun _ _ _ h => h) (Or.inl ⟨by rfl, ?_⟩) (by assumption) ?_
            rotate_left
            · intro W hSW
              go_simp
              try with_reducible rfl
            try simp only [Act.put, List.setIfInBounds_toArray, List.set_cons_zero, List.set_cons_succ]
            refine wpAnyH_take (i := 10) (v := ?_) (by simp only [List.getElem?_toArray, List.getElem?_cons_succ, List.getElem?_cons_zero]; rfl) (by kernel_rfl) (by kernel_rfl) (by kernel_rfl) (fun _ _ _ h => h) (Or.inl ⟨by rfl, ?_⟩) (by assumption) ?_
            rotate_left
            · intro W hSW
              go_simp
              try with_reducible rfl
            try simp only [Act.put, List.setIfInBounds_toArray, List.set_cons_zero, List.set_cons_succ]
            refine wpAnyH_take (i := 11) (by simp only [List.getElem?_toArray, List.getElem?_cons_succ, List.getElem?_cons_zero]; rfl) (by kernel_rfl) (by kernel_rfl) (by kernel_rfl) (fun _ _ _ h => h) (yieldsIf_load_mid (by rfl) 32 _ rfl bk (ok + k * 22) rfl (fileL F) _ (fun W h => h.2) Tryd.underlying32 rfl HIL.out) (by assumption) ?_
            try simp only [Act.put, List.setIfInBounds_toArray, List.set_cons_zero, List.set_cons_succ]
            refine wpAnyH_take (i := 12) (by simp only [List.getElem?_toArray, List.getElem?_cons_succ, List.getElem?_cons_zero]; rfl) (by kernel_rfl) (by kernel_rfl) (by kernel_rfl) (fun _ _ _ h => h) (yieldsIf_eql (by rfl) .neq 32 _ _ _ rfl (.agg (fileA F)) (.agg (fileA F)) rfl rfl (.bool false) (fun W => guard_pneq _ _ _ _ W) (fun W => HNE.out W)) (by assumption) ?_
            try simp only [Act.put, List.setIfInBounds_toArray, List.set_cons_zero, List.set_cons_succ]
            refine wpAnyH_take (i := 13) (v := ?_) (by simp only [List.getElem?_toArray, List.getElem?_cons_succ, List.getElem?_cons_zero]; rfl) (by kernel_rfl) (by kernel_rfl) (by kernel_rfl) (fun _ _ _ h => h) (Or.inl ⟨by rfl, ?_⟩) (by assumption) ?_
            rotate_left
            · intro W hSW
              go_simp
              try with_reducible rfl
            try simp only [Act.put, List.setIfInBounds_toArray, List.set_cons_zero, List.set_cons_succ]
            refine wpAnyH_take (i := 14) (v := ?_) (by simp only [List.getElem?_toArray, List.getElem?_cons_succ, List.getElem?_cons_zero]; rfl) (by kernel_rfl) (by kernel_rfl) (by kernel_rfl) (fun _ _ _ h => h) (Or.inl ⟨by rfl, ?_⟩) (by assumption) ?_
            rotate_left
            · intro W hSW
              go_simp
              try with_reducible rfl
            try simp only [Act.put, List.setIfInBounds_toArray, List.set_cons_zero, List.set_cons_succ]
            refine wpAnyH_take (i := 15) (v := ?_) (by simp only [List.getElem?_toArray, List.getElem?_cons_succ, List.getElem?_cons_zero]; rfl) (by kernel_rfl) (by kernel_rfl) (by kernel_rfl) (fun _ _ _ h => h) (Or.inl ⟨by rfl, ?_⟩) (by assumption) ?_
            rotate_left
            · intro W hSW
              go_simp
              try with_reducible rfl
            try simp only [Act.put, List.setIfInBounds_toArray, List.set_cons_zero, List.set_cons_succ]
            refine wpAnyH_take (i := 16) (v := ?_) (by simp only [List.getElem?_toArray, List.getElem?_cons_succ, List.getElem?_cons_zero]; rfl) (by kernel_rfl) (by kernel_rfl) (by kernel_rfl) (fun _ _ _ h => h) (Or.inl ⟨by rfl, ?_⟩) (by assumption) ?_
            rotate_left
            · intro W hSW
              go_simp
              try with_reducible rfl
            try simp only [Act.put, List.setIfInBounds_toArray, List.set_cons_zero, List.set_cons_succ]
            refine wpAnyH_take (i := 17) (v := ?_) (by simp only [List.getElem?_toArray, List.getElem?_cons_succ, List.getElem?_cons_zero]; rfl) (by kernel_rfl) (by kernel_rfl) (by kernel_rfl) (fun _ _ _ h => h) (Or.inl ⟨by rfl, ?_⟩) (by assumption) ?_
            rotate_left
            · intro W hSW
              go_simp
              try with_reducible rfl
            try simp only [Act.put, List.setIfInBounds_toArray, List.set_cons_zero, List.set_cons_succ]
            refine wpAnyH_take (i := 18) (v := ?_) (by simp only [List.getElem?_toArray, List.getElem?_cons_succ, List.getElem?_cons_zero]; rfl) (by kernel_rfl) (by kernel_rfl) (by kernel_rfl) (fun _ _ _ h => h) (Or.inl ⟨by rfl, ?_⟩) (by assumption) ?_
            rotate_left
            · intro W hSW
              go_simp
              try with_reducible rfl
            try simp only [Act.put, List.setIfInBounds_toArray, List.set_cons_zero, List.set_cons_succ]
            refine wpAnyH_take (i := 19) (v := undef) (by simp only [List.getElem?_toArray, List.getElem?_cons_succ, List.getElem?_cons_zero]; rfl) (by kernel_rfl) (by kernel_rfl) (by kernel_rfl) (fun _ _ _ h => h) (Or.inr ⟨by rfl, rfl⟩) (by assumption) ?_
            try simp only [Act.put, List.setIfInBounds_toArray, List.set_cons_zero, List.set_cons_succ]
            refine wpAnyH_take (i := 20) (v := undef) (by simp only [List.getElem?_toArray, List.getElem?_cons_succ, List.getElem?_cons_zero]; rfl) (by kernel_rfl) (by kernel_rfl) (by kernel_rfl) (fun _ _ _ h => h) (Or.inr ⟨by rfl, rfl⟩) (by assumption) ?_
            try simp only [Act.put, List.setIfInBounds_toArray, List.set_cons_zero, List.set_cons_succ]
            refine wpAnyH_take (i := 21) (v := undef) (by simp only [List.getElem?_toArray, List.getElem?_cons_succ, List.getElem?_cons_zero]; rfl) (by kernel_rfl) (by kernel_rfl) (by kernel_rfl) (fun _ _ _ h => h) (Or.inr ⟨by rfl, rfl⟩) (by assumption) ?_
            try simp only [Act.put, List.setIfInBounds_toArray, List.set_cons_zero, List.set_cons_succ]
            refine wpAnyH_take (i := 22) (v := ?_) (by simp only [List.getElem?_toArray, List.getElem?_cons_succ, List.getElem?_cons_zero]; rfl) (by kernel_rfl) (by kernel_rfl) (by kernel_rfl) (fun _ _ _ h => h) (Or.inl ⟨by rfl, ?_⟩) (by assumption) ?_
            rotate_left
            · intro W hSW
              go_simp
              try with_reducible rfl
            try simp only [Act.put, List.setIfInBounds_toArray, List.set_cons_zero, List.set_cons_succ]
            refine wpAnyH_take (i := 23) (v := ?_) (by simp only [List.getElem?_toArray, List.getElem?_cons_succ, List.getElem?_cons_zero]; rfl) (by kernel_rfl) (by kernel_rfl) (by kernel_rfl) (fun _ _ _ h => h) (Or.inl ⟨by rfl, ?_⟩) (by assumption) ?_
            rotate_left
            · intro W hSW
              go_simp
              try with_reducible rfl
            try simp only [Act.put, List.setIfInBounds_toArray, List.set_cons_zero, List.set_cons_succ]
            refine wpAnyH_done (by kernel_rfl) ?_ _
            refine NoPanic.normal ?_
            clear hHeld
            have HBX := Lib.hid (HB10.out.drew)
            have HAX : Hid (FsAt wr.drew _ A) := HA10.out.below ((Below.refl _ _).drew)
            go_wp2_with fail
            refine (known_any wr.drew (HE.out.below HBX.out)).mono ?_
            rintro e u1 ⟨rfl, hb⟩
            have HU1 := Lib.hid (HBX.out.trans (hb.mono HBX.out.size))
            have HAU := Lib.hid (HAX.out.below hb)
            have HZB : Hid (Below u1.heap.size u1 (u1.alloc (.cells #[] 32))) := (Below.refl _ _).alloc (Nat.le_refl _) _
            have HZ : Hid (OwnF 32 (u1.alloc (.cells #[] 32)) u1.heap.size (.slice (some ⟨u1.heap.size, 0, none⟩) 0 0) []) := OwnF.emptyN u1
            have tok : True := trivial
            clear hb
            go_wp2_with (first
              | refine wpList_slice (by rfl) _ _ _ rfl #[] (by simp) _ _ (slice_noNF u1) ?_
              | (have _t := tok; at_builtin; clear tok; refine Hid.out ?_))
            refine unhidM ?_
            refine wpList_append_filesN (by rfl) _ _ rfl u1.heap.size _ [] 0 rfl rfl HZ.out _ n lc A HN.out rfl (HAU.out.below HZB.out) n A (Nat.zero_add _) rfl (by have := HNB.out; omega) (by simp) (fun v2 u2 ho hg => ?_)
            have HU2 : Hid (Below u1.heap.size u1 u2) := HZB.out.trans (own_off HZ.out (by simp) hg)
            obtain ⟨xa, xc, rfl, hxa, -, -⟩ := ho.at
            rw [HN.out]
            have HD2 := diff_any _ lc A xa xc A u2 (HAU.out.below HU2.out) hxa (by rw [HN.out]; have := HNB.out; omega) (by rw [HN.out]; have := HNB.out; omega) HAP.out HAP.out
            rw [HN.out] at HD2
            have HD2 := Lib.hid HD2
            clear ho hg hxa HZ HZB
            go_wp2_with fail
            refine HD2.out.mono ?_
            rintro e u3 ⟨⟨dv, ss2, rfl, hro, -, -, hmem⟩, hb⟩
            have HU3 : Hid (Below w.heap.size w u3) := (HU1.out.trans (HU2.out.mono HU1.out.size)).trans (hb.mono (Nat.le_trans HU1.out.size HU2.out.size))
            have e0 : ss2 = [] := List.eq_nil_iff_forall_not_mem.2 fun z hz => by
              have := ((hmem z).1 hz).2
              rw [sameM_self] at this
              cases this
            subst e0
            rw [List.mergeSort_nil] at hro
            obtain ⟨za, zc, rfl, -, -, -⟩ := OwnS.at (show OwnS u3 u2.heap.size dv [] from hro)
            rw [show (([] : List (List UInt8)).length) = 0 from rfl]
            clear hro hmem hb HD2
            go_wp2_with fail
            go_ret
            exact ⟨rfl, HU3.out⟩
end Go.Proofs.YtcbjadecocggjaaDoor
