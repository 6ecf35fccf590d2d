/- Files that came in; at most forty; the document's files and the program's: the walks. -/
import Derived.Test.YtcbjadecocggjaaDoorFile
import Derived.Test.YtcbjadecocggjaaDoorEq
namespace Go.Proofs.YtcbjadecocggjaaDoor
open Go.RowKit Plain Go.ChangeShapes Go.WideShapes Go.ChangeAt Go.Deep
set_option linter.unusedVariables false
theorem trod_ids {H : Type} {enc : TypeId × Value → H} {w : World} {base : Nat} {held : Bool} {t : TypeId} {n fuel : Nat} {cs : List Value} {y : DataW H × List MemPlace}
    (ht : Tryd.prog.underlying t = some (.array n 5)) (hl : cs.length = n) (h : DataW.trod enc Tryd.prog w base (fun _ => true) held fuel t cs = some y) :
    ∃ zs : List Int, cs = U8 zs ∧ zs.length = n ∧ ∀ z ∈ zs, 0 ≤ z ∧ z ≤ 255 := by
  obtain ⟨xs, m, -, -, -, hxl, hget⟩ := DataW.trod_array ht h
  have hone : Tryd.prog.cellsOf 5 = 1 := by kernel_rfl
  have key : ∀ i, i < n → ∃ z : Int, cs[i]? = some (.int .u8 z) ∧ 0 ≤ z ∧ z ≤ 255 := by
    intro i hi
    have h1 := hget i hi
    rw [hone, Nat.mul_one] at h1
    have hi' : i < cs.length := by omega
    rw [List.getElem?_eq_getElem (by omega)] at h1
    have e : (List.drop i cs).take 1 = [cs[i]] := by
      rw [List.drop_eq_getElem_cons hi', List.take_succ_cons, List.take_zero]
    rw [e] at h1
    obtain ⟨z, hz, -, hw⟩ := DataW.trod_int Tryd.underlying5 h1
    exact ⟨z, by rw [List.getElem?_eq_getElem hi']; simpa using hz, bounds_u8 hw⟩
  refine ⟨(List.range n).map fun i => numOf cs[i]?, ?_, by simp, fun z hz => ?_⟩
  · apply List.ext_getElem?
    intro i
    unfold U8
    rw [List.map_map, List.getElem?_map]
    by_cases hi : i < n
    · obtain ⟨z, hz, -⟩ := key i hi
      rw [List.getElem?_range hi, hz]
      simp [hz, numOf]
    · rw [List.getElem?_eq_none (by omega), List.getElem?_eq_none (by simp; omega)]
      rfl
  · obtain ⟨i, hi, rfl⟩ := List.mem_map.1 hz
    obtain ⟨z, hz, h0⟩ := key i (List.mem_range.1 hi)
    rw [hz]
    exact h0
/-- Is that a file? -/
def GoodF (x : MF) : Prop := x.n.length = 20 ∧ ∀ z ∈ x.n, 0 ≤ z ∧ z ≤ 255
set_option maxRecDepth 100000 in
theorem open_files {H : Type} {enc : TypeId × Value → H} {w : World} {base b0 : Nat} {held : Bool} {r : Reach} {v : Value} {d : DataW H} {p : List MemPlace}
    (hv : Value.okWide Tryd.prog w r b0 22 v) (h : DataW.Trod enc Tryd.prog w base (fun _ => true) held 22 v d p) :
    ∃ (a : Option Addr) (cap : Nat) (xs : List MF), v = .slice a xs.length cap ∧ xs.length ≤ 9223372036854775807 ∧ FsAt w a xs ∧ (∀ x ∈ xs, GoodF x) ∧ ∀ x ∈ xs, x.p.size ≤ maxLen ∧ x.f.size ≤ maxLen := by
  obtain ⟨a, len, cap, rfl⟩ := okWide_slice Tryd.underlying22 hv
  obtain ⟨fuel, hf⟩ := h
  rcases DataW.trod_slice Tryd.underlying22 hf with ⟨hcs, -⟩ | ⟨x, len', cap', elems, rest, n, -, hcs, -, hb, hl, hm, hlen, hel, -, -⟩
  · simp [Value.cells] at hcs
    obtain ⟨rfl, rfl, rfl⟩ := hcs
    exact ⟨none, 0, [], rfl, by simp, FsAt.nil w, by simp, by simp⟩
  · simp [Value.cells] at hcs
    obtain ⟨rfl, rfl, rfl⟩ := hcs
    have h22 : Tryd.prog.cellsOf 45 = 22 := by kernel_rfl
    have h20 : Tryd.prog.cellsOf 29 = 20 := by kernel_rfl
    have h1 : Tryd.prog.cellsOf 9 = 1 := by kernel_rfl
    have each : ∀ j, ∃ y : MF, j < len → (GoodF y ∧ y.p.size ≤ maxLen ∧ y.f.size ≤ maxLen) ∧ ∀ i u, (fileL y)[i]? = some u → w.cell? ((x.add (j * 22)).add i) = some u := by
      intro j
      by_cases hj : j < len
      · have e := hel j (by omega)
        rw [h22] at e
        obtain ⟨y, hy⟩ : ∃ y, elems[j]? = some y := ⟨_, List.getElem?_eq_getElem (by omega)⟩
        rw [hy, Option.bind_eq_some_iff] at e
        obtain ⟨cs', hcs', hst⟩ := e
        obtain ⟨-, hcl, hcc⟩ := World.cells?_some hcs'
        obtain ⟨y0, y1, y2, n', -, -, g0, g1, g2⟩ := trod_struct3 Tryd.underlying45 hst
        simp only [h1] at g0 g2
        simp only [h20] at g1
        change DataW.trod enc Tryd.prog w base (fun _ => true) held n' 9 ((cs'.drop 0).take 1) = some y0 at g0
        change DataW.trod enc Tryd.prog w base (fun _ => true) held n' 29 ((cs'.drop 1).take 20) = some y1 at g1
        change DataW.trod enc Tryd.prog w base (fun _ => true) held n' 9 ((cs'.drop 21).take 1) = some y2 at g2
        have hcl' : cs'.length = 22 := hcl
        obtain ⟨P, hP, -, hsP⟩ := DataW.trod_string Tryd.underlying9 g0
        obtain ⟨N, hN, hNl, hNb⟩ := trod_ids Tryd.underlying29 (by rw [List.length_take, List.length_drop, hcl']; rfl) g1
        obtain ⟨F, hF, -, hsF⟩ := DataW.trod_string Tryd.underlying9 g2
        refine ⟨⟨P, N, F⟩, fun _ => ⟨⟨⟨hNl, hNb⟩, hsP, hsF⟩, fun i u hu => ?_⟩⟩
        have ec : cs' = fileL ⟨P, N, F⟩ := by
          rw [List.drop_zero] at hP
          rw [List.take_of_length_le (by rw [List.length_drop, hcl']; omega)] at hF
          have e1 : cs'.drop 1 = U8 N ++ [Value.string F] := by
            rw [← List.take_append_drop 20 (cs'.drop 1), hN, List.drop_drop]
            rw [hF]
          rw [← List.take_append_drop 1 cs', hP, e1]
          rfl
        rw [← ec] at hu
        have hil := (List.getElem?_eq_some_iff.1 hu).1
        have := hcc i (by omega)
        rw [this, hu]
      · exact ⟨noFile, fun h => absurd h hj⟩
    obtain ⟨f, hf2⟩ : ∃ f : Nat → MF, ∀ j, j < len → (GoodF (f j) ∧ (f j).p.size ≤ maxLen ∧ (f j).f.size ≤ maxLen) ∧ ∀ i u, (fileL (f j))[i]? = some u → w.cell? ((x.add (j * 22)).add i) = some u :=
      ⟨fun j => (each j).choose, fun j => (each j).choose_spec⟩
    have hll : ((List.range len).map f).length = len := by simp
    refine ⟨some x, cap, (List.range len).map f, by rw [hll], by rw [hll]; unfold maxLen at hm; omega, ⟨fun p hp => ?_, ?_⟩, fun p hp => ?_, fun p hp => ?_⟩
    · obtain ⟨j, hj, rfl⟩ := List.mem_map.1 hp
      exact (hf2 j (List.mem_range.1 hj)).1.1.1
    · rw [hll]
      by_cases h0 : len = 0
      · exact .inl h0
      · obtain ⟨b, off, spot⟩ := x
        have c0 := (hf2 0 (by omega)).2 0 _ rfl
        have hspot : spot = none := by simpa [Addr.add] using World.cell?_spot c0
        subst hspot
        have hplain : ∀ (o i : Nat), (⟨b, o, none⟩ : Addr).add i = ⟨b, o + i, none⟩ := fun o i => by unfold Addr.add; split <;> simp_all
        refine .inr ⟨b, off, rfl, ?_, fun j p hj i u hu => ?_⟩
        · rw [hplain, hplain] at c0
          exact World.block_lt_of_cell? w _ c0
        · have hjl : j < len := by
            have := (List.getElem?_eq_some_iff.1 hj).1
            rw [hll] at this; exact this
          rw [List.getElem?_map, List.getElem?_range hjl] at hj
          injection hj with hj
          subst hj
          have := (hf2 j hjl).2 i u hu
          rw [hplain, hplain] at this
          exact this
    · obtain ⟨j, hj, rfl⟩ := List.mem_map.1 hp
      exact (hf2 j (List.mem_range.1 hj)).1.1
    · obtain ⟨j, hj, rfl⟩ := List.mem_map.1 hp
      exact (hf2 j (List.mem_range.1 hj)).1.2
theorem slice_front (s : ByteArray) (m : Nat) (h2 : m ≤ s.size) (x : Int) (hx : x = (m : Int)) (w : World) : (Instr.slice 9 (.string s) none (some (.int .i64 x)) none).run Tryd.prog w = .ok (.string (s.extract 0 m)) w := by
  subst hx
  have ht := Tryd.underlying9
  simp [Instr.slice, run_underlying ht, Instr.sliceBounds, run_sliceBound, h2]
def fewF (x : MF) : MF := ⟨x.p.extract 0 (min x.p.size 300), x.n, x.f.extract 0 (min x.f.size 20)⟩
theorem yieldsIf_eql {P : Program} {ops : Array Oper} {S : World → Prop} {op : Oper} {a : Act} (hw : Region.wanted op (yielded ops a.tmps) = true) (b : BinOp) (ty : TypeId) (x y : Operand) (tz : TypeId) (ho : op.op = .binOp b ty x y tz)
    (u1 u2 : Value) (h1 : a.eval x = u1) (h2 : a.eval y = u2) (v : Value) (hg : ∀ W, (eqGuard b ty x y u1 u2).run P W = .ok () W) (hr : ∀ W, (binOp b ty u1 u2).run P W = .ok v W) : YieldsIf P ops S op v a := by
  refine .inl ⟨hw, fun W hS => ?_⟩
  unfold execOp
  simp only [ho, h1, h2, Sem.run_bind, hg, hr, Result.andThen_ok]
  rfl
set_option maxRecDepth 100000 in
set_option maxHeartbeats 8000000 in
theorem few_any (a : Option Addr) (c : Nat) (xs : List MF) (w : World) (h : FsAt w a xs) (hn : xs.length ≤ 9223372036854775807) :
    Calls Tryd.prog 5 #[.slice a xs.length c] w fun e w' => (∃ v, e = .returned v ∧ OwnF 32 w' w.heap.size v ((xs.take 40).map fewF)) ∧ Below w.heap.size w w' := by
  have HS := Lib.hid h
  obtain ⟨n, hnl⟩ : ∃ n, xs.length = n := ⟨_, rfl⟩
  have HN := Lib.hid hnl
  rw [hnl] at hn ⊢
  clear h hnl
  go_enter Tryd.func5, Tryd.ntmps5
  go_wp2_with fail
  go_loopw [3, 4] (fun o i wr => ∃ (k : Nat) (oa : Option Addr) (oc : Nat), k ≤ 40 ∧ k ≤ n ∧ i = .int .i64 (k : Int) ∧ o = .slice oa k oc ∧ OwnF 32 wr w.heap.size (.slice oa k oc) ((xs.take k).map fewF) ∧ Below w.heap.size w wr) (fun o i _ => n - (intOf i).toNat)
  case atStart => exact ⟨0, none, 0, by omega, by omega, rfl, rfl, by rw [List.take_zero]; exact OwnF.nil _ _ _, Below.refl _ _⟩
  case round =>
    obtain ⟨k, oa, oc, hk, hkn, rfl, rfl, ho, hb⟩ := hrel
    have HO := Lib.hid ho
    have HB := Lib.hid hb
    clear ho hb
    have wk := next_int k (by omega)
    by_cases h1 : k = n
    · subst h1
      have HE : Hid (xs.take 40 = xs.take k) := by
        show _ = _
        rw [List.take_of_length_le (by rw [HN.out]; omega), List.take_of_length_le (by rw [HN.out]; omega)]
      go_wp2_with fail
      go_ret
      exact ⟨⟨_, rfl, by rw [HE.out]; exact HO.out⟩, HB.out⟩
    · have hkl : k < n := by omega
      have hki : (k : Int) < (n : Int) := by omega
      by_cases h2 : k = 40
      · subst h2
        go_wp2_with fail
        go_ret
        exact ⟨⟨_, rfl, HO.out⟩, HB.out⟩
      · have hk30 : k < 40 := by omega
        have hk3i : (k : Int) < 40 := by omega
        obtain ⟨b, off, x, rfl, hp, h20, hbl, hr⟩ := HS.out.at (k := k) (by rw [HN.out]; exact hkl)
        have HT : Hid ((xs.take (k + 1)).map fewF = (xs.take k).map fewF ++ [fewF x]) := by show _ = _; rw [take_snoc hp, List.map_append]; rfl
        have H20 := Lib.hid h20
        have HC0 : Hid (∀ W, Below w.heap.size w W → W.rangeAt b (off + k * 22) (fileL x)) := fun W hW => range_below hr hW hbl
        have hm1 : min (x.p.size : Int) 300 = ((min x.p.size 300 : Nat) : Int) := by omega
        have hm2 : min (x.f.size : Int) 20 = ((min x.f.size 20 : Nat) : Int) := by omega
        have hs1 := fun W => slice_front x.p (min x.p.size 300) (by omega) _ rfl W
        have hs2 := fun W => slice_front x.f (min x.f.size 20) (by omega) _ rfl W
        have hbu := fun W => build_file (fewF x).p (fewF x).f x.n h20 W
        have hbs := fun W => slice_file (fewF x) h20 W
        have HBW : Hid (Below w.heap.size w (wr.drew.alloc (.cells (fileA (fewF x)) 32))) := HB.out.drew.alloc (by exact HB.out.size) _
        have HLI : Hid ((wr.drew.alloc (.cells (fileA (fewF x)) 32)).rangeAt wr.heap.size 0 (fileL (fewF x))) := box_file wr.drew (fewF x) _
        have HO6 : Hid (OwnF 32 (wr.drew.alloc (.cells (fileA (fewF x)) 32)) w.heap.size (.slice oa k oc) ((xs.take k).map fewF)) := HO.out.below ((Below.refl _ _).drew.alloc (Nat.le_refl _) _)
        have HTL : Hid (((xs.take k).map fewF).length = k) := by show _ = _; rw [List.length_map, List.length_take, HN.out]; omega
        clear hp h20 hbl hr
        go_wp2_with fail
        refine wp_region_noPanic ?_
        refine wp_region_held_drew (S := fun W => W.rangeAt b (off + k * 22) (fileL x)) (by kernel_rfl) ?_ (fun hHeld => ?_)
        · exact HC0.out _ HB.out.drew
        refine wpAnyH_take (i := 0) (v := ?_) (by simp only [List.getElem?_toArray, List.getElem?_cons_zero]; rfl) (by kernel_rfl) (by kernel_rfl) (by kernel_rfl) (fun _ _ _ h => h) (Or.inl ⟨by rfl, ?_⟩) (by assumption) ?_
        rotate_left
        · intro W hSW
          go_simp
          try with_reducible rfl
        try simp only [Act.put, List.setIfInBounds_toArray, List.set_cons_zero, List.set_cons_succ]
        refine wpAnyH_take (i := 1) (v := ?_) (by simp only [List.getElem?_toArray, List.getElem?_cons_succ, List.getElem?_cons_zero]; rfl) (by kernel_rfl) (by kernel_rfl) (by kernel_rfl) (fun _ _ _ h => h) (Or.inl ⟨by rfl, ?_⟩) (by assumption) ?_
        rotate_left
        · intro W hSW
          go_simp
          try with_reducible rfl
        try simp only [Act.put, List.setIfInBounds_toArray, List.set_cons_zero, List.set_cons_succ]
        refine wpAnyH_take (i := 2) (v := ?_) (by simp only [List.getElem?_toArray, List.getElem?_cons_succ, List.getElem?_cons_zero]; rfl) (by kernel_rfl) (by kernel_rfl) (by kernel_rfl) (fun _ _ _ h => h) (Or.inl ⟨by rfl, ?_⟩) (by assumption) ?_
        rotate_left
        · intro W hSW
          go_simp
          try with_reducible rfl
        try simp only [Act.put, List.setIfInBounds_toArray, List.set_cons_zero, List.set_cons_succ]
        refine wpAnyH_take (i := 3) (v := ?_) (by simp only [List.getElem?_toArray, List.getElem?_cons_succ, List.getElem?_cons_zero]; rfl) (by kernel_rfl) (by kernel_rfl) (by kernel_rfl) (fun _ _ _ h => h) (Or.inl ⟨by rfl, ?_⟩) (by assumption) ?_
        rotate_left
        · intro W hSW
          go_simp
          try with_reducible rfl
        try simp only [Act.put, List.setIfInBounds_toArray, List.set_cons_zero, List.set_cons_succ]
        refine wpAnyH_take (i := 4) (v := ?_) (by simp only [List.getElem?_toArray, List.getElem?_cons_succ, List.getElem?_cons_zero]; rfl) (by kernel_rfl) (by kernel_rfl) (by kernel_rfl) (fun _ _ _ h => h) (Or.inl ⟨by rfl, ?_⟩) (by assumption) ?_
        rotate_left
        · intro W hSW
          go_simp
          try with_reducible rfl
        try simp only [Act.put, List.setIfInBounds_toArray, List.set_cons_zero, List.set_cons_succ]
        refine wpAnyH_take (i := 5) (by simp only [List.getElem?_toArray, List.getElem?_cons_succ, List.getElem?_cons_zero]; rfl) (by kernel_rfl) (by kernel_rfl) (by kernel_rfl) (fun _ _ _ h => h) (yieldsIf_load_str (by rfl) 9 _ rfl b (off + k * 22) rfl x.p (fun W hSW => range_path hSW) Tryd.underlying9) (by assumption) ?_
        try simp only [Act.put, List.setIfInBounds_toArray, List.set_cons_zero, List.set_cons_succ]
        refine wpAnyH_take (i := 6) (v := ?_) (by simp only [List.getElem?_toArray, List.getElem?_cons_succ, List.getElem?_cons_zero]; rfl) (by kernel_rfl) (by kernel_rfl) (by kernel_rfl) (fun _ _ _ h => h) (Or.inl ⟨by rfl, ?_⟩) (by assumption) ?_
        rotate_left
        · intro W hSW
          go_simp
          try with_reducible rfl
        try simp only [Act.put, List.setIfInBounds_toArray, List.set_cons_zero, List.set_cons_succ]
        refine wpAnyH_take (i := 7) (v := ?_) (by simp only [List.getElem?_toArray, List.getElem?_cons_succ, List.getElem?_cons_zero]; rfl) (by kernel_rfl) (by kernel_rfl) (by kernel_rfl) (fun _ _ _ h => h) (Or.inl ⟨by rfl, ?_⟩) (by assumption) ?_
        rotate_left
        · intro W hSW
          go_simp
          try with_reducible rfl
        try simp only [Act.put, List.setIfInBounds_toArray, List.set_cons_zero, List.set_cons_succ]
        refine wpAnyH_take (i := 8) (v := ?_) (by simp only [List.getElem?_toArray, List.getElem?_cons_succ, List.getElem?_cons_zero]; rfl) (by kernel_rfl) (by kernel_rfl) (by kernel_rfl) (fun _ _ _ h => h) (Or.inl ⟨by rfl, ?_⟩) (by assumption) ?_
        rotate_left
        · intro W hSW
          go_simp
          try with_reducible rfl
        try simp only [Act.put, List.setIfInBounds_toArray, List.set_cons_zero, List.set_cons_succ]
        refine wpAnyH_take (i := 9) (v := ?_) (by simp only [List.getElem?_toArray, List.getElem?_cons_succ, List.getElem?_cons_zero]; rfl) (by kernel_rfl) (by kernel_rfl) (by kernel_rfl) (fun _ _ _ h => h) (Or.inl ⟨by rfl, ?_⟩) (by assumption) ?_
        rotate_left
        · intro W hSW
          go_simp
          try with_reducible rfl
        try simp only [Act.put, List.setIfInBounds_toArray, List.set_cons_zero, List.set_cons_succ]
        refine wpAnyH_take (i := 10) (by simp only [List.getElem?_toArray, List.getElem?_cons_succ, List.getElem?_cons_zero]; rfl) (by kernel_rfl) (by kernel_rfl) (by kernel_rfl) (fun _ _ _ h => h) (yieldsIf_load_str (by rfl) 9 _ rfl b (off + k * 22) rfl x.p (fun W hSW => range_path hSW) Tryd.underlying9) (by assumption) ?_
        try simp only [Act.put, List.setIfInBounds_toArray, List.set_cons_zero, List.set_cons_succ]
        refine wpAnyH_take (i := 11) (v := ?_) (by simp only [List.getElem?_toArray, List.getElem?_cons_succ, List.getElem?_cons_zero]; rfl) (by kernel_rfl) (by kernel_rfl) (by kernel_rfl) (fun _ _ _ h => h) (Or.inl ⟨by rfl, ?_⟩) (by assumption) ?_
        rotate_left
        · intro W hSW
          go_simp
          try with_reducible rfl
        try simp only [Act.put, List.setIfInBounds_toArray, List.set_cons_zero, List.set_cons_succ]
        refine wpAnyH_take (i := 12) (v := ?_) (by simp only [List.getElem?_toArray, List.getElem?_cons_succ, List.getElem?_cons_zero]; rfl) (by kernel_rfl) (by kernel_rfl) (by kernel_rfl) (fun _ _ _ h => h) (Or.inl ⟨by rfl, ?_⟩) (by assumption) ?_
        rotate_left
        · intro W hSW
          go_simp
          try with_reducible rfl
        try simp only [Act.put, List.setIfInBounds_toArray, List.set_cons_zero, List.set_cons_succ]
        refine wpAnyH_take (i := 13) (v := ?_) (by simp only [List.getElem?_toArray, List.getElem?_cons_succ, List.getElem?_cons_zero]; rfl) (by kernel_rfl) (by kernel_rfl) (by kernel_rfl) (fun _ _ _ h => h) (Or.inl ⟨by rfl, ?_⟩) (by assumption) ?_
        rotate_left
        · intro W hSW
          go_simp
          try with_reducible rfl
        try simp only [Act.put, List.setIfInBounds_toArray, List.set_cons_zero, List.set_cons_succ]
        refine wpAnyH_take (i := 14) (v := ?_) (by simp only [List.getElem?_toArray, List.getElem?_cons_succ, List.getElem?_cons_zero]; rfl) (by kernel_rfl) (by kernel_rfl) (by kernel_rfl) (fun _ _ _ h => h) (Or.inl ⟨by rfl, ?_⟩) (by assumption) ?_
        rotate_left
        · intro W hSW
          go_simp
          try with_reducible rfl
        try simp only [Act.put, List.setIfInBounds_toArray, List.set_cons_zero, List.set_cons_succ]
        refine wpAnyH_take (i := 15) (v := ?_) (by simp only [List.getElem?_toArray, List.getElem?_cons_succ, List.getElem?_cons_zero]; rfl) (by kernel_rfl) (by kernel_rfl) (by kernel_rfl) (fun _ _ _ h => h) (Or.inl ⟨by rfl, ?_⟩) (by assumption) ?_
        rotate_left
        · intro W hSW
          go_simp
          try with_reducible rfl
        try simp only [Act.put, List.setIfInBounds_toArray, List.set_cons_zero, List.set_cons_succ]
        refine wpAnyH_take (i := 16) (v := ?_) (by simp only [List.getElem?_toArray, List.getElem?_cons_succ, List.getElem?_cons_zero]; rfl) (by kernel_rfl) (by kernel_rfl) (by kernel_rfl) (fun _ _ _ h => h) (Or.inl ⟨by rfl, ?_⟩) (by assumption) ?_
        rotate_left
        · intro W hSW
          go_simp
          try with_reducible rfl
        try simp only [Act.put, List.setIfInBounds_toArray, List.set_cons_zero, List.set_cons_succ]
        refine wpAnyH_take (i := 17) (v := ?_) (by simp only [List.getElem?_toArray, List.getElem?_cons_succ, List.getElem?_cons_zero]; rfl) (by kernel_rfl) (by kernel_rfl) (by kernel_rfl) (fun _ _ _ h => h) (Or.inl ⟨by rfl, ?_⟩) (by assumption) ?_
        rotate_left
        · intro W hSW
          go_simp
          try with_reducible rfl
        try simp only [Act.put, List.setIfInBounds_toArray, List.set_cons_zero, List.set_cons_succ]
        refine wpAnyH_take (i := 18) (by simp only [List.getElem?_toArray, List.getElem?_cons_succ, List.getElem?_cons_zero]; rfl) (by kernel_rfl) (by kernel_rfl) (by kernel_rfl) (fun _ _ _ h => h) (yieldsIf_load_mid (by rfl) 29 _ rfl b (off + k * 22 + 1) rfl (U8 x.n) (.array 20 5) (fun W hSW => range_node hSW) Tryd.underlying29 rfl (id20_infoL _ H20.out)) (by assumption) ?_
        try simp only [Act.put, List.setIfInBounds_toArray, List.set_cons_zero, List.set_cons_succ]
        refine wpAnyH_take (i := 19) (v := ?_) (by simp only [List.getElem?_toArray, List.getElem?_cons_succ, List.getElem?_cons_zero]; rfl) (by kernel_rfl) (by kernel_rfl) (by kernel_rfl) (fun _ _ _ h => h) (Or.inl ⟨by rfl, ?_⟩) (by assumption) ?_
        rotate_left
        · intro W hSW
          go_simp
          try with_reducible rfl
        try simp only [Act.put, List.setIfInBounds_toArray, List.set_cons_zero, List.set_cons_succ]
        refine wpAnyH_take (i := 20) (v := ?_) (by simp only [List.getElem?_toArray, List.getElem?_cons_succ, List.getElem?_cons_zero]; rfl) (by kernel_rfl) (by kernel_rfl) (by kernel_rfl) (fun _ _ _ h => h) (Or.inl ⟨by rfl, ?_⟩) (by assumption) ?_
        rotate_left
        · intro W hSW
          go_simp
          try with_reducible rfl
        try simp only [Act.put, List.setIfInBounds_toArray, List.set_cons_zero, List.set_cons_succ]
        refine wpAnyH_take (i := 21) (v := ?_) (by simp only [List.getElem?_toArray, List.getElem?_cons_succ, List.getElem?_cons_zero]; rfl) (by kernel_rfl) (by kernel_rfl) (by kernel_rfl) (fun _ _ _ h => h) (Or.inl ⟨by rfl, ?_⟩) (by assumption) ?_
        rotate_left
        · intro W hSW
          go_simp
          try with_reducible rfl
        try simp only [Act.put, List.setIfInBounds_toArray, List.set_cons_zero, List.set_cons_succ]
        refine wpAnyH_take (i := 22) (v := ?_) (by simp only [List.getElem?_toArray, List.getElem?_cons_succ, List.getElem?_cons_zero]; rfl) (by kernel_rfl) (by kernel_rfl) (by kernel_rfl) (fun _ _ _ h => h) (Or.inl ⟨by rfl, ?_⟩) (by assumption) ?_
        rotate_left
        · intro W hSW
          go_simp
          try with_reducible rfl
        try simp only [Act.put, List.setIfInBounds_toArray, List.set_cons_zero, List.set_cons_succ]
        refine wpAnyH_take (i := 23) (by simp only [List.getElem?_toArray, List.getElem?_cons_succ, List.getElem?_cons_zero]; rfl) (by kernel_rfl) (by kernel_rfl) (by kernel_rfl) (fun _ _ _ h => h) (yieldsIf_load_str (by rfl) 9 _ rfl b (off + k * 22 + 21) rfl x.f (fun W hSW => range_flag hSW H20.out) Tryd.underlying9) (by assumption) ?_
        try simp only [Act.put, List.setIfInBounds_toArray, List.set_cons_zero, List.set_cons_succ]
        refine wpAnyH_take (i := 24) (v := ?_) (by simp only [List.getElem?_toArray, List.getElem?_cons_succ, List.getElem?_cons_zero]; rfl) (by kernel_rfl) (by kernel_rfl) (by kernel_rfl) (fun _ _ _ h => h) (Or.inl ⟨by rfl, ?_⟩) (by assumption) ?_
        rotate_left
        · intro W hSW
          go_simp
          try with_reducible rfl
        try simp only [Act.put, List.setIfInBounds_toArray, List.set_cons_zero, List.set_cons_succ]
        refine wpAnyH_take (i := 25) (v := ?_) (by simp only [List.getElem?_toArray, List.getElem?_cons_succ, List.getElem?_cons_zero]; rfl) (by kernel_rfl) (by kernel_rfl) (by kernel_rfl) (fun _ _ _ h => h) (Or.inl ⟨by rfl, ?_⟩) (by assumption) ?_
        rotate_left
        · intro W hSW
          go_simp
          try with_reducible rfl
        try simp only [Act.put, List.setIfInBounds_toArray, List.set_cons_zero, List.set_cons_succ]
        refine wpAnyH_take (i := 26) (v := ?_) (by simp only [List.getElem?_toArray, List.getElem?_cons_succ, List.getElem?_cons_zero]; rfl) (by kernel_rfl) (by kernel_rfl) (by kernel_rfl) (fun _ _ _ h => h) (Or.inl ⟨by rfl, ?_⟩) (by assumption) ?_
        rotate_left
        · intro W hSW
          go_simp
          try with_reducible rfl
        try simp only [Act.put, List.setIfInBounds_toArray, List.set_cons_zero, List.set_cons_succ]
        refine wpAnyH_take (i := 27) (v := ?_) (by simp only [List.getElem?_toArray, List.getElem?_cons_succ, List.getElem?_cons_zero]; rfl) (by kernel_rfl) (by kernel_rfl) (by kernel_rfl) (fun _ _ _ h => h) (Or.inl ⟨by rfl, ?_⟩) (by assumption) ?_
        rotate_left
        · intro W hSW
          go_simp
          try with_reducible rfl
        try simp only [Act.put, List.setIfInBounds_toArray, List.set_cons_zero, List.set_cons_succ]
        refine wpAnyH_take (i := 28) (by simp only [List.getElem?_toArray, List.getElem?_cons_succ, List.getElem?_cons_zero]; rfl) (by kernel_rfl) (by kernel_rfl) (by kernel_rfl) (fun _ _ _ h => h) (yieldsIf_load_str (by rfl) 9 _ rfl b (off + k * 22 + 21) rfl x.f (fun W hSW => range_flag hSW H20.out) Tryd.underlying9) (by assumption) ?_
        try simp only [Act.put, List.setIfInBounds_toArray, List.set_cons_zero, List.set_cons_succ]
        refine wpAnyH_take (i := 29) (v := ?_) (by simp only [List.getElem?_toArray, List.getElem?_cons_succ, List.getElem?_cons_zero]; rfl) (by kernel_rfl) (by kernel_rfl) (by kernel_rfl) (fun _ _ _ h => h) (Or.inl ⟨by rfl, ?_⟩) (by assumption) ?_
        rotate_left
        · intro W hSW
          go_simp
          try with_reducible rfl
        try simp only [Act.put, List.setIfInBounds_toArray, List.set_cons_zero, List.set_cons_succ]
        refine wpAnyH_take (i := 30) (v := ?_) (by simp only [List.getElem?_toArray, List.getElem?_cons_succ, List.getElem?_cons_zero]; rfl) (by kernel_rfl) (by kernel_rfl) (by kernel_rfl) (fun _ _ _ h => h) (Or.inl ⟨by rfl, ?_⟩) (by assumption) ?_
        rotate_left
        · intro W hSW
          go_simp
          try with_reducible rfl
        try simp only [Act.put, List.setIfInBounds_toArray, List.set_cons_zero, List.set_cons_succ]
        refine wpAnyH_take (i := 31) (v := ?_) (by simp only [List.getElem?_toArray, List.getElem?_cons_succ, List.getElem?_cons_zero]; rfl) (by kernel_rfl) (by kernel_rfl) (by kernel_rfl) (fun _ _ _ h => h) (Or.inl ⟨by rfl, ?_⟩) (by assumption) ?_
        rotate_left
        · intro W hSW
          go_simp
          try with_reducible rfl
        try simp only [Act.put, List.setIfInBounds_toArray, List.set_cons_zero, List.set_cons_succ]
        refine wpAnyH_take (i := 32) (by simp only [List.getElem?_toArray, List.getElem?_cons_succ, List.getElem?_cons_zero]; rfl) (by kernel_rfl) (by kernel_rfl) (by kernel_rfl) (fun _ _ _ h => h) (yieldsIf_build (by rfl) _ _ rfl #[(0, .string (fewF x).p), (1, .agg (V8 (fewF x).n)), (2, .string (fewF x).f)] (map_three _ _ _ _ _ _ _ rfl rfl rfl) (.agg (fileA (fewF x))) hbu) (by assumption) ?_
        try simp only [Act.put, List.setIfInBounds_toArray, List.set_cons_zero, List.set_cons_succ]
        refine wpAnyH_ready (rs := [33]) (by kernel_rfl) (by simp) ?_
        refine AllReadyH.cons (by simp only [List.getElem?_toArray, List.getElem?_cons_succ, List.getElem?_cons_zero]; rfl) (fun K hK => ?_) AllReadyH.nil
        refine step_slice (by rfl) _ _ _ rfl #[(0, .agg (fileA (fewF x)))] (map_one _ _ _ rfl) _ _ (hbs _) ?_
        refine hK.out _ _ (HC0.out _ HBW.out) (fun hHeld2 => ?_)
        clear hK K hHeld
        have hHeld := hHeld2
        clear hHeld2
        try simp only [Act.put, List.setIfInBounds_toArray, List.set_cons_zero, List.set_cons_succ]
        refine wpAnyH_ready (rs := [34]) (by kernel_rfl) (by simp) ?_
        refine AllReadyH.cons (by simp only [List.getElem?_toArray, List.getElem?_cons_succ, List.getElem?_cons_zero]; rfl) (fun K hK => ?_) AllReadyH.nil
        refine step_append_file rfl _ _ rfl w.heap.size (.slice oa k oc) ((xs.take k).map fewF) k HTL.out rfl HO6.out wr.heap.size (fewF x) H20.out rfl HLI.out (by omega) HBW.out.size ?_
        rintro g2 gc2 w7 ho1 hg1 hgg hgl
        have HO1 := Lib.hid ho1
        have HB7 : Hid (Below w.heap.size w w7) := HBW.out.grown hg1 HBW.out.size (fun g hg => (HO.out.lt hg).1)
        clear ho1 hg1 hgg hgl
        refine hK.out _ _ (HC0.out _ HB7.out) (fun hHeld2 => ?_)
        clear hK K hHeld
        have hHeld := hHeld2
        clear hHeld2
        try simp only [Act.put, List.setIfInBounds_toArray, List.set_cons_zero, List.set_cons_succ]
        refine wpAnyH_take (i := 35) (v := ?_) (by simp only [List.getElem?_toArray, List.getElem?_cons_succ, List.getElem?_cons_zero]; rfl) (by kernel_rfl) (by kernel_rfl) (by kernel_rfl) (fun _ _ _ h => h) (Or.inl ⟨by rfl, ?_⟩) (by assumption) ?_
        rotate_left
        · intro W hSW
          go_simp
          try with_reducible rfl
        try simp only [Act.put, List.setIfInBounds_toArray, List.set_cons_zero, List.set_cons_succ]
        refine wpAnyH_done (by kernel_rfl) ?_ _
        refine NoPanic.normal ?_
        clear HO HBW HLI HO6 hbu hbs hs1 hs2 hm1 hm2
        go_wp2_with fail
        refine ⟨⟨k + 1, some ⟨g2, 0, none⟩, gc2, by omega, by omega, by first | rfl | exact congrArg (Value.int .i64) (wk _ rfl), rfl, ?_, HB7.out⟩, by simp [intOf]; omega⟩
        rw [HT.out]
        exact HO1.out
set_option maxRecDepth 100000 in
set_option maxHeartbeats 8000000 in
theorem as_any (a : Option Addr) (c : Nat) (xs : List MF) (w : World) (h : FsAt w a xs) (hn : xs.length ≤ 1000000) :
    Calls Tryd.prog 8 #[.slice a xs.length c] w fun e w' => (∃ v, e = .returned v ∧ OwnF 45 w' w.heap.size v xs) ∧ Below w.heap.size w w' := by
  have HS := Lib.hid h
  obtain ⟨n, hnl⟩ : ∃ n, xs.length = n := ⟨_, rfl⟩
  have HN := Lib.hid hnl
  rw [hnl] at hn ⊢
  clear h hnl
  go_enter Tryd.func8, Tryd.ntmps8
  go_wp2_with fail
  go_loopw [3, 4] (fun o i wr => ∃ (k : Nat) (oa : Option Addr) (oc : Nat), k ≤ n ∧ i = .int .i64 (k : Int) ∧ o = .slice oa k oc ∧ OwnF 45 wr w.heap.size (.slice oa k oc) (xs.take k) ∧ Below w.heap.size w wr) (fun o i _ => n - (intOf i).toNat)
  case atStart => exact ⟨0, none, 0, by omega, rfl, rfl, by rw [List.take_zero]; exact OwnF.nil _ _ _, Below.refl _ _⟩
  case round =>
    obtain ⟨k, oa, oc, hkn, rfl, rfl, ho, hb⟩ := hrel
    have HO := Lib.hid ho
    have HB := Lib.hid hb
    clear ho hb
    have wk := next_int k (by omega)
    by_cases h1 : k = n
    · subst h1
      have HE : Hid (xs.take k = xs) := by
        show _ = _
        rw [List.take_of_length_le (by rw [HN.out]; omega)]
      rw [HE.out] at HO
      go_wp2_with fail
      go_ret
      exact ⟨⟨_, rfl, HO.out⟩, HB.out⟩
    · have hkl : k < n := by omega
      have hki : (k : Int) < (n : Int) := by omega
      obtain ⟨b, off, x, rfl, hp, h20, hbl, hr⟩ := HS.out.at (k := k) (by rw [HN.out]; exact hkl)
      have HT := Lib.hid (take_snoc hp)
      have H20 := Lib.hid h20
      have HC0 : Hid (∀ W, Below w.heap.size w W → W.rangeAt b (off + k * 22) (fileL x)) := fun W hW => range_below hr hW hbl
      have hbu := fun W => build_rfile x.p x.f x.n h20 W
      have hbs := fun W => slice_rfile x h20 W
      have HBW : Hid (Below w.heap.size w (wr.drew.alloc (.cells (fileA x) 45))) := HB.out.drew.alloc (by exact HB.out.size) _
      have HLI : Hid ((wr.drew.alloc (.cells (fileA x) 45)).rangeAt wr.heap.size 0 (fileL x)) := box_file wr.drew x _
      have HO6 : Hid (OwnF 45 (wr.drew.alloc (.cells (fileA x) 45)) w.heap.size (.slice oa k oc) (xs.take k)) := HO.out.below ((Below.refl _ _).drew.alloc (Nat.le_refl _) _)
      have HTL : Hid ((xs.take k).length = k) := by show _ = _; rw [List.length_take, HN.out]; omega
      clear hp h20 hbl hr
      go_wp2_with fail
      refine wp_region_noPanic ?_
      refine wp_region_held_drew (S := fun W => W.rangeAt b (off + k * 22) (fileL x)) (by kernel_rfl) ?_ (fun hHeld => ?_)
      · exact HC0.out _ HB.out.drew
      refine wpAnyH_take (i := 0) (v := ?_) (by simp only [List.getElem?_toArray, List.getElem?_cons_zero]; rfl) (by kernel_rfl) (by kernel_rfl) (by kernel_rfl) (fun _ _ _ h => h) (Or.inl ⟨by rfl, ?_⟩) (by assumption) ?_
      rotate_left
      · intro W hSW
        go_simp
        try with_reducible rfl
      try simp only [Act.put, List.setIfInBounds_toArray, List.set_cons_zero, List.set_cons_succ]
      refine wpAnyH_take (i := 1) (v := ?_) (by simp only [List.getElem?_toArray, List.getElem?_cons_succ, List.getElem?_cons_zero]; rfl) (by kernel_rfl) (by kernel_rfl) (by kernel_rfl) (fun _ _ _ h => h) (Or.inl ⟨by rfl, ?_⟩) (by assumption) ?_
      rotate_left
      · intro W hSW
        go_simp
        try with_reducible rfl
      try simp only [Act.put, List.setIfInBounds_toArray, List.set_cons_zero, List.set_cons_succ]
      refine wpAnyH_take (i := 2) (v := ?_) (by simp only [List.getElem?_toArray, List.getElem?_cons_succ, List.getElem?_cons_zero]; rfl) (by kernel_rfl) (by kernel_rfl) (by kernel_rfl) (fun _ _ _ h => h) (Or.inl ⟨by rfl, ?_⟩) (by assumption) ?_
      rotate_left
      · intro W hSW
        go_simp
        try with_reducible rfl
      try simp only [Act.put, List.setIfInBounds_toArray, List.set_cons_zero, List.set_cons_succ]
      refine wpAnyH_take (i := 3) (v := ?_) (by simp only [List.getElem?_toArray, List.getElem?_cons_succ, List.getElem?_cons_zero]; rfl) (by kernel_rfl) (by kernel_rfl) (by kernel_rfl) (fun _ _ _ h => h) (Or.inl ⟨by rfl, ?_⟩) (by assumption) ?_
      rotate_left
      · intro W hSW
        go_simp
        try with_reducible rfl
      try simp only [Act.put, List.setIfInBounds_toArray, List.set_cons_zero, List.set_cons_succ]
      refine wpAnyH_take (i := 4) (v := ?_) (by simp only [List.getElem?_toArray, List.getElem?_cons_succ, List.getElem?_cons_zero]; rfl) (by kernel_rfl) (by kernel_rfl) (by kernel_rfl) (fun _ _ _ h => h) (Or.inl ⟨by rfl, ?_⟩) (by assumption) ?_
      rotate_left
      · intro W hSW
        go_simp
        try with_reducible rfl
      try simp only [Act.put, List.setIfInBounds_toArray, List.set_cons_zero, List.set_cons_succ]
      refine wpAnyH_take (i := 5) (by simp only [List.getElem?_toArray, List.getElem?_cons_succ, List.getElem?_cons_zero]; rfl) (by kernel_rfl) (by kernel_rfl) (by kernel_rfl) (fun _ _ _ h => h) (yieldsIf_load_str (by rfl) 9 _ rfl b (off + k * 22) rfl x.p (fun W hSW => range_path hSW) Tryd.underlying9) (by assumption) ?_
      try simp only [Act.put, List.setIfInBounds_toArray, List.set_cons_zero, List.set_cons_succ]
      refine wpAnyH_take (i := 6) (v := ?_) (by simp only [List.getElem?_toArray, List.getElem?_cons_succ, List.getElem?_cons_zero]; rfl) (by kernel_rfl) (by kernel_rfl) (by kernel_rfl) (fun _ _ _ h => h) (Or.inl ⟨by rfl, ?_⟩) (by assumption) ?_
      rotate_left
      · intro W hSW
        go_simp
        try with_reducible rfl
      try simp only [Act.put, List.setIfInBounds_toArray, List.set_cons_zero, List.set_cons_succ]
      refine wpAnyH_take (i := 7) (v := ?_) (by simp only [List.getElem?_toArray, List.getElem?_cons_succ, List.getElem?_cons_zero]; rfl) (by kernel_rfl) (by kernel_rfl) (by kernel_rfl) (fun _ _ _ h => h) (Or.inl ⟨by rfl, ?_⟩) (by assumption) ?_
      rotate_left
      · intro W hSW
        go_simp
        try with_reducible rfl
      try simp only [Act.put, List.setIfInBounds_toArray, List.set_cons_zero, List.set_cons_succ]
      refine wpAnyH_take (i := 8) (v := ?_) (by simp only [List.getElem?_toArray, List.getElem?_cons_succ, List.getElem?_cons_zero]; rfl) (by kernel_rfl) (by kernel_rfl) (by kernel_rfl) (fun _ _ _ h => h) (Or.inl ⟨by rfl, ?_⟩) (by assumption) ?_
      rotate_left
      · intro W hSW
        go_simp
        try with_reducible rfl
      try simp only [Act.put, List.setIfInBounds_toArray, List.set_cons_zero, List.set_cons_succ]
      refine wpAnyH_take (i := 9) (v := ?_) (by simp only [List.getElem?_toArray, List.getElem?_cons_succ, List.getElem?_cons_zero]; rfl) (by kernel_rfl) (by kernel_rfl) (by kernel_rfl) (fun _ _ _ h => h) (Or.inl ⟨by rfl, ?_⟩) (by assumption) ?_
      rotate_left
      · intro W hSW
        go_simp
        try with_reducible rfl
      try simp only [Act.put, List.setIfInBounds_toArray, List.set_cons_zero, List.set_cons_succ]
      refine wpAnyH_take (i := 10) (by simp only [List.getElem?_toArray, List.getElem?_cons_succ, List.getElem?_cons_zero]; rfl) (by kernel_rfl) (by kernel_rfl) (by kernel_rfl) (fun _ _ _ h => h) (yieldsIf_load_mid (by rfl) 30 _ rfl b (off + k * 22 + 1) rfl (U8 x.n) (.array 20 5) (fun W hSW => range_node hSW) Tryd.underlying30 rfl (id_infoL _ H20.out)) (by assumption) ?_
      try simp only [Act.put, List.setIfInBounds_toArray, List.set_cons_zero, List.set_cons_succ]
      refine wpAnyH_take (i := 11) (v := ?_) (by simp only [List.getElem?_toArray, List.getElem?_cons_succ, List.getElem?_cons_zero]; rfl) (by kernel_rfl) (by kernel_rfl) (by kernel_rfl) (fun _ _ _ h => h) (Or.inl ⟨by rfl, ?_⟩) (by assumption) ?_
      rotate_left
      · intro W hSW
        go_simp
        try with_reducible rfl
      try simp only [Act.put, List.setIfInBounds_toArray, List.set_cons_zero, List.set_cons_succ]
      refine wpAnyH_take (i := 12) (v := ?_) (by simp only [List.getElem?_toArray, List.getElem?_cons_succ, List.getElem?_cons_zero]; rfl) (by kernel_rfl) (by kernel_rfl) (by kernel_rfl) (fun _ _ _ h => h) (Or.inl ⟨by rfl, ?_⟩) (by assumption) ?_
      rotate_left
      · intro W hSW
        go_simp
        try with_reducible rfl
      try simp only [Act.put, List.setIfInBounds_toArray, List.set_cons_zero, List.set_cons_succ]
      refine wpAnyH_take (i := 13) (v := ?_) (by simp only [List.getElem?_toArray, List.getElem?_cons_succ, List.getElem?_cons_zero]; rfl) (by kernel_rfl) (by kernel_rfl) (by kernel_rfl) (fun _ _ _ h => h) (Or.inl ⟨by rfl, ?_⟩) (by assumption) ?_
      rotate_left
      · intro W hSW
        go_simp
        try with_reducible rfl
      try simp only [Act.put, List.setIfInBounds_toArray, List.set_cons_zero, List.set_cons_succ]
      refine wpAnyH_take (i := 14) (v := ?_) (by simp only [List.getElem?_toArray, List.getElem?_cons_succ, List.getElem?_cons_zero]; rfl) (by kernel_rfl) (by kernel_rfl) (by kernel_rfl) (fun _ _ _ h => h) (Or.inl ⟨by rfl, ?_⟩) (by assumption) ?_
      rotate_left
      · intro W hSW
        go_simp
        try with_reducible rfl
      try simp only [Act.put, List.setIfInBounds_toArray, List.set_cons_zero, List.set_cons_succ]
      refine wpAnyH_take (i := 15) (by simp only [List.getElem?_toArray, List.getElem?_cons_succ, List.getElem?_cons_zero]; rfl) (by kernel_rfl) (by kernel_rfl) (by kernel_rfl) (fun _ _ _ h => h) (yieldsIf_load_str (by rfl) 9 _ rfl b (off + k * 22 + 21) rfl x.f (fun W hSW => range_flag hSW H20.out) Tryd.underlying9) (by assumption) ?_
      try simp only [Act.put, List.setIfInBounds_toArray, List.set_cons_zero, List.set_cons_succ]
      refine wpAnyH_take (i := 16) (by simp only [List.getElem?_toArray, List.getElem?_cons_succ, List.getElem?_cons_zero]; rfl) (by kernel_rfl) (by kernel_rfl) (by kernel_rfl) (fun _ _ _ h => h) (yieldsIf_build (by rfl) _ _ rfl #[(0, .string x.p), (1, .agg (V8 x.n)), (2, .string x.f)] (map_three _ _ _ _ _ _ _ rfl rfl rfl) (.agg (fileA x)) hbu) (by assumption) ?_
      try simp only [Act.put, List.setIfInBounds_toArray, List.set_cons_zero, List.set_cons_succ]
      refine wpAnyH_ready (rs := [17]) (by kernel_rfl) (by simp) ?_
      refine AllReadyH.cons (by simp only [List.getElem?_toArray, List.getElem?_cons_succ, List.getElem?_cons_zero]; rfl) (fun K hK => ?_) AllReadyH.nil
      refine step_slice (by rfl) _ _ _ rfl #[(0, .agg (fileA x))] (map_one _ _ _ rfl) _ _ (hbs _) ?_
      refine hK.out _ _ (HC0.out _ HBW.out) (fun hHeld2 => ?_)
      clear hK K hHeld
      have hHeld := hHeld2
      clear hHeld2
      try simp only [Act.put, List.setIfInBounds_toArray, List.set_cons_zero, List.set_cons_succ]
      refine wpAnyH_ready (rs := [18]) (by kernel_rfl) (by simp) ?_
      refine AllReadyH.cons (by simp only [List.getElem?_toArray, List.getElem?_cons_succ, List.getElem?_cons_zero]; rfl) (fun K hK => ?_) AllReadyH.nil
      refine step_append_rfile rfl _ _ rfl w.heap.size (.slice oa k oc) (xs.take k) k HTL.out rfl HO6.out wr.heap.size x H20.out rfl HLI.out (by omega) HBW.out.size ?_
      rintro g2 gc2 w7 ho1 hg1 hgg hgl
      have HO1 := Lib.hid ho1
      have HB7 : Hid (Below w.heap.size w w7) := HBW.out.grown hg1 HBW.out.size (fun g hg => (HO.out.lt hg).1)
      clear ho1 hg1 hgg hgl
      refine hK.out _ _ (HC0.out _ HB7.out) (fun hHeld2 => ?_)
      clear hK K hHeld
      have hHeld := hHeld2
      clear hHeld2
      try simp only [Act.put, List.setIfInBounds_toArray, List.set_cons_zero, List.set_cons_succ]
      refine wpAnyH_take (i := 19) (v := ?_) (by simp only [List.getElem?_toArray, List.getElem?_cons_succ, List.getElem?_cons_zero]; rfl) (by kernel_rfl) (by kernel_rfl) (by kernel_rfl) (fun _ _ _ h => h) (Or.inl ⟨by rfl, ?_⟩) (by assumption) ?_
      rotate_left
      · intro W hSW
        go_simp
        try with_reducible rfl
      try simp only [Act.put, List.setIfInBounds_toArray, List.set_cons_zero, List.set_cons_succ]
      refine wpAnyH_done (by kernel_rfl) ?_ _
      refine NoPanic.normal ?_
      clear HO HBW HLI HO6 hbu hbs
      go_wp2_with fail
      refine ⟨⟨k + 1, some ⟨g2, 0, none⟩, gc2, by omega, by first | rfl | exact congrArg (Value.int .i64) (wk _ rfl), rfl, ?_, HB7.out⟩, by simp [intOf]; omega⟩
      rw [HT.out]
      exact HO1.out
set_option maxRecDepth 100000 in
theorem fields_rfile : ∃ f1 f2 f3, (Tryd.prog.fieldsOf 45).toList = [f1, f2, f3] ∧ f1.name ≠ "_" ∧ f2.name ≠ "_" ∧ f3.name ≠ "_" ∧ (f1.type = 9 ∧ f1.offset = 0) ∧ (f2.type = 29 ∧ f2.offset = 1) ∧ f3.type = 9 ∧ f3.offset = 21 := by
  have h : (Tryd.prog.fieldsOf 45).toList.map (fun f => (f.name == "_", f.type, f.offset)) = [(false, 9, 0), (false, 29, 1), (false, 9, 21)] := by kernel_rfl
  generalize (Tryd.prog.fieldsOf 45).toList = l at *
  match l, h with
  | [], h => cases h
  | [_], h => simp at h
  | [_, _], h => simp at h
  | _ :: _ :: _ :: _ :: _, h => simp at h
  | [f1, f2, f3], h =>
    simp only [List.map_cons, List.map_nil, List.cons.injEq, Prod.mk.injEq, and_true, beq_eq_false_iff_ne] at h
    exact ⟨f1, f2, f3, rfl, h.1.1, h.2.1.1, h.2.2.1, h.1.2, h.2.1.2, h.2.2.2⟩
theorem eqFields_self (P : Program) (w : World) (d : Nat) (X : Array Value) : ∀ fs : List Field, (∀ f ∈ fs, f.name ≠ "_" ∧ ∃ v, (part f.type X f.offset).run P w = .ok v w ∧ (Op.equalIn d f.type v v).run P w = .ok true w) →
    (Op.eqFields d X X fs).run P w = .ok true w
  | [], _ => by simp [Op.eqFields]
  | f :: fs, h => by
    obtain ⟨hn, v, h1, h2⟩ := h f (by simp)
    have ih := eqFields_self P w d X fs fun g hg => h g (by simp [hg])
    simp only [Op.eqFields, hn, ne_eq, not_false_eq_true, if_true, Sem.run_bind, h1, h2, Result.andThen_ok]
    simpa using ih
theorem eqItems_self8 (d : Nat) (w : World) (xs : List Int) : ∀ is : List Nat, (∀ i ∈ is, i < xs.length) →
    (Op.eqItems (d + 1) 5 1 (V8 xs) (V8 xs) is).run Tryd.prog w = .ok true w
  | [], _ => by simp [Op.eqItems]
  | i :: is, h => by
    have h1 := V8_get xs i (h i (by simp))
    have ih := eqItems_self8 d w xs is (fun j hj => h j (by simp [hj]))
    simp only [Op.eqItems, Sem.run_bind, Nat.mul_one, run_part_plain w u8plain h1, Result.andThen_ok, run_equalIn_int w d 5 .u8 .u8 _ _ Tryd.underlying5]
    simp [ih]
theorem part_strF (w : World) (X : Array Value) (o : Nat) (p : ByteArray) (h : X[o]? = some (.string p)) : (part 9 X o).run Tryd.prog w = .ok (.string p) w :=
  run_part_plain w (by kernel_rfl) h
theorem part_nodeF (w : World) (x : MF) (h : x.n.length = 20) : (part 29 (fileA x) 1).run Tryd.prog w = .ok (.agg (V8 x.n)) w := by
  have hagg : (isAgg 29).run Tryd.prog w = .ok true w := by kernel_rfl
  obtain ⟨i, hi, h1⟩ := Option.map_eq_some_iff.1 (show (Tryd.prog.info? 29).map (·.size) = some 20 from by kernel_rfl)
  have e : (fileA x).extract 1 (1 + 20) = V8 x.n := by
    apply Array.ext'
    have h2 : (U8 x.n).length = 20 := by rw [U8_length]; exact h
    simp only [fileA, fileL, V8]
    simp
    rw [List.take_append_of_le_length (by omega), List.take_of_length_le (by omega)]
  simp [part, hagg, sizeOf, typeInfo, hi, h1, e]
set_option maxRecDepth 100000 in
theorem neq_same (w : World) (x : MF) (h : x.n.length = 20) : (binOp .neq 45 (.agg (fileA x)) (.agg (fileA x))).run Tryd.prog w = .ok (.bool false) w := by
  obtain ⟨f1, f2, f3, hf, n1, n2, n3, ⟨t1, o1⟩, ⟨t2, o2⟩, t3, o3⟩ := fields_rfile
  have e : (Op.equalIn (9996 + 4) 45 (.agg (fileA x)) (.agg (fileA x))).run Tryd.prog w = .ok true w := by
    rw [run_equalIn_struct w (9996 + 3) 45 _ _ Tryd.underlying45 (by kernel_rfl), hf]
    refine eqFields_self _ _ _ _ _ fun f hm => ?_
    simp only [List.mem_cons, List.not_mem_nil, or_false] at hm
    rcases hm with rfl | rfl | rfl
    · exact ⟨n1, .string x.p, by rw [t1, o1]; exact part_strF w _ 0 x.p (by simp [fileA, fileL]), by rw [t1, run_equalIn_string w (9996 + 2) 9 x.p x.p Tryd.underlying9, beq_self_eq_true]⟩
    · refine ⟨n2, .agg (V8 x.n), by rw [t2, o2]; exact part_nodeF w x h, ?_⟩
      obtain ⟨i, hi, -⟩ := Option.map_eq_some_iff.1 (show (Tryd.prog.info? 5).map (fun i => (i.zero, i.size, i.bytes)) = some (some (.int .u8 0), 1, 1) from by kernel_rfl)
      rw [t2, run_equalIn_array w (9996 + 2) (V8 x.n) (V8 x.n) Tryd.underlying29 hi, u8cells]
      exact eqItems_self8 _ w x.n _ fun j hj => by have := List.mem_range.1 hj; omega
    · exact ⟨n3, .string x.f, by rw [t3, o3]; exact part_strF w _ 21 x.f (by simp [fileA, fileL, U8, h]), by rw [t3, run_equalIn_string w (9996 + 2) 9 x.f x.f Tryd.underlying9, beq_self_eq_true]⟩
  rw [run_neq_struct]
  rw [show (9996 + 4 : Nat) = 10000 from rfl] at e
  rw [e]
  rfl
theorem guard_agg (x y : Operand) (u v : Array Value) (W : World) : (eqGuard .neq 45 x y (.agg u) (.agg v)).run Tryd.prog W = .ok () W := by
  simp [eqGuard]
set_option maxRecDepth 100000 in
set_option maxHeartbeats 8000000 in
theorem same_any (a1 a2 : Option Addr) (c1 c2 : Nat) (xs : List MF) (w : World) (h1 : FsAt w a1 xs) (h2 : FsAt w a2 xs) (hn : xs.length ≤ 1000000) :
    Calls Tryd.prog 15 #[.slice a1 xs.length c1, .slice a2 xs.length c2] w fun e w' => e = .returned (.bool true) ∧ Below w.heap.size w w' := by
  have HS1 := Lib.hid h1
  have HS2 := Lib.hid h2
  obtain ⟨n, hnl⟩ : ∃ n, xs.length = n := ⟨_, rfl⟩
  have HN := Lib.hid hnl
  rw [hnl] at hn ⊢
  clear h1 h2 hnl
  go_enter Tryd.func15, Tryd.ntmps15
  go_wp2_with fail
  go_loopw [5] (fun i wr => ∃ k : Nat, k ≤ n ∧ i = .int .i64 (k : Int) ∧ Below w.heap.size w wr) (fun i _ => n - (intOf i).toNat)
  case atStart => exact ⟨0, by omega, rfl, Below.refl _ _⟩
  case round =>
    obtain ⟨k, hkn, rfl, hb⟩ := hrel
    have HB := Lib.hid hb
    clear hb
    have wk := next_int k (by omega)
    by_cases h1 : k = n
    · subst h1
      go_wp2_with fail
      go_ret
      exact ⟨rfl, HB.out⟩
    · have hkl : k < n := by omega
      have hki : (k : Int) < (n : Int) := by omega
      obtain ⟨b, off, x, rfl, hp, h20, hbl, hr⟩ := HS1.out.at (k := k) (by rw [HN.out]; exact hkl)
      obtain ⟨b2, off2, x2, rfl, hp2, -, hbl2, hr2⟩ := HS2.out.at (k := k) (by rw [HN.out]; exact hkl)
      obtain rfl : x = x2 := by rw [hp] at hp2; injection hp2
      have H20 := Lib.hid h20
      have HR1 : Hid (wr.drew.rangeAt b (off + k * 22) (fileL x)) := range_below hr HB.out.drew hbl
      have HR2 : Hid (wr.drew.rangeAt b2 (off2 + k * 22) (fileL x)) := range_below hr2 HB.out.drew hbl2
      have HNE := Lib.hid (fun W => neq_same W x h20)
      have HEG : Hid (∀ W, (eqGuard .neq 45 (.tmp 20) (.tmp 24) (.agg (fileA x)) (.agg (fileA x))).run Tryd.prog W = .ok () W) := guard_agg _ _ _ _
      clear hp h20 hbl hr hp2 hbl2 hr2
      go_wp2_with fail
      refine wp_region_noPanic ?_
      refine wp_region_held_drew (S := fun W => W.rangeAt b (off + k * 22) (fileL x) ∧ W.rangeAt b2 (off2 + k * 22) (fileL x)) (by kernel_rfl) ?_ (fun hHeld => ?_)
      · exact ⟨HR1.out, HR2.out⟩
      refine wpAnyH_take (i := 0) (v := ?_) (by simp only [List.getElem?_toArray, List.getElem?_cons_zero]; rfl) (by kernel_rfl) (by kernel_rfl) (by kernel_rfl) (fun _ _ _ h => h) (Or.inl ⟨by rfl, ?_⟩) (by assumption) ?_
      rotate_left
      · intro W hSW
        go_simp
        try with_reducible rfl
      try simp only [Act.put, List.setIfInBounds_toArray, List.set_cons_zero, List.set_cons_succ]
      refine wpAnyH_take (i := 1) (v := ?_) (by simp only [List.getElem?_toArray, List.getElem?_cons_succ, List.getElem?_cons_zero]; rfl) (by kernel_rfl) (by kernel_rfl) (by kernel_rfl) (fun _ _ _ h => h) (Or.inl ⟨by rfl, ?_⟩) (by assumption) ?_
      rotate_left
      · intro W hSW
        go_simp
        try with_reducible rfl
      try simp only [Act.put, List.setIfInBounds_toArray, List.set_cons_zero, List.set_cons_succ]
      refine wpAnyH_take (i := 2) (v := ?_) (by simp only [List.getElem?_toArray, List.getElem?_cons_succ, List.getElem?_cons_zero]; rfl) (by kernel_rfl) (by kernel_rfl) (by kernel_rfl) (fun _ _ _ h => h) (Or.inl ⟨by rfl, ?_⟩) (by assumption) ?_
      rotate_left
      · intro W hSW
        go_simp
        try with_reducible rfl
      try simp only [Act.put, List.setIfInBounds_toArray, List.set_cons_zero, List.set_cons_succ]
      refine wpAnyH_take (i := 3) (by simp only [List.getElem?_toArray, List.getElem?_cons_succ, List.getElem?_cons_zero]; rfl) (by kernel_rfl) (by kernel_rfl) (by kernel_rfl) (fun _ _ _ h => h) (yieldsIf_load_mid (by rfl) 45 _ rfl b (off + k * 22) rfl (fileL x) _ (fun W hSW => hSW.1) Tryd.underlying45 rfl (rfile_infoL _ H20.out)) (by assumption) ?_
      try simp only [Act.put, List.setIfInBounds_toArray, List.set_cons_zero, List.set_cons_succ]
      refine wpAnyH_take (i := 4) (v := ?_) (by simp only [List.getElem?_toArray, List.getElem?_cons_succ, List.getElem?_cons_zero]; rfl) (by kernel_rfl) (by kernel_rfl) (by kernel_rfl) (fun _ _ _ h => h) (Or.inl ⟨by rfl, ?_⟩) (by assumption) ?_
      rotate_left
      · intro W hSW
        go_simp
        try with_reducible rfl
      try simp only [Act.put, List.setIfInBounds_toArray, List.set_cons_zero, List.set_cons_succ]
      refine wpAnyH_take (i := 5) (v := ?_) (by simp only [List.getElem?_toArray, List.getElem?_cons_succ, List.getElem?_cons_zero]; rfl) (by kernel_rfl) (by kernel_rfl) (by kernel_rfl) (fun _ _ _ h => h) (Or.inl ⟨by rfl, ?_⟩) (by assumption) ?_
      rotate_left
      · intro W hSW
        go_simp
        try with_reducible rfl
      try simp only [Act.put, List.setIfInBounds_toArray, List.set_cons_zero, List.set_cons_succ]
      refine wpAnyH_take (i := 6) (v := ?_) (by simp only [List.getElem?_toArray, List.getElem?_cons_succ, List.getElem?_cons_zero]; rfl) (by kernel_rfl) (by kernel_rfl) (by kernel_rfl) (fun _ _ _ h => h) (Or.inl ⟨by rfl, ?_⟩) (by assumption) ?_
      rotate_left
      · intro W hSW
        go_simp
        try with_reducible rfl
      try simp only [Act.put, List.setIfInBounds_toArray, List.set_cons_zero, List.set_cons_succ]
      refine wpAnyH_take (i := 7) (by simp only [List.getElem?_toArray, List.getElem?_cons_succ, List.getElem?_cons_zero]; rfl) (by kernel_rfl) (by kernel_rfl) (by kernel_rfl) (fun _ _ _ h => h) (yieldsIf_load_mid (by rfl) 45 _ rfl b2 (off2 + k * 22) rfl (fileL x) _ (fun W hSW => hSW.2) Tryd.underlying45 rfl (rfile_infoL _ H20.out)) (by assumption) ?_
      try simp only [Act.put, List.setIfInBounds_toArray, List.set_cons_zero, List.set_cons_succ]
      refine wpAnyH_take (i := 8) (by simp only [List.getElem?_toArray, List.getElem?_cons_succ, List.getElem?_cons_zero]; rfl) (by kernel_rfl) (by kernel_rfl) (by kernel_rfl) (fun _ _ _ h => h) (yieldsIf_eql (by rfl) .neq 45 _ _ _ rfl (.agg (fileA x)) (.agg (fileA x)) rfl rfl (.bool false) (fun W => HEG.out W) (fun W => HNE.out W)) (by assumption) ?_
      try simp only [Act.put, List.setIfInBounds_toArray, List.set_cons_zero, List.set_cons_succ]
      refine wpAnyH_done (by kernel_rfl) ?_ _
      refine NoPanic.normal ?_
      go_wp2_with fail
      exact ⟨⟨k + 1, by omega, by first | rfl | exact congrArg (Value.int .i64) (wk _ rfl), HB.out.drew⟩, by simp [intOf]; omega⟩
end Go.Proofs.YtcbjadecocggjaaDoor
