/- The first pair that is so, and its partner: the walks. -/
import Derived.Test.YtlhdjbnilfbaoaaFind
import Derived.Laws.ResultCell
import Derived.Laws.CopyOwn
namespace Go.Proofs.Ytlhdjbnilfbaoaa
open Go.RowKit
set_option linter.unusedVariables false
theorem mresults_row_tmp {P : Program} {fn : Func} {p u : Tmp} {ty : TypeId} (h : fn.results = #[.cell p ty, .tmp u]) (tmps : Array Value) (w : World) (g : Nat) (t : TypeId) (cs : Array Value) (fr : Nat × Nat) (d : TypeDesc)
    (hp : tmps.getD p undef = .pointer (some ⟨g, 0, none⟩)) (hg : w.heap[g]? = some (.cells cs t fr))
    (hu : P.underlying ty = some d) (hd : (match d with | .struct _ | .array _ _ => true | _ => false) = true) (hi : (P.info? ty).map (·.size) = some cs.size) :
    (results fn tmps).run P w = .ok (.tuple #[.agg cs, tmps.getD u undef]) w := by
  have hp' : tmps[p]?.getD undef = .pointer (some ⟨g, 0, none⟩) := by simpa using hp
  simp [results, h, hp', asAddr, run_loadVar_row w g t ty cs fr d hg hu hd hi]
theorem noPair_len : noPair.length = 40 := by decide +kernel
theorem noId_len : noId.length = 20 := by decide +kernel
theorem pairAt_len {ps : List (List Int)} (h : ∀ p ∈ ps, p.length = 40) (o : Option Nat) : (pairAt ps o).length = 40 := by
  cases o with
  | none => exact noPair_len
  | some k =>
    show (ps[k]?.getD noPair).length = 40
    cases hk : ps[k]? with
    | none => exact noPair_len
    | some p => exact h p (List.mem_of_getElem? hk)
theorem mrow_keep {W W' : World} {g n : Nat} {o : Obj} (R : W.heap[g]? = some o) (hb : Below n W W') (hn : g < n) : W'.heap[g]? = some o := (hb.block g hn).trans R
theorem row_boxed {W : World} {g : Nat} {xs : List Int} {t : TypeId} (R : W.heap[g]? = some (.cells (V8 xs) t (0, 0))) : Boxed W g xs := ⟨(Array.getElem?_eq_some_iff.1 R).1, fun j v hv => by
  rw [cell_of_row _ _ _ _ _ _ R, Nat.zero_add, ← hv, ← V8_list, Array.getElem?_toList]⟩
set_option maxRecDepth 100000 in
set_option maxHeartbeats 4000000 in
theorem first_Hg (a : Option Addr) (c : Nat) (ps : List (List Int)) (pv : Value) (f : List Int → Bool) (w : World) (h : PsAt w a ps) (hn : ps.length ≤ 1000000)
    (HQ : ∀ p W, p.length = 40 → Below w.heap.size w W → Calls Try.prog 34 #[.agg (V8 p), pv] W fun e w' => e = .returned (.bool (f p)) ∧ Below W.heap.size W w') :
    Calls Try.prog 31 #[.slice a ps.length c, .func (.func 34) #[] #[pv]] w fun e w' => e = .returned (.tuple #[.agg (V8 (pairAt ps (foundI f ps))), .bool (foundI f ps).isSome]) ∧ Below w.heap.size w w' := by
  have hz := fun W => zero_pair W
  have hbn := fun W => build_none W
  have HB0 : Hid (Below w.heap.size w (w.alloc (.cells (V8 noPair) 46))) := (Below.refl _ _).alloc (Nat.le_refl _) _
  have HG0 := Lib.hid (heap_alloc_new w (.cells (V8 noPair) 46))
  have HL0 : Hid (w.heap.size < (w.alloc (.cells (V8 noPair) 46)).heap.size) := by show _ < _; simp
  have HS := Lib.hid h
  have HN := Lib.hid hn
  have HH : Hid (∀ p W, p.length = 40 → Below w.heap.size w W → Calls Try.prog 34 #[.agg (V8 p), pv] W fun e w' => e = .returned (.bool (f p)) ∧ Below W.heap.size W w') := HQ
  clear h hn HQ
  go_enter Try.func31, Try.ntmps31
  go_wp2_with fail
  generalize w.alloc (.cells (V8 noPair) 46) = w0 at *
  refine (indexFunc_Hg a c ps pv f w0 (HS.out.below HB0.out) HN.out fun p W h1 h2 => HH.out p W h1 (HB0.out.trans (h2.mono HB0.out.size))).mono ?_
  rintro e w1 ⟨rfl, hb⟩
  have HG1 := Lib.hid (mrow_keep HG0.out hb HL0.out)
  have HB1 := Lib.hid (HB0.out.trans (hb.mono HB0.out.size))
  clear hb HG0 HL0 HB0
  cases hf : foundI f ps with
  | none =>
    rw [show foundV none = -1 from rfl]
    go_wp2_with (refine wpList_store_row rfl 46 (.tmp 4) (.tmp 12) rfl w.heap.size (V8 noPair) rfl rfl 46 (V8 noPair) HG1.out (pair_info _ noPair_len) rfl (V8_one _) ?_)
    refine bodyPost_ret (mresults_row_tmp Try.results31 _ _ w.heap.size 46 (V8 noPair) (0, 0) _ rfl (setRow_heap _ _ _ _ _ _ HG1.out) Try.underlying46 rfl (pair_info _ noPair_len)) rfl ⟨by rw [hf]; rfl, ?_⟩
    exact below_setRow HB1.out (Nat.le_refl _) _
  | some k =>
    obtain ⟨p, hp, -, -⟩ := foundI_some hf
    have hk : k < ps.length := (List.getElem?_eq_some_iff.1 hp).1
    obtain ⟨b, off, p', rfl, hp', h40, hbl, hr⟩ := HS.out.at hk
    obtain rfl : p = p' := by rw [hp] at hp'; injection hp'
    have HE : Hid (pairAt ps (some k) = p) := by show ps[k]?.getD noPair = p; rw [hp]; rfl
    have HR := Lib.hid (range_below hr HB1.out hbl)
    have H40 := Lib.hid h40
    have HF := Lib.hid hf
    have hki : (k : Int) < (ps.length : Int) := by omega
    have hk0 : ¬ (k : Int) < 0 := by omega
    rw [show foundV (some k) = (k : Int) from rfl]
    clear hr hp hp' h40 hf hbl
    generalize ps.length = n at *
    go_wp2_with (first
      | (refine wpList_load_v8_g rfl 46 _ rfl b (off + k * 40) rfl p _ HR.out Try.underlying46 rfl (pair_infoL _ H40.out) ?_)
      | (refine wpList_store_row rfl 46 (.tmp 4) (.tmp 16) rfl w.heap.size (V8 p) rfl rfl 46 (V8 noPair) HG1.out (pair_info _ H40.out) (by rw [V8_size, V8_size, H40.out]; rfl) (V8_one _) ?_))
    refine bodyPost_ret (mresults_row_tmp Try.results31 _ _ w.heap.size 46 (V8 p) (0, 0) _ rfl (setRow_heap _ _ _ _ _ _ HG1.out) Try.underlying46 rfl (pair_info _ H40.out)) rfl ⟨by rw [HF.out, HE.out]; rfl, ?_⟩
    exact below_setRow HB1.out (Nat.le_refl _) _
set_option maxRecDepth 100000 in
set_option maxHeartbeats 4000000 in
theorem first_Add (a : Option Addr) (c : Nat) (ps : List (List Int)) (pv : Value) (f : List Int → Bool) (w : World) (h : PsAt w a ps) (hn : ps.length ≤ 1000000)
    (HQ : ∀ p W, p.length = 40 → Below w.heap.size w W → Calls Try.prog 32 #[.agg (V8 p), pv] W fun e w' => e = .returned (.bool (f p)) ∧ Below W.heap.size W w') :
    Calls Try.prog 31 #[.slice a ps.length c, .func (.func 32) #[] #[pv]] w fun e w' => e = .returned (.tuple #[.agg (V8 (pairAt ps (foundI f ps))), .bool (foundI f ps).isSome]) ∧ Below w.heap.size w w' := by
  have hz := fun W => zero_pair W
  have hbn := fun W => build_none W
  have HB0 : Hid (Below w.heap.size w (w.alloc (.cells (V8 noPair) 46))) := (Below.refl _ _).alloc (Nat.le_refl _) _
  have HG0 := Lib.hid (heap_alloc_new w (.cells (V8 noPair) 46))
  have HL0 : Hid (w.heap.size < (w.alloc (.cells (V8 noPair) 46)).heap.size) := by show _ < _; simp
  have HS := Lib.hid h
  have HN := Lib.hid hn
  have HH : Hid (∀ p W, p.length = 40 → Below w.heap.size w W → Calls Try.prog 32 #[.agg (V8 p), pv] W fun e w' => e = .returned (.bool (f p)) ∧ Below W.heap.size W w') := HQ
  clear h hn HQ
  go_enter Try.func31, Try.ntmps31
  go_wp2_with fail
  generalize w.alloc (.cells (V8 noPair) 46) = w0 at *
  refine (indexFunc_Add a c ps pv f w0 (HS.out.below HB0.out) HN.out fun p W h1 h2 => HH.out p W h1 (HB0.out.trans (h2.mono HB0.out.size))).mono ?_
  rintro e w1 ⟨rfl, hb⟩
  have HG1 := Lib.hid (mrow_keep HG0.out hb HL0.out)
  have HB1 := Lib.hid (HB0.out.trans (hb.mono HB0.out.size))
  clear hb HG0 HL0 HB0
  cases hf : foundI f ps with
  | none =>
    rw [show foundV none = -1 from rfl]
    go_wp2_with (refine wpList_store_row rfl 46 (.tmp 4) (.tmp 12) rfl w.heap.size (V8 noPair) rfl rfl 46 (V8 noPair) HG1.out (pair_info _ noPair_len) rfl (V8_one _) ?_)
    refine bodyPost_ret (mresults_row_tmp Try.results31 _ _ w.heap.size 46 (V8 noPair) (0, 0) _ rfl (setRow_heap _ _ _ _ _ _ HG1.out) Try.underlying46 rfl (pair_info _ noPair_len)) rfl ⟨by rw [hf]; rfl, ?_⟩
    exact below_setRow HB1.out (Nat.le_refl _) _
  | some k =>
    obtain ⟨p, hp, -, -⟩ := foundI_some hf
    have hk : k < ps.length := (List.getElem?_eq_some_iff.1 hp).1
    obtain ⟨b, off, p', rfl, hp', h40, hbl, hr⟩ := HS.out.at hk
    obtain rfl : p = p' := by rw [hp] at hp'; injection hp'
    have HE : Hid (pairAt ps (some k) = p) := by show ps[k]?.getD noPair = p; rw [hp]; rfl
    have HR := Lib.hid (range_below hr HB1.out hbl)
    have H40 := Lib.hid h40
    have HF := Lib.hid hf
    have hki : (k : Int) < (ps.length : Int) := by omega
    have hk0 : ¬ (k : Int) < 0 := by omega
    rw [show foundV (some k) = (k : Int) from rfl]
    clear hr hp hp' h40 hf hbl
    generalize ps.length = n at *
    go_wp2_with (first
      | (refine wpList_load_v8_g rfl 46 _ rfl b (off + k * 40) rfl p _ HR.out Try.underlying46 rfl (pair_infoL _ H40.out) ?_)
      | (refine wpList_store_row rfl 46 (.tmp 4) (.tmp 16) rfl w.heap.size (V8 p) rfl rfl 46 (V8 noPair) HG1.out (pair_info _ H40.out) (by rw [V8_size, V8_size, H40.out]; rfl) (V8_one _) ?_))
    refine bodyPost_ret (mresults_row_tmp Try.results31 _ _ w.heap.size 46 (V8 p) (0, 0) _ rfl (setRow_heap _ _ _ _ _ _ HG1.out) Try.underlying46 rfl (pair_info _ H40.out)) rfl ⟨by rw [HF.out, HE.out]; rfl, ?_⟩
    exact below_setRow HB1.out (Nat.le_refl _) _
set_option maxRecDepth 100000 in
set_option maxHeartbeats 4000000 in
theorem hg_any (a : Option Addr) (c : Nat) (ps : List (List Int)) (id : List Int) (w : World) (h : PsAt w a ps) (hn : ps.length ≤ 1000000) (hid : id.length = 20) :
    Calls Try.prog 23 #[.slice a ps.length c, .agg (V8 id)] w fun e w' => e = .returned (.tuple #[.agg (V8 ((pairAt ps (foundI (fun p => p.take 20 == id) ps)).drop 20)), .bool (foundI (fun p => p.take 20 == id) ps).isSome]) ∧ Below w.heap.size w w' := by
  have hz := fun W => zero_pair W
  have hz2 := fun W => mzero_id W
  have HA3 := Lib.hid (heap_alloc_new w (.cells (V8 id) 42))
  have HB3 : Hid (Below w.heap.size w (w.alloc (.cells (V8 id) 42))) := (Below.refl _ _).alloc (Nat.le_refl _) _
  have HL3 : Hid ((w.alloc (.cells (V8 id) 42)).heap.size = w.heap.size + 1) := by show _ = _; simp
  have HS := Lib.hid h
  have HN := Lib.hid hn
  have HI := Lib.hid hid
  have H40 := Lib.hid (pairAt_len h.each (foundI (fun p => p.take 20 == id) ps))
  clear h hn hid
  go_enter Try.func23, Try.ntmps23
  go_wp2_with fail
  generalize w.alloc (.cells (V8 id) 42) = wa at *
  have HA4 : Hid ((wa.alloc (.cells (V8 noId) 42)).heap[w.heap.size + 1]? = some (.cells (V8 noId) 42 (0, 0))) := by
    show _ = _
    rw [← HL3.out]
    exact heap_alloc_new wa _
  have HB4a : Hid (Below wa.heap.size wa (wa.alloc (.cells (V8 noId) 42))) := (Below.refl _ _).alloc (Nat.le_refl _) _
  have HL4 : Hid ((wa.alloc (.cells (V8 noId) 42)).heap.size = w.heap.size + 2) := by show _ = _; have := HL3.out; simp; omega
  generalize wa.alloc (.cells (V8 noId) 42) = wb at *
  have HB4 := Lib.hid (HB3.out.trans (HB4a.out.mono HB3.out.size))
  have HG3 := Lib.hid (row_boxed (mrow_keep HA3.out HB4a.out (by rw [HL3.out]; omega)))
  refine (first_Hg a c ps (.pointer (some ⟨w.heap.size, 0, none⟩)) (fun p => p.take 20 == id) wb (HS.out.below HB4.out) HN.out fun p W h1 h2 => so_Hg p id h1 HI.out w.heap.size W (HG3.out.below h2 HG3.out.1)).mono ?_
  obtain ⟨o, ho⟩ : ∃ o, foundI (fun p => p.take 20 == id) ps = o := ⟨_, rfl⟩
  obtain ⟨p, hpo⟩ : ∃ p, pairAt ps o = p := ⟨_, rfl⟩
  rw [ho, hpo] at H40
  rintro e w1 ⟨rfl, hb⟩
  rw [ho, hpo]
  have HO := Lib.hid ho
  have HPO := Lib.hid hpo
  clear ho hpo
  have HG1 := Lib.hid (mrow_keep HA4.out hb (by rw [HL4.out]; omega))
  have HB1 := Lib.hid (HB4.out.trans (hb.mono HB4.out.size))
  have HL1 : Hid (w.heap.size + 1 < w1.heap.size) := by show _ < _; have := hb.size; rw [HL4.out] at this; omega
  clear hb
  have HA6 := Lib.hid (heap_alloc_new w1 (.cells (V8 noPair) 46))
  have HB6a : Hid (Below w1.heap.size w1 (w1.alloc (.cells (V8 noPair) 46))) := (Below.refl _ _).alloc (Nat.le_refl _) _
  have HG6 := Lib.hid (mrow_keep HG1.out HB6a.out HL1.out)
  have HB6 := Lib.hid (HB1.out.trans (HB6a.out.mono HB1.out.size))
  have HP1 : Hid (((w1.alloc (.cells (V8 noPair) 46)).setRow w1.heap.size (V8 p)).heap[w1.heap.size]? = some (.cells (V8 p) 46 (0, 0))) := setRow_heap _ _ _ _ _ _ HA6.out
  have HG7 : Hid (((w1.alloc (.cells (V8 noPair) 46)).setRow w1.heap.size (V8 p)).heap[w.heap.size + 1]? = some (.cells (V8 noId) 42 (0, 0))) := (setRow_other _ _ _ _ (by have := HL1.out; omega)).trans HG6.out
  have HB7 := Lib.hid (below_setRow HB6.out (g := w1.heap.size) HB1.out.size (V8 p))
  go_wp2_with (first
    | (refine wpList_store_row rfl 46 (.tmp 6) (.tmp 12) rfl w1.heap.size (V8 p) rfl rfl 46 (V8 noPair) HA6.out (pair_info _ H40.out) (by rw [V8_size, V8_size, H40.out]; rfl) (V8_one _) ?_)
    | (refine wpList_load_v8_g rfl 42 _ rfl w1.heap.size 20 rfl (p.drop 20) (.array 20 5) (range_hg (row_boxed HP1.out).2) Try.underlying42 rfl (id_infoL _ (drop20_len H40.out)) ?_)
    | (refine wpList_store_row rfl 42 (.tmp 4) (.tmp 15) rfl (w.heap.size + 1) (V8 (p.drop 20)) rfl rfl 42 (V8 noId) HG7.out (mid_info _ (drop20_len H40.out)) (by rw [V8_size, V8_size, drop20_len H40.out]; rfl) (V8_one _) ?_))
  refine bodyPost_ret (mresults_row_tmp Try.results23 _ _ (w.heap.size + 1) 42 (V8 (p.drop 20)) (0, 0) (.array 20 5) rfl (setRow_heap _ _ _ _ _ _ HG7.out) Try.underlying42 rfl (mid_info _ (drop20_len H40.out))) rfl ⟨by rw [HO.out, HPO.out]; rfl, ?_⟩
  exact below_setRow HB7.out (by omega) _
end Go.Proofs.Ytlhdjbnilfbaoaa
