/- copies.Parse: the walk. -/
import Derived.Test.YtmkhnlfhbiabcaaDoorCopyOf
namespace Go.Proofs.YtmkhnlfhbiabcaaDoor
open Go.RowKit Plain Go.ChangeShapes Go.WideShapes Go.ChangeAt
set_option linter.unusedVariables false
set_option linter.unusedSimpArgs false
theorem Mid.setRow {w : World} {base : Nat} {v : Value} {n : Nat} {xs : List Int} (h : Mid w base v n xs) (g : Nat) (cs : Array Value) (hg : g < base) : Mid (w.setRow g cs) base v n xs := by
  obtain ⟨h1, h2 | ⟨k, o, cap, rfl, hb, hlt, hn, hc, hr, ht⟩⟩ := h
  · exact ⟨h1, .inl h2⟩
  · have hbl := setRow_other w g k cs (by omega)
    exact ⟨h1, .inr ⟨k, o, cap, rfl, hb, by rw [size_setRow]; exact hlt, hn, hc, rangeAt_block hr hbl, there_block ht hbl⟩⟩
theorem row_range {w : World} {g : Nat} {p : ByteArray} {id : List Int} {t : TypeId} {fr : Nat × Nat} (R : w.heap[g]? = some (.cells (fromA p id) t fr)) : w.rangeAt g 0 (Value.string p :: id.map (Value.int .u8)) := fun j v hj => by
  rw [cell_of_row _ _ _ _ _ _ R, ← hj, Nat.zero_add]
  simp [fromA]
theorem results_tmp_row_tmp {P : Program} {fn : Func} {q p u : Tmp} {ty : TypeId} (h : fn.results = #[.tmp q, .cell p ty, .tmp u]) (tmps : Array Value) (w : World) (g : Nat) (t : TypeId) (cs : Array Value) (fr : Nat × Nat) (d : TypeDesc)
    (hp : tmps.getD p undef = .pointer (some ⟨g, 0, none⟩)) (hg : w.heap[g]? = some (.cells cs t fr))
    (hu : P.underlying ty = some d) (hd : (match d with | .struct _ | .array _ _ => true | _ => false) = true) (hi : (P.info? ty).map (·.size) = some cs.size) :
    (results fn tmps).run P w = .ok (.tuple #[tmps.getD q undef, .agg cs, tmps.getD u undef]) w := by
  have hp' : tmps[p]?.getD undef = .pointer (some ⟨g, 0, none⟩) := by simpa using hp
  simp [results, h, hp', asAddr, run_loadVar_row w g t ty cs fr d hg hu hd hi]
theorem copyI_len (xs : List Int) : (copyI xs).length = 20 := by
  unfold copyI
  split
  · exact parsed_length _
  · rfl
theorem copyI_bytes (xs : List Int) : ∀ x ∈ copyI xs, 0 ≤ x ∧ x ≤ 255 := by
  unfold copyI
  split
  · exact parsed_bytes _
  · decide
theorem range_mem {xs : List Int} (h : ∀ x ∈ xs, 0 ≤ x ∧ x ≤ 255) (ys : List Int) (hy : ∀ y ∈ ys, 0 ≤ y ∧ y ≤ 255) : ∀ z ∈ ys ++ xs, 0 ≤ z ∧ z ≤ 255 := fun z hz => (List.mem_append.1 hz).elim (hy z) (h z)
theorem printL_bytes {xs : List Int} {p : ByteArray} {id ys : List Int} (h : printL xs p id = some ys) (hx : ∀ x ∈ xs, 0 ≤ x ∧ x ≤ 255) : ∀ y ∈ ys, 0 ≤ y ∧ y ≤ 255 := by
  unfold printL at h
  split at h
  · split at h
    · injection h with h
      rw [← h]
      exact range_mem hx _ (by decide)
    · injection h with h
      rw [← h]
      exact hx
  · split at h
    · injection h with h
      rw [← h]
      exact range_mem hx _ (numsOf_bytes _)
    · cases h
def textL (xs : List Int) : List Int := cutP (copyR (cutP xs markB)) markB
/-- A text that is told of, read back. -/
def parseL (xs : List Int) : Option (List Int × ByteArray × List Int) :=
  if pre xs markB then
    (match printL (textL xs) (copyP (cutP xs markB)) (copyI (cutP xs markB)) with
    | some ys => if Lib.bytesOf ys == Lib.bytesOf xs then some (textL xs, copyP (cutP xs markB), copyI (cutP xs markB)) else none
    | none => none)
  else some (xs, ⟨#[]⟩, zeros20)
def ParseOut (base : Nat) (w' : World) (e : Ending) : Option (List Int × ByteArray × List Int) → Prop
  | none => e = .returned (.tuple #[.slice none 0 0, .agg (fromA ⟨#[]⟩ zeros20), .int .i64 4])
  | some (ys, p, id) => ∃ va vc, e = .returned (.tuple #[.slice va ys.length vc, .agg (fromA p id), .int .i64 0]) ∧ Mid w' base (.slice va ys.length vc) ys.length ys
set_option maxRecDepth 100000 in
set_option maxHeartbeats 16000000 in
theorem cParse_any (a : Option Addr) (n c : Nat) (xs : List Int) (w : World) (R : RowB w a n c xs) (hE : Env w) (hn : n ≤ 10000000) :
    Calls Tryd.prog 13 #[.slice a n c] w fun e w' => ParseOut w.heap.size w' e (parseL xs) ∧ Below w.heap.size w w' := by
  have hzf := zero_from
  have HR := Lib.hid R
  have HE := Lib.hid hE
  have HN := Lib.hid hn
  clear R hE hn
  have HF0 : Hid ((w.alloc (.cells (fromA ⟨#[]⟩ zeros20) 28)).heap[w.heap.size]? = some (.cells (fromA ⟨#[]⟩ zeros20) 28 (0, 0))) := heap_alloc_new _ _
  have HB0 : Hid (Below w.heap.size w (w.alloc (.cells (fromA ⟨#[]⟩ zeros20) 28))) := (Below.refl _ _).alloc (Nat.le_refl _) _
  have HS0 : Hid ((w.alloc (.cells (fromA ⟨#[]⟩ zeros20) 28)).heap.size = w.heap.size + 1) := by show _ = _; simp
  go_enter Tryd.func13, Tryd.ntmps13
  go_wp2_with fail
  have HC := Lib.hid (lit_val (w.alloc (.cells (fromA ⟨#[]⟩ zeros20) 28)) (.string ⟨#[1, 10]⟩) 9)
  rw [HS0.out] at HC
  have HB1 : Hid (Below w.heap.size w ((w.alloc (.cells (fromA ⟨#[]⟩ zeros20) 28)).alloc (.cells #[.string ⟨#[1, 10]⟩] 9))) := HB0.out.alloc HB0.out.size _
  have HF1 : Hid (((w.alloc (.cells (fromA ⟨#[]⟩ zeros20) 28)).alloc (.cells #[.string ⟨#[1, 10]⟩] 9)).heap[w.heap.size]? = some (.cells (fromA ⟨#[]⟩ zeros20) 28 (0, 0))) := by
    show _ = _
    rw [Below.heap_alloc _ _ _ (by rw [HS0.out]; omega)]
    exact HF0.out
  generalize (w.alloc (.cells (fromA ⟨#[]⟩ zeros20) 28)).alloc (.cells #[.string ⟨#[1, 10]⟩] 9) = w1 at *
  clear HF0 HB0 HS0
  refine (front_cut a n c xs (w.heap.size + 1) ⟨#[1, 10]⟩ w w1 HR.out HB1.out HC.out (by have := HN.out; omega) (by decide)).mono ?_
  rintro e w2 ⟨⟨x2, n2, c2, rfl, hn2, r2⟩, hb⟩
  have HR2 := Lib.hid r2
  have HN2 := Lib.hid hn2
  have HB2 : Hid (Below w.heap.size w w2) := HB1.out.trans (hb.mono HB1.out.size)
  have HF2 := Lib.hid (row_stay HF1.out hb)
  have HL2 : Hid (w.heap.size < w2.heap.size) := (Array.getElem?_eq_some_iff.1 HF2.out).1
  clear r2 hn2 hb HB1 HF1 HC
  cases hpre : pre xs markB
  · rw [show pre xs ⟨#[1, 10]⟩ = false from hpre]
    have HP : Hid (parseL xs = some (xs, ⟨#[]⟩, zeros20)) := by
      show _ = _
      unfold parseL
      rw [hpre]
      rfl
    clear hpre
    go_wp2_with fail
    refine (clone_any a n c xs w2 (HR.out.below HB2.out) (by have := HN.out; omega)).mono ?_
    rintro e w3 ⟨⟨va, vc, rfl, hm⟩, hb⟩
    have HM := Lib.hid hm
    have HF3 := Lib.hid (row_stay HF2.out hb)
    have HB3 : Hid (Below w.heap.size w w3) := HB2.out.trans (hb.mono HB2.out.size)
    clear hm hb
    have HI : Hid ((Tryd.prog.info? 28).map (·.size) = some (fromA ⟨#[]⟩ zeros20).size) := from_info _ _ rfl
    go_wp2_with (first
      | refine wpList_build_0 rfl 28 rfl (.agg (fromA ⟨#[]⟩ zeros20)) build_none ?_
      | refine wpList_store_row rfl 28 _ _ rfl w.heap.size (fromA ⟨#[]⟩ zeros20) rfl rfl 28 (fromA ⟨#[]⟩ zeros20) HF3.out HI.out rfl (fromA_one _ _) ?_)
    refine bodyPost_ret (results_tmp_row_tmp Tryd.results13 _ _ w.heap.size 28 (fromA ⟨#[]⟩ zeros20) (0, 0) _ rfl (setRow_heap _ _ _ _ _ _ HF3.out) Tryd.underlying28 rfl HI.out) rfl ⟨?_, below_setRow HB3.out (Nat.le_refl _) _⟩
    rw [HP.out]
    exact ⟨va, vc, by rw [HR.out.len]; rfl, by rw [HR.out.len]; exact (HM.out.setRow _ _ HL2.out).lower HB2.out.size⟩
  · rw [show pre xs ⟨#[1, 10]⟩ = true from hpre]
    have HP : Hid (∀ tx P N, textL xs = tx → copyP (cutP xs markB) = P → copyI (cutP xs markB) = N → parseL xs = match printL tx P N with | some ys => if Lib.bytesOf ys == Lib.bytesOf xs then some (tx, P, N) else none | none => none) := by
      intro tx P N h1 h2 h3
      unfold parseL
      rw [hpre, if_pos rfl, h1, h2, h3]
    clear hpre
    go_wp2_with fail
    refine (copyOf_any x2 n2 c2 _ w2 (HR2.out.below HB2.out) (HE.out.below HB2.out) (by have := HN.out; have := HN2.out; omega)).mono ?_
    rintro e w3 ⟨⟨x3, n3, c3, rfl, hn3, r3⟩, hb⟩
    have HR3 := Lib.hid r3
    have HN3 := Lib.hid hn3
    have HB3 : Hid (Below w.heap.size w w3) := HB2.out.trans (hb.mono HB2.out.size)
    have HF3 := Lib.hid (row_stay HF2.out hb)
    have HLT : Hid (w.heap.size < w3.heap.size) := Nat.lt_of_lt_of_le HL2.out hb.size
    have HNL : Hid ((copyI (cutP xs ⟨#[1, 10]⟩)).length = 20) := copyI_len _
    have HNB := Lib.hid (copyI_bytes (cutP xs ⟨#[1, 10]⟩))
    have HTX : Hid (textL xs = cutP (copyR (cutP xs ⟨#[1, 10]⟩)) ⟨#[1, 10]⟩) := rfl
    have HP2 := Lib.hid (HP.out _ _ _ HTX.out rfl rfl)
    clear r3 hn3 hb HF2 HP
    simp only [show markB = (⟨#[1, 10]⟩ : ByteArray) from rfl] at HP2
    generalize copyP (cutP xs ⟨#[1, 10]⟩) = P at *
    generalize copyI (cutP xs ⟨#[1, 10]⟩) = N at *
    generalize copyR (cutP xs ⟨#[1, 10]⟩) = rs at *
    have HZN : Hid ((w3.alloc (.cells (fromA ⟨#[]⟩ zeros20) 28)).heap[w3.heap.size]? = some (.cells (fromA ⟨#[]⟩ zeros20) 28 (0, 0))) := heap_alloc_new _ _
    have hb4 : Below w3.heap.size w3 ((w3.alloc (.cells (fromA ⟨#[]⟩ zeros20) 28)).setRow w3.heap.size (fromA P N)) := below_setRow ((Below.refl _ _).alloc (Nat.le_refl _) _) (Nat.le_refl _) _
    have HB4 := Lib.hid (HB3.out.trans (hb4.mono HB3.out.size))
    have HF4 := Lib.hid (row_stay HF3.out hb4)
    have HG4 := Lib.hid (setRow_heap _ _ _ (fromA P N) _ _ HZN.out)
    have HS4 : Hid (((w3.alloc (.cells (fromA ⟨#[]⟩ zeros20) 28)).setRow w3.heap.size (fromA P N)).heap.size = w3.heap.size + 1) := by show _ = _; rw [size_setRow]; simp
    have HR4 := Lib.hid (HR3.out.below hb4)
    have HI : Hid ((Tryd.prog.info? 28).map (·.size) = some (fromA P N).size) := from_info _ _ HNL.out
    have HIS : Hid ((fromA ⟨#[]⟩ zeros20).size = (fromA P N).size) := by show _ = _; rw [fromA_size, fromA_size, HNL.out]; rfl
    have HIL : Hid ((Tryd.prog.info? 28).map (·.size) = some (Value.string P :: N.map (Value.int .u8)).length) := by
      show _ = _
      rw [HI.out, fromA_size]; simp
    clear hb4 HR3
    go_wp2_with (first
      | refine wpList_store_row rfl 28 _ _ rfl w3.heap.size (fromA P N) rfl rfl 28 (fromA ⟨#[]⟩ zeros20) HZN.out HI.out HIS.out (fromA_one _ _) ?_)
    have HC := Lib.hid (lit_val ((w3.alloc (.cells (fromA ⟨#[]⟩ zeros20) 28)).setRow w3.heap.size (fromA P N)) (.string ⟨#[1, 10]⟩) 9)
    rw [HS4.out] at HC
    have hb5 : Below ((w3.alloc (.cells (fromA ⟨#[]⟩ zeros20) 28)).setRow w3.heap.size (fromA P N)).heap.size ((w3.alloc (.cells (fromA ⟨#[]⟩ zeros20) 28)).setRow w3.heap.size (fromA P N)) (((w3.alloc (.cells (fromA ⟨#[]⟩ zeros20) 28)).setRow w3.heap.size (fromA P N)).alloc (.cells #[.string ⟨#[1, 10]⟩] 9)) := (Below.refl _ _).alloc (Nat.le_refl _) _
    have HB5 := Lib.hid (HB4.out.trans (hb5.mono HB4.out.size))
    have HF5 := Lib.hid (row_stay HF4.out hb5)
    have HG5 := Lib.hid (row_stay HG4.out hb5)
    have HR5w := Lib.hid (HR4.out.below hb5)
    clear hb5 HR4 HF4 HG4 HS4 HZN HB4
    generalize ((w3.alloc (.cells (fromA ⟨#[]⟩ zeros20) 28)).setRow w3.heap.size (fromA P N)).alloc (.cells #[.string ⟨#[1, 10]⟩] 9) = w5 at *
    refine (front_cut x3 n3 c3 rs (w3.heap.size + 1) ⟨#[1, 10]⟩ w5 w5 HR5w.out (Below.refl _ _) HC.out (by have := HN.out; have := HN2.out; have := HN3.out; omega) (by decide)).mono ?_
    rintro e w6 ⟨⟨x5, n5, c5, rfl, hn5, r5⟩, hb⟩
    have HR5 := Lib.hid (r5.below hb)
    have HN5 : Hid (n5 ≤ 10000000) := by show _ ≤ _; have := HN.out; have := HN2.out; have := HN3.out; omega
    have HB6 := Lib.hid (HB5.out.trans (hb.mono HB5.out.size))
    have HF6 := Lib.hid (row_stay HF5.out hb)
    have HG6 := Lib.hid (row_stay HG5.out hb)
    clear r5 hn5 hb HB5 HF5 HG5 HR5w HC
    generalize cutP rs ⟨#[1, 10]⟩ = tx at *
    have HXR : Hid (∀ x ∈ tx, 0 ≤ x ∧ x ≤ 255) := fun x hx => by have := HR5.out.mem x hx; omega
    generalize pre rs ⟨#[1, 10]⟩ = pb at *
    go_wp2_with (first
      | refine wpList_load_row rfl 28 _ rfl w3.heap.size rfl 28 (fromA P N) (0, 0) _ HG6.out Tryd.underlying28 rfl HI.out ?_)
    refine (print_any x5 n5 c5 tx P N w6 (HE.out.below HB6.out) HR5.out HN5.out HNL.out HNB.out).mono ?_
    rintro e w7 ⟨hpo, hb⟩
    have HB7 := Lib.hid (HB6.out.trans (hb.mono HB6.out.size))
    have HF7 := Lib.hid (row_stay HF6.out hb)
    have HG7 := Lib.hid (row_stay HG6.out hb)
    have HR7 := Lib.hid (HR5.out.below hb)
    clear hb HF6 HG6
    cases hpr : printL tx P N with
    | none =>
      rw [hpr] at hpo HP2
      obtain rfl : e = _ := hpo
      clear hpr HR7 HG7
      have HI0 : Hid ((Tryd.prog.info? 28).map (·.size) = some (fromA ⟨#[]⟩ zeros20).size) := from_info _ _ rfl
      go_wp2_with (first
        | refine wpList_build_0 rfl 28 rfl (.agg (fromA ⟨#[]⟩ zeros20)) build_none ?_
        | refine wpList_store_row rfl 28 _ _ rfl w.heap.size (fromA ⟨#[]⟩ zeros20) rfl rfl 28 (fromA ⟨#[]⟩ zeros20) HF7.out HI0.out rfl (fromA_one _ _) ?_)
      refine bodyPost_ret (results_tmp_row_tmp Tryd.results13 _ _ w.heap.size 28 (fromA ⟨#[]⟩ zeros20) (0, 0) _ rfl (setRow_heap _ _ _ _ _ _ HF7.out) Tryd.underlying28 rfl HI0.out) rfl ⟨?_, below_setRow HB7.out (Nat.le_refl _) _⟩
      rw [HP2.out]
      rfl
    | some ys =>
      rw [hpr] at hpo HP2
      obtain ⟨ya, yc, rfl, hm⟩ := hpo
      have HYB := Lib.hid (printL_bytes hpr HXR.out)
      have hyr := hm.row (range_of_mem HYB.out)
      have HEQ := Lib.hid (Tryd.bytes_Equal_all ya a ys.length yc n c ys xs w7 rfl HR.out.len (in_of hyr.bytes) (in_of (HR.out.below HB7.out).bytes))
      clear hpr hm hyr
      have HP3 : Hid (parseL xs = if Lib.bytesOf ys == Lib.bytesOf xs then some (tx, P, N) else none) := HP2.out
      clear HP2
      go_wp2_with fail
      cases heq : (Lib.bytesOf ys == Lib.bytesOf xs)
      · rw [heq] at HEQ HP3
        refine HEQ.out.mono ?_
        rintro e w8 ⟨rfl, rfl⟩
        clear heq HEQ HR7 HG7
        have HI0 : Hid ((Tryd.prog.info? 28).map (·.size) = some (fromA ⟨#[]⟩ zeros20).size) := from_info _ _ rfl
        go_wp2_with (first
          | refine wpList_build_0 rfl 28 rfl (.agg (fromA ⟨#[]⟩ zeros20)) build_none ?_
          | refine wpList_store_row rfl 28 _ _ rfl w.heap.size (fromA ⟨#[]⟩ zeros20) rfl rfl 28 (fromA ⟨#[]⟩ zeros20) HF7.out HI0.out rfl (fromA_one _ _) ?_)
        refine bodyPost_ret (results_tmp_row_tmp Tryd.results13 _ _ w.heap.size 28 (fromA ⟨#[]⟩ zeros20) (0, 0) _ rfl (setRow_heap _ _ _ _ _ _ HF7.out) Tryd.underlying28 rfl HI0.out) rfl ⟨?_, below_setRow HB7.out (Nat.le_refl _) _⟩
        rw [HP3.out]
        rfl
      · rw [heq] at HEQ HP3
        refine HEQ.out.mono ?_
        rintro e w8 ⟨rfl, rfl⟩
        clear heq HEQ
        have HWL : Hid (w.heap.size < w8.heap.size) := (Array.getElem?_eq_some_iff.1 HF7.out).1
        go_wp2_with fail
        refine wp_region_noPanic ?_
        refine wp_region_held_drew (S := fun W => W.heap[w3.heap.size]? = some (.cells (fromA P N) 28 (0, 0))) (by kernel_rfl) ?_ (fun hHeld => ?_)
        · exact HG7.out
        refine wpAnyH_take (i := 0) (v := ?_) (by simp only [List.getElem?_toArray, List.getElem?_cons_zero]; rfl) (by kernel_rfl) (by kernel_rfl) (by kernel_rfl) (fun _ _ _ h => h) (Or.inl ⟨by rfl, ?_⟩) (by assumption) ?_
        rotate_left
        · intro W hSW
          go_simp
          try with_reducible rfl
        try simp only [Act.put, List.setIfInBounds_toArray, List.set_cons_zero, List.set_cons_succ]
        refine wpAnyH_take (i := 2) (by simp only [List.getElem?_toArray, List.getElem?_cons_succ, List.getElem?_cons_zero]; rfl) (by kernel_rfl) (by kernel_rfl) (by kernel_rfl) (fun _ _ _ h => h) (yieldsIf_load_mid (by rfl) 28 _ rfl w3.heap.size 0 rfl (Value.string P :: N.map (Value.int .u8)) _ (fun W hSW => row_range hSW) Tryd.underlying28 rfl HIL.out) (by assumption) ?_
        try simp only [Act.put, List.setIfInBounds_toArray, List.set_cons_zero, List.set_cons_succ]
        refine wpAnyH_ready (rs := [1]) (by kernel_rfl) (by simp) ?_
        refine AllReadyH.cons (by simp only [List.getElem?_toArray, List.getElem?_cons_succ, List.getElem?_cons_zero]; rfl) (fun K hK => ?_) AllReadyH.nil
        go_simp
        refine (clone_any x5 n5 c5 tx _ (HR7.out.below (Below.refl _ _).drew) (by have := HN5.out; omega)).mono ?_
        rintro e w9 ⟨⟨va, vc, rfl, hm⟩, hb⟩
        have hb9 : Below w8.heap.size w8 w9 := (Below.refl _ _).drew.trans hb
        have HM : Hid (Mid w9 w8.heap.size (.slice va n5 vc) n5 tx) := hm
        have HG9 := Lib.hid (row_stay HG7.out hb9)
        have HF9 := Lib.hid (row_stay HF7.out hb9)
        have HB9 := Lib.hid (HB7.out.trans (hb9.mono HB7.out.size))
        clear hm hb hb9
        go_wp2_with fail
        refine hK.out _ _ (HG9.out) (fun hHeld2 => ?_)
        clear hK K hHeld
        have hHeld := hHeld2
        clear hHeld2
        try simp only [Act.put, List.setIfInBounds_toArray, List.set_cons_zero, List.set_cons_succ]
        refine wpAnyH_take (i := 3) (v := ?_) (by simp only [List.getElem?_toArray, List.getElem?_cons_succ, List.getElem?_cons_zero]; rfl) (by kernel_rfl) (by kernel_rfl) (by kernel_rfl) (fun _ _ _ h => h) (Or.inl ⟨by rfl, ?_⟩) (by assumption) ?_
        rotate_left
        · intro W hSW
          go_simp
          try with_reducible rfl
        try simp only [Act.put, List.setIfInBounds_toArray, List.set_cons_zero, List.set_cons_succ]
        refine wpAnyH_ready (rs := [4]) (by kernel_rfl) (by simp) ?_
        refine AllReadyH.cons (by simp only [List.getElem?_toArray, List.getElem?_cons_succ, List.getElem?_cons_zero]; rfl) (fun K hK => ?_) AllReadyH.nil
        refine step_store_row (by rfl) 28 _ _ (by rfl) w.heap.size (fromA P N) (by rfl) (by rfl) 28 (fromA ⟨#[]⟩ zeros20) HF9.out HI.out HIS.out (fromA_one _ _) ?_
        refine hK.out _ _ ((setRow_other _ _ _ _ (Nat.ne_of_gt HLT.out)).trans HG9.out) (fun hHeld2 => ?_)
        clear hK K hHeld
        have hHeld := hHeld2
        clear hHeld2
        try simp only [Act.put, List.setIfInBounds_toArray, List.set_cons_zero, List.set_cons_succ]
        refine wpAnyH_take (i := 5) (v := ?_) (by simp only [List.getElem?_toArray, List.getElem?_cons_succ, List.getElem?_cons_zero]; rfl) (by kernel_rfl) (by kernel_rfl) (by kernel_rfl) (fun _ _ _ h => h) (Or.inl ⟨by rfl, ?_⟩) (by assumption) ?_
        rotate_left
        · intro W hSW
          go_simp
          try with_reducible rfl
        try simp only [Act.put, List.setIfInBounds_toArray, List.set_cons_zero, List.set_cons_succ]
        refine wpAnyH_done (by kernel_rfl) ?_ _
        refine NoPanic.normal ?_
        go_wp2_with fail
        refine bodyPost_ret (results_tmp_row_tmp Tryd.results13 _ _ w.heap.size 28 (fromA P N) (0, 0) _ rfl (setRow_heap _ _ _ _ _ _ HF9.out) Tryd.underlying28 rfl HI.out) rfl ⟨?_, below_setRow HB9.out (Nat.le_refl _) _⟩
        rw [HP3.out]
        exact ⟨va, vc, by rw [HR7.out.len]; rfl, by rw [HR7.out.len]; exact (HM.out.setRow _ _ HWL.out).lower HB7.out.size⟩
end Go.Proofs.YtmkhnlfhbiabcaaDoor
