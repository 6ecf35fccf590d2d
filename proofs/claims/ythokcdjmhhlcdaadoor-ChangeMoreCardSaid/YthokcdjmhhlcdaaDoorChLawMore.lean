/- The law ChangeMore. -/
import Derived.Test.YthokcdjmhhlcdaaDoorChLawBack
namespace Go.Proofs.YthokcdjmhhlcdaaDoor
open Go.RowKit Plain Go.ChangeShapes Go.WideShapes Go.ChangeAt Go.Great
set_option linter.unusedVariables false
set_option linter.unusedSimpArgs false
theorem empty_run (W : World) : (Instr.buildSlice 27 0 #[]).run Tryd.prog W = .ok (.slice (some ⟨W.heap.size, 0, none⟩) 0 0) (W.alloc (.cells #[] 5)) := by
  obtain ⟨i, hi, he⟩ := Option.map_eq_some_iff.1 (show (Tryd.prog.info? 5).map (fun i => (i.zero, i.size, i.bytes)) = some (some (.int .u8 0), 1, 1) from by kernel_rfl)
  simp only [Prod.mk.injEq] at he
  simp [Instr.buildSlice, run_underlying Tryd.underlying27, sizeOf, typeInfo, hi, he.2.1, newRow, Instr.fill]
  have e : ∀ v : Value, Array.map (fun x : Nat => v) (Array.range 0) = #[] := fun v => Array.eq_empty_of_size_eq_zero (by simp)
  rw [e]
theorem nums_append (l r : List UInt8) : numsOf (txt l) ++ numsOf (txt r) = numsOf (txt (l ++ r)) := by
  unfold numsOf
  rw [txt_list, txt_list, txt_list, List.map_append]
theorem nums_range (l : List UInt8) : ∀ j : Nat, 0 ≤ (numsOf (txt l))[j]?.getD 0 ∧ (numsOf (txt l))[j]?.getD 0 ≤ 255 := fun j => by
  unfold numsOf
  rw [txt_list, List.getElem?_map]
  cases l[j]? with
  | none => simp
  | some c => have := c.toNat_lt; simp; omega
theorem nums_take (l : List UInt8) (k : Nat) : (numsOf (txt l)).take k = numsOf (txt (l.take k)) := by
  unfold numsOf
  rw [txt_list, txt_list, List.map_take]
theorem rowat_setCell {α : Type} {k : Nat} {enc : α → List Value} {w : World} {a : Option Addr} {xs : List α} (h : RowAt k enc w a xs) {b o : Nat} {v : Value} (hb : ∀ b' off, a = some ⟨b', off, none⟩ → xs.length ≠ 0 → b' ≠ b) : RowAt k enc (w.setCell ⟨b, o, none⟩ v) a xs := by
  by_cases h0 : xs.length = 0
  · exact .inl h0
  · rcases h with h1 | ⟨b', off, rfl, hl, hc⟩
    · exact absurd h1 h0
    · have hn := hb b' off rfl h0
      refine .inr ⟨b', off, rfl, (by simpa [World.setCell] using hl), fun j x hj i u hu => ?_⟩
      exact (heap_cell_ne w b o v b' _ hn).trans (hc j x hj i u hu)
theorem ChParse.any {e : Ending} {w : World} {o : Option CX} (h : ChParse e w o) (hg : ∀ C, o = some C → C.n.length = 20) : ∃ C xa xc fa fc z, e = .returned (.tuple #[.agg (chV C xa xc fa fc), .int .i64 z]) ∧ C.n.length = 20 := by
  cases o with
  | none => exact ⟨czero, none, 0, none, 0, 4, h, czero_20⟩
  | some C =>
    obtain ⟨xa, xc, fa, fc, he, -⟩ := h
    exact ⟨C, xa, xc, fa, fc, 0, he, hg C rfl⟩
set_option maxRecDepth 100000 in
set_option maxHeartbeats 32000000 in
theorem lawmore_any (a0 : Option Addr) (len0 cap0 : Nat) (xs : List Int) (a1 : Option Addr) (len1 cap1 : Nat) (ys : List Int) (w : World) (hE : EnvC w) (hR0 : RowB w a0 (min len0 2000) cap0 xs) (hc0 : len0 ≤ cap0) (hR1 : RowB w a1 (min len1 200) cap1 ys) (hc1 : len1 ≤ cap1) :
    Calls Tryd.prog 5 #[.slice a0 len0 cap0, .slice a1 len1 cap1] w fun e w' => e = .returned (.bool true) ∧ Below w.heap.size w w' := by
  obtain ⟨L0, rfl⟩ := text_of xs hR0.mem
  obtain ⟨L1, rfl⟩ := text_of ys hR1.mem
  obtain ⟨m0, hm0⟩ : ∃ m, min len0 2000 = m := ⟨_, rfl⟩
  obtain ⟨m1, hm1⟩ : ∃ m, min len1 200 = m := ⟨_, rfl⟩
  obtain ⟨m2, hm2⟩ : ∃ m, min m0 40 = m := ⟨_, rfl⟩
  rw [hm0] at hR0
  rw [hm1] at hR1
  have HMB : Hid (m0 ≤ 2000 ∧ m1 ≤ 200 ∧ m2 ≤ 40 ∧ m2 ≤ m0) := by show _ ∧ _; omega
  have hmin0 : min (len0 : Int) 2000 = (m0 : Int) := by omega
  have hmin1 : min (len1 : Int) 200 = (m1 : Int) := by omega
  have hmin2 : min (m0 : Int) 40 = (m2 : Int) := by omega
  have hsl0 : ∀ W, (Instr.sliceAt 27 (.slice a0 len0 cap0) none (some (.int .i64 (m0 : Int))) none).run Tryd.prog W = .ok (.slice a0 m0 cap0) W := slice_to a0 len0 cap0 m0 (by omega)
  have hsl1 : ∀ W, (Instr.sliceAt 27 (.slice a1 len1 cap1) none (some (.int .i64 (m1 : Int))) none).run Tryd.prog W = .ok (.slice a1 m1 cap1) W := slice_to a1 len1 cap1 m1 (by omega)
  have hsl2 : ∀ W, (Instr.sliceAt 27 (.slice a0 m0 cap0) none (some (.int .i64 (m2 : Int))) none).run Tryd.prog W = .ok (.slice a0 m2 cap0) W := slice_to a0 m0 cap0 m2 (by omega)
  have R0 := Lib.hid hR0
  have R1 := Lib.hid hR1
  have HE := Lib.hid hE
  have HL0 : Hid (L0.length = m0) := by have h1 := hR0.bytes.1; rw [numsOf_length, txt_size] at h1; exact h1
  have HL1 : Hid (L1.length = m1) := by have h1 := hR1.bytes.1; rw [numsOf_length, txt_size] at h1; exact h1
  have R2 : Hid (RowB w a0 m2 cap0 (numsOf (txt (L0.take m2)))) := by
    have := hR0.front m2 HMB.out.2.2.2
    rwa [nums_take] at this
  have HSHORT : Hid (parseC (L0.take m2) = none) := parse_short (by rw [List.length_take]; have := HMB.out; omega)
  have hzc := zero_ch
  clear hE hR0 hR1 hm0 hm1 hm2 hc0 hc1
  go_enter Tryd.func5, Tryd.ntmps5
  go_wp2_with fail
  refine wp_region_noPanic ?_
  refine wp_region_held_drew (S := fun _ => True) (by kernel_rfl) ?_ (fun hHeld => ?_)
  · exact True.intro
  refine wpAnyH_take (i := 0) (v := ?_) (by simp only [List.getElem?_toArray, List.getElem?_cons_zero]; rfl) (by kernel_rfl) (by kernel_rfl) (by kernel_rfl) (fun _ _ _ h => h) (Or.inl ⟨by rfl, ?_⟩) (by assumption) ?_
  rotate_left
  · intro W hSW
    go_simp
    try with_reducible rfl
  try simp only [Act.put, List.setIfInBounds_toArray, List.set_cons_zero, List.set_cons_succ]
  refine wpAnyH_take (i := 1) (v := ?_) (by simp only [List.getElem?_toArray, List.getElem?_cons_succ, List.getElem?_cons_zero]; rfl) (by kernel_rfl) (by kernel_rfl) (by kernel_rfl) (fun _ _ _ h => h) (Or.inl ⟨by rfl, ?_⟩) (by assumption) ?_
  rotate_left
  · intro W hSW
    go_simp
    try with_reducible rfl
  try simp only [Act.put, List.setIfInBounds_toArray, List.set_cons_zero, List.set_cons_succ]
  refine wpAnyH_take (i := 2) (v := ?_) (by simp only [List.getElem?_toArray, List.getElem?_cons_succ, List.getElem?_cons_zero]; rfl) (by kernel_rfl) (by kernel_rfl) (by kernel_rfl) (fun _ _ _ h => h) (Or.inl ⟨by rfl, ?_⟩) (by assumption) ?_
  rotate_left
  · intro W hSW
    go_simp
    try with_reducible rfl
  try simp only [Act.put, List.setIfInBounds_toArray, List.set_cons_zero, List.set_cons_succ]
  refine wpAnyH_take (i := 3) (v := ?_) (by simp only [List.getElem?_toArray, List.getElem?_cons_succ, List.getElem?_cons_zero]; rfl) (by kernel_rfl) (by kernel_rfl) (by kernel_rfl) (fun _ _ _ h => h) (Or.inl ⟨by rfl, ?_⟩) (by assumption) ?_
  rotate_left
  · intro W hSW
    go_simp
    try with_reducible rfl
  try simp only [Act.put, List.setIfInBounds_toArray, List.set_cons_zero, List.set_cons_succ]
  refine wpAnyH_take (i := 4) (v := ?_) (by simp only [List.getElem?_toArray, List.getElem?_cons_succ, List.getElem?_cons_zero]; rfl) (by kernel_rfl) (by kernel_rfl) (by kernel_rfl) (fun _ _ _ h => h) (Or.inl ⟨by rfl, ?_⟩) (by assumption) ?_
  rotate_left
  · intro W hSW
    go_simp
    try with_reducible rfl
  try simp only [Act.put, List.setIfInBounds_toArray, List.set_cons_zero, List.set_cons_succ]
  refine wpAnyH_take (i := 5) (v := ?_) (by simp only [List.getElem?_toArray, List.getElem?_cons_succ, List.getElem?_cons_zero]; rfl) (by kernel_rfl) (by kernel_rfl) (by kernel_rfl) (fun _ _ _ h => h) (Or.inl ⟨by rfl, ?_⟩) (by assumption) ?_
  rotate_left
  · intro W hSW
    go_simp
    try with_reducible rfl
  try simp only [Act.put, List.setIfInBounds_toArray, List.set_cons_zero, List.set_cons_succ]
  refine wpAnyH_take (i := 6) (v := ?_) (by simp only [List.getElem?_toArray, List.getElem?_cons_succ, List.getElem?_cons_zero]; rfl) (by kernel_rfl) (by kernel_rfl) (by kernel_rfl) (fun _ _ _ h => h) (Or.inl ⟨by rfl, ?_⟩) (by assumption) ?_
  rotate_left
  · intro W hSW
    go_simp
    try with_reducible rfl
  try simp only [Act.put, List.setIfInBounds_toArray, List.set_cons_zero, List.set_cons_succ]
  refine wpAnyH_take (i := 7) (v := ?_) (by simp only [List.getElem?_toArray, List.getElem?_cons_succ, List.getElem?_cons_zero]; rfl) (by kernel_rfl) (by kernel_rfl) (by kernel_rfl) (fun _ _ _ h => h) (Or.inl ⟨by rfl, ?_⟩) (by assumption) ?_
  rotate_left
  · intro W hSW
    go_simp
    try with_reducible rfl
  try simp only [Act.put, List.setIfInBounds_toArray, List.set_cons_zero, List.set_cons_succ]
  refine wpAnyH_take (i := 8) (v := ?_) (by simp only [List.getElem?_toArray, List.getElem?_cons_succ, List.getElem?_cons_zero]; rfl) (by kernel_rfl) (by kernel_rfl) (by kernel_rfl) (fun _ _ _ h => h) (Or.inl ⟨by rfl, ?_⟩) (by assumption) ?_
  rotate_left
  · intro W hSW
    go_simp
    try with_reducible rfl
  try simp only [Act.put, List.setIfInBounds_toArray, List.set_cons_zero, List.set_cons_succ]
  refine wpAnyH_take (i := 9) (v := ?_) (by simp only [List.getElem?_toArray, List.getElem?_cons_succ, List.getElem?_cons_zero]; rfl) (by kernel_rfl) (by kernel_rfl) (by kernel_rfl) (fun _ _ _ h => h) (Or.inl ⟨by rfl, ?_⟩) (by assumption) ?_
  rotate_left
  · intro W hSW
    go_simp
    try with_reducible rfl
  try simp only [Act.put, List.setIfInBounds_toArray, List.set_cons_zero, List.set_cons_succ]
  refine wpAnyH_take (i := 10) (v := ?_) (by simp only [List.getElem?_toArray, List.getElem?_cons_succ, List.getElem?_cons_zero]; rfl) (by kernel_rfl) (by kernel_rfl) (by kernel_rfl) (fun _ _ _ h => h) (Or.inl ⟨by rfl, ?_⟩) (by assumption) ?_
  rotate_left
  · intro W hSW
    go_simp
    try with_reducible rfl
  try simp only [Act.put, List.setIfInBounds_toArray, List.set_cons_zero, List.set_cons_succ]
  refine wpAnyH_take (i := 11) (v := ?_) (by simp only [List.getElem?_toArray, List.getElem?_cons_succ, List.getElem?_cons_zero]; rfl) (by kernel_rfl) (by kernel_rfl) (by kernel_rfl) (fun _ _ _ h => h) (Or.inl ⟨by rfl, ?_⟩) (by assumption) ?_
  rotate_left
  · intro W hSW
    go_simp
    try with_reducible rfl
  try simp only [Act.put, List.setIfInBounds_toArray, List.set_cons_zero, List.set_cons_succ]
  refine wpAnyH_done (by kernel_rfl) ?_ _
  refine NoPanic.normal ?_
  clear hHeld hmin0 hmin1 hsl0 hsl1
  obtain ⟨w0, hw0⟩ : ∃ W, w.drew = W := ⟨_, rfl⟩
  have HB0 : Hid (Below w.heap.size w w0) := by rw [← hw0]; exact (Below.refl _ _).drew
  try rw [hw0]
  clear hw0
  go_wp2_with fail
  refine (chparse_any a0 m0 cap0 L0 w0 (R0.out.bytes.below HB0.out) (by have := HMB.out; omega) (HE.out.below HB0.out)).mono ?_
  rintro e w1 ⟨hpo, hb⟩
  have HB1 := Lib.hid (HB0.out.trans (hb.mono HB0.out.size))
  clear hb
  cases hpc : parseC L0 with
  | none =>
    rw [hpc] at hpo
    obtain rfl := hpo
    clear hpc
    have HZ1 : Hid ((w1.alloc (.cells (chA czero (.slice none 0 0) (.slice none 0 0)) 31)).heap[w1.heap.size]? = some (.cells (chA czero (.slice none 0 0) (.slice none 0 0)) 31 (0, 0))) := heap_alloc_new _ _
    have HS1 : Hid (Below w1.heap.size w1 ((w1.alloc (.cells (chA czero (.slice none 0 0) (.slice none 0 0)) 31)).setRow w1.heap.size (chV czero none 0 none 0))) := below_setRow ((Below.refl _ _).alloc (Nat.le_refl _) _) (Nat.le_refl _) _
    have HR1 : Hid (((w1.alloc (.cells (chA czero (.slice none 0 0) (.slice none 0 0)) 31)).setRow w1.heap.size (chV czero none 0 none 0)).heap[w1.heap.size]? = some (.cells (chV czero none 0 none 0) 31 (0, 0))) := setRow_heap _ _ _ _ _ _ HZ1.out
    go_wp2_with (first
      | (refine wpList_store_row rfl 31 _ _ rfl w1.heap.size (chV czero none 0 none 0) rfl rfl 31 (chA czero (.slice none 0 0) (.slice none 0 0)) HZ1.out (info_chA czero _ _ czero_20) (by unfold chV; rw [chA_size _ _ _ czero_20, chA_size czero _ _ czero_20]) (chA_one _ _ _ rfl rfl) ?_
         obtain ⟨w2, hw1⟩ : ∃ X, (w1.alloc (.cells (chA czero (.slice none 0 0) (.slice none 0 0)) 31)).setRow w1.heap.size (chV czero none 0 none 0) = X := ⟨_, rfl⟩
         rw [hw1] at HS1 HR1 ⊢
         obtain ⟨b5, hb1⟩ : ∃ x, w1.heap.size = x := ⟨_, rfl⟩
         rw [hb1] at HR1 ⊢
         clear hw1 hb1 HZ1
         have HB2 := Lib.hid (HB1.out.trans (HS1.out.mono HB1.out.size))
         have HEM : Hid (Mid (w2.alloc (.cells #[] 5)) w2.heap.size (.slice (some ⟨w2.heap.size, 0, none⟩) 0 0) 0 []) := ⟨rfl, .inr ⟨w2.heap.size, 0, 0, rfl, Nat.le_refl _, by simp, Nat.le_refl _, by omega, fun j v hj => by simp [U8] at hj, fun j hj => by omega⟩⟩
         have HQA : Hid (Bytes (w2.alloc (.cells #[] 5)) a0 m0 (numsOf (txt L0))) := R0.out.bytes.below (HB2.out.alloc HB2.out.size _)
         have HQB0 : Hid (Bytes (w2.alloc (.cells #[] 5)) a1 m1 (numsOf (txt L1))) := R1.out.bytes.below (HB2.out.alloc HB2.out.size _)
         have HBA : Hid (Below w2.heap.size w2 (w2.alloc (.cells #[] 5))) := (Below.refl _ _).alloc (Nat.le_refl _) _)
      | refine wpList_slice rfl 27 0 #[] rfl #[] rfl _ _ (empty_run w2) ?_
      | (refine wpList_append_to rfl _ _ 27 rfl w2.heap.size (.slice (some ⟨w2.heap.size, 0, none⟩) 0 0) 0 [] rfl HEM.out (.slice a0 m0 cap0) m0 (numsOf (txt L0)) rfl (src_bytes HQA.out) m0 (numsOf (txt L0)) (by omega) rfl (by have := HMB.out; omega) HBA.out.size ?_
         rintro b1 k1 u1 hm1 hu1
         have HM1 := Lib.hid hm1
         have HU1 : Hid (Below w2.heap.size w2 u1) := HBA.out.trans hu1
         have HQB : Hid (Bytes u1 a1 m1 (numsOf (txt L1))) := R1.out.bytes.below (HB2.out.trans (HU1.out.mono HB2.out.size))
         clear hm1 hu1)
      | (refine wpList_append_to rfl _ _ 27 rfl w2.heap.size (.slice b1 m0 k1) m0 (numsOf (txt L0)) rfl HM1.out (.slice a1 m1 cap1) m1 (numsOf (txt L1)) rfl (src_bytes HQB.out) (m0 + m1) (numsOf (txt (L0 ++ L1))) rfl (nums_append L0 L1) (by have := HMB.out; omega) HU1.out.size ?_
         rintro b2 k2 u2 hm2 hu2
         have HM2 := Lib.hid hm2
         have HU2 : Hid (Below w2.heap.size w2 u2) := HU1.out.trans hu2
         clear hm2 hu2))
    have HBU := Lib.hid (HB2.out.trans (HU2.out.mono HB2.out.size))
    refine (chparse_any b2 (m0 + m1) k2 (L0 ++ L1) u2 (HM2.out.bytes (nums_range _)) (by have := HMB.out; omega) (HE.out.below HBU.out)).mono ?_
    rintro e w3 ⟨hpo, hb⟩
    have HB3 := Lib.hid (HBU.out.trans (hb.mono HBU.out.size))
    obtain ⟨D, ea, ec, ga, gc, z, rfl, hd20⟩ := hpo.any (fun C hC => (parseC_good hC).1)
    have HD20 := Lib.hid hd20
    clear hpo hb hd20
    have HZ3 : Hid ((w3.alloc (.cells (chA czero (.slice none 0 0) (.slice none 0 0)) 31)).heap[w3.heap.size]? = some (.cells (chA czero (.slice none 0 0) (.slice none 0 0)) 31 (0, 0))) := heap_alloc_new _ _
    have HS3 : Hid (Below w3.heap.size w3 ((w3.alloc (.cells (chA czero (.slice none 0 0) (.slice none 0 0)) 31)).setRow w3.heap.size (chV D ea ec ga gc))) := below_setRow ((Below.refl _ _).alloc (Nat.le_refl _) _) (Nat.le_refl _) _
    have HR3 : Hid (((w3.alloc (.cells (chA czero (.slice none 0 0) (.slice none 0 0)) 31)).setRow w3.heap.size (chV D ea ec ga gc)).heap[w3.heap.size]? = some (.cells (chV D ea ec ga gc) 31 (0, 0))) := setRow_heap _ _ _ _ _ _ HZ3.out
    go_wp2_with (first
      | refine wpList_store_row rfl 31 _ _ rfl w3.heap.size (chV D ea ec ga gc) rfl rfl 31 (chA czero (.slice none 0 0) (.slice none 0 0)) HZ3.out (info_chA D _ _ HD20.out) (by unfold chV; rw [chA_size _ _ _ czero_20, chA_size D _ _ HD20.out]) (chA_one _ _ _ rfl rfl) ?_)
    obtain ⟨w4, hw3⟩ : ∃ X, (w3.alloc (.cells (chA czero (.slice none 0 0) (.slice none 0 0)) 31)).setRow w3.heap.size (chV D ea ec ga gc) = X := ⟨_, rfl⟩
    rw [hw3] at HS3 HR3 ⊢
    obtain ⟨b7, hb3⟩ : ∃ x, w3.heap.size = x := ⟨_, rfl⟩
    rw [hb3] at HR3 ⊢
    clear hw3 hb3 HZ3
    have HB4 := Lib.hid (HB3.out.trans (HS3.out.mono HB3.out.size))
    go_wp2_with fail
    refine (chparse_any a0 m2 cap0 (L0.take m2) w4 (R2.out.bytes.below HB4.out) (by have := HMB.out; omega) (HE.out.below HB4.out)).mono ?_
    rintro e w5 ⟨hpo, hb⟩
    have HB5 := Lib.hid (HB4.out.trans (hb.mono HB4.out.size))
    rw [HSHORT.out] at hpo
    obtain rfl := hpo
    clear hb
    have HZ5 : Hid ((w5.alloc (.cells (chA czero (.slice none 0 0) (.slice none 0 0)) 31)).heap[w5.heap.size]? = some (.cells (chA czero (.slice none 0 0) (.slice none 0 0)) 31 (0, 0))) := heap_alloc_new _ _
    have HS5 : Hid (Below w5.heap.size w5 ((w5.alloc (.cells (chA czero (.slice none 0 0) (.slice none 0 0)) 31)).setRow w5.heap.size (chV czero none 0 none 0))) := below_setRow ((Below.refl _ _).alloc (Nat.le_refl _) _) (Nat.le_refl _) _
    have HR5 : Hid (((w5.alloc (.cells (chA czero (.slice none 0 0) (.slice none 0 0)) 31)).setRow w5.heap.size (chV czero none 0 none 0)).heap[w5.heap.size]? = some (.cells (chV czero none 0 none 0) 31 (0, 0))) := setRow_heap _ _ _ _ _ _ HZ5.out
    go_wp2_with (first
      | refine wpList_store_row rfl 31 _ _ rfl w5.heap.size (chV czero none 0 none 0) rfl rfl 31 (chA czero (.slice none 0 0) (.slice none 0 0)) HZ5.out (info_chA czero _ _ czero_20) (by unfold chV; rw [chA_size _ _ _ czero_20, chA_size czero _ _ czero_20]) (chA_one _ _ _ rfl rfl) ?_)
    have HB6 := Lib.hid (HB5.out.trans (HS5.out.mono HB5.out.size))
    refine (chknown_any _ (HE.out.below HB6.out)).mono ?_
    rintro e wk ⟨rfl, hbk⟩
    have HBK := Lib.hid (HB6.out.trans (hbk.mono HB6.out.size))
    clear hbk
    go_wp2_with fail
    go_ret
    exact ⟨rfl, HBK.out⟩
  | some C =>
    rw [hpc] at hpo
    obtain ⟨ca, cc, da, dc, rfl, hat⟩ := hpo
    have HC20 := Lib.hid hat.n20
    have HMORE := Lib.hid (parse_more hpc L1)
    have HSZ : Hid (C.d.size ≤ 2000 ∧ C.xs.length ≤ 100000 ∧ C.fs.length ≤ 100000) := by
      obtain ⟨-, -, hraw⟩ := parseC_some hpc
      have ht := raw_tiny (L := L0) (by have := HL0.out; have := HMB.out; omega)
      rw [← hraw] at ht
      have hd : C.d.size ≤ L0.length := by
        rw [hraw]
        show (txt _).size ≤ _
        rw [txt_size]
        have h1 := cut_len L0 10
        have h2 := cut_len (rest1 L0) 10
        have h3 := cut_len (rest2 L0) 10
        have r1 : (rest1 L0).length ≤ L0.length := h1.2
        have r2 : (rest2 L0).length ≤ (rest1 L0).length := h2.2
        have r3 : (rest3 L0).length ≤ (rest2 L0).length := h3.2
        have := (filesP_len (rest3 L0).length (rest3 L0)).2.2
        omega
      exact ⟨by have := HL0.out; have := HMB.out; omega, by have := ht.2.2.1; omega, by have := ht.2.2.2.1; omega⟩
    clear hpc
    have HZ1 : Hid ((w1.alloc (.cells (chA czero (.slice none 0 0) (.slice none 0 0)) 31)).heap[w1.heap.size]? = some (.cells (chA czero (.slice none 0 0) (.slice none 0 0)) 31 (0, 0))) := heap_alloc_new _ _
    have HS1 : Hid (Below w1.heap.size w1 ((w1.alloc (.cells (chA czero (.slice none 0 0) (.slice none 0 0)) 31)).setRow w1.heap.size (chV C ca cc da dc))) := below_setRow ((Below.refl _ _).alloc (Nat.le_refl _) _) (Nat.le_refl _) _
    have HR1 : Hid (((w1.alloc (.cells (chA czero (.slice none 0 0) (.slice none 0 0)) 31)).setRow w1.heap.size (chV C ca cc da dc)).heap[w1.heap.size]? = some (.cells (chV C ca cc da dc) 31 (0, 0))) := setRow_heap _ _ _ _ _ _ HZ1.out
    have HAT1 := Lib.hid (hat.below HS1.out)
    have HX0 : Hid (∀ b' off, ca = some ⟨b', off, none⟩ → C.xs.length ≠ 0 → b' < w1.heap.size) := fun b' off he h0 => by
      rcases hat.exts with h | ⟨b, o, e, hl, -⟩
      · exact absurd h h0
      · rw [e] at he
        simp only [Option.some.injEq, Addr.mk.injEq] at he
        omega
    have HF0 : Hid (∀ b' off, da = some ⟨b', off, none⟩ → C.fs.length ≠ 0 → b' < w1.heap.size) := fun b' off he h0 => by
      rcases hat.files with h | ⟨b, o, e, hl, -⟩
      · exact absurd h h0
      · rw [e] at he
        simp only [Option.some.injEq, Addr.mk.injEq] at he
        omega
    have HB5LO : Hid (w.heap.size ≤ w1.heap.size) := HB1.out.size
    clear hat
    go_wp2_with (first
      | (refine wpList_store_row rfl 31 _ _ rfl w1.heap.size (chV C ca cc da dc) rfl rfl 31 (chA czero (.slice none 0 0) (.slice none 0 0)) HZ1.out (info_chA C _ _ HC20.out) (by unfold chV; rw [chA_size _ _ _ czero_20, chA_size C _ _ HC20.out]) (chA_one _ _ _ rfl rfl) ?_
         obtain ⟨w2, hw1⟩ : ∃ X, (w1.alloc (.cells (chA czero (.slice none 0 0) (.slice none 0 0)) 31)).setRow w1.heap.size (chV C ca cc da dc) = X := ⟨_, rfl⟩
         rw [hw1] at HS1 HR1 HAT1 ⊢
         obtain ⟨b5, hb1⟩ : ∃ x, w1.heap.size = x := ⟨_, rfl⟩
         rw [hb1] at HR1 HX0 HF0 HB5LO ⊢
         clear hw1 hb1 HZ1
         have HB2 := Lib.hid (HB1.out.trans (HS1.out.mono HB1.out.size))
         have HEM : Hid (Mid (w2.alloc (.cells #[] 5)) w2.heap.size (.slice (some ⟨w2.heap.size, 0, none⟩) 0 0) 0 []) := ⟨rfl, .inr ⟨w2.heap.size, 0, 0, rfl, Nat.le_refl _, by simp, Nat.le_refl _, by omega, fun j v hj => by simp [U8] at hj, fun j hj => by omega⟩⟩
         have HQA : Hid (Bytes (w2.alloc (.cells #[] 5)) a0 m0 (numsOf (txt L0))) := R0.out.bytes.below (HB2.out.alloc HB2.out.size _)
         have HQB0 : Hid (Bytes (w2.alloc (.cells #[] 5)) a1 m1 (numsOf (txt L1))) := R1.out.bytes.below (HB2.out.alloc HB2.out.size _)
         have HBA : Hid (Below w2.heap.size w2 (w2.alloc (.cells #[] 5))) := (Below.refl _ _).alloc (Nat.le_refl _) _)
      | refine wpList_slice rfl 27 0 #[] rfl #[] rfl _ _ (empty_run w2) ?_
      | (refine wpList_append_to rfl _ _ 27 rfl w2.heap.size (.slice (some ⟨w2.heap.size, 0, none⟩) 0 0) 0 [] rfl HEM.out (.slice a0 m0 cap0) m0 (numsOf (txt L0)) rfl (src_bytes HQA.out) m0 (numsOf (txt L0)) (by omega) rfl (by have := HMB.out; omega) HBA.out.size ?_
         rintro b1 k1 u1 hm1 hu1
         have HM1 := Lib.hid hm1
         have HU1 : Hid (Below w2.heap.size w2 u1) := HBA.out.trans hu1
         have HQB : Hid (Bytes u1 a1 m1 (numsOf (txt L1))) := R1.out.bytes.below (HB2.out.trans (HU1.out.mono HB2.out.size))
         clear hm1 hu1)
      | (refine wpList_append_to rfl _ _ 27 rfl w2.heap.size (.slice b1 m0 k1) m0 (numsOf (txt L0)) rfl HM1.out (.slice a1 m1 cap1) m1 (numsOf (txt L1)) rfl (src_bytes HQB.out) (m0 + m1) (numsOf (txt (L0 ++ L1))) rfl (nums_append L0 L1) (by have := HMB.out; omega) HU1.out.size ?_
         rintro b2 k2 u2 hm2 hu2
         have HM2 := Lib.hid hm2
         have HU2 : Hid (Below w2.heap.size w2 u2) := HU1.out.trans hu2
         clear hm2 hu2))
    have HBU := Lib.hid (HB2.out.trans (HU2.out.mono HB2.out.size))
    refine (chparse_fresh b2 (m0 + m1) k2 (L0 ++ L1) u2 (HM2.out.bytes (nums_range _)) (by have := HMB.out; omega) (HE.out.below HBU.out)).mono ?_
    rintro e w3 ⟨hpo, hb⟩
    have HB3 := Lib.hid (HBU.out.trans (hb.mono HBU.out.size))
    have HR13 := Lib.hid (((HU2.out.trans (hb.mono HU2.out.size)).block b5 (Array.getElem?_eq_some_iff.1 HR1.out).1).trans HR1.out)
    have HAT13 := Lib.hid (HAT1.out.below (HU2.out.trans (hb.mono HU2.out.size)))
    rw [HMORE.out] at hpo
    obtain ⟨D, hD⟩ : ∃ D, ({ C with d := txt (C.d.data.toList ++ L1) } : CX) = D := ⟨_, rfl⟩
    rw [hD] at hpo
    obtain ⟨ea, ec, ga, gc, rfl, hat, hfx, hff⟩ := hpo
    have HEX0 : Hid (∀ b' off, ea = some ⟨b', off, none⟩ → D.xs.length ≠ 0 → b' ≠ b5) := fun b' off he _ => by have h1 := hfx b' off he; have h2 := (Array.getElem?_eq_some_iff.1 HR1.out).1; have h3 := HU2.out.size; omega
    have HGX0 : Hid (∀ b' off, ga = some ⟨b', off, none⟩ → D.fs.length ≠ 0 → b' ≠ b5) := fun b' off he _ => by have h1 := hff b' off he; have h2 := (Array.getElem?_eq_some_iff.1 HR1.out).1; have h3 := HU2.out.size; omega
    clear hfx hff
    have HD20 := Lib.hid hat.n20
    have HNE4 : Hid (b5 ≠ w3.heap.size) := by have := (Array.getElem?_eq_some_iff.1 HR13.out).1; show _ ≠ _; omega
    clear hb HAT1 HR1 HMORE
    have HZ3 : Hid ((w3.alloc (.cells (chA czero (.slice none 0 0) (.slice none 0 0)) 31)).heap[w3.heap.size]? = some (.cells (chA czero (.slice none 0 0) (.slice none 0 0)) 31 (0, 0))) := heap_alloc_new _ _
    have HS3 : Hid (Below w3.heap.size w3 ((w3.alloc (.cells (chA czero (.slice none 0 0) (.slice none 0 0)) 31)).setRow w3.heap.size (chV D ea ec ga gc))) := below_setRow ((Below.refl _ _).alloc (Nat.le_refl _) _) (Nat.le_refl _) _
    have HR3 : Hid (((w3.alloc (.cells (chA czero (.slice none 0 0) (.slice none 0 0)) 31)).setRow w3.heap.size (chV D ea ec ga gc)).heap[w3.heap.size]? = some (.cells (chV D ea ec ga gc) 31 (0, 0))) := setRow_heap _ _ _ _ _ _ HZ3.out
    have HATD := Lib.hid (hat.below HS3.out)
    have HR14 := Lib.hid ((HS3.out.block b5 (Array.getElem?_eq_some_iff.1 HR13.out).1).trans HR13.out)
    have HAT14 := Lib.hid (HAT13.out.below HS3.out)
    clear hat HR13 HAT13
    go_wp2_with (first
      | refine wpList_store_row rfl 31 _ _ rfl w3.heap.size (chV D ea ec ga gc) rfl rfl 31 (chA czero (.slice none 0 0) (.slice none 0 0)) HZ3.out (info_chA D _ _ HD20.out) (by unfold chV; rw [chA_size _ _ _ czero_20, chA_size D _ _ HD20.out]) (chA_one _ _ _ rfl rfl) ?_)
    obtain ⟨w4, hw3⟩ : ∃ X, (w3.alloc (.cells (chA czero (.slice none 0 0) (.slice none 0 0)) 31)).setRow w3.heap.size (chV D ea ec ga gc) = X := ⟨_, rfl⟩
    rw [hw3] at HS3 HR3 HATD HR14 HAT14 ⊢
    obtain ⟨b7, hb3⟩ : ∃ x, w3.heap.size = x := ⟨_, rfl⟩
    rw [hb3] at HR3 HNE4 ⊢
    clear hw3 hb3 HZ3
    have HB4 := Lib.hid (HB3.out.trans (HS3.out.mono HB3.out.size))
    go_wp2_with fail
    refine (chparse_any a0 m2 cap0 (L0.take m2) w4 (R2.out.bytes.below HB4.out) (by have := HMB.out; omega) (HE.out.below HB4.out)).mono ?_
    rintro e w5 ⟨hpo, hb⟩
    have HB5 := Lib.hid (HB4.out.trans (hb.mono HB4.out.size))
    rw [HSHORT.out] at hpo
    obtain rfl := hpo
    have HZ5 : Hid ((w5.alloc (.cells (chA czero (.slice none 0 0) (.slice none 0 0)) 31)).heap[w5.heap.size]? = some (.cells (chA czero (.slice none 0 0) (.slice none 0 0)) 31 (0, 0))) := heap_alloc_new _ _
    have HS5 : Hid (Below w5.heap.size w5 ((w5.alloc (.cells (chA czero (.slice none 0 0) (.slice none 0 0)) 31)).setRow w5.heap.size (chV czero none 0 none 0))) := below_setRow ((Below.refl _ _).alloc (Nat.le_refl _) _) (Nat.le_refl _) _
    have HR5 : Hid (((w5.alloc (.cells (chA czero (.slice none 0 0) (.slice none 0 0)) 31)).setRow w5.heap.size (chV czero none 0 none 0)).heap[w5.heap.size]? = some (.cells (chV czero none 0 none 0) 31 (0, 0))) := setRow_heap _ _ _ _ _ _ HZ5.out
    have HS45 := Lib.hid (hb.trans (HS5.out.mono hb.size))
    have HR15 := Lib.hid ((HS45.out.block b5 (Array.getElem?_eq_some_iff.1 HR14.out).1).trans HR14.out)
    have HR35 := Lib.hid ((HS45.out.block b7 (Array.getElem?_eq_some_iff.1 HR3.out).1).trans HR3.out)
    have HAT15 := Lib.hid (HAT14.out.below HS45.out)
    have HATD5 := Lib.hid (HATD.out.below HS45.out)
    have HNE := HNE4
    clear hb HR14 HR3 HAT14 HATD
    have HB6 := Lib.hid (HB5.out.trans (HS5.out.mono HB5.out.size))
    have hcd := (ChRow.of HR15.out HC20.out).desc
    have hfd := frozen_of_row _ b5 25 _ _ HR15.out
    have htm := text_run _ a1 m1 cap1 _ (R1.out.bytes.below HB6.out)
    rw [str_nums] at htm
    have HADD : Hid (∀ W, (binOp .add 9 (.string C.d) (.string (txt L1))).run Tryd.prog W = .ok (.string D.d) W) := fun W => by
      have h1 := add_op C.d (txt L1) (by rw [txt_size]; have := HSZ.out; have := HL1.out; have := HMB.out; omega) W
      rw [h1, ← hD]
      congr 2
    go_wp2_with (first
      | refine wpList_store_row rfl 31 _ _ rfl w5.heap.size (chV czero none 0 none 0) rfl rfl 31 (chA czero (.slice none 0 0) (.slice none 0 0)) HZ5.out (info_chA czero _ _ czero_20) (by unfold chV; rw [chA_size _ _ _ czero_20, chA_size czero _ _ czero_20]) (chA_one _ _ _ rfl rfl) ?_
      | refine wpList_eql (by rfl) .add 9 _ _ _ rfl (.string C.d) (.string (txt L1)) rfl rfl (.string D.d) (guard_add _ _ _ _) (fun W => HADD.out W) ?_)
    obtain ⟨w6, hw6⟩ : ∃ X, (w5.alloc (.cells (chA czero (.slice none 0 0) (.slice none 0 0)) 31)).setRow w5.heap.size (chV czero none 0 none 0) = X := ⟨_, rfl⟩
    rw [hw6] at HR15 HR35 HAT15 HATD5 HB6 ⊢
    clear hw6 hcd hfd htm HADD HZ5 HS5 HR5 HS45
    obtain ⟨w7, hw7⟩ : ∃ X, w6.setCell ⟨b5, 25, none⟩ (.string D.d) = X := ⟨_, rfl⟩
    have HR5D : Hid (w7.heap[b5]? = some (.cells (chA D (.slice ca C.xs.length cc) (.slice da C.fs.length dc)) 31 (0, 0))) := by
      show _ = _
      rw [← hw7]
      have s1 := heap_setCell_same w6 b5 25 _ _ (.string D.d) HR15.out
      unfold chV at s1
      rw [chA_set C _ _ HC20.out 5 _ _ rfl] at s1
      rw [s1, ← hD]
      rfl
    have HR7D : Hid (w7.heap[b7]? = some (.cells (chV D ea ec ga gc) 31 (0, 0))) := by
      show _ = _
      rw [← hw7]
      exact (heap_setCell_ne w6 ⟨b5, 25, none⟩ _ b7 HNE.out.symm).trans HR35.out
    have HB7 : Hid (Below w.heap.size w w7) := by rw [← hw7]; exact HB6.out.setCell (p := ⟨b5, 25, none⟩) HB5LO.out _
    have HXS : D.xs = C.xs := by rw [← hD]
    have HFS : D.fs = C.fs := by rw [← hD]
    have HNX : D.n = C.n := by rw [← hD]
    have HATX0 : Hid (ChAt w7 D ca cc da dc) := by
      rw [← hw7]
      refine ⟨HD20.out, by rw [HNX]; exact HAT15.out.byt, ?_, ?_, by rw [HFS]; exact HAT15.out.fnil⟩
      · rw [HXS]; exact rowat_setCell HAT15.out.exts (fun b' off he h0 => Nat.ne_of_lt (HX0.out b' off he h0))
      · rw [HFS]; exact rowat_setCell HAT15.out.files (fun b' off he h0 => Nat.ne_of_lt (HF0.out b' off he h0))
    have HATY0 : Hid (ChAt w7 D ea ec ga gc) := by
      rw [← hw7]
      refine ⟨HD20.out, HATD5.out.byt, rowat_setCell HATD5.out.exts HEX0.out, rowat_setCell HATD5.out.files HGX0.out, HATD5.out.fnil⟩
    rw [hw7]
    clear hw7 HR15 HR35 HAT15 HATD5 HB6 hzc
    have HXN : Hid (D.xs.length ≤ 100000) := by rw [HXS]; exact HSZ.out.2.1
    have HFN : Hid (D.fs.length ≤ 100000) := by rw [HFS]; exact HSZ.out.2.2
    rw [← HXS, ← HFS] at HR5D
    have HCX : Hid ((chL D (.slice ca D.xs.length cc) (.slice da D.fs.length dc)).toArray = chV D ca cc da dc) := rfl
    have HCY : Hid ((chL D (.slice ea D.xs.length ec) (.slice ga D.fs.length gc)).toArray = chV D ea ec ga gc) := rfl
    have HLb5 : Hid (∀ W, Below w7.heap.size w7 W → W.rangeAt b5 0 (chL D (.slice ca D.xs.length cc) (.slice da D.fs.length dc))) := fun W hW => (ChRow.of ((hW.block b5 (Array.getElem?_eq_some_iff.1 HR5D.out).1).trans HR5D.out) HD20.out).cells
    have HLb7 : Hid (∀ W, Below w7.heap.size w7 W → W.rangeAt b7 0 (chL D (.slice ea D.xs.length ec) (.slice ga D.fs.length gc))) := fun W hW => (ChRow.of ((hW.block b7 (Array.getElem?_eq_some_iff.1 HR7D.out).1).trans HR7D.out) HD20.out).cells
    have HATX : Hid (∀ W, Below w7.heap.size w7 W → ChAt W D ca cc da dc) := fun W hW => HATX0.out.below hW
    have HATY : Hid (∀ W, Below w7.heap.size w7 W → ChAt W D ea ec ga gc) := fun W hW => HATY0.out.below hW
    clear HATX0 HATY0 HXS HFS HNX HR5D HR7D hD
    refine wp_region_noPanic ?_
    refine wp_region_held_drew (S := fun W => Below w7.heap.size w7 W) (by kernel_rfl) ?_ (fun hHeld => ?_)
    · exact (Below.refl _ _).drew
    refine wpAnyH_ready (rs := [0]) (by kernel_rfl) (by simp) ?_
    refine AllReadyH.cons (by simp only [List.getElem?_toArray, List.getElem?_cons_zero]; rfl) (fun K hK => ?_) AllReadyH.nil
    go_simp
    refine (chknown_any _ (HE.out.below (HB7.out.trans ((Below.refl w7.heap.size w7).drew.mono HB7.out.size)))).mono ?_
    rintro e v0 ⟨rfl, hb⟩
    have hv0 : Below w7.heap.size w7 v0 := (Below.refl _ _).drew.trans hb
    have HV0 := Lib.hid hv0
    clear hb hv0
    go_wp2_with fail
    refine hK.out _ _ (HV0.out) (fun hHeld2 => ?_)
    clear hK K hHeld
    have hHeld := hHeld2
    clear hHeld2
    try simp only [Act.put, List.setIfInBounds_toArray, List.set_cons_zero, List.set_cons_succ]
    refine wpAnyH_take (i := 1) (v := ?_) (by simp only [List.getElem?_toArray, List.getElem?_cons_succ, List.getElem?_cons_zero]; rfl) (by kernel_rfl) (by kernel_rfl) (by kernel_rfl) (fun _ _ _ h => h) (Or.inl ⟨by rfl, ?_⟩) (by assumption) ?_
    rotate_left
    · intro W hSW
      go_simp
      try with_reducible rfl
    try simp only [Act.put, List.setIfInBounds_toArray, List.set_cons_zero, List.set_cons_succ]
    refine wpAnyH_take (i := 2) (v := ?_) (by simp only [List.getElem?_toArray, List.getElem?_cons_succ, List.getElem?_cons_zero]; rfl) (by kernel_rfl) (by kernel_rfl) (by kernel_rfl) (fun _ _ _ h => h) (Or.inl ⟨by rfl, ?_⟩) (by assumption) ?_
    rotate_left
    · intro W hSW
      go_simp
      try with_reducible rfl
    try simp only [Act.put, List.setIfInBounds_toArray, List.set_cons_zero, List.set_cons_succ]
    refine wpAnyH_take (i := 3) (v := ?_) (by simp only [List.getElem?_toArray, List.getElem?_cons_succ, List.getElem?_cons_zero]; rfl) (by kernel_rfl) (by kernel_rfl) (by kernel_rfl) (fun _ _ _ h => h) (Or.inl ⟨by rfl, ?_⟩) (by assumption) ?_
    rotate_left
    · intro W hSW
      go_simp
      try with_reducible rfl
    try simp only [Act.put, List.setIfInBounds_toArray, List.set_cons_zero, List.set_cons_succ]
    refine wpAnyH_take (i := 4) (v := ?_) (by simp only [List.getElem?_toArray, List.getElem?_cons_succ, List.getElem?_cons_zero]; rfl) (by kernel_rfl) (by kernel_rfl) (by kernel_rfl) (fun _ _ _ h => h) (Or.inl ⟨by rfl, ?_⟩) (by assumption) ?_
    rotate_left
    · intro W hSW
      go_simp
      try with_reducible rfl
    try simp only [Act.put, List.setIfInBounds_toArray, List.set_cons_zero, List.set_cons_succ]
    refine wpAnyH_take (i := 5) (v := ?_) (by simp only [List.getElem?_toArray, List.getElem?_cons_succ, List.getElem?_cons_zero]; rfl) (by kernel_rfl) (by kernel_rfl) (by kernel_rfl) (fun _ _ _ h => h) (Or.inl ⟨by rfl, ?_⟩) (by assumption) ?_
    rotate_left
    · intro W hSW
      go_simp
      try with_reducible rfl
    try simp only [Act.put, List.setIfInBounds_toArray, List.set_cons_zero, List.set_cons_succ]
    refine wpAnyH_take (i := 6) (by simp only [List.getElem?_toArray, List.getElem?_cons_succ, List.getElem?_cons_zero]; rfl) (by kernel_rfl) (by kernel_rfl) (by kernel_rfl) (fun _ _ _ h => h) (yieldsIf_load_mid (by rfl) 31 _ rfl b5 0 rfl (chL D (.slice ca D.xs.length cc) (.slice da D.fs.length dc)) _ (fun W hSW => HLb5.out W hSW) Tryd.underlying31 rfl (info_ch D _ _ HD20.out)) (by assumption) ?_
    try simp only [Act.put, List.setIfInBounds_toArray, List.set_cons_zero, List.set_cons_succ]
    refine wpAnyH_take (i := 8) (by simp only [List.getElem?_toArray, List.getElem?_cons_succ, List.getElem?_cons_zero]; rfl) (by kernel_rfl) (by kernel_rfl) (by kernel_rfl) (fun _ _ _ h => h) (yieldsIf_load_mid (by rfl) 31 _ rfl b7 0 rfl (chL D (.slice ea D.xs.length ec) (.slice ga D.fs.length gc)) _ (fun W hSW => HLb7.out W hSW) Tryd.underlying31 rfl (info_ch D _ _ HD20.out)) (by assumption) ?_
    try simp only [Act.put, List.setIfInBounds_toArray, List.set_cons_zero, List.set_cons_succ]
    rw [HCX.out, HCY.out]
    refine wpAnyH_ready (rs := [7]) (by kernel_rfl) (by simp) ?_
    refine AllReadyH.cons (by simp only [List.getElem?_toArray, List.getElem?_cons_succ, List.getElem?_cons_zero]; rfl) (fun K hK => ?_) AllReadyH.nil
    go_simp
    refine (chof_any D ca cc da dc _ (HATX.out _ HV0.out) HXN.out HFN.out).mono ?_
    rintro e v1 ⟨⟨oa, oc, qa, qc, rfl, ho1, ho2⟩, hb⟩
    have hv1 : Below w7.heap.size w7 v1 := HV0.out.trans (hb.mono HV0.out.size)
    have HV1 := Lib.hid hv1
    have HO1 := Lib.hid ho1
    have HO2 := Lib.hid ho2
    clear hb hv1 ho1 ho2
    go_wp2_with fail
    refine hK.out _ _ (HV1.out) (fun hHeld2 => ?_)
    clear hK K hHeld
    have hHeld := hHeld2
    clear hHeld2
    try simp only [Act.put, List.setIfInBounds_toArray, List.set_cons_zero, List.set_cons_succ]
    refine wpAnyH_ready (rs := [9]) (by kernel_rfl) (by simp) ?_
    refine AllReadyH.cons (by simp only [List.getElem?_toArray, List.getElem?_cons_succ, List.getElem?_cons_zero]; rfl) (fun K hK => ?_) AllReadyH.nil
    go_simp
    refine (chof_any D ea ec ga gc _ (HATY.out _ HV1.out) HXN.out HFN.out).mono ?_
    rintro e v2 ⟨⟨ra, rc, sa, sc, rfl, ho1, ho2⟩, hb⟩
    have hv2 : Below w7.heap.size w7 v2 := HV1.out.trans (hb.mono HV1.out.size)
    have HV2 := Lib.hid hv2
    have HO3 := Lib.hid ho1
    have HO4 := Lib.hid ho2
    have HO5 := Lib.hid (HO1.out.below hb)
    have HO6 := Lib.hid (HO2.out.below hb)
    clear hb hv2 ho1 ho2
    go_wp2_with fail
    refine hK.out _ _ (HV2.out) (fun hHeld2 => ?_)
    clear hK K hHeld
    have hHeld := hHeld2
    clear hHeld2
    try simp only [Act.put, List.setIfInBounds_toArray, List.set_cons_zero, List.set_cons_succ]
    refine wpAnyH_ready (rs := [10]) (by kernel_rfl) (by simp) ?_
    refine AllReadyH.cons (by simp only [List.getElem?_toArray, List.getElem?_cons_succ, List.getElem?_cons_zero]; rfl) (fun K hK => ?_) AllReadyH.nil
    go_simp
    refine (chsame_any D oa oc qa qc ra rc sa sc _ HD20.out HO5.out HO6.out HO3.out HO4.out HXN.out HFN.out).mono ?_
    rintro e v3 ⟨rfl, hb⟩
    have hv3 : Below w7.heap.size w7 v3 := HV2.out.trans (hb.mono HV2.out.size)
    have HV3 := Lib.hid hv3
    clear hb hv3
    go_wp2_with fail
    refine hK.out _ _ (HV3.out) (fun hHeld2 => ?_)
    clear hK K hHeld
    have hHeld := hHeld2
    clear hHeld2
    try simp only [Act.put, List.setIfInBounds_toArray, List.set_cons_zero, List.set_cons_succ]
    refine wpAnyH_take (i := 11) (v := ?_) (by simp only [List.getElem?_toArray, List.getElem?_cons_succ, List.getElem?_cons_zero]; rfl) (by kernel_rfl) (by kernel_rfl) (by kernel_rfl) (fun _ _ _ h => h) (Or.inl ⟨by rfl, ?_⟩) (by assumption) ?_
    rotate_left
    · intro W hSW
      go_simp
      try with_reducible rfl
    try simp only [Act.put, List.setIfInBounds_toArray, List.set_cons_zero, List.set_cons_succ]
    refine wpAnyH_take (i := 12) (v := ?_) (by simp only [List.getElem?_toArray, List.getElem?_cons_succ, List.getElem?_cons_zero]; rfl) (by kernel_rfl) (by kernel_rfl) (by kernel_rfl) (fun _ _ _ h => h) (Or.inl ⟨by rfl, ?_⟩) (by assumption) ?_
    rotate_left
    · intro W hSW
      go_simp
      try with_reducible rfl
    try simp only [Act.put, List.setIfInBounds_toArray, List.set_cons_zero, List.set_cons_succ]
    refine wpAnyH_take (i := 13) (v := ?_) (by simp only [List.getElem?_toArray, List.getElem?_cons_succ, List.getElem?_cons_zero]; rfl) (by kernel_rfl) (by kernel_rfl) (by kernel_rfl) (fun _ _ _ h => h) (Or.inl ⟨by rfl, ?_⟩) (by assumption) ?_
    rotate_left
    · intro W hSW
      go_simp
      try with_reducible rfl
    try simp only [Act.put, List.setIfInBounds_toArray, List.set_cons_zero, List.set_cons_succ]
    refine wpAnyH_take (i := 14) (v := ?_) (by simp only [List.getElem?_toArray, List.getElem?_cons_succ, List.getElem?_cons_zero]; rfl) (by kernel_rfl) (by kernel_rfl) (by kernel_rfl) (fun _ _ _ h => h) (Or.inl ⟨by rfl, ?_⟩) (by assumption) ?_
    rotate_left
    · intro W hSW
      go_simp
      try with_reducible rfl
    try simp only [Act.put, List.setIfInBounds_toArray, List.set_cons_zero, List.set_cons_succ]
    refine wpAnyH_take (i := 15) (v := ?_) (by simp only [List.getElem?_toArray, List.getElem?_cons_succ, List.getElem?_cons_zero]; rfl) (by kernel_rfl) (by kernel_rfl) (by kernel_rfl) (fun _ _ _ h => h) (Or.inl ⟨by rfl, ?_⟩) (by assumption) ?_
    rotate_left
    · intro W hSW
      go_simp
      try with_reducible rfl
    try simp only [Act.put, List.setIfInBounds_toArray, List.set_cons_zero, List.set_cons_succ]
    refine wpAnyH_take (i := 16) (v := ?_) (by simp only [List.getElem?_toArray, List.getElem?_cons_succ, List.getElem?_cons_zero]; rfl) (by kernel_rfl) (by kernel_rfl) (by kernel_rfl) (fun _ _ _ h => h) (Or.inl ⟨by rfl, ?_⟩) (by assumption) ?_
    rotate_left
    · intro W hSW
      go_simp
      try with_reducible rfl
    try simp only [Act.put, List.setIfInBounds_toArray, List.set_cons_zero, List.set_cons_succ]
    refine wpAnyH_done (by kernel_rfl) ?_ _
    refine NoPanic.normal ?_
    clear hHeld
    go_wp2_with fail
    go_ret
    exact ⟨rfl, HB7.out.trans (HV3.out.mono HB7.out.size)⟩
end Go.Proofs.YthokcdjmhhlcdaaDoor
