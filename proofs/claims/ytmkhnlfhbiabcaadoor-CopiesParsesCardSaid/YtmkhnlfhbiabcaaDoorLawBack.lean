/- CopiesBack: the walk. -/
import Derived.Test.YtmkhnlfhbiabcaaDoorLawPlain
import Derived.Test.YtmkhnlfhbiabcaaDoorBackMath
namespace Go.Proofs.YtmkhnlfhbiabcaaDoor
open Go.RowKit Plain Go.ChangeShapes Go.WideShapes Go.ChangeAt
set_option linter.unusedVariables false
set_option linter.unusedSimpArgs false
theorem guard_fromn (x y : Operand) (A B : Array Value) (W : World) : (eqGuard .neq 28 x y (.agg A) (.agg B)).run Tryd.prog W = .ok () W := by
  have h : Tryd.prog.eqGuardType Tryd.prog.depth 28 = false := by kernel_rfl
  simp [eqGuard, h]
theorem neq_from (w : World) (p q : ByteArray) (id jd : List Int) (hp : id.length = 20) (hq : jd.length = 20) : (binOp .neq 28 (.agg (fromA p id)) (.agg (fromA q jd))).run Tryd.prog w = .ok (.bool (!(p.toList == q.toList && id == jd))) w := by
  rw [run_neq_struct]
  have e := equal_from w 9996 _ _ p q id jd hp hq (part_str w p id) (part_str w q jd) (part_node w p id hp) (part_node w q jd hq)
  rw [show (9996 + 4 : Nat) = 10000 from rfl] at e
  rw [e]
  rfl
theorem neq_from_self (p : ByteArray) (id : List Int) (hp : id.length = 20) (w : World) : (binOp .neq 28 (.agg (fromA p id)) (.agg (fromA p id))).run Tryd.prog w = .ok (.bool false) w := by
  rw [neq_from w p p id id hp hp]
  simp
theorem printL_len {T ys : List Int} {q : ByteArray} {N : List Int} (h : printL T q N = some ys) : T.length ≤ ys.length := by
  unfold printL at h
  split at h
  · split at h
    · injection h with h
      rw [← h, List.length_append]; omega
    · injection h with h
      rw [← h]; omega
  · split at h
    · injection h with h
      rw [← h, List.length_append]; omega
    · cases h
theorem printL_most {T ys : List Int} {q : ByteArray} {N : List Int} (h : printL T q N = some ys) (hN : N.length = 20) : ys.length ≤ T.length + 400 := by
  have h0 := h
  unfold printL at h
  split at h
  · split at h
    · injection h with h
      rw [← h, List.length_append]; show 4 + T.length ≤ _; omega
    · injection h with h
      rw [← h]; omega
  · split at h
    · rename_i hr
      injection h with h
      have := right_len hr
      rw [← h, List.length_append, numsOf_length, toldB_size q N hN]; omega
    · cases h
set_option maxRecDepth 100000 in
set_option maxHeartbeats 32000000 in
theorem lawback_any (a a2 : Option Addr) (len cap len2 cap2 : Nat) (Z Z2 : List Int) (P : ByteArray) (N : List Int) (w : World) (hE : Env w) (R0 : RowB w a len cap Z) (R20 : RowB w a2 len2 cap2 Z2) (h20 : N.length = 20) (hb : ∀ x ∈ N, 0 ≤ x ∧ x ≤ 255) (hps : P.size ≤ 9223372036854775807) :
    Calls Tryd.prog 5 #[.slice a len cap, .agg (fromA P N), .slice a2 len2 cap2] w fun e w' => e = .returned (.bool true) ∧ Below w.heap.size w w' := by
  have hle := R0.le
  have hle2 := R20.le
  have hmin : min (len : Int) 500 = ((min len 500 : Nat) : Int) := by omega
  have hmin2 : min (len2 : Int) 600 = ((min len2 600 : Nat) : Int) := by omega
  have R1 := R0.front (min len 500) (by omega)
  have R2 := R20.front (min len2 600) (by omega)
  obtain ⟨m, hm⟩ : ∃ m, min len 500 = m := ⟨_, rfl⟩
  obtain ⟨m2, hm2⟩ : ∃ m, min len2 600 = m := ⟨_, rfl⟩
  rw [hm] at hmin R1
  rw [hm2] at hmin2 R2
  have hm5 : m ≤ 500 := by omega
  have hmc : m ≤ cap := by omega
  have hm6 : m2 ≤ 600 := by omega
  have hmc2 : m2 ≤ cap2 := by omega
  have hsl := fun W => slice_to a len cap m hmc W
  have hsl2 := fun W => slice_to a2 len2 cap2 m2 hmc2 W
  generalize Z.take m = T at *
  generalize Z2.take m2 = C at *
  have HR := Lib.hid R1
  have HR2 := Lib.hid R2
  have HTB : Hid (∀ x ∈ T, 0 ≤ x ∧ x ≤ 255) := fun x hx => by have := R1.mem x hx; omega
  have HCB : Hid (∀ x ∈ C, 0 ≤ x ∧ x ≤ 255) := fun x hx => by have := R2.mem x hx; omega
  have HM5 := Lib.hid hm5
  have HM6 := Lib.hid hm6
  have HE := Lib.hid hE
  have H20 := Lib.hid h20
  have HNB := Lib.hid hb
  have HFI := Lib.hid (rfrom_info P N h20)
  have HB1 : Hid (Below w.heap.size w (w.alloc (.cells (fromA P N) 25))) := (Below.refl _ _).alloc (Nat.le_refl _) _
  have HRW := Lib.hid (rfrom_row w P N)
  have HFA := Lib.hid (fun W => from_any P N W h20 hps)
  clear R0 R1 R20 R2 hle hle2 hm hm2 hm5 hm6 hE h20 hb hps hmc hmc2
  go_enter Tryd.func5, Tryd.ntmps5
  go_wp2_with fail
  have HB1d : Hid (Below w.heap.size w (w.alloc (.cells (fromA P N) 25)).drew) := HB1.out.drew
  have HRWd : Hid ((w.alloc (.cells (fromA P N) 25)).drew.heap[w.heap.size]? = some (.cells (fromA P N) 25 (0, 0))) := HRW.out
  refine wp_region_noPanic ?_
  refine wp_region_held_drew (S := fun _ => True) (by kernel_rfl) ?_ (fun hHeld => ?_)
  · exact trivial
  refine wpAnyH_take (i := 0) (v := ?_) (by simp only [List.getElem?_toArray, List.getElem?_cons_zero]; rfl) (by kernel_rfl) (by kernel_rfl) (by kernel_rfl) (fun _ _ _ h => h) (Or.inl ⟨by rfl, ?_⟩) (by assumption) ?_
  rotate_left
  · intro W hSW
    go_simp
    try with_reducible rfl
  try simp only [Act.put, List.setIfInBounds_toArray, List.set_cons_zero, List.set_cons_succ]
  refine wpAnyH_take (i := 1) (v := ?_) (by simp only [List.getElem?_toArray, List.getElem?_cons_succ, List.getElem?_cons_zero]; rfl) (by kernel_rfl) (by kernel_rfl) (by kernel_rfl) (fun _ _ _ h => h) (Or.inl ⟨by rfl, ?_⟩) (by assumption) ?_
  rotate_left
  · intro W hSW
    go_simp
    try with_reducible rfl
  try simp only [Act.put, List.setIfInBounds_toArray, List.set_cons_zero, List.set_cons_succ]
  refine wpAnyH_take (i := 2) (v := ?_) (by simp only [List.getElem?_toArray, List.getElem?_cons_succ, List.getElem?_cons_zero]; rfl) (by kernel_rfl) (by kernel_rfl) (by kernel_rfl) (fun _ _ _ h => h) (Or.inl ⟨by rfl, ?_⟩) (by assumption) ?_
  rotate_left
  · intro W hSW
    go_simp
    try with_reducible rfl
  try simp only [Act.put, List.setIfInBounds_toArray, List.set_cons_zero, List.set_cons_succ]
  refine wpAnyH_take (i := 3) (v := ?_) (by simp only [List.getElem?_toArray, List.getElem?_cons_succ, List.getElem?_cons_zero]; rfl) (by kernel_rfl) (by kernel_rfl) (by kernel_rfl) (fun _ _ _ h => h) (Or.inl ⟨by rfl, ?_⟩) (by assumption) ?_
  rotate_left
  · intro W hSW
    go_simp
    try with_reducible rfl
  try simp only [Act.put, List.setIfInBounds_toArray, List.set_cons_zero, List.set_cons_succ]
  refine wpAnyH_take (i := 4) (v := ?_) (by simp only [List.getElem?_toArray, List.getElem?_cons_succ, List.getElem?_cons_zero]; rfl) (by kernel_rfl) (by kernel_rfl) (by kernel_rfl) (fun _ _ _ h => h) (Or.inl ⟨by rfl, ?_⟩) (by assumption) ?_
  rotate_left
  · intro W hSW
    go_simp
    try with_reducible rfl
  try simp only [Act.put, List.setIfInBounds_toArray, List.set_cons_zero, List.set_cons_succ]
  refine wpAnyH_take (i := 5) (v := ?_) (by simp only [List.getElem?_toArray, List.getElem?_cons_succ, List.getElem?_cons_zero]; rfl) (by kernel_rfl) (by kernel_rfl) (by kernel_rfl) (fun _ _ _ h => h) (Or.inl ⟨by rfl, ?_⟩) (by assumption) ?_
  rotate_left
  · intro W hSW
    go_simp
    try with_reducible rfl
  try simp only [Act.put, List.setIfInBounds_toArray, List.set_cons_zero, List.set_cons_succ]
  refine wpAnyH_take (i := 6) (v := ?_) (by simp only [List.getElem?_toArray, List.getElem?_cons_succ, List.getElem?_cons_zero]; rfl) (by kernel_rfl) (by kernel_rfl) (by kernel_rfl) (fun _ _ _ h => h) (Or.inl ⟨by rfl, ?_⟩) (by assumption) ?_
  rotate_left
  · intro W hSW
    go_simp
    try with_reducible rfl
  try simp only [Act.put, List.setIfInBounds_toArray, List.set_cons_zero, List.set_cons_succ]
  refine wpAnyH_take (i := 7) (v := ?_) (by simp only [List.getElem?_toArray, List.getElem?_cons_succ, List.getElem?_cons_zero]; rfl) (by kernel_rfl) (by kernel_rfl) (by kernel_rfl) (fun _ _ _ h => h) (Or.inl ⟨by rfl, ?_⟩) (by assumption) ?_
  rotate_left
  · intro W hSW
    go_simp
    try with_reducible rfl
  try simp only [Act.put, List.setIfInBounds_toArray, List.set_cons_zero, List.set_cons_succ]
  refine wpAnyH_take (i := 8) (v := ?_) (by simp only [List.getElem?_toArray, List.getElem?_cons_succ, List.getElem?_cons_zero]; rfl) (by kernel_rfl) (by kernel_rfl) (by kernel_rfl) (fun _ _ _ h => h) (Or.inl ⟨by rfl, ?_⟩) (by assumption) ?_
  rotate_left
  · intro W hSW
    go_simp
    try with_reducible rfl
  try simp only [Act.put, List.setIfInBounds_toArray, List.set_cons_zero, List.set_cons_succ]
  refine wpAnyH_take (i := 9) (v := ?_) (by simp only [List.getElem?_toArray, List.getElem?_cons_succ, List.getElem?_cons_zero]; rfl) (by kernel_rfl) (by kernel_rfl) (by kernel_rfl) (fun _ _ _ h => h) (Or.inl ⟨by rfl, ?_⟩) (by assumption) ?_
  rotate_left
  · intro W hSW
    go_simp
    try with_reducible rfl
  try simp only [Act.put, List.setIfInBounds_toArray, List.set_cons_zero, List.set_cons_succ]
  refine wpAnyH_take (i := 10) (v := ?_) (by simp only [List.getElem?_toArray, List.getElem?_cons_succ, List.getElem?_cons_zero]; rfl) (by kernel_rfl) (by kernel_rfl) (by kernel_rfl) (fun _ _ _ h => h) (Or.inl ⟨by rfl, ?_⟩) (by assumption) ?_
  rotate_left
  · intro W hSW
    go_simp
    try with_reducible rfl
  try simp only [Act.put, List.setIfInBounds_toArray, List.set_cons_zero, List.set_cons_succ]
  refine wpAnyH_take (i := 11) (v := ?_) (by simp only [List.getElem?_toArray, List.getElem?_cons_succ, List.getElem?_cons_zero]; rfl) (by kernel_rfl) (by kernel_rfl) (by kernel_rfl) (fun _ _ _ h => h) (Or.inl ⟨by rfl, ?_⟩) (by assumption) ?_
  rotate_left
  · intro W hSW
    go_simp
    try with_reducible rfl
  try simp only [Act.put, List.setIfInBounds_toArray, List.set_cons_zero, List.set_cons_succ]
  refine wpAnyH_done (by kernel_rfl) ?_ _
  refine NoPanic.normal ?_
  clear hsl hsl2 hmin hmin2 hHeld HB1 HRW
  generalize (w.alloc (.cells (fromA P N) 25)).drew = w1 at *
  go_wp2_with (first
    | refine wpList_load_row rfl 25 _ rfl w.heap.size rfl 25 (fromA P N) (0, 0) _ HRWd.out Tryd.underlying25 rfl HFI.out ?_)
  refine (HFA.out w1).mono ?_
  rintro e w2 ⟨rfl, hb⟩
  have HB2 := Lib.hid (HB1d.out.trans (hb.mono HB1d.out.size))
  clear hb HB1d HRWd HFA HFI
  generalize cutS P = q at *
  have HFQ := Lib.hid (from_info q N H20.out)
  have HZS : Hid ((fromA ⟨#[]⟩ zeros20).size = (fromA q N).size) := by show _ = _; rw [fromA_size, fromA_size, H20.out]; rfl
  have HZN : Hid ((w2.alloc (.cells (fromA ⟨#[]⟩ zeros20) 28)).heap[w2.heap.size]? = some (.cells (fromA ⟨#[]⟩ zeros20) 28 (0, 0))) := heap_alloc_new _ _
  have hb3 : Below w2.heap.size w2 ((w2.alloc (.cells (fromA ⟨#[]⟩ zeros20) 28)).setRow w2.heap.size (fromA q N)) := below_setRow ((Below.refl _ _).alloc (Nat.le_refl _) _) (Nat.le_refl _) _
  have HB3 := Lib.hid (HB2.out.trans (hb3.mono HB2.out.size))
  have HG3 := Lib.hid (setRow_heap _ _ _ (fromA q N) _ _ HZN.out)
  have hzf := zero_from
  clear hb3
  go_wp2_with (first
    | refine wpList_store_row rfl 28 _ _ rfl w2.heap.size (fromA q N) rfl rfl 28 (fromA ⟨#[]⟩ zeros20) HZN.out HFQ.out HZS.out (fromA_one _ _) ?_
    | refine wpList_load_row rfl 28 _ rfl w2.heap.size rfl 28 (fromA q N) (0, 0) _ HG3.out Tryd.underlying28 rfl HFQ.out ?_)
  clear HZN
  generalize (w2.alloc (.cells (fromA ⟨#[]⟩ zeros20) 28)).setRow w2.heap.size (fromA q N) = w3 at *
  refine (print_any a m cap T q N w3 (HE.out.below HB3.out) (HR.out.below HB3.out) (by have := HM5.out; omega) H20.out HNB.out).mono ?_
  rintro e w4 ⟨hpo, hb⟩
  have HB4 := Lib.hid (HB3.out.trans (hb.mono HB3.out.size))
  have HG4 := Lib.hid (row_stay HG3.out hb)
  clear hb HG3 HB3
  cases hpr : printL T q N with
  | none =>
    rw [hpr] at hpo
    obtain rfl : e = _ := hpo
    clear hpr
    have HBW := Lib.hid HB4.out
    go_wp2_with fail
    refine (cParse_any a2 m2 cap2 C w4 (HR2.out.below HBW.out) (HE.out.below HBW.out) (by have := HM6.out; omega)).mono ?_
    rintro e x1 ⟨hpo, hb⟩
    have HX1 := Lib.hid (HBW.out.trans (hb.mono HBW.out.size))
    clear hb
    cases hpc : parseL C with
    | none =>
      rw [hpc] at hpo
      obtain rfl : e = _ := hpo
      clear hpc
      have HI0 : Hid ((Tryd.prog.info? 28).map (·.size) = some (fromA ⟨#[]⟩ zeros20).size) := from_info _ _ rfl
      have HZX : Hid ((x1.alloc (.cells (fromA ⟨#[]⟩ zeros20) 28)).heap[x1.heap.size]? = some (.cells (fromA ⟨#[]⟩ zeros20) 28 (0, 0))) := heap_alloc_new _ _
      have hb2 : Below x1.heap.size x1 ((x1.alloc (.cells (fromA ⟨#[]⟩ zeros20) 28)).setRow x1.heap.size (fromA ⟨#[]⟩ zeros20)) := below_setRow ((Below.refl _ _).alloc (Nat.le_refl _) _) (Nat.le_refl _) _
      have HX2 := Lib.hid (HX1.out.trans (hb2.mono HX1.out.size))
      clear hb2
      go_wp2_with (first
        | refine wpList_store_row rfl 28 _ _ rfl x1.heap.size (fromA ⟨#[]⟩ zeros20) rfl rfl 28 (fromA ⟨#[]⟩ zeros20) HZX.out HI0.out rfl (fromA_one _ _) ?_)
      refine (known_any _ (HE.out.below HX2.out)).mono ?_
      rintro e x3 ⟨rfl, hb⟩
      have HX3 := Lib.hid (HX2.out.trans (hb.mono HX2.out.size))
      clear hb
      go_wp2_with fail
      go_ret
      exact ⟨rfl, HX3.out⟩
    | some vpi =>
      obtain ⟨v, p2, id2⟩ := vpi
      rw [hpc] at hpo
      obtain ⟨pb1, pb2, pb3, pb4⟩ := parse_back HCB.out hpc
      obtain ⟨ya, yc, rfl, hmd⟩ := hpo
      have HY := Lib.hid (hmd.row (range_of_mem pb4))
      have HPB1 := Lib.hid pb1
      have HPB2 := Lib.hid pb2
      have HPB3 := Lib.hid pb3
      have HVL : Hid (v.length ≤ 10000000) := by
        show _ ≤ _
        have h1 := HR2.out.len
        have h2 := HM6.out
        have h3 := printL_len pb1
        omega
      clear hpc hmd pb1 pb2 pb3 pb4
      have HI2 : Hid ((Tryd.prog.info? 28).map (·.size) = some (fromA p2 id2).size) := from_info _ _ HPB2.out
      have HS2 : Hid ((fromA ⟨#[]⟩ zeros20).size = (fromA p2 id2).size) := by show _ = _; rw [fromA_size, fromA_size, HPB2.out]; rfl
      have HZX : Hid ((x1.alloc (.cells (fromA ⟨#[]⟩ zeros20) 28)).heap[x1.heap.size]? = some (.cells (fromA ⟨#[]⟩ zeros20) 28 (0, 0))) := heap_alloc_new _ _
      have hb2 : Below x1.heap.size x1 ((x1.alloc (.cells (fromA ⟨#[]⟩ zeros20) 28)).setRow x1.heap.size (fromA p2 id2)) := below_setRow ((Below.refl _ _).alloc (Nat.le_refl _) _) (Nat.le_refl _) _
      have HX2 := Lib.hid (HX1.out.trans (hb2.mono HX1.out.size))
      have HGX := Lib.hid (setRow_heap _ _ _ (fromA p2 id2) _ _ HZX.out)
      have HY2 := Lib.hid (HY.out.below hb2)
      clear hb2 HY
      go_wp2_with (first
        | refine wpList_store_row rfl 28 _ _ rfl x1.heap.size (fromA p2 id2) rfl rfl 28 (fromA ⟨#[]⟩ zeros20) HZX.out HI2.out HS2.out (fromA_one _ _) ?_
        | refine wpList_load_row rfl 28 _ rfl x1.heap.size rfl 28 (fromA p2 id2) (0, 0) _ HGX.out Tryd.underlying28 rfl HI2.out ?_)
      clear HZX
      generalize (x1.alloc (.cells (fromA ⟨#[]⟩ zeros20) 28)).setRow x1.heap.size (fromA p2 id2) = x2 at *
      refine (print_any ya v.length yc v p2 id2 x2 (HE.out.below HX2.out) HY2.out HVL.out HPB2.out HPB3.out).mono ?_
      rintro e x3 ⟨hpo, hb⟩
      rw [HPB1.out] at hpo
      have HX3 := Lib.hid (HX2.out.trans (hb.mono HX2.out.size))
      clear hb
      obtain ⟨za, zc, rfl, hmd⟩ := hpo
      have HZ := Lib.hid (hmd.row (range_of_mem HCB.out))
      have htn := text_run x3 za C.length zc C HZ.out.bytes
      have htx := text_run x3 a2 m2 cap2 C (HR2.out.below HX3.out).bytes
      clear hmd HZ
      generalize strOfNums C = sc at *
      generalize C.length = cl at *
      go_wp2_with (first
        | refine wpList_eql rfl .neq 9 _ _ _ rfl (.string sc) (.string sc) rfl rfl (.bool false) (guard_strn _ _ _ _) (neq_self sc) ?_)
      refine (known_any _ (HE.out.below HX3.out)).mono ?_
      rintro e x4 ⟨rfl, hb⟩
      have HX4 := Lib.hid (HX3.out.trans (hb.mono HX3.out.size))
      clear hb
      go_wp2_with fail
      go_ret
      exact ⟨rfl, HX4.out⟩
  | some ys =>
    rw [hpr] at hpo
    obtain ⟨va, vc, rfl, hmd⟩ := hpo
    have HBK := Lib.hid (back_same H20.out HNB.out hpr)
    have HV := Lib.hid (hmd.row (range_of_mem (printL_bytes hpr HTB.out)))
    have HYL : Hid (ys.length ≤ 10000000) := by
      show _ ≤ _
      have h1 := HR.out.len
      have h2 := HM5.out
      have h3 := printL_most hpr H20.out
      omega
    clear hpr hmd
    go_wp2_with fail
    refine (cParse_any va ys.length vc ys w4 HV.out (HE.out.below HB4.out) HYL.out).mono ?_
    rintro e w5 ⟨hpo, hb⟩
    rw [HBK.out] at hpo
    have HB5 := Lib.hid (HB4.out.trans (hb.mono HB4.out.size))
    have HG5 := Lib.hid (row_stay HG4.out hb)
    clear hb
    obtain ⟨ua, uc, rfl, hmd⟩ := hpo
    have HU := Lib.hid (hmd.row (range_of_mem HTB.out))
    have HZ5 : Hid ((w5.alloc (.cells (fromA ⟨#[]⟩ zeros20) 28)).heap[w5.heap.size]? = some (.cells (fromA ⟨#[]⟩ zeros20) 28 (0, 0))) := heap_alloc_new _ _
    have hb6 : Below w5.heap.size w5 ((w5.alloc (.cells (fromA ⟨#[]⟩ zeros20) 28)).setRow w5.heap.size (fromA q N)) := below_setRow ((Below.refl _ _).alloc (Nat.le_refl _) _) (Nat.le_refl _) _
    have HB6 := Lib.hid (HB5.out.trans (hb6.mono HB5.out.size))
    have HG6 := Lib.hid (row_stay HG5.out hb6)
    have HH6 := Lib.hid (setRow_heap _ _ _ (fromA q N) _ _ HZ5.out)
    have htn := text_run _ ua T.length uc T (HU.out.below hb6).bytes
    have htx := text_run _ a m cap T (HR.out.below HB6.out).bytes
    have HNF := Lib.hid (fun W => neq_from_self q N H20.out W)
    clear hb6 hmd HU HG4 HG5
    generalize strOfNums T = st at *
    generalize T.length = tl at *
    go_wp2_with (first
      | refine wpList_store_row rfl 28 _ _ rfl w5.heap.size (fromA q N) rfl rfl 28 (fromA ⟨#[]⟩ zeros20) HZ5.out HFQ.out HZS.out (fromA_one _ _) ?_
      | refine wpList_eql rfl .neq 9 _ _ _ rfl (.string st) (.string st) rfl rfl (.bool false) (guard_strn _ _ _ _) (neq_self st) ?_
      | refine wpList_load_row_g rfl 28 _ rfl w2.heap.size rfl 28 (fromA q N) (0, 0) _ HG6.out Tryd.underlying28 rfl HFQ.out ?_
      | refine wpList_load_row_g rfl 28 _ rfl w5.heap.size rfl 28 (fromA q N) (0, 0) _ HH6.out Tryd.underlying28 rfl HFQ.out ?_
      | refine wpList_eql rfl .neq 28 _ _ _ rfl (.agg (fromA q N)) (.agg (fromA q N)) rfl rfl (.bool false) (guard_fromn _ _ _ _) HNF.out ?_)
    clear htn htx HZ5 HH6 HG6 HNF
    generalize (w5.alloc (.cells (fromA ⟨#[]⟩ zeros20) 28)).setRow w5.heap.size (fromA q N) = w6 at *
    have HBW := Lib.hid HB6.out
    refine (cParse_any a2 m2 cap2 C w6 (HR2.out.below HBW.out) (HE.out.below HBW.out) (by have := HM6.out; omega)).mono ?_
    rintro e x1 ⟨hpo, hb⟩
    have HX1 := Lib.hid (HBW.out.trans (hb.mono HBW.out.size))
    clear hb
    cases hpc : parseL C with
    | none =>
      rw [hpc] at hpo
      obtain rfl : e = _ := hpo
      clear hpc
      have HI0 : Hid ((Tryd.prog.info? 28).map (·.size) = some (fromA ⟨#[]⟩ zeros20).size) := from_info _ _ rfl
      have HZX : Hid ((x1.alloc (.cells (fromA ⟨#[]⟩ zeros20) 28)).heap[x1.heap.size]? = some (.cells (fromA ⟨#[]⟩ zeros20) 28 (0, 0))) := heap_alloc_new _ _
      have hb2 : Below x1.heap.size x1 ((x1.alloc (.cells (fromA ⟨#[]⟩ zeros20) 28)).setRow x1.heap.size (fromA ⟨#[]⟩ zeros20)) := below_setRow ((Below.refl _ _).alloc (Nat.le_refl _) _) (Nat.le_refl _) _
      have HX2 := Lib.hid (HX1.out.trans (hb2.mono HX1.out.size))
      clear hb2
      go_wp2_with (first
        | refine wpList_store_row rfl 28 _ _ rfl x1.heap.size (fromA ⟨#[]⟩ zeros20) rfl rfl 28 (fromA ⟨#[]⟩ zeros20) HZX.out HI0.out rfl (fromA_one _ _) ?_)
      refine (known_any _ (HE.out.below HX2.out)).mono ?_
      rintro e x3 ⟨rfl, hb⟩
      have HX3 := Lib.hid (HX2.out.trans (hb.mono HX2.out.size))
      clear hb
      go_wp2_with fail
      go_ret
      exact ⟨rfl, HX3.out⟩
    | some vpi =>
      obtain ⟨v, p2, id2⟩ := vpi
      rw [hpc] at hpo
      obtain ⟨pb1, pb2, pb3, pb4⟩ := parse_back HCB.out hpc
      obtain ⟨ya, yc, rfl, hmd⟩ := hpo
      have HY := Lib.hid (hmd.row (range_of_mem pb4))
      have HPB1 := Lib.hid pb1
      have HPB2 := Lib.hid pb2
      have HPB3 := Lib.hid pb3
      have HVL : Hid (v.length ≤ 10000000) := by
        show _ ≤ _
        have h1 := HR2.out.len
        have h2 := HM6.out
        have h3 := printL_len pb1
        omega
      clear hpc hmd pb1 pb2 pb3 pb4
      have HI2 : Hid ((Tryd.prog.info? 28).map (·.size) = some (fromA p2 id2).size) := from_info _ _ HPB2.out
      have HS2 : Hid ((fromA ⟨#[]⟩ zeros20).size = (fromA p2 id2).size) := by show _ = _; rw [fromA_size, fromA_size, HPB2.out]; rfl
      have HZX : Hid ((x1.alloc (.cells (fromA ⟨#[]⟩ zeros20) 28)).heap[x1.heap.size]? = some (.cells (fromA ⟨#[]⟩ zeros20) 28 (0, 0))) := heap_alloc_new _ _
      have hb2 : Below x1.heap.size x1 ((x1.alloc (.cells (fromA ⟨#[]⟩ zeros20) 28)).setRow x1.heap.size (fromA p2 id2)) := below_setRow ((Below.refl _ _).alloc (Nat.le_refl _) _) (Nat.le_refl _) _
      have HX2 := Lib.hid (HX1.out.trans (hb2.mono HX1.out.size))
      have HGX := Lib.hid (setRow_heap _ _ _ (fromA p2 id2) _ _ HZX.out)
      have HY2 := Lib.hid (HY.out.below hb2)
      clear hb2 HY
      go_wp2_with (first
        | refine wpList_store_row rfl 28 _ _ rfl x1.heap.size (fromA p2 id2) rfl rfl 28 (fromA ⟨#[]⟩ zeros20) HZX.out HI2.out HS2.out (fromA_one _ _) ?_
        | refine wpList_load_row rfl 28 _ rfl x1.heap.size rfl 28 (fromA p2 id2) (0, 0) _ HGX.out Tryd.underlying28 rfl HI2.out ?_)
      clear HZX
      generalize (x1.alloc (.cells (fromA ⟨#[]⟩ zeros20) 28)).setRow x1.heap.size (fromA p2 id2) = x2 at *
      refine (print_any ya v.length yc v p2 id2 x2 (HE.out.below HX2.out) HY2.out HVL.out HPB2.out HPB3.out).mono ?_
      rintro e x3 ⟨hpo, hb⟩
      rw [HPB1.out] at hpo
      have HX3 := Lib.hid (HX2.out.trans (hb.mono HX2.out.size))
      clear hb
      obtain ⟨za, zc, rfl, hmd⟩ := hpo
      have HZ := Lib.hid (hmd.row (range_of_mem HCB.out))
      have htn := text_run x3 za C.length zc C HZ.out.bytes
      have htx := text_run x3 a2 m2 cap2 C (HR2.out.below HX3.out).bytes
      clear hmd HZ
      generalize strOfNums C = sc at *
      generalize C.length = cl at *
      go_wp2_with (first
        | refine wpList_eql rfl .neq 9 _ _ _ rfl (.string sc) (.string sc) rfl rfl (.bool false) (guard_strn _ _ _ _) (neq_self sc) ?_)
      refine (known_any _ (HE.out.below HX3.out)).mono ?_
      rintro e x4 ⟨rfl, hb⟩
      have HX4 := Lib.hid (HX3.out.trans (hb.mono HX3.out.size))
      clear hb
      go_wp2_with fail
      go_ret
      exact ⟨rfl, HX4.out⟩
end Go.Proofs.YtmkhnlfhbiabcaaDoor
