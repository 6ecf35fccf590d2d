/- CopiesPlain: the walk. -/
import Derived.Test.YtmkhnlfhbiabcaaDoorLawPrints
namespace Go.Proofs.YtmkhnlfhbiabcaaDoor
open Go.RowKit Plain Go.ChangeShapes Go.WideShapes Go.ChangeAt
set_option linter.unusedVariables false
set_option linter.unusedSimpArgs false
theorem pre_mark (x y : Int) (r : List Int) (hx : 0 ≤ x ∧ x ≤ 255) (hy : 0 ≤ y ∧ y ≤ 255) : pre (x :: y :: r) markB = (decide (x = 1) && decide (y = 10)) := by
  have hu : ∀ (z : Int) (k : Nat), 0 ≤ z ∧ z ≤ 255 → k < 256 → (UInt8.ofNat k == UInt8.ofNat z.toNat) = decide (z = (k : Int)) := fun z k hz hk => by
    rw [Bool.eq_iff_iff, beq_iff_eq, decide_eq_true_iff]
    constructor
    · intro h
      have := congrArg UInt8.toNat h
      simp at this
      omega
    · intro h
      rw [h]; simp
  have h1 := hu x 1 hx (by decide)
  have h2 := hu y 10 hy (by decide)
  show Lib.hasPrefix (UInt8.ofNat x.toNat :: UInt8.ofNat y.toNat :: Lib.bytesOf r) [UInt8.ofNat 1, UInt8.ofNat 10] = _
  unfold Lib.hasPrefix
  simp only [List.isPrefixOf, Bool.and_true]
  rw [h1, h2]
  rfl
theorem pre_short (xs : List Int) (h : xs.length ≤ 1) : pre xs markB = false := by
  rw [Bool.eq_false_iff]
  intro hp
  have := pre_le hp
  have e : markB.size = 2 := rfl
  omega
theorem neq_self (s : ByteArray) (W : World) : (binOp .neq 9 (.string s) (.string s)).run Tryd.prog W = .ok (.bool false) W := by
  rw [binOp_string_neq]
  simp
theorem guard_strn (x y : Operand) (s t : ByteArray) (W : World) : (eqGuard .neq 9 x y (.string s) (.string t)).run Tryd.prog W = .ok () W := by
  simp [eqGuard]
theorem print_plain (T : List Int) : printL T ⟨#[]⟩ zeros20 = if pre T markB then some ([1, 10, 1, 10] ++ T) else some T := by
  unfold printL
  rw [show noFrom ⟨#[]⟩ zeros20 = true from by decide +kernel]
  rfl
theorem print_told {T ys : List Int} {q : ByteArray} {N : List Int} (h : printL T q N = some ys) (hf : noFrom q N = false) (hN : N.length = 20) : ys.length = T.length + q.size + 61 := by
  unfold printL at h
  rw [hf, if_neg (by decide)] at h
  split at h
  · injection h with h
    rw [← h, List.length_append, numsOf_length, toldB_size q N hN]
    omega
  · cases h
set_option maxRecDepth 100000 in
set_option maxHeartbeats 32000000 in
theorem plain_any (a : Option Addr) (len cap : Nat) (Z : List Int) (P : ByteArray) (N : List Int) (w : World) (hE : Env w) (R0 : RowB w a len cap Z) (h20 : N.length = 20) (hb : ∀ x ∈ N, 0 ≤ x ∧ x ≤ 255) (hps : P.size ≤ 9223372036854775807) :
    Calls Tryd.prog 7 #[.slice a len cap, .agg (fromA P N)] w fun e w' => e = .returned (.bool true) ∧ Below w.heap.size w w' := by
  have hle := R0.le
  have hmin : min (len : Int) 500 = ((min len 500 : Nat) : Int) := by omega
  have R1 := R0.front (min len 500) (by omega)
  obtain ⟨m, hm⟩ : ∃ m, min len 500 = m := ⟨_, rfl⟩
  rw [hm] at hmin R1
  have hm5 : m ≤ 500 := by omega
  have hmc : m ≤ cap := by omega
  have hsl := fun W => slice_to a len cap m hmc W
  generalize Z.take m = T at *
  have HR := Lib.hid R1
  have HTB : Hid (∀ x ∈ T, 0 ≤ x ∧ x ≤ 255) := fun x hx => by have := R1.mem x hx; omega
  have HM5 := Lib.hid hm5
  obtain ⟨s, hs⟩ : ∃ s, strOfNums T = s := ⟨_, rfl⟩
  have HNS : Hid (numsOf s = T) := by show _ = _; rw [← hs]; exact nums_str T HTB.out
  have HSS : Hid (s.size = m) := by
    show _ = _
    rw [← numsOf_length, HNS.out, R1.len]
  have HE := Lib.hid hE
  have H20 := Lib.hid h20
  have HNB := Lib.hid hb
  have HTR : Hid (∀ W, Below w.heap.size w W → (convert 22 9 (.slice a m cap)).run Tryd.prog W = .ok (.string s) W) := fun W hW => by
    rw [← hs]; exact text_run W a m cap T (HR.out.below hW).bytes
  have HFI := Lib.hid (rfrom_info P N h20)
  have HB1 : Hid (Below w.heap.size w (w.alloc (.cells (fromA P N) 25))) := (Below.refl _ _).alloc (Nat.le_refl _) _
  have HRW := Lib.hid (rfrom_row w P N)
  have HFA := Lib.hid (fun W => from_any P N W h20 hps)
  have htx := HTR.out _ HB1.out
  clear R0 R1 hle hm hm5 hs hE h20 hb hps
  go_enter Tryd.func7, Tryd.ntmps7
  go_wp2_with (first
    | refine wpList_load_row rfl 25 _ rfl w.heap.size rfl 25 (fromA P N) (0, 0) _ HRW.out Tryd.underlying25 rfl HFI.out ?_)
  clear htx hmin hsl
  generalize w.alloc (.cells (fromA P N) 25) = w1 at *
  refine (HFA.out w1).mono ?_
  rintro e w2 ⟨rfl, hb⟩
  have HB2 := Lib.hid (HB1.out.trans (hb.mono HB1.out.size))
  have HQS : Hid ((cutS P).size ≤ 300) := cutS_size P
  clear hb HB1 HRW HFA HFI
  generalize cutS P = q at *
  have HFQ := Lib.hid (from_info q N H20.out)
  have HZS : Hid ((fromA ⟨#[]⟩ zeros20).size = (fromA q N).size) := by show _ = _; rw [fromA_size, fromA_size, H20.out]; rfl
  have HZN : Hid ((w2.alloc (.cells (fromA ⟨#[]⟩ zeros20) 28)).heap[w2.heap.size]? = some (.cells (fromA ⟨#[]⟩ zeros20) 28 (0, 0))) := heap_alloc_new _ _
  have hb3 : Below w2.heap.size w2 ((w2.alloc (.cells (fromA ⟨#[]⟩ zeros20) 28)).setRow w2.heap.size (fromA q N)) := below_setRow ((Below.refl _ _).alloc (Nat.le_refl _) _) (Nat.le_refl _) _
  have HB3 := Lib.hid (HB2.out.trans (hb3.mono HB2.out.size))
  have HG3 := Lib.hid (setRow_heap _ _ _ (fromA q N) _ _ HZN.out)
  have hzf := zero_from
  clear hb3
  go_wp2_with (first
    | refine wpList_store_row rfl 28 _ _ rfl w2.heap.size (fromA q N) rfl rfl 28 (fromA ⟨#[]⟩ zeros20) HZN.out HFQ.out HZS.out (fromA_one _ _) ?_
    | refine wpList_build_0 rfl 28 rfl (.agg (fromA ⟨#[]⟩ zeros20)) build_none ?_)
  clear hzf HZN
  generalize (w2.alloc (.cells (fromA ⟨#[]⟩ zeros20) 28)).setRow w2.heap.size (fromA q N) = w3 at *
  refine (print_any a m cap T ⟨#[]⟩ zeros20 w3 (HE.out.below HB3.out) (HR.out.below HB3.out) (by have := HM5.out; omega) rfl (by decide)).mono ?_
  rintro e w4 ⟨hpo, hb⟩
  have HB4 := Lib.hid (HB3.out.trans (hb.mono HB3.out.size))
  have HG4 := Lib.hid (row_stay HG3.out hb)
  rw [print_plain] at hpo
  clear hb HG3 HB3
  have HSN : Hid (strOfNums T = s) := by show _ = _; rw [← HNS.out]; exact str_nums s
  have HMC := Lib.hid hmc
  clear hmc
  have HPN := Lib.hid (fun W E R => print_any a m cap T q N W E R (by have := HM5.out; omega) H20.out HNB.out)
  have HEQ := Lib.hid (fun W => eql_from W q ⟨#[]⟩ N zeros20 H20.out rfl)
  have wq : wrap64 ((m : Int) + (q.size : Int)) = ((m + q.size : Nat) : Int) := by
    rw [show (m : Int) + (q.size : Int) = ((m + q.size : Nat) : Int) by omega]
    exact IntWalk.wrap64_in _ (by have := HM5.out; have := HQS.out; omega)
  have wq2 : wrap64 (((m + q.size : Nat) : Int) + 61) = ((m + q.size + 61 : Nat) : Int) := by
    rw [show ((m + q.size : Nat) : Int) + 61 = ((m + q.size + 61 : Nat) : Int) by omega]
    exact IntWalk.wrap64_in _ (by have := HM5.out; have := HQS.out; omega)
  obtain ⟨mq, hmq⟩ : ∃ k, m + q.size = k := ⟨_, rfl⟩
  obtain ⟨mq2, hmq2⟩ : ∃ k, m + q.size + 61 = k := ⟨_, rfl⟩
  rw [hmq] at wq wq2
  have HMQ := Lib.hid hmq2
  rw [hmq] at hmq2
  rw [hmq2] at wq2
  clear hmq hmq2
  have WQ := Lib.hid wq
  have WQ2 := Lib.hid wq2
  clear wq wq2
  by_cases hm1 : 1 < m
  · have hbt := HR.out.bytes
    have hl := HR.out.len
    obtain ⟨x, y, r, hT⟩ : ∃ x y r, T = x :: y :: r := by
      match T, hl with
      | x :: y :: r, _ => exact ⟨x, y, r, rfl⟩
      | [_], hl => simp at hl; omega
      | [], hl => simp at hl; omega
    rcases hbt.2.2.2 with h0 | ⟨b, o, rfl, hc⟩
    · omega
    · have hc0 := hc 0 (by omega)
      have hc1 := hc 1 hm1
      have hx := HTB.out x (by rw [hT]; simp)
      have hy := HTB.out y (by rw [hT]; simp)
      rw [hT] at hc0 hc1
      simp only [List.getElem?_cons_zero, List.getElem?_cons_succ, Option.getD_some, Nat.add_zero] at hc0 hc1
      have hd0 : w4.cell? ⟨b, o, none⟩ = some (.int .u8 x) := (HB4.out.cell (p := ⟨b, o, none⟩) (World.block_lt_of_cell? w ⟨b, o, none⟩ hc0)).trans hc0
      have hd1 : w4.cell? ⟨b, o + 1, none⟩ = some (.int .u8 y) := (HB4.out.cell (p := ⟨b, o + 1, none⟩) (World.block_lt_of_cell? w ⟨b, o + 1, none⟩ hc1)).trans hc1
      have hpm := pre_mark x y r hx hy
      rw [← hT] at hpm
      rw [hpm] at hpo
      have hmi : (1 : Int) < (m : Int) := by omega
      clear hbt hl hT hc hc0 hc1 hx hy hpm
      by_cases hx1 : x = 1
      · subst hx1
        by_cases hy1 : y = 10
        · subst hy1
          rw [show (decide ((1 : Int) = 1) && decide ((10 : Int) = 10)) = true from rfl] at hpo
          rw [if_pos rfl] at hpo
          obtain ⟨va, vc, rfl, hmd⟩ := hpo
          have hl4 : ([1, 10, 1, 10] ++ T : List Int).length = m + 4 := by rw [List.length_append, HR.out.len]; show 4 + m = _; omega
          rw [hl4] at hmd ⊢
          have HV := Lib.hid (hmd.row (range_of_mem (range_mem HTB.out _ (by decide))))
          have wm4 : wrap64 ((m : Int) + 4) = ((m + 4 : Nat) : Int) := by
            rw [show (m : Int) + 4 = ((m + 4 : Nat) : Int) by omega]
            exact IntWalk.wrap64_in _ (by have := HM5.out; omega)
          clear hl4 hmd
          generalize m + 4 = m4 at *
          go_wp2_with (first
            | refine wpList_load_row rfl 28 _ rfl w2.heap.size rfl 28 (fromA q N) (0, 0) _ HG4.out Tryd.underlying28 rfl HFQ.out ?_
            | refine wpList_eql rfl .neq 9 _ _ _ rfl (.string s) (.string s) rfl rfl (.bool false) (guard_strn _ _ _ _) (neq_self s) ?_)
          refine (HPN.out w4 (HE.out.below HB4.out) (HR.out.below HB4.out)).mono ?_
          rintro e w5 ⟨hpo, hb⟩
          have HB5 := Lib.hid (HB4.out.trans (hb.mono HB4.out.size))
          have HG5 := Lib.hid (row_stay HG4.out hb)
          clear hb HG4
          cases hpr : printL T q N with
          | none =>
            rw [hpr] at hpo
            obtain rfl : e = _ := hpo
            clear hpr
            go_wp2_with fail
            refine (known_any w5 (HE.out.below HB5.out)).mono ?_
            rintro e w6 ⟨rfl, hb⟩
            have HB6 := Lib.hid (HB5.out.trans (hb.mono HB5.out.size))
            clear hb
            go_wp2_with fail
            go_ret
            exact ⟨rfl, HB6.out⟩
          | some ys =>
            rw [hpr] at hpo
            obtain ⟨xa, xc, rfl, hmd⟩ := hpo
            have HPR := Lib.hid hpr
            clear hpr hmd
            have HYL : Hid (noFrom q N = false → ys.length = mq2) := fun h => by
              rw [print_told HPR.out h H20.out, HR.out.len, HMQ.out]
            generalize ys.length = yl at *
            go_wp2_with fail
            refine (known_any w5 (HE.out.below HB5.out)).mono ?_
            rintro e w6 ⟨rfl, hb⟩
            have HB6 := Lib.hid (HB5.out.trans (hb.mono HB5.out.size))
            have HG6 := Lib.hid (row_stay HG5.out hb)
            clear hb HG5
            cases hnf : noFrom q N
            · have HEF : Hid (∀ W, (binOp .eql 28 (.agg (fromA q N)) (.agg (fromA ⟨#[]⟩ zeros20))).run Tryd.prog W = .ok (.bool false) W) := fun W => by
                rw [HEQ.out W]
                rw [show (q.toList == (⟨#[]⟩ : ByteArray).toList && N == zeros20) = false from hnf]
              have hyl := HYL.out hnf
              subst hyl
              have hce := from_cell HG6.out
              have wq := WQ.out
              have wq2 := WQ2.out
              clear hnf
              go_wp2_with (first
                | refine wpList_load_row_g rfl 28 _ rfl w2.heap.size rfl 28 (fromA q N) (0, 0) _ HG6.out Tryd.underlying28 rfl HFQ.out ?_
                | refine wpList_build_0 rfl 28 rfl (.agg (fromA ⟨#[]⟩ zeros20)) build_none ?_
                | refine wpList_eql rfl .eql 28 _ _ _ rfl (.agg (fromA q N)) (.agg (fromA ⟨#[]⟩ zeros20)) rfl rfl (.bool false) (guard_from _ _ _ _) HEF.out ?_)
              go_ret
              exact ⟨rfl, HB6.out⟩
            · have HEF : Hid (∀ W, (binOp .eql 28 (.agg (fromA q N)) (.agg (fromA ⟨#[]⟩ zeros20))).run Tryd.prog W = .ok (.bool true) W) := fun W => by
                rw [HEQ.out W]
                rw [show (q.toList == (⟨#[]⟩ : ByteArray).toList && N == zeros20) = true from hnf]
              clear hnf
              go_wp2_with (first
                | refine wpList_load_row_g rfl 28 _ rfl w2.heap.size rfl 28 (fromA q N) (0, 0) _ HG6.out Tryd.underlying28 rfl HFQ.out ?_
                | refine wpList_build_0 rfl 28 rfl (.agg (fromA ⟨#[]⟩ zeros20)) build_none ?_
                | refine wpList_eql rfl .eql 28 _ _ _ rfl (.agg (fromA q N)) (.agg (fromA ⟨#[]⟩ zeros20)) rfl rfl (.bool true) (guard_from _ _ _ _) HEF.out ?_)
              go_ret
              exact ⟨rfl, HB6.out⟩
        · rw [show (decide ((1 : Int) = 1) && decide (y = 10)) = false from by rw [decide_eq_false hy1]; rfl] at hpo
          have hye : (y == 10) = false := by simpa using hy1
          rw [if_neg (by decide)] at hpo
          obtain ⟨va, vc, rfl, hmd⟩ := hpo
          rw [HR.out.len] at hmd ⊢
          have HV := Lib.hid (hmd.row (range_of_mem HTB.out))
          clear hmd
          have htx := HTR.out w4 HB4.out
          have htn := text_run w4 va m vc T HV.out.bytes
          rw [HSN.out] at htn
          go_wp2_with (first
            | refine wpList_load_row rfl 28 _ rfl w2.heap.size rfl 28 (fromA q N) (0, 0) _ HG4.out Tryd.underlying28 rfl HFQ.out ?_
            | refine wpList_eql rfl .neq 9 _ _ _ rfl (.string s) (.string s) rfl rfl (.bool false) (guard_strn _ _ _ _) (neq_self s) ?_)
          refine (HPN.out w4 (HE.out.below HB4.out) (HR.out.below HB4.out)).mono ?_
          rintro e w5 ⟨hpo, hb⟩
          have HB5 := Lib.hid (HB4.out.trans (hb.mono HB4.out.size))
          have HG5 := Lib.hid (row_stay HG4.out hb)
          clear hb HG4
          cases hpr : printL T q N with
          | none =>
            rw [hpr] at hpo
            obtain rfl : e = _ := hpo
            clear hpr
            go_wp2_with fail
            refine (known_any w5 (HE.out.below HB5.out)).mono ?_
            rintro e w6 ⟨rfl, hb⟩
            have HB6 := Lib.hid (HB5.out.trans (hb.mono HB5.out.size))
            clear hb
            go_wp2_with fail
            go_ret
            exact ⟨rfl, HB6.out⟩
          | some ys =>
            rw [hpr] at hpo
            obtain ⟨xa, xc, rfl, hmd⟩ := hpo
            have HPR := Lib.hid hpr
            clear hpr hmd
            have HYL : Hid (noFrom q N = false → ys.length = mq2) := fun h => by
              rw [print_told HPR.out h H20.out, HR.out.len, HMQ.out]
            generalize ys.length = yl at *
            go_wp2_with fail
            refine (known_any w5 (HE.out.below HB5.out)).mono ?_
            rintro e w6 ⟨rfl, hb⟩
            have HB6 := Lib.hid (HB5.out.trans (hb.mono HB5.out.size))
            have HG6 := Lib.hid (row_stay HG5.out hb)
            clear hb HG5
            cases hnf : noFrom q N
            · have HEF : Hid (∀ W, (binOp .eql 28 (.agg (fromA q N)) (.agg (fromA ⟨#[]⟩ zeros20))).run Tryd.prog W = .ok (.bool false) W) := fun W => by
                rw [HEQ.out W]
                rw [show (q.toList == (⟨#[]⟩ : ByteArray).toList && N == zeros20) = false from hnf]
              have hyl := HYL.out hnf
              subst hyl
              have hce := from_cell HG6.out
              have wq := WQ.out
              have wq2 := WQ2.out
              clear hnf
              go_wp2_with (first
                | refine wpList_load_row_g rfl 28 _ rfl w2.heap.size rfl 28 (fromA q N) (0, 0) _ HG6.out Tryd.underlying28 rfl HFQ.out ?_
                | refine wpList_build_0 rfl 28 rfl (.agg (fromA ⟨#[]⟩ zeros20)) build_none ?_
                | refine wpList_eql rfl .eql 28 _ _ _ rfl (.agg (fromA q N)) (.agg (fromA ⟨#[]⟩ zeros20)) rfl rfl (.bool false) (guard_from _ _ _ _) HEF.out ?_)
              go_ret
              exact ⟨rfl, HB6.out⟩
            · have HEF : Hid (∀ W, (binOp .eql 28 (.agg (fromA q N)) (.agg (fromA ⟨#[]⟩ zeros20))).run Tryd.prog W = .ok (.bool true) W) := fun W => by
                rw [HEQ.out W]
                rw [show (q.toList == (⟨#[]⟩ : ByteArray).toList && N == zeros20) = true from hnf]
              clear hnf
              go_wp2_with (first
                | refine wpList_load_row_g rfl 28 _ rfl w2.heap.size rfl 28 (fromA q N) (0, 0) _ HG6.out Tryd.underlying28 rfl HFQ.out ?_
                | refine wpList_build_0 rfl 28 rfl (.agg (fromA ⟨#[]⟩ zeros20)) build_none ?_
                | refine wpList_eql rfl .eql 28 _ _ _ rfl (.agg (fromA q N)) (.agg (fromA ⟨#[]⟩ zeros20)) rfl rfl (.bool true) (guard_from _ _ _ _) HEF.out ?_)
              go_ret
              exact ⟨rfl, HB6.out⟩
      · rw [show (decide (x = 1) && decide (y = 10)) = false from by rw [decide_eq_false hx1]; rfl] at hpo
        have hxe : (x == 1) = false := by simpa using hx1
        rw [if_neg (by decide)] at hpo
        obtain ⟨va, vc, rfl, hmd⟩ := hpo
        rw [HR.out.len] at hmd ⊢
        have HV := Lib.hid (hmd.row (range_of_mem HTB.out))
        clear hmd
        have htx := HTR.out w4 HB4.out
        have htn := text_run w4 va m vc T HV.out.bytes
        rw [HSN.out] at htn
        go_wp2_with (first
          | refine wpList_load_row rfl 28 _ rfl w2.heap.size rfl 28 (fromA q N) (0, 0) _ HG4.out Tryd.underlying28 rfl HFQ.out ?_
          | refine wpList_eql rfl .neq 9 _ _ _ rfl (.string s) (.string s) rfl rfl (.bool false) (guard_strn _ _ _ _) (neq_self s) ?_)
        refine (HPN.out w4 (HE.out.below HB4.out) (HR.out.below HB4.out)).mono ?_
        rintro e w5 ⟨hpo, hb⟩
        have HB5 := Lib.hid (HB4.out.trans (hb.mono HB4.out.size))
        have HG5 := Lib.hid (row_stay HG4.out hb)
        clear hb HG4
        cases hpr : printL T q N with
        | none =>
          rw [hpr] at hpo
          obtain rfl : e = _ := hpo
          clear hpr
          go_wp2_with fail
          refine (known_any w5 (HE.out.below HB5.out)).mono ?_
          rintro e w6 ⟨rfl, hb⟩
          have HB6 := Lib.hid (HB5.out.trans (hb.mono HB5.out.size))
          clear hb
          go_wp2_with fail
          go_ret
          exact ⟨rfl, HB6.out⟩
        | some ys =>
          rw [hpr] at hpo
          obtain ⟨xa, xc, rfl, hmd⟩ := hpo
          have HPR := Lib.hid hpr
          clear hpr hmd
          have HYL : Hid (noFrom q N = false → ys.length = mq2) := fun h => by
            rw [print_told HPR.out h H20.out, HR.out.len, HMQ.out]
          generalize ys.length = yl at *
          go_wp2_with fail
          refine (known_any w5 (HE.out.below HB5.out)).mono ?_
          rintro e w6 ⟨rfl, hb⟩
          have HB6 := Lib.hid (HB5.out.trans (hb.mono HB5.out.size))
          have HG6 := Lib.hid (row_stay HG5.out hb)
          clear hb HG5
          cases hnf : noFrom q N
          · have HEF : Hid (∀ W, (binOp .eql 28 (.agg (fromA q N)) (.agg (fromA ⟨#[]⟩ zeros20))).run Tryd.prog W = .ok (.bool false) W) := fun W => by
              rw [HEQ.out W]
              rw [show (q.toList == (⟨#[]⟩ : ByteArray).toList && N == zeros20) = false from hnf]
            have hyl := HYL.out hnf
            subst hyl
            have hce := from_cell HG6.out
            have wq := WQ.out
            have wq2 := WQ2.out
            clear hnf
            go_wp2_with (first
              | refine wpList_load_row_g rfl 28 _ rfl w2.heap.size rfl 28 (fromA q N) (0, 0) _ HG6.out Tryd.underlying28 rfl HFQ.out ?_
              | refine wpList_build_0 rfl 28 rfl (.agg (fromA ⟨#[]⟩ zeros20)) build_none ?_
              | refine wpList_eql rfl .eql 28 _ _ _ rfl (.agg (fromA q N)) (.agg (fromA ⟨#[]⟩ zeros20)) rfl rfl (.bool false) (guard_from _ _ _ _) HEF.out ?_)
            go_ret
            exact ⟨rfl, HB6.out⟩
          · have HEF : Hid (∀ W, (binOp .eql 28 (.agg (fromA q N)) (.agg (fromA ⟨#[]⟩ zeros20))).run Tryd.prog W = .ok (.bool true) W) := fun W => by
              rw [HEQ.out W]
              rw [show (q.toList == (⟨#[]⟩ : ByteArray).toList && N == zeros20) = true from hnf]
            clear hnf
            go_wp2_with (first
              | refine wpList_load_row_g rfl 28 _ rfl w2.heap.size rfl 28 (fromA q N) (0, 0) _ HG6.out Tryd.underlying28 rfl HFQ.out ?_
              | refine wpList_build_0 rfl 28 rfl (.agg (fromA ⟨#[]⟩ zeros20)) build_none ?_
              | refine wpList_eql rfl .eql 28 _ _ _ rfl (.agg (fromA q N)) (.agg (fromA ⟨#[]⟩ zeros20)) rfl rfl (.bool true) (guard_from _ _ _ _) HEF.out ?_)
            go_ret
            exact ⟨rfl, HB6.out⟩
  · rw [pre_short T (by rw [HR.out.len]; omega)] at hpo
    have hmi : ¬ (1 : Int) < (m : Int) := by omega
    rw [if_neg (by decide)] at hpo
    obtain ⟨va, vc, rfl, hmd⟩ := hpo
    rw [HR.out.len] at hmd ⊢
    have HV := Lib.hid (hmd.row (range_of_mem HTB.out))
    clear hmd
    have htx := HTR.out w4 HB4.out
    have htn := text_run w4 va m vc T HV.out.bytes
    rw [HSN.out] at htn
    go_wp2_with (first
      | refine wpList_load_row rfl 28 _ rfl w2.heap.size rfl 28 (fromA q N) (0, 0) _ HG4.out Tryd.underlying28 rfl HFQ.out ?_
      | refine wpList_eql rfl .neq 9 _ _ _ rfl (.string s) (.string s) rfl rfl (.bool false) (guard_strn _ _ _ _) (neq_self s) ?_)
    refine (HPN.out w4 (HE.out.below HB4.out) (HR.out.below HB4.out)).mono ?_
    rintro e w5 ⟨hpo, hb⟩
    have HB5 := Lib.hid (HB4.out.trans (hb.mono HB4.out.size))
    have HG5 := Lib.hid (row_stay HG4.out hb)
    clear hb HG4
    cases hpr : printL T q N with
    | none =>
      rw [hpr] at hpo
      obtain rfl : e = _ := hpo
      clear hpr
      go_wp2_with fail
      refine (known_any w5 (HE.out.below HB5.out)).mono ?_
      rintro e w6 ⟨rfl, hb⟩
      have HB6 := Lib.hid (HB5.out.trans (hb.mono HB5.out.size))
      clear hb
      go_wp2_with fail
      go_ret
      exact ⟨rfl, HB6.out⟩
    | some ys =>
      rw [hpr] at hpo
      obtain ⟨xa, xc, rfl, hmd⟩ := hpo
      have HPR := Lib.hid hpr
      clear hpr hmd
      have HYL : Hid (noFrom q N = false → ys.length = mq2) := fun h => by
        rw [print_told HPR.out h H20.out, HR.out.len, HMQ.out]
      generalize ys.length = yl at *
      go_wp2_with fail
      refine (known_any w5 (HE.out.below HB5.out)).mono ?_
      rintro e w6 ⟨rfl, hb⟩
      have HB6 := Lib.hid (HB5.out.trans (hb.mono HB5.out.size))
      have HG6 := Lib.hid (row_stay HG5.out hb)
      clear hb HG5
      cases hnf : noFrom q N
      · have HEF : Hid (∀ W, (binOp .eql 28 (.agg (fromA q N)) (.agg (fromA ⟨#[]⟩ zeros20))).run Tryd.prog W = .ok (.bool false) W) := fun W => by
          rw [HEQ.out W]
          rw [show (q.toList == (⟨#[]⟩ : ByteArray).toList && N == zeros20) = false from hnf]
        have hyl := HYL.out hnf
        subst hyl
        have hce := from_cell HG6.out
        have wq := WQ.out
        have wq2 := WQ2.out
        clear hnf
        go_wp2_with (first
          | refine wpList_load_row_g rfl 28 _ rfl w2.heap.size rfl 28 (fromA q N) (0, 0) _ HG6.out Tryd.underlying28 rfl HFQ.out ?_
          | refine wpList_build_0 rfl 28 rfl (.agg (fromA ⟨#[]⟩ zeros20)) build_none ?_
          | refine wpList_eql rfl .eql 28 _ _ _ rfl (.agg (fromA q N)) (.agg (fromA ⟨#[]⟩ zeros20)) rfl rfl (.bool false) (guard_from _ _ _ _) HEF.out ?_)
        go_ret
        exact ⟨rfl, HB6.out⟩
      · have HEF : Hid (∀ W, (binOp .eql 28 (.agg (fromA q N)) (.agg (fromA ⟨#[]⟩ zeros20))).run Tryd.prog W = .ok (.bool true) W) := fun W => by
          rw [HEQ.out W]
          rw [show (q.toList == (⟨#[]⟩ : ByteArray).toList && N == zeros20) = true from hnf]
        clear hnf
        go_wp2_with (first
          | refine wpList_load_row_g rfl 28 _ rfl w2.heap.size rfl 28 (fromA q N) (0, 0) _ HG6.out Tryd.underlying28 rfl HFQ.out ?_
          | refine wpList_build_0 rfl 28 rfl (.agg (fromA ⟨#[]⟩ zeros20)) build_none ?_
          | refine wpList_eql rfl .eql 28 _ _ _ rfl (.agg (fromA q N)) (.agg (fromA ⟨#[]⟩ zeros20)) rfl rfl (.bool true) (guard_from _ _ _ _) HEF.out ?_)
        go_ret
        exact ⟨rfl, HB6.out⟩
end Go.Proofs.YtmkhnlfhbiabcaaDoor
