/- CopiesParses: the walk. -/
import Derived.Test.YtmkhnlfhbiabcaaDoorRefLoop
namespace Go.Proofs.YtmkhnlfhbiabcaaDoor
open Go.RowKit Plain Go.ChangeShapes Go.WideShapes Go.ChangeAt
set_option linter.unusedVariables false
set_option linter.unusedSimpArgs false
theorem refParse_all (s : ByteArray) (w : World) (hs : s.size ≤ 100000) :
    Calls Tryd.prog 14 #[.string s] w fun e w' => RefOut e (parseL (numsOf s)) ∧ Below w.heap.size w w' := by
  cases hbg : beginsT s
  · exact refParse1 s w hs hbg
  · cases h2 : beginsT (s.extract 2 s.size)
    · exact refParse3 s w hs hbg h2
    · exact refParse2 s w hs hbg h2
theorem rneq_self (p : ByteArray) (id : List Int) (hp : id.length = 20) (w : World) : (binOp .neq 25 (.agg (fromA p id)) (.agg (fromA p id))).run Tryd.prog w = .ok (.bool false) w := by
  rw [rneq_from w p p id id hp hp]
  simp
theorem yieldsIf_build0 {P : Program} {ops : Array Oper} {S : World → Prop} {op : Oper} {a : Act} (hw : Region.wanted op (yielded ops a.tmps) = true) (ty : TypeId) (ho : op.op = .build ty #[])
    (v : Value) (hr : ∀ W, (Instr.build ty #[]).run P W = .ok v W) : YieldsIf P ops S op v a := by
  refine .inl ⟨hw, fun W hS => ?_⟩
  unfold execOp
  simp [ho, hr, Result.andThen_ok]
theorem yieldsIf_eql {P : Program} {ops : Array Oper} {S : World → Prop} {op : Oper} {a : Act} (hw : Region.wanted op (yielded ops a.tmps) = true) (b : BinOp) (ty : TypeId) (x y : Operand) (tz : TypeId) (ho : op.op = .binOp b ty x y tz)
    (u1 u2 : Value) (h1 : a.eval x = u1) (h2 : a.eval y = u2) (v : Value) (hg : ∀ W, (eqGuard b ty x y u1 u2).run P W = .ok () W) (hr : ∀ W, (binOp b ty u1 u2).run P W = .ok v W) : YieldsIf P ops S op v a := by
  refine .inl ⟨hw, fun W hS => ?_⟩
  unfold execOp
  simp only [ho, h1, h2, Sem.run_bind, hg, hr, Result.andThen_ok]
  rfl
theorem yieldsIf_conv {P : Program} {ops : Array Oper} {S : World → Prop} {op : Oper} {a : Act} (hw : Region.wanted op (yielded ops a.tmps) = true) (t1 t2 : TypeId) (x : Operand) (ho : op.op = .convert t1 t2 x)
    (u : Value) (h1 : a.eval x = u) (v : Value) (hr : ∀ W, S W → (convert t1 t2 u).run P W = .ok v W) : YieldsIf P ops S op v a := by
  refine .inl ⟨hw, fun W hS => ?_⟩
  unfold execOp
  simp [ho, h1, hr W hS]
theorem lit_mid (w : World) (xs : List Int) (n : Nat) (hn : xs.length = n) (hl : n ≤ 1000) (t : TypeId) : Mid (w.alloc (.cells (xs.map (Value.int .u8)).toArray t (n, n + 1))) w.heap.size (.slice (some ⟨w.heap.size, 0, none⟩) n n) n xs := by
  have h := heap_alloc_new w (.cells (xs.map (Value.int .u8)).toArray t (n, n + 1))
  refine ⟨hn, .inr ⟨w.heap.size, 0, n, rfl, Nat.le_refl _, by simp, Nat.le_refl _, by omega, fun j v hv => ?_, fun j hj => ?_⟩⟩
  · rw [cell_of_row _ _ _ _ _ _ h, Nat.zero_add, List.getElem?_toArray]
    exact hv
  · simp only [World.cell?, World.frozen?, h, Nat.zero_add]
    refine ⟨?_, ?_⟩
    · simp; omega
    · simp; omega
set_option maxRecDepth 100000 in
set_option maxHeartbeats 32000000 in
theorem lawparses_any (a : Option Addr) (len cap : Nat) (Z : List Int) (w : World) (hE : Env w) (R0 : RowB w a len cap Z) :
    Calls Tryd.prog 4 #[.slice a len cap] w fun e w' => e = .returned (.bool true) ∧ Below w.heap.size w w' := by
  have hle := R0.le
  have hmin : min (len : Int) 600 = ((min len 600 : Nat) : Int) := by omega
  have R1 := R0.front (min len 600) (by omega)
  obtain ⟨m, hm⟩ : ∃ m, min len 600 = m := ⟨_, rfl⟩
  rw [hm] at hmin R1
  have hm5 : m ≤ 600 := by omega
  have hmc : m ≤ cap := by omega
  have hsl := fun W => slice_to a len cap m hmc W
  generalize Z.take m = T at *
  have HTB : Hid (∀ x ∈ T, 0 ≤ x ∧ x ≤ 255) := fun x hx => by have := R1.mem x hx; omega
  have HM5 := Lib.hid hm5
  have HE := Lib.hid hE
  have hcs := conv_same
  have HB0 : Hid (Below w.heap.size w (w.alloc (.cells #[.int .u8 1, .int .u8 10] 5 (2, 3)))) := (Below.refl _ _).alloc (Nat.le_refl _) _
  have HM0 : Hid (Mid (w.alloc (.cells #[.int .u8 1, .int .u8 10] 5 (2, 3))) w.heap.size (.slice (some ⟨w.heap.size, 0, none⟩) 2 2) 2 [1, 10]) := lit_mid w [1, 10] 2 rfl (by omega) 5
  have HR := Lib.hid R1
  have HS0 := Lib.hid (R1.below HB0.out).bytes
  have tok : True := trivial
  clear R0 R1 hle hm hm5 hE hmc
  go_enter Tryd.func4, Tryd.ntmps4
  go_wp2_with (have _t := tok; refine wpList_append_to rfl _ _ 22 rfl w.heap.size _ 2 [1, 10] rfl HM0.out _ m T rfl (src_bytes HS0.out) (2 + m) ([1, 10] ++ T) rfl rfl (by have := HM5.out; omega) HB0.out.size ?_; clear tok; refine Hid.out ?_)
  refine unhid ?_
  intro qa qc w1 hm hb
  have HPB : Hid (∀ x ∈ [1, 10] ++ T, 0 ≤ x ∧ x ≤ 255) := fun x hx => by
    rcases List.mem_append.1 hx with hx | hx
    · exact (show ∀ y ∈ ([1, 10] : List Int), 0 ≤ y ∧ y ≤ 255 by decide) x hx
    · exact HTB.out x hx
  have HQ1 := Lib.hid (hm.row (range_of_mem HPB.out))
  have HB1 := Lib.hid (HB0.out.trans hb)
  clear hm hb HM0 HS0 HB0 hsl hmin
  have HBL : Hid (Below w1.heap.size w1 (w1.alloc (.cells #[.int .u8 1, .int .u8 10, .int .u8 99, .int .u8 111, .int .u8 112, .int .u8 121, .int .u8 58, .int .u8 32] 5 (8, 9)))) := (Below.refl _ _).alloc (Nat.le_refl _) _
  have HM1 : Hid (Mid (w1.alloc (.cells #[.int .u8 1, .int .u8 10, .int .u8 99, .int .u8 111, .int .u8 112, .int .u8 121, .int .u8 58, .int .u8 32] 5 (8, 9))) w1.heap.size (.slice (some ⟨w1.heap.size, 0, none⟩) 8 8) 8 [1, 10, 99, 111, 112, 121, 58, 32]) := lit_mid w1 [1, 10, 99, 111, 112, 121, 58, 32] 8 rfl (by omega) 5
  have HS1 := Lib.hid (HR.out.below (HB1.out.trans (HBL.out.mono HB1.out.size))).bytes
  have tok : True := trivial
  obtain ⟨n2, hn2⟩ : ∃ n, 2 + m = n := ⟨_, rfl⟩
  have HN2 := Lib.hid hn2
  rw [hn2] at HQ1 ⊢
  clear hn2
  go_wp2_with (have _t := tok; refine wpList_append_to rfl _ _ 22 rfl w1.heap.size _ 8 [1, 10, 99, 111, 112, 121, 58, 32] rfl HM1.out _ m T rfl (src_bytes HS1.out) (8 + m) ([1, 10, 99, 111, 112, 121, 58, 32] ++ T) rfl rfl (by have := HM5.out; omega) HBL.out.size ?_; clear tok; refine Hid.out ?_)
  refine unhid ?_
  intro ra rc w2 hm hb
  have HPC : Hid (∀ x ∈ [1, 10, 99, 111, 112, 121, 58, 32] ++ T, 0 ≤ x ∧ x ≤ 255) := fun x hx => by
    rcases List.mem_append.1 hx with hx | hx
    · exact (show ∀ y ∈ ([1, 10, 99, 111, 112, 121, 58, 32] : List Int), 0 ≤ y ∧ y ≤ 255 by decide) x hx
    · exact HTB.out x hx
  have HQ2 := Lib.hid (hm.row (range_of_mem HPC.out))
  have HBX := Lib.hid (HBL.out.trans hb)
  have HB2 := Lib.hid (HB1.out.trans (HBX.out.mono HB1.out.size))
  clear hm hb HM1 HS1 HBL
  obtain ⟨n8, hn8⟩ : ∃ n, 8 + m = n := ⟨_, rfl⟩
  have HN8 := Lib.hid hn8
  rw [hn8] at HQ2 ⊢
  clear hn8
  have hb3 : Below w2.heap.size w2 (w2.alloc (.cells #[.slice a m cap, .slice qa n2 qc, .slice ra n8 rc] 22)) := (Below.refl _ _).alloc (Nat.le_refl _) _
  have HB3 := Lib.hid (HB2.out.trans (hb3.mono HB2.out.size))
  have HGL : Hid (w2.heap.size < (w2.alloc (.cells #[.slice a m cap, .slice qa n2 qc, .slice ra n8 rc] 22)).heap.size) := by show _ < _; simp
  have HROW : Hid (∀ k : Nat, k < 3 → ∃ sa sn sc C, (w2.alloc (.cells #[.slice a m cap, .slice qa n2 qc, .slice ra n8 rc] 22)).cell? ⟨w2.heap.size, k, none⟩ = some (.slice sa sn sc) ∧ RowB (w2.alloc (.cells #[.slice a m cap, .slice qa n2 qc, .slice ra n8 rc] 22)) sa sn sc C ∧ sn ≤ 700 ∧ ∀ x ∈ C, 0 ≤ x ∧ x ≤ 255) := fun k hk => by
    have hh := heap_alloc_new w2 (.cells #[.slice a m cap, .slice qa n2 qc, .slice ra n8 rc] 22)
    have h5 := HM5.out
    have h2 := HN2.out
    have h8 := HN8.out
    match k, hk with
    | 0, _ => exact ⟨a, m, cap, T, by rw [cell_of_row _ _ _ _ _ _ hh]; rfl, HR.out.below HB3.out, by omega, HTB.out⟩
    | 1, _ => exact ⟨qa, n2, qc, _, by rw [cell_of_row _ _ _ _ _ _ hh]; rfl, HQ1.out.below (HBX.out.trans (hb3.mono HBX.out.size)), by omega, HPB.out⟩
    | 2, _ => exact ⟨ra, n8, rc, _, by rw [cell_of_row _ _ _ _ _ _ hh]; rfl, HQ2.out.below hb3, by omega, HPC.out⟩
  clear hb3 hcs HR HQ1 HQ2 HBX HB1 HB2 HTB HPB HPC
  go_wp2_with fail
  generalize w2.alloc (.cells #[.slice a m cap, .slice qa n2 qc, .slice ra n8 rc] 22) = w3 at *
  go_loopw [27] (fun i wr => ∃ k : Nat, k ≤ 3 ∧ i = .int .i64 (k : Int) ∧ Below w3.heap.size w3 wr) (fun i _ => 3 - (intOf i).toNat)
  case atStart => exact ⟨0, by omega, rfl, Below.refl _ _⟩
  case round =>
    obtain ⟨k, hk3, rfl, hbw⟩ := hrel
    have HBW := Lib.hid hbw
    have WK := Lib.hid (next_int k (by omega) _ rfl)
    have HW := Lib.hid (HB3.out.trans (hbw.mono HB3.out.size))
    clear hbw
    by_cases hlt : k < 3
    · obtain ⟨sa, sn, sc, C, hc, hr, hn, hx⟩ := HROW.out k hlt
      have hcw : wr.cell? ⟨w2.heap.size, k, none⟩ = some (.slice sa sn sc) := (HBW.out.cell (p := ⟨w2.heap.size, k, none⟩) HGL.out).trans hc
      have HRW := Lib.hid (hr.below HBW.out)
      have HN := Lib.hid hn
      have HXB := Lib.hid hx
      have HCN : Hid (numsOf (strOfNums C) = C) := nums_str C hx
      have hki : (k : Int) < 3 := by omega
      have HK := Lib.hid hlt
      clear hc hr hn hx hlt hk3
      go_wp2_with fail
      refine (cParse_any sa sn sc C wr HRW.out (HE.out.below HW.out) (by have := HN.out; omega)).mono ?_
      rintro e x1 ⟨hpo, hb⟩
      have HX1 := Lib.hid (HW.out.trans (hb.mono HW.out.size))
      have HR1 := Lib.hid (HRW.out.below hb)
      have HBX1 := Lib.hid (HBW.out.trans (hb.mono HBW.out.size))
      have HSZ : Hid ((strOfNums C).size ≤ 100000) := by
        show _ ≤ _
        rw [← numsOf_length, HCN.out, HRW.out.len]; have := HN.out; omega
      clear hb hcw hki HRW HBW
      have hzf := zero_from
      have hzr := zero_rfrom
      cases hpc : parseL C with
      | none =>
        rw [hpc] at hpo
        obtain rfl : e = _ := hpo
        have HPC := Lib.hid hpc
        clear hpc
        have HI0 : Hid ((Tryd.prog.info? 28).map (·.size) = some (Value.string ⟨#[]⟩ :: zeros20.map (Value.int .u8)).length) := from_info ⟨#[]⟩ zeros20 rfl
        have HIA : Hid ((Tryd.prog.info? 28).map (·.size) = some (fromA ⟨#[]⟩ zeros20).size) := from_info _ _ rfl
        have HIR : Hid ((Tryd.prog.info? 25).map (·.size) = some (fromA ⟨#[]⟩ zeros20).size) := rfrom_info _ _ rfl
        have HZX : Hid ((x1.alloc (.cells (fromA ⟨#[]⟩ zeros20) 28)).heap[x1.heap.size]? = some (.cells (fromA ⟨#[]⟩ zeros20) 28 (0, 0))) := heap_alloc_new _ _
        have hb2 : Below x1.heap.size x1 ((x1.alloc (.cells (fromA ⟨#[]⟩ zeros20) 28)).setRow x1.heap.size (fromA ⟨#[]⟩ zeros20)) := below_setRow ((Below.refl _ _).alloc (Nat.le_refl _) _) (Nat.le_refl _) _
        have HX2 := Lib.hid (HX1.out.trans (hb2.mono HX1.out.size))
        have HBX2 := Lib.hid (HBX1.out.trans (hb2.mono HBX1.out.size))
        have HG2 := Lib.hid (setRow_heap _ _ _ (fromA ⟨#[]⟩ zeros20) _ _ HZX.out)
        have htx := text_run _ sa sn sc C (HR1.out.below hb2).bytes
        generalize strOfNums C = cs at *
        clear hb2 HBX1 HX1
        go_wp2_with (first
          | refine wpList_store_row rfl 28 _ _ rfl x1.heap.size (fromA ⟨#[]⟩ zeros20) rfl rfl 28 (fromA ⟨#[]⟩ zeros20) HZX.out HIA.out rfl (fromA_one _ _) ?_)
        clear HZX htx hzf
        generalize (x1.alloc (.cells (fromA ⟨#[]⟩ zeros20) 28)).setRow x1.heap.size (fromA ⟨#[]⟩ zeros20) = x2 at *
        refine (refParse_all cs x2 HSZ.out).mono ?_
        rintro e x3 ⟨hro, hb⟩
        rw [HCN.out, HPC.out] at hro
        obtain ⟨tt, rfl⟩ := hro
        have HX3 := Lib.hid (HX2.out.trans (hb.mono HX2.out.size))
        have HBX3 := Lib.hid (HBX2.out.trans (hb.mono HBX2.out.size))
        have HG3 := Lib.hid (row_stay HG2.out hb)
        clear hb HX2 HBX2 HG2
        have HZY : Hid ((x3.alloc (.cells (fromA ⟨#[]⟩ zeros20) 25)).heap[x3.heap.size]? = some (.cells (fromA ⟨#[]⟩ zeros20) 25 (0, 0))) := heap_alloc_new _ _
        have hb4 : Below x3.heap.size x3 ((x3.alloc (.cells (fromA ⟨#[]⟩ zeros20) 25)).setRow x3.heap.size (fromA ⟨#[]⟩ zeros20)) := below_setRow ((Below.refl _ _).alloc (Nat.le_refl _) _) (Nat.le_refl _) _
        have HX4 := Lib.hid (HX3.out.trans (hb4.mono HX3.out.size))
        have HBX4 := Lib.hid (HBX3.out.trans (hb4.mono HBX3.out.size))
        have HG4 := Lib.hid (row_stay HG3.out hb4)
        clear hb4 HX3 HBX3 HG3
        go_wp2_with (first
          | refine wpList_store_row rfl 25 _ _ rfl x3.heap.size (fromA ⟨#[]⟩ zeros20) rfl rfl 25 (fromA ⟨#[]⟩ zeros20) HZY.out HIR.out rfl (fromA_one _ _) ?_)
        clear HZY hzr
        generalize (x3.alloc (.cells (fromA ⟨#[]⟩ zeros20) 25)).setRow x3.heap.size (fromA ⟨#[]⟩ zeros20) = x4 at *
        refine wp_region_noPanic ?_
        refine wp_region_held_drew (S := fun W => W.heap[x1.heap.size]? = some (.cells (fromA ⟨#[]⟩ zeros20) 28 (0, 0))) (by kernel_rfl) ?_ (fun hHeld => ?_)
        · exact HG4.out
        refine wpAnyH_take (i := 0) (v := ?_) (by simp only [List.getElem?_toArray, List.getElem?_cons_zero]; rfl) (by kernel_rfl) (by kernel_rfl) (by kernel_rfl) (fun _ _ _ h => h) (Or.inl ⟨by rfl, ?_⟩) (by assumption) ?_
        rotate_left
        · intro W hSW
          go_simp
          try with_reducible rfl
        try simp only [Act.put, List.setIfInBounds_toArray, List.set_cons_zero, List.set_cons_succ]
        refine wpAnyH_take (i := 1) (v := ?_) (by simp only [List.getElem?_toArray, List.getElem?_cons_succ, List.getElem?_cons_zero]; rfl) (by kernel_rfl) (by kernel_rfl) (by kernel_rfl) (fun _ _ _ h => h) (Or.inl ⟨by rfl, ?_⟩) (by assumption) ?_
        rotate_left
        · intro W hSW
          go_simp
          try with_reducible rfl
        try simp only [Act.put, List.setIfInBounds_toArray, List.set_cons_zero, List.set_cons_succ]
        refine wpAnyH_take (i := 2) (v := ?_) (by simp only [List.getElem?_toArray, List.getElem?_cons_succ, List.getElem?_cons_zero]; rfl) (by kernel_rfl) (by kernel_rfl) (by kernel_rfl) (fun _ _ _ h => h) (Or.inl ⟨by rfl, ?_⟩) (by assumption) ?_
        rotate_left
        · intro W hSW
          go_simp
          try with_reducible rfl
        try simp only [Act.put, List.setIfInBounds_toArray, List.set_cons_zero, List.set_cons_succ]
        refine wpAnyH_take (i := 3) (v := ?_) (by simp only [List.getElem?_toArray, List.getElem?_cons_succ, List.getElem?_cons_zero]; rfl) (by kernel_rfl) (by kernel_rfl) (by kernel_rfl) (fun _ _ _ h => h) (Or.inl ⟨by rfl, ?_⟩) (by assumption) ?_
        rotate_left
        · intro W hSW
          go_simp
          try with_reducible rfl
        try simp only [Act.put, List.setIfInBounds_toArray, List.set_cons_zero, List.set_cons_succ]
        refine wpAnyH_take (i := 4) (v := ?_) (by simp only [List.getElem?_toArray, List.getElem?_cons_succ, List.getElem?_cons_zero]; rfl) (by kernel_rfl) (by kernel_rfl) (by kernel_rfl) (fun _ _ _ h => h) (Or.inl ⟨by rfl, ?_⟩) (by assumption) ?_
        rotate_left
        · intro W hSW
          go_simp
          try with_reducible rfl
        try simp only [Act.put, List.setIfInBounds_toArray, List.set_cons_zero, List.set_cons_succ]
        refine wpAnyH_take (i := 5) (v := ?_) (by simp only [List.getElem?_toArray, List.getElem?_cons_succ, List.getElem?_cons_zero]; rfl) (by kernel_rfl) (by kernel_rfl) (by kernel_rfl) (fun _ _ _ h => h) (Or.inl ⟨by rfl, ?_⟩) (by assumption) ?_
        rotate_left
        · intro W hSW
          go_simp
          try with_reducible rfl
        try simp only [Act.put, List.setIfInBounds_toArray, List.set_cons_zero, List.set_cons_succ]
        refine wpAnyH_take (i := 6) (v := ?_) (by simp only [List.getElem?_toArray, List.getElem?_cons_succ, List.getElem?_cons_zero]; rfl) (by kernel_rfl) (by kernel_rfl) (by kernel_rfl) (fun _ _ _ h => h) (Or.inl ⟨by rfl, ?_⟩) (by assumption) ?_
        rotate_left
        · intro W hSW
          go_simp
          try with_reducible rfl
        try simp only [Act.put, List.setIfInBounds_toArray, List.set_cons_zero, List.set_cons_succ]
        refine wpAnyH_take (i := 7) (v := ?_) (by simp only [List.getElem?_toArray, List.getElem?_cons_succ, List.getElem?_cons_zero]; rfl) (by kernel_rfl) (by kernel_rfl) (by kernel_rfl) (fun _ _ _ h => h) (Or.inl ⟨by rfl, ?_⟩) (by assumption) ?_
        rotate_left
        · intro W hSW
          go_simp
          try with_reducible rfl
        try simp only [Act.put, List.setIfInBounds_toArray, List.set_cons_zero, List.set_cons_succ]
        refine wpAnyH_take (i := 8) (v := ?_) (by simp only [List.getElem?_toArray, List.getElem?_cons_succ, List.getElem?_cons_zero]; rfl) (by kernel_rfl) (by kernel_rfl) (by kernel_rfl) (fun _ _ _ h => h) (Or.inl ⟨by rfl, ?_⟩) (by assumption) ?_
        rotate_left
        · intro W hSW
          go_simp
          try with_reducible rfl
        try simp only [Act.put, List.setIfInBounds_toArray, List.set_cons_zero, List.set_cons_succ]
        refine wpAnyH_take (i := 9) (v := ?_) (by simp only [List.getElem?_toArray, List.getElem?_cons_succ, List.getElem?_cons_zero]; rfl) (by kernel_rfl) (by kernel_rfl) (by kernel_rfl) (fun _ _ _ h => h) (Or.inl ⟨by rfl, ?_⟩) (by assumption) ?_
        rotate_left
        · intro W hSW
          go_simp
          try with_reducible rfl
        try simp only [Act.put, List.setIfInBounds_toArray, List.set_cons_zero, List.set_cons_succ]
        refine wpAnyH_take (i := 10) (v := ?_) (by simp only [List.getElem?_toArray, List.getElem?_cons_succ, List.getElem?_cons_zero]; rfl) (by kernel_rfl) (by kernel_rfl) (by kernel_rfl) (fun _ _ _ h => h) (Or.inl ⟨by rfl, ?_⟩) (by assumption) ?_
        rotate_left
        · intro W hSW
          go_simp
          try with_reducible rfl
        try simp only [Act.put, List.setIfInBounds_toArray, List.set_cons_zero, List.set_cons_succ]
        refine wpAnyH_take (i := 11) (v := ?_) (by simp only [List.getElem?_toArray, List.getElem?_cons_succ, List.getElem?_cons_zero]; rfl) (by kernel_rfl) (by kernel_rfl) (by kernel_rfl) (fun _ _ _ h => h) (Or.inl ⟨by rfl, ?_⟩) (by assumption) ?_
        rotate_left
        · intro W hSW
          go_simp
          try with_reducible rfl
        try simp only [Act.put, List.setIfInBounds_toArray, List.set_cons_zero, List.set_cons_succ]
        refine wpAnyH_take (i := 12) (v := ?_) (by simp only [List.getElem?_toArray, List.getElem?_cons_succ, List.getElem?_cons_zero]; rfl) (by kernel_rfl) (by kernel_rfl) (by kernel_rfl) (fun _ _ _ h => h) (Or.inl ⟨by rfl, ?_⟩) (by assumption) ?_
        rotate_left
        · intro W hSW
          go_simp
          try with_reducible rfl
        try simp only [Act.put, List.setIfInBounds_toArray, List.set_cons_zero, List.set_cons_succ]
        refine wpAnyH_take (i := 13) (v := ?_) (by simp only [List.getElem?_toArray, List.getElem?_cons_succ, List.getElem?_cons_zero]; rfl) (by kernel_rfl) (by kernel_rfl) (by kernel_rfl) (fun _ _ _ h => h) (Or.inl ⟨by rfl, ?_⟩) (by assumption) ?_
        rotate_left
        · intro W hSW
          go_simp
          try with_reducible rfl
        try simp only [Act.put, List.setIfInBounds_toArray, List.set_cons_zero, List.set_cons_succ]
        refine wpAnyH_take (i := 14) (v := ?_) (by simp only [List.getElem?_toArray, List.getElem?_cons_succ, List.getElem?_cons_zero]; rfl) (by kernel_rfl) (by kernel_rfl) (by kernel_rfl) (fun _ _ _ h => h) (Or.inl ⟨by rfl, ?_⟩) (by assumption) ?_
        rotate_left
        · intro W hSW
          go_simp
          try with_reducible rfl
        try simp only [Act.put, List.setIfInBounds_toArray, List.set_cons_zero, List.set_cons_succ]
        refine wpAnyH_take (i := 15) (v := ?_) (by simp only [List.getElem?_toArray, List.getElem?_cons_succ, List.getElem?_cons_zero]; rfl) (by kernel_rfl) (by kernel_rfl) (by kernel_rfl) (fun _ _ _ h => h) (Or.inl ⟨by rfl, ?_⟩) (by assumption) ?_
        rotate_left
        · intro W hSW
          go_simp
          try with_reducible rfl
        try simp only [Act.put, List.setIfInBounds_toArray, List.set_cons_zero, List.set_cons_succ]
        refine wpAnyH_take (i := 16) (by simp only [List.getElem?_toArray, List.getElem?_cons_succ, List.getElem?_cons_zero]; rfl) (by kernel_rfl) (by kernel_rfl) (by kernel_rfl) (fun _ _ _ h => h) (yieldsIf_load_mid (by rfl) 28 _ rfl x1.heap.size 0 rfl (Value.string ⟨#[]⟩ :: zeros20.map (Value.int .u8)) _ (fun W hSW => row_range (hSW)) Tryd.underlying28 rfl HI0.out) (by assumption) ?_
        try simp only [Act.put, List.setIfInBounds_toArray, List.set_cons_zero, List.set_cons_succ]
        refine wpAnyH_take (i := 17) (by simp only [List.getElem?_toArray, List.getElem?_cons_succ, List.getElem?_cons_zero]; rfl) (by kernel_rfl) (by kernel_rfl) (by kernel_rfl) (fun _ _ _ h => h) (yieldsIf_build0 (by rfl) 28 rfl (.agg (fromA ⟨#[]⟩ zeros20)) build_none) (by assumption) ?_
        try simp only [Act.put, List.setIfInBounds_toArray, List.set_cons_zero, List.set_cons_succ]
        refine wpAnyH_take (i := 18) (by simp only [List.getElem?_toArray, List.getElem?_cons_succ, List.getElem?_cons_zero]; rfl) (by kernel_rfl) (by kernel_rfl) (by kernel_rfl) (fun _ _ _ h => h) (yieldsIf_eql (by rfl) .neq 28 _ _ _ rfl (.agg (fromA ⟨#[]⟩ zeros20)) (.agg (fromA ⟨#[]⟩ zeros20)) rfl rfl (.bool false) (fun W => guard_fromn _ _ _ _ W) (fun W => neq_from_self ⟨#[]⟩ zeros20 rfl W)) (by assumption) ?_
        try simp only [Act.put, List.setIfInBounds_toArray, List.set_cons_zero, List.set_cons_succ]
        refine wpAnyH_take (i := 19) (v := ?_) (by simp only [List.getElem?_toArray, List.getElem?_cons_succ, List.getElem?_cons_zero]; rfl) (by kernel_rfl) (by kernel_rfl) (by kernel_rfl) (fun _ _ _ h => h) (Or.inl ⟨by rfl, ?_⟩) (by assumption) ?_
        rotate_left
        · intro W hSW
          go_simp
          try with_reducible rfl
        try simp only [Act.put, List.setIfInBounds_toArray, List.set_cons_zero, List.set_cons_succ]
        refine wpAnyH_take (i := 20) (v := ?_) (by simp only [List.getElem?_toArray, List.getElem?_cons_succ, List.getElem?_cons_zero]; rfl) (by kernel_rfl) (by kernel_rfl) (by kernel_rfl) (fun _ _ _ h => h) (Or.inl ⟨by rfl, ?_⟩) (by assumption) ?_
        rotate_left
        · intro W hSW
          go_simp
          try with_reducible rfl
        try simp only [Act.put, List.setIfInBounds_toArray, List.set_cons_zero, List.set_cons_succ]
        refine wpAnyH_take (i := 21) (v := ?_) (by simp only [List.getElem?_toArray, List.getElem?_cons_succ, List.getElem?_cons_zero]; rfl) (by kernel_rfl) (by kernel_rfl) (by kernel_rfl) (fun _ _ _ h => h) (Or.inl ⟨by rfl, ?_⟩) (by assumption) ?_
        rotate_left
        · intro W hSW
          go_simp
          try with_reducible rfl
        try simp only [Act.put, List.setIfInBounds_toArray, List.set_cons_zero, List.set_cons_succ]
        refine wpAnyH_take (i := 22) (v := ?_) (by simp only [List.getElem?_toArray, List.getElem?_cons_succ, List.getElem?_cons_zero]; rfl) (by kernel_rfl) (by kernel_rfl) (by kernel_rfl) (fun _ _ _ h => h) (Or.inl ⟨by rfl, ?_⟩) (by assumption) ?_
        rotate_left
        · intro W hSW
          go_simp
          try with_reducible rfl
        try simp only [Act.put, List.setIfInBounds_toArray, List.set_cons_zero, List.set_cons_succ]
        refine wpAnyH_take (i := 23) (v := ?_) (by simp only [List.getElem?_toArray, List.getElem?_cons_succ, List.getElem?_cons_zero]; rfl) (by kernel_rfl) (by kernel_rfl) (by kernel_rfl) (fun _ _ _ h => h) (Or.inl ⟨by rfl, ?_⟩) (by assumption) ?_
        rotate_left
        · intro W hSW
          go_simp
          try with_reducible rfl
        try simp only [Act.put, List.setIfInBounds_toArray, List.set_cons_zero, List.set_cons_succ]
        refine wpAnyH_take (i := 24) (v := ?_) (by simp only [List.getElem?_toArray, List.getElem?_cons_succ, List.getElem?_cons_zero]; rfl) (by kernel_rfl) (by kernel_rfl) (by kernel_rfl) (fun _ _ _ h => h) (Or.inl ⟨by rfl, ?_⟩) (by assumption) ?_
        rotate_left
        · intro W hSW
          go_simp
          try with_reducible rfl
        try simp only [Act.put, List.setIfInBounds_toArray, List.set_cons_zero, List.set_cons_succ]
        refine wpAnyH_take (i := 25) (v := undef) (by simp only [List.getElem?_toArray, List.getElem?_cons_succ, List.getElem?_cons_zero]; rfl) (by kernel_rfl) (by kernel_rfl) (by kernel_rfl) (fun _ _ _ h => h) (Or.inr ⟨by rfl, rfl⟩) (by assumption) ?_
        try simp only [Act.put, List.setIfInBounds_toArray, List.set_cons_zero, List.set_cons_succ]
        refine wpAnyH_take (i := 26) (v := undef) (by simp only [List.getElem?_toArray, List.getElem?_cons_succ, List.getElem?_cons_zero]; rfl) (by kernel_rfl) (by kernel_rfl) (by kernel_rfl) (fun _ _ _ h => h) (Or.inr ⟨by rfl, rfl⟩) (by assumption) ?_
        try simp only [Act.put, List.setIfInBounds_toArray, List.set_cons_zero, List.set_cons_succ]
        refine wpAnyH_take (i := 27) (v := undef) (by simp only [List.getElem?_toArray, List.getElem?_cons_succ, List.getElem?_cons_zero]; rfl) (by kernel_rfl) (by kernel_rfl) (by kernel_rfl) (fun _ _ _ h => h) (Or.inr ⟨by rfl, rfl⟩) (by assumption) ?_
        try simp only [Act.put, List.setIfInBounds_toArray, List.set_cons_zero, List.set_cons_succ]
        refine wpAnyH_take (i := 28) (v := undef) (by simp only [List.getElem?_toArray, List.getElem?_cons_succ, List.getElem?_cons_zero]; rfl) (by kernel_rfl) (by kernel_rfl) (by kernel_rfl) (fun _ _ _ h => h) (Or.inr ⟨by rfl, rfl⟩) (by assumption) ?_
        try simp only [Act.put, List.setIfInBounds_toArray, List.set_cons_zero, List.set_cons_succ]
        refine wpAnyH_take (i := 29) (v := undef) (by simp only [List.getElem?_toArray, List.getElem?_cons_succ, List.getElem?_cons_zero]; rfl) (by kernel_rfl) (by kernel_rfl) (by kernel_rfl) (fun _ _ _ h => h) (Or.inr ⟨by rfl, rfl⟩) (by assumption) ?_
        try simp only [Act.put, List.setIfInBounds_toArray, List.set_cons_zero, List.set_cons_succ]
        refine wpAnyH_take (i := 30) (v := undef) (by simp only [List.getElem?_toArray, List.getElem?_cons_succ, List.getElem?_cons_zero]; rfl) (by kernel_rfl) (by kernel_rfl) (by kernel_rfl) (fun _ _ _ h => h) (Or.inr ⟨by rfl, rfl⟩) (by assumption) ?_
        try simp only [Act.put, List.setIfInBounds_toArray, List.set_cons_zero, List.set_cons_succ]
        refine wpAnyH_take (i := 31) (v := undef) (by simp only [List.getElem?_toArray, List.getElem?_cons_succ, List.getElem?_cons_zero]; rfl) (by kernel_rfl) (by kernel_rfl) (by kernel_rfl) (fun _ _ _ h => h) (Or.inr ⟨by rfl, rfl⟩) (by assumption) ?_
        try simp only [Act.put, List.setIfInBounds_toArray, List.set_cons_zero, List.set_cons_succ]
        refine wpAnyH_take (i := 32) (v := undef) (by simp only [List.getElem?_toArray, List.getElem?_cons_succ, List.getElem?_cons_zero]; rfl) (by kernel_rfl) (by kernel_rfl) (by kernel_rfl) (fun _ _ _ h => h) (Or.inr ⟨by rfl, rfl⟩) (by assumption) ?_
        try simp only [Act.put, List.setIfInBounds_toArray, List.set_cons_zero, List.set_cons_succ]
        refine wpAnyH_take (i := 33) (v := undef) (by simp only [List.getElem?_toArray, List.getElem?_cons_succ, List.getElem?_cons_zero]; rfl) (by kernel_rfl) (by kernel_rfl) (by kernel_rfl) (fun _ _ _ h => h) (Or.inr ⟨by rfl, rfl⟩) (by assumption) ?_
        try simp only [Act.put, List.setIfInBounds_toArray, List.set_cons_zero, List.set_cons_succ]
        refine wpAnyH_take (i := 34) (v := undef) (by simp only [List.getElem?_toArray, List.getElem?_cons_succ, List.getElem?_cons_zero]; rfl) (by kernel_rfl) (by kernel_rfl) (by kernel_rfl) (fun _ _ _ h => h) (Or.inr ⟨by rfl, rfl⟩) (by assumption) ?_
        try simp only [Act.put, List.setIfInBounds_toArray, List.set_cons_zero, List.set_cons_succ]
        refine wpAnyH_take (i := 35) (v := ?_) (by simp only [List.getElem?_toArray, List.getElem?_cons_succ, List.getElem?_cons_zero]; rfl) (by kernel_rfl) (by kernel_rfl) (by kernel_rfl) (fun _ _ _ h => h) (Or.inl ⟨by rfl, ?_⟩) (by assumption) ?_
        rotate_left
        · intro W hSW
          go_simp
          try with_reducible rfl
        try simp only [Act.put, List.setIfInBounds_toArray, List.set_cons_zero, List.set_cons_succ]
        refine wpAnyH_take (i := 36) (v := ?_) (by simp only [List.getElem?_toArray, List.getElem?_cons_succ, List.getElem?_cons_zero]; rfl) (by kernel_rfl) (by kernel_rfl) (by kernel_rfl) (fun _ _ _ h => h) (Or.inl ⟨by rfl, ?_⟩) (by assumption) ?_
        rotate_left
        · intro W hSW
          go_simp
          try with_reducible rfl
        try simp only [Act.put, List.setIfInBounds_toArray, List.set_cons_zero, List.set_cons_succ]
        refine wpAnyH_done (by kernel_rfl) ?_ _
        refine NoPanic.normal ?_
        clear hHeld
        go_wp2_with fail
        exact ⟨⟨k + 1, by have := HK.out; omega, by rw [WK.out], HBX4.out.drew⟩, by have := HK.out; rw [WK.out]; simp [intOf]; omega⟩
      | some vpi =>
        obtain ⟨v, p2, id2⟩ := vpi
        rw [hpc] at hpo
        obtain ⟨pb1, pb2, pb3, pb4⟩ := parse_back HXB.out hpc
        obtain ⟨ya, yc, rfl, hmd⟩ := hpo
        have HPC := Lib.hid hpc
        have HY := Lib.hid (hmd.row (range_of_mem pb4))
        have HPB2 := Lib.hid pb2
        have HVN : Hid (numsOf (strOfNums v) = v) := nums_str v pb4
        clear hpc hmd pb1 pb2 pb3 pb4
        have HI2 : Hid ((Tryd.prog.info? 28).map (·.size) = some (Value.string p2 :: id2.map (Value.int .u8)).length) := by
          show _ = _
          rw [from_info p2 id2 HPB2.out, fromA_size]; simp
        have HRI2 : Hid ((Tryd.prog.info? 25).map (·.size) = some (Value.string p2 :: id2.map (Value.int .u8)).length) := by
          show _ = _
          rw [rfrom_info p2 id2 HPB2.out, fromA_size]; simp
        have HIA : Hid ((Tryd.prog.info? 28).map (·.size) = some (fromA p2 id2).size) := from_info _ _ HPB2.out
        have HIR : Hid ((Tryd.prog.info? 25).map (·.size) = some (fromA p2 id2).size) := rfrom_info _ _ HPB2.out
        have HS2 : Hid ((fromA ⟨#[]⟩ zeros20).size = (fromA p2 id2).size) := by show _ = _; rw [fromA_size, fromA_size, HPB2.out]; rfl
        have HZX : Hid ((x1.alloc (.cells (fromA ⟨#[]⟩ zeros20) 28)).heap[x1.heap.size]? = some (.cells (fromA ⟨#[]⟩ zeros20) 28 (0, 0))) := heap_alloc_new _ _
        have hb2 : Below x1.heap.size x1 ((x1.alloc (.cells (fromA ⟨#[]⟩ zeros20) 28)).setRow x1.heap.size (fromA p2 id2)) := below_setRow ((Below.refl _ _).alloc (Nat.le_refl _) _) (Nat.le_refl _) _
        have HX2 := Lib.hid (HX1.out.trans (hb2.mono HX1.out.size))
        have HBX2 := Lib.hid (HBX1.out.trans (hb2.mono HBX1.out.size))
        have HG2 := Lib.hid (setRow_heap _ _ _ (fromA p2 id2) _ _ HZX.out)
        have HY2 := Lib.hid (HY.out.below hb2)
        have htx := text_run _ sa sn sc C (HR1.out.below hb2).bytes
        generalize strOfNums C = cs at *
        clear hb2 HBX1 HX1 HY
        go_wp2_with (first
          | refine wpList_store_row rfl 28 _ _ rfl x1.heap.size (fromA p2 id2) rfl rfl 28 (fromA ⟨#[]⟩ zeros20) HZX.out HIA.out HS2.out (fromA_one _ _) ?_)
        clear HZX htx hzf
        generalize (x1.alloc (.cells (fromA ⟨#[]⟩ zeros20) 28)).setRow x1.heap.size (fromA p2 id2) = x2 at *
        refine (refParse_all cs x2 HSZ.out).mono ?_
        rintro e x3 ⟨hro, hb⟩
        rw [HCN.out, HPC.out] at hro
        obtain rfl : e = _ := hro
        have HX3 := Lib.hid (HX2.out.trans (hb.mono HX2.out.size))
        have HBX3 := Lib.hid (HBX2.out.trans (hb.mono HBX2.out.size))
        have HG3 := Lib.hid (row_stay HG2.out hb)
        have HY3 := Lib.hid (HY2.out.below hb)
        clear hb HX2 HBX2 HG2 HY2
        have HZY : Hid ((x3.alloc (.cells (fromA ⟨#[]⟩ zeros20) 25)).heap[x3.heap.size]? = some (.cells (fromA ⟨#[]⟩ zeros20) 25 (0, 0))) := heap_alloc_new _ _
        have hb4 : Below x3.heap.size x3 ((x3.alloc (.cells (fromA ⟨#[]⟩ zeros20) 25)).setRow x3.heap.size (fromA p2 id2)) := below_setRow ((Below.refl _ _).alloc (Nat.le_refl _) _) (Nat.le_refl _) _
        have HX4 := Lib.hid (HX3.out.trans (hb4.mono HX3.out.size))
        have HBX4 := Lib.hid (HBX3.out.trans (hb4.mono HBX3.out.size))
        have HG4 := Lib.hid (row_stay HG3.out hb4)
        have HH4 := Lib.hid (setRow_heap _ _ _ (fromA p2 id2) _ _ HZY.out)
        have HY4 := Lib.hid (HY3.out.below hb4)
        clear hb4 HX3 HBX3 HG3 HY3
        obtain ⟨sv, hsv⟩ : ∃ s, strOfNums v = s := ⟨_, rfl⟩
        obtain ⟨vl, hvl⟩ : ∃ l, v.length = l := ⟨_, rfl⟩
        rw [hsv]
        rw [hvl] at HY4 ⊢
        have HCV : Hid (∀ W, Below ((x3.alloc (.cells (fromA ⟨#[]⟩ zeros20) 25)).setRow x3.heap.size (fromA p2 id2)).heap.size ((x3.alloc (.cells (fromA ⟨#[]⟩ zeros20) 25)).setRow x3.heap.size (fromA p2 id2)) W → (convert 22 9 (.slice ya vl yc)).run Tryd.prog W = .ok (.string sv) W) := fun W hW => by
          rw [← hsv]; exact text_run W ya vl yc v (HY4.out.below hW).bytes
        clear hsv hvl
        go_wp2_with (first
          | refine wpList_store_row rfl 25 _ _ rfl x3.heap.size (fromA p2 id2) rfl rfl 25 (fromA ⟨#[]⟩ zeros20) HZY.out HIR.out HS2.out (fromA_one _ _) ?_)
        clear HZY hzr
        generalize (x3.alloc (.cells (fromA ⟨#[]⟩ zeros20) 25)).setRow x3.heap.size (fromA p2 id2) = x4 at *
        refine wp_region_noPanic ?_
        refine wp_region_held_drew (S := fun W => W.heap[x1.heap.size]? = some (.cells (fromA p2 id2) 28 (0, 0)) ∧ W.heap[x3.heap.size]? = some (.cells (fromA p2 id2) 25 (0, 0)) ∧ (convert 22 9 (.slice ya vl yc)).run Tryd.prog W = .ok (.string sv) W) (by kernel_rfl) ?_ (fun hHeld => ?_)
        · exact ⟨HG4.out, HH4.out, HCV.out _ ((Below.refl _ _).drew)⟩
        refine wpAnyH_take (i := 0) (v := ?_) (by simp only [List.getElem?_toArray, List.getElem?_cons_zero]; rfl) (by kernel_rfl) (by kernel_rfl) (by kernel_rfl) (fun _ _ _ h => h) (Or.inl ⟨by rfl, ?_⟩) (by assumption) ?_
        rotate_left
        · intro W hSW
          go_simp
          try with_reducible rfl
        try simp only [Act.put, List.setIfInBounds_toArray, List.set_cons_zero, List.set_cons_succ]
        refine wpAnyH_take (i := 1) (v := ?_) (by simp only [List.getElem?_toArray, List.getElem?_cons_succ, List.getElem?_cons_zero]; rfl) (by kernel_rfl) (by kernel_rfl) (by kernel_rfl) (fun _ _ _ h => h) (Or.inl ⟨by rfl, ?_⟩) (by assumption) ?_
        rotate_left
        · intro W hSW
          go_simp
          try with_reducible rfl
        try simp only [Act.put, List.setIfInBounds_toArray, List.set_cons_zero, List.set_cons_succ]
        refine wpAnyH_take (i := 2) (v := ?_) (by simp only [List.getElem?_toArray, List.getElem?_cons_succ, List.getElem?_cons_zero]; rfl) (by kernel_rfl) (by kernel_rfl) (by kernel_rfl) (fun _ _ _ h => h) (Or.inl ⟨by rfl, ?_⟩) (by assumption) ?_
        rotate_left
        · intro W hSW
          go_simp
          try with_reducible rfl
        try simp only [Act.put, List.setIfInBounds_toArray, List.set_cons_zero, List.set_cons_succ]
        refine wpAnyH_take (i := 3) (v := ?_) (by simp only [List.getElem?_toArray, List.getElem?_cons_succ, List.getElem?_cons_zero]; rfl) (by kernel_rfl) (by kernel_rfl) (by kernel_rfl) (fun _ _ _ h => h) (Or.inl ⟨by rfl, ?_⟩) (by assumption) ?_
        rotate_left
        · intro W hSW
          go_simp
          try with_reducible rfl
        try simp only [Act.put, List.setIfInBounds_toArray, List.set_cons_zero, List.set_cons_succ]
        refine wpAnyH_take (i := 4) (v := ?_) (by simp only [List.getElem?_toArray, List.getElem?_cons_succ, List.getElem?_cons_zero]; rfl) (by kernel_rfl) (by kernel_rfl) (by kernel_rfl) (fun _ _ _ h => h) (Or.inl ⟨by rfl, ?_⟩) (by assumption) ?_
        rotate_left
        · intro W hSW
          go_simp
          try with_reducible rfl
        try simp only [Act.put, List.setIfInBounds_toArray, List.set_cons_zero, List.set_cons_succ]
        refine wpAnyH_take (i := 5) (v := ?_) (by simp only [List.getElem?_toArray, List.getElem?_cons_succ, List.getElem?_cons_zero]; rfl) (by kernel_rfl) (by kernel_rfl) (by kernel_rfl) (fun _ _ _ h => h) (Or.inl ⟨by rfl, ?_⟩) (by assumption) ?_
        rotate_left
        · intro W hSW
          go_simp
          try with_reducible rfl
        try simp only [Act.put, List.setIfInBounds_toArray, List.set_cons_zero, List.set_cons_succ]
        refine wpAnyH_take (i := 6) (v := ?_) (by simp only [List.getElem?_toArray, List.getElem?_cons_succ, List.getElem?_cons_zero]; rfl) (by kernel_rfl) (by kernel_rfl) (by kernel_rfl) (fun _ _ _ h => h) (Or.inl ⟨by rfl, ?_⟩) (by assumption) ?_
        rotate_left
        · intro W hSW
          go_simp
          try with_reducible rfl
        try simp only [Act.put, List.setIfInBounds_toArray, List.set_cons_zero, List.set_cons_succ]
        refine wpAnyH_take (i := 7) (v := ?_) (by simp only [List.getElem?_toArray, List.getElem?_cons_succ, List.getElem?_cons_zero]; rfl) (by kernel_rfl) (by kernel_rfl) (by kernel_rfl) (fun _ _ _ h => h) (Or.inl ⟨by rfl, ?_⟩) (by assumption) ?_
        rotate_left
        · intro W hSW
          go_simp
          try with_reducible rfl
        try simp only [Act.put, List.setIfInBounds_toArray, List.set_cons_zero, List.set_cons_succ]
        refine wpAnyH_take (i := 8) (v := undef) (by simp only [List.getElem?_toArray, List.getElem?_cons_succ, List.getElem?_cons_zero]; rfl) (by kernel_rfl) (by kernel_rfl) (by kernel_rfl) (fun _ _ _ h => h) (Or.inr ⟨by rfl, rfl⟩) (by assumption) ?_
        try simp only [Act.put, List.setIfInBounds_toArray, List.set_cons_zero, List.set_cons_succ]
        refine wpAnyH_take (i := 9) (v := undef) (by simp only [List.getElem?_toArray, List.getElem?_cons_succ, List.getElem?_cons_zero]; rfl) (by kernel_rfl) (by kernel_rfl) (by kernel_rfl) (fun _ _ _ h => h) (Or.inr ⟨by rfl, rfl⟩) (by assumption) ?_
        try simp only [Act.put, List.setIfInBounds_toArray, List.set_cons_zero, List.set_cons_succ]
        refine wpAnyH_take (i := 10) (v := undef) (by simp only [List.getElem?_toArray, List.getElem?_cons_succ, List.getElem?_cons_zero]; rfl) (by kernel_rfl) (by kernel_rfl) (by kernel_rfl) (fun _ _ _ h => h) (Or.inr ⟨by rfl, rfl⟩) (by assumption) ?_
        try simp only [Act.put, List.setIfInBounds_toArray, List.set_cons_zero, List.set_cons_succ]
        refine wpAnyH_take (i := 11) (v := undef) (by simp only [List.getElem?_toArray, List.getElem?_cons_succ, List.getElem?_cons_zero]; rfl) (by kernel_rfl) (by kernel_rfl) (by kernel_rfl) (fun _ _ _ h => h) (Or.inr ⟨by rfl, rfl⟩) (by assumption) ?_
        try simp only [Act.put, List.setIfInBounds_toArray, List.set_cons_zero, List.set_cons_succ]
        refine wpAnyH_take (i := 12) (v := undef) (by simp only [List.getElem?_toArray, List.getElem?_cons_succ, List.getElem?_cons_zero]; rfl) (by kernel_rfl) (by kernel_rfl) (by kernel_rfl) (fun _ _ _ h => h) (Or.inr ⟨by rfl, rfl⟩) (by assumption) ?_
        try simp only [Act.put, List.setIfInBounds_toArray, List.set_cons_zero, List.set_cons_succ]
        refine wpAnyH_take (i := 13) (v := undef) (by simp only [List.getElem?_toArray, List.getElem?_cons_succ, List.getElem?_cons_zero]; rfl) (by kernel_rfl) (by kernel_rfl) (by kernel_rfl) (fun _ _ _ h => h) (Or.inr ⟨by rfl, rfl⟩) (by assumption) ?_
        try simp only [Act.put, List.setIfInBounds_toArray, List.set_cons_zero, List.set_cons_succ]
        refine wpAnyH_take (i := 14) (v := undef) (by simp only [List.getElem?_toArray, List.getElem?_cons_succ, List.getElem?_cons_zero]; rfl) (by kernel_rfl) (by kernel_rfl) (by kernel_rfl) (fun _ _ _ h => h) (Or.inr ⟨by rfl, rfl⟩) (by assumption) ?_
        try simp only [Act.put, List.setIfInBounds_toArray, List.set_cons_zero, List.set_cons_succ]
        refine wpAnyH_take (i := 15) (v := undef) (by simp only [List.getElem?_toArray, List.getElem?_cons_succ, List.getElem?_cons_zero]; rfl) (by kernel_rfl) (by kernel_rfl) (by kernel_rfl) (fun _ _ _ h => h) (Or.inr ⟨by rfl, rfl⟩) (by assumption) ?_
        try simp only [Act.put, List.setIfInBounds_toArray, List.set_cons_zero, List.set_cons_succ]
        refine wpAnyH_take (i := 16) (v := undef) (by simp only [List.getElem?_toArray, List.getElem?_cons_succ, List.getElem?_cons_zero]; rfl) (by kernel_rfl) (by kernel_rfl) (by kernel_rfl) (fun _ _ _ h => h) (Or.inr ⟨by rfl, rfl⟩) (by assumption) ?_
        try simp only [Act.put, List.setIfInBounds_toArray, List.set_cons_zero, List.set_cons_succ]
        refine wpAnyH_take (i := 17) (v := undef) (by simp only [List.getElem?_toArray, List.getElem?_cons_succ, List.getElem?_cons_zero]; rfl) (by kernel_rfl) (by kernel_rfl) (by kernel_rfl) (fun _ _ _ h => h) (Or.inr ⟨by rfl, rfl⟩) (by assumption) ?_
        try simp only [Act.put, List.setIfInBounds_toArray, List.set_cons_zero, List.set_cons_succ]
        refine wpAnyH_take (i := 18) (v := undef) (by simp only [List.getElem?_toArray, List.getElem?_cons_succ, List.getElem?_cons_zero]; rfl) (by kernel_rfl) (by kernel_rfl) (by kernel_rfl) (fun _ _ _ h => h) (Or.inr ⟨by rfl, rfl⟩) (by assumption) ?_
        try simp only [Act.put, List.setIfInBounds_toArray, List.set_cons_zero, List.set_cons_succ]
        refine wpAnyH_take (i := 19) (v := undef) (by simp only [List.getElem?_toArray, List.getElem?_cons_succ, List.getElem?_cons_zero]; rfl) (by kernel_rfl) (by kernel_rfl) (by kernel_rfl) (fun _ _ _ h => h) (Or.inr ⟨by rfl, rfl⟩) (by assumption) ?_
        try simp only [Act.put, List.setIfInBounds_toArray, List.set_cons_zero, List.set_cons_succ]
        refine wpAnyH_take (i := 20) (v := ?_) (by simp only [List.getElem?_toArray, List.getElem?_cons_succ, List.getElem?_cons_zero]; rfl) (by kernel_rfl) (by kernel_rfl) (by kernel_rfl) (fun _ _ _ h => h) (Or.inl ⟨by rfl, ?_⟩) (by assumption) ?_
        rotate_left
        · intro W hSW
          go_simp
          try with_reducible rfl
        try simp only [Act.put, List.setIfInBounds_toArray, List.set_cons_zero, List.set_cons_succ]
        refine wpAnyH_take (i := 21) (v := ?_) (by simp only [List.getElem?_toArray, List.getElem?_cons_succ, List.getElem?_cons_zero]; rfl) (by kernel_rfl) (by kernel_rfl) (by kernel_rfl) (fun _ _ _ h => h) (Or.inl ⟨by rfl, ?_⟩) (by assumption) ?_
        rotate_left
        · intro W hSW
          go_simp
          try with_reducible rfl
        try simp only [Act.put, List.setIfInBounds_toArray, List.set_cons_zero, List.set_cons_succ]
        refine wpAnyH_take (i := 22) (v := ?_) (by simp only [List.getElem?_toArray, List.getElem?_cons_succ, List.getElem?_cons_zero]; rfl) (by kernel_rfl) (by kernel_rfl) (by kernel_rfl) (fun _ _ _ h => h) (Or.inl ⟨by rfl, ?_⟩) (by assumption) ?_
        rotate_left
        · intro W hSW
          go_simp
          try with_reducible rfl
        try simp only [Act.put, List.setIfInBounds_toArray, List.set_cons_zero, List.set_cons_succ]
        refine wpAnyH_take (i := 23) (v := ?_) (by simp only [List.getElem?_toArray, List.getElem?_cons_succ, List.getElem?_cons_zero]; rfl) (by kernel_rfl) (by kernel_rfl) (by kernel_rfl) (fun _ _ _ h => h) (Or.inl ⟨by rfl, ?_⟩) (by assumption) ?_
        rotate_left
        · intro W hSW
          go_simp
          try with_reducible rfl
        try simp only [Act.put, List.setIfInBounds_toArray, List.set_cons_zero, List.set_cons_succ]
        refine wpAnyH_take (i := 24) (v := ?_) (by simp only [List.getElem?_toArray, List.getElem?_cons_succ, List.getElem?_cons_zero]; rfl) (by kernel_rfl) (by kernel_rfl) (by kernel_rfl) (fun _ _ _ h => h) (Or.inl ⟨by rfl, ?_⟩) (by assumption) ?_
        rotate_left
        · intro W hSW
          go_simp
          try with_reducible rfl
        try simp only [Act.put, List.setIfInBounds_toArray, List.set_cons_zero, List.set_cons_succ]
        refine wpAnyH_take (i := 25) (v := ?_) (by simp only [List.getElem?_toArray, List.getElem?_cons_succ, List.getElem?_cons_zero]; rfl) (by kernel_rfl) (by kernel_rfl) (by kernel_rfl) (fun _ _ _ h => h) (Or.inl ⟨by rfl, ?_⟩) (by assumption) ?_
        rotate_left
        · intro W hSW
          go_simp
          try with_reducible rfl
        try simp only [Act.put, List.setIfInBounds_toArray, List.set_cons_zero, List.set_cons_succ]
        refine wpAnyH_take (i := 26) (by simp only [List.getElem?_toArray, List.getElem?_cons_succ, List.getElem?_cons_zero]; rfl) (by kernel_rfl) (by kernel_rfl) (by kernel_rfl) (fun _ _ _ h => h) (yieldsIf_conv (by rfl) 22 9 _ rfl (.slice ya vl yc) rfl (.string sv) (fun W hSW => hSW.2.2)) (by assumption) ?_
        try simp only [Act.put, List.setIfInBounds_toArray, List.set_cons_zero, List.set_cons_succ]
        refine wpAnyH_take (i := 27) (v := ?_) (by simp only [List.getElem?_toArray, List.getElem?_cons_succ, List.getElem?_cons_zero]; rfl) (by kernel_rfl) (by kernel_rfl) (by kernel_rfl) (fun _ _ _ h => h) (Or.inl ⟨by rfl, ?_⟩) (by assumption) ?_
        rotate_left
        · intro W hSW
          go_simp
          try with_reducible rfl
        try simp only [Act.put, List.setIfInBounds_toArray, List.set_cons_zero, List.set_cons_succ]
        refine wpAnyH_take (i := 28) (by simp only [List.getElem?_toArray, List.getElem?_cons_succ, List.getElem?_cons_zero]; rfl) (by kernel_rfl) (by kernel_rfl) (by kernel_rfl) (fun _ _ _ h => h) (yieldsIf_eql (by rfl) .neq 9 _ _ _ rfl (.string sv) (.string sv) rfl rfl (.bool false) (fun W => guard_strn _ _ _ _ W) (fun W => neq_self sv W)) (by assumption) ?_
        try simp only [Act.put, List.setIfInBounds_toArray, List.set_cons_zero, List.set_cons_succ]
        refine wpAnyH_take (i := 29) (v := ?_) (by simp only [List.getElem?_toArray, List.getElem?_cons_succ, List.getElem?_cons_zero]; rfl) (by kernel_rfl) (by kernel_rfl) (by kernel_rfl) (fun _ _ _ h => h) (Or.inl ⟨by rfl, ?_⟩) (by assumption) ?_
        rotate_left
        · intro W hSW
          go_simp
          try with_reducible rfl
        try simp only [Act.put, List.setIfInBounds_toArray, List.set_cons_zero, List.set_cons_succ]
        refine wpAnyH_take (i := 30) (by simp only [List.getElem?_toArray, List.getElem?_cons_succ, List.getElem?_cons_zero]; rfl) (by kernel_rfl) (by kernel_rfl) (by kernel_rfl) (fun _ _ _ h => h) (yieldsIf_load_mid (by rfl) 28 _ rfl x1.heap.size 0 rfl (Value.string p2 :: id2.map (Value.int .u8)) _ (fun W hSW => row_range (hSW.1)) Tryd.underlying28 rfl HI2.out) (by assumption) ?_
        try simp only [Act.put, List.setIfInBounds_toArray, List.set_cons_zero, List.set_cons_succ]
        refine wpAnyH_take (i := 32) (by simp only [List.getElem?_toArray, List.getElem?_cons_succ, List.getElem?_cons_zero]; rfl) (by kernel_rfl) (by kernel_rfl) (by kernel_rfl) (fun _ _ _ h => h) (yieldsIf_load_mid (by rfl) 25 _ rfl x3.heap.size 0 rfl (Value.string p2 :: id2.map (Value.int .u8)) _ (fun W hSW => row_range (hSW.2.1)) Tryd.underlying25 rfl HRI2.out) (by assumption) ?_
        try simp only [Act.put, List.setIfInBounds_toArray, List.set_cons_zero, List.set_cons_succ]
        refine wpAnyH_ready (rs := [31]) (by kernel_rfl) (by simp) ?_
        refine AllReadyH.cons (by simp only [List.getElem?_toArray, List.getElem?_cons_succ, List.getElem?_cons_zero]; rfl) (fun K hK => ?_) AllReadyH.nil
        go_simp
        refine (of_any p2 id2 _ HPB2.out).mono ?_
        rintro e x5 ⟨rfl, hb⟩
        have hb5 : Below x4.heap.size x4 x5 := (Below.refl _ _).drew.trans hb
        have HX5 := Lib.hid (HX4.out.trans (hb5.mono HX4.out.size))
        have HBX5 := Lib.hid (HBX4.out.trans (hb5.mono HBX4.out.size))
        have HG5 := Lib.hid (row_stay HG4.out hb5)
        have HH5 := Lib.hid (row_stay HH4.out hb5)
        have HC5 := Lib.hid (HCV.out _ hb5)
        clear hb hb5
        go_wp2_with fail
        refine hK.out _ _ (⟨HG5.out, HH5.out, HC5.out⟩) (fun hHeld2 => ?_)
        clear hK K hHeld
        have hHeld := hHeld2
        clear hHeld2
        try simp only [Act.put, List.setIfInBounds_toArray, List.set_cons_zero, List.set_cons_succ]
        refine wpAnyH_take (i := 33) (by simp only [List.getElem?_toArray, List.getElem?_cons_succ, List.getElem?_cons_zero]; rfl) (by kernel_rfl) (by kernel_rfl) (by kernel_rfl) (fun _ _ _ h => h) (yieldsIf_eql (by rfl) .neq 25 _ _ _ rfl (.agg (fromA p2 id2)) (.agg (fromA p2 id2)) rfl rfl (.bool false) (fun W => rguard_fromn _ _ _ _ W) (fun W => rneq_self p2 id2 HPB2.out W)) (by assumption) ?_
        try simp only [Act.put, List.setIfInBounds_toArray, List.set_cons_zero, List.set_cons_succ]
        refine wpAnyH_take (i := 34) (v := ?_) (by simp only [List.getElem?_toArray, List.getElem?_cons_succ, List.getElem?_cons_zero]; rfl) (by kernel_rfl) (by kernel_rfl) (by kernel_rfl) (fun _ _ _ h => h) (Or.inl ⟨by rfl, ?_⟩) (by assumption) ?_
        rotate_left
        · intro W hSW
          go_simp
          try with_reducible rfl
        try simp only [Act.put, List.setIfInBounds_toArray, List.set_cons_zero, List.set_cons_succ]
        refine wpAnyH_take (i := 35) (v := ?_) (by simp only [List.getElem?_toArray, List.getElem?_cons_succ, List.getElem?_cons_zero]; rfl) (by kernel_rfl) (by kernel_rfl) (by kernel_rfl) (fun _ _ _ h => h) (Or.inl ⟨by rfl, ?_⟩) (by assumption) ?_
        rotate_left
        · intro W hSW
          go_simp
          try with_reducible rfl
        try simp only [Act.put, List.setIfInBounds_toArray, List.set_cons_zero, List.set_cons_succ]
        refine wpAnyH_take (i := 36) (v := ?_) (by simp only [List.getElem?_toArray, List.getElem?_cons_succ, List.getElem?_cons_zero]; rfl) (by kernel_rfl) (by kernel_rfl) (by kernel_rfl) (fun _ _ _ h => h) (Or.inl ⟨by rfl, ?_⟩) (by assumption) ?_
        rotate_left
        · intro W hSW
          go_simp
          try with_reducible rfl
        try simp only [Act.put, List.setIfInBounds_toArray, List.set_cons_zero, List.set_cons_succ]
        refine wpAnyH_done (by kernel_rfl) ?_ _
        refine NoPanic.normal ?_
        clear hHeld
        go_wp2_with fail
        exact ⟨⟨k + 1, by have := HK.out; omega, by rw [WK.out], HBX5.out⟩, by have := HK.out; rw [WK.out]; simp [intOf]; omega⟩
    · have hki : ¬ (k : Int) < 3 := by omega
      go_wp2_with fail
      refine (known_any wr (HE.out.below HW.out)).mono ?_
      rintro e x9 ⟨rfl, hb⟩
      have HX9 := Lib.hid (HW.out.trans (hb.mono HW.out.size))
      clear hb
      go_wp2_with fail
      go_ret
      exact ⟨rfl, HX9.out⟩
end Go.Proofs.YtmkhnlfhbiabcaaDoor
