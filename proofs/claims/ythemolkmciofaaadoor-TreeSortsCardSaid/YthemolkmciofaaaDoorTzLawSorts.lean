/- TreeSorts: the walk. -/
import Derived.Test.YthemolkmciofaaaDoorTzEq
namespace Go.Proofs.YthemolkmciofaaaDoor
open Go.RowKit Plain Go.ChangeShapes Go.WideShapes Go.ChangeAt Go.Great
set_option linter.unusedVariables false
set_option linter.unusedSimpArgs false
theorem yieldsIf_slice_from {P : Program} {ops : Array Oper} {S : World → Prop} {op : Oper} {a : Act} (hw : Region.wanted op (yielded ops a.tmps) = true) (ty : TypeId) (x lo : Operand) (ho : op.op = .slice ty x (some lo) none none)
    (u ul : Value) (h1 : a.eval x = u) (h2 : a.eval lo = ul) (v : Value) (hr : ∀ W, (Instr.sliceAt ty u (some ul) none none).run P W = .ok v W) : YieldsIf P ops S op v a := by
  refine .inl ⟨hw, fun W hS => ?_⟩
  unfold execOp
  simp [ho, h1, h2, hr]
theorem mrg_swap {α : Type} {lt : α → α → Bool} (D U : List α) (h : ∀ t ∈ U, ∀ d ∈ D, lt t d = true) : mrg lt D U = U ++ D := by
  have := mrg_split (lt := lt) [] U D [] h (fun x hx => by cases hx)
  simpa [mrg_nil_left, mrg_nil_right] using this
theorem right_lt {ys : List TE} (h : rightT ys = true) (k : Nat) : ∀ t ∈ ys.take k, ∀ d ∈ ys.drop k, ltT t d = true := by
  have hp := ((rightT_pairs ys).1 h).2
  rw [← List.take_append_drop k ys] at hp
  exact fun t ht d hd => ((List.pairwise_append.1 hp).2.2 t ht d hd).2
theorem right_srt {ys : List TE} (h : rightT ys = true) : Srt ltT ys := List.Pairwise.imp (fun h => ltT_swo.asym h.2) ((rightT_pairs ys).1 h).2
theorem turned_sort {ys : List TE} (h : rightT ys = true) (k : Nat) : sortS ltT (ys.drop k ++ ys.take k) = ys := by
  have hs := right_srt h
  rw [sortS_app ltT_swo _ _ _ rfl, sortS_of ltT_swo _ _ rfl (List.Pairwise.drop hs), sortS_of ltT_swo _ _ rfl (List.Pairwise.take hs), mrg_swap _ _ (right_lt h k), List.take_append_drop]
theorem turned_wrong {ys : List TE} (h : rightT ys = true) (k : Nat) (hk0 : 0 < k) (hk : k < ys.length) : rightT (ys.drop k ++ ys.take k) = false := by
  cases hr : rightT (ys.drop k ++ ys.take k) with
  | false => rfl
  | true =>
    have hp := ((rightT_pairs _).1 hr).2
    have h1 : ys[0]'(by omega) ∈ ys.take k := List.mem_take_iff_getElem.2 ⟨0, by omega, rfl⟩
    have h2 : ys[k]'hk ∈ ys.drop k := List.mem_drop_iff_getElem.2 ⟨0, by omega, by simp⟩
    have e1 := ((List.pairwise_append.1 hp).2.2 _ h2 _ h1).2
    have e2 := right_lt h k _ h1 _ h2
    have e3 := ltT_swo.asym e2
    rw [show ltT (ys[k]'hk) (ys[0]'(by omega)) = true from e1] at e3
    cases e3
set_option maxRecDepth 100000 in
set_option maxHeartbeats 64000000 in
theorem lawtsorts_any (a : Option Addr) (c : Nat) (xs : List TE) (at_ : Int) (w : World) (hE : Env w) (h : EsAt w a xs) (hn : xs.length ≤ 9223372036854775807) (hg : ∀ x ∈ xs, GoodE x) :
    Calls Tryd.prog 3 #[.slice a xs.length c, .int .i64 at_] w fun e w' => e = .returned (.bool true) ∧ Below w.heap.size w w' := by
  have HE := Lib.hid hE
  obtain ⟨ys, hys⟩ : ∃ ys, (xs.take 60).map fewE = ys := ⟨_, rfl⟩
  have HYG : Hid (∀ y ∈ ys, GoodE y) := fun y hy => by
    rw [← hys] at hy
    obtain ⟨x, hx, rfl⟩ := List.mem_map.1 hy
    exact hg x (List.mem_of_mem_take hx)
  have HYP : Hid (∀ y ∈ ys, y.p.size ≤ 100000) := fun y hy => by
    rw [← hys] at hy
    obtain ⟨x, hx, rfl⟩ := List.mem_map.1 hy
    exact few_small x
  have HFEW0 := fun W (hW : Below w.heap.size w W) => few_any a c xs W (h.below hW) hn
  simp only [hys] at HFEW0
  obtain ⟨n, hyn⟩ : ∃ n, ys.length = n := ⟨_, rfl⟩
  have HN := Lib.hid hyn
  have HNB : Hid (n ≤ 60) := by
    show _ ≤ _
    rw [← hyn, ← hys, List.length_map, List.length_take]; omega
  obtain ⟨xn, hxn⟩ : ∃ n, xs.length = n := ⟨_, rfl⟩
  simp only [hxn] at HFEW0
  rw [hxn]
  have HFEW := Lib.hid HFEW0
  clear hys hyn hxn h hg hn hE HFEW0
  obtain ⟨S, hS⟩ : ∃ S, sortS ltT ys = S := ⟨_, rfl⟩
  have HSN : Hid (S.length = n) := by show _ = _; rw [← hS, sortS_len, HN.out]
  have HSRT : Hid (Srt ltT S) := by rw [← hS]; exact sortS_sorted ltT_swo _ _ rfl
  have HSP : Hid (∀ y ∈ S, y.p.size ≤ 100000) := fun y hy => by
    rw [← hS] at hy
    exact HYP.out y ((sortS_perm _ _ rfl).mem_iff.1 hy)
  have HCNT : Hid (∀ z, cntT z S = cntT z ys) := fun z => by rw [← hS]; exact cnt_sort z ys
  have HSE := Lib.hid hS
  clear hS
  go_enter Tryd.func3, Tryd.ntmps3
  go_wp2_with fail
  refine (HFEW.out w (Below.refl _ _)).mono ?_
  rintro e v1 ⟨⟨v, rfl, ho⟩, hb⟩
  have HV1 := Lib.hid hb
  obtain ⟨la, lc, rfl, hat, hlc, hnc⟩ := ho.at
  have HNC := Lib.hid hnc
  have HA1 := Lib.hid hat
  rw [HN.out] at hlc
  have HLC := Lib.hid hlc
  clear hat ho hb HFEW hnc hlc
  rw [HN.out]
  go_wp2_with fail
  refine (tsort_n n ys HN.out (by have := HNB.out; omega) la lc HNC.out v1 HA1.out HYP.out).mono ?_
  rintro e v2 ⟨⟨v, rfl, ho⟩, hb⟩
  rw [HSE.out] at ho
  have HV2 := Lib.hid (HV1.out.trans (hb.mono HV1.out.size))
  have HA2 := Lib.hid (HA1.out.below hb)
  obtain ⟨sa, sc, rfl, hat, -, -⟩ := ho.at
  have HS2 := Lib.hid hat
  rw [HSN.out]
  clear hat ho hb HA1 HV1
  go_wp2_with fail
  refine (known_any v2 (HE.out.below HV2.out)).mono ?_
  rintro e v3 ⟨rfl, hb⟩
  have HV3 := Lib.hid (HV2.out.trans (hb.mono HV2.out.size))
  have HCY : Hid (∀ W, Below v3.heap.size v3 W → EsAt W la ys) := fun W hW => (HA2.out.below hb).below hW
  have HCS : Hid (∀ W, Below v3.heap.size v3 W → EsAt W sa S) := fun W hW => (HS2.out.below hb).below hW
  clear hb HV2 HA2 HS2
  go_wp2_with fail
  go_loopw [7, 8, 9, 10] (fun iv _ _ _ wr => ∃ i : Nat, iv = .int .i64 (i : Int) ∧ i ≤ n ∧ Below v3.heap.size v3 wr) (fun iv _ _ _ _ => n - (intOf iv).toNat)
  case atStart => exact ⟨0, rfl, Nat.zero_le _, Below.refl _ _⟩
  case round =>
    obtain ⟨i, rfl, hin, hbl⟩ := hrel
    have HB0 := Lib.hid hbl
    by_cases hi : i < n
    · have hii : (i : Int) < (n : Int) := by omega
      obtain ⟨b, off, z, rfl, hz, hz20, hbz, hrz⟩ := (HCY.out wr hbl).at (show i < ys.length by rw [HN.out]; exact hi)
      obtain ⟨bs, os, z2, rfl, -, -, hbs, -⟩ := (HCS.out wr hbl).at (show i < S.length by rw [HSN.out]; exact hi)
      have Hz : Hid (z.n.length = 20) := hz20
      have HRZ := Lib.hid hrz
      have HBZ := Lib.hid hbz
      have HBS := Lib.hid hbs
      have HIN : Hid (i < n ∧ n ≤ 60) := ⟨hi, HNB.out⟩
      have WI := Lib.hid (next_int i (by have := HIN.out; omega))
      have hi0 : (0 : Int) ≤ (i : Int) := Int.natCast_nonneg i
      have HSW : Hid (∀ W, Below wr.heap.size wr W → EsAt W (some ⟨bs, os, none⟩) S) := fun W hW => HCS.out W (HB0.out.trans (hW.mono HB0.out.size))
      have HYW : Hid (∀ W, Below wr.heap.size wr W → EsAt W (some ⟨b, off, none⟩) ys) := fun W hW => HCY.out W (HB0.out.trans (hW.mono HB0.out.size))
      clear hi hin hbl hz hz20 hbz hrz hbs
      go_wp2_with fail
      go_loopw [8, 9, 10] (fun nv mv kv wq => ∃ k cn cm : Nat, kv = .int .i64 (k : Int) ∧ nv = .int .i64 (cn : Int) ∧ mv = .int .i64 (cm : Int) ∧ k ≤ n ∧ cn = cntT z (ys.take k) ∧ cm = cntT z (S.take k) ∧ Below wr.heap.size wr wq) (fun _ _ kv _ => n - (intOf kv).toNat)
      case atStart => exact ⟨0, 0, 0, rfl, rfl, rfl, Nat.zero_le _, rfl, rfl, Below.refl _ _⟩
      case round =>
        rename World => wq
        obtain ⟨k, cn, cm, rfl, rfl, rfl, hkn, hcn, hcm, hbq⟩ := hrel
        have HBQ := Lib.hid hbq
        by_cases hk : k < n
        · have hki : (k : Int) < (n : Int) := by omega
          have hk0 : (0 : Int) ≤ (k : Int) := Int.natCast_nonneg k
          have HKN : Hid (k + 1 ≤ n) := hk
          have HCN : Hid (cntT z (ys.take k) = cn) := hcn.symm
          have HCM : Hid (cntT z (S.take k) = cm) := hcm.symm
          have HCL : Hid (cn ≤ 60 ∧ cm ≤ 60) := by
            have h1 := cntT_le z (ys.take k)
            have h2 := cntT_le z (S.take k)
            rw [List.length_take] at h1 h2
            have := HNB.out
            exact ⟨by omega, by omega⟩
          obtain ⟨b', off', x, e, hx, hx20, -, hrx⟩ := (HYW.out wq hbq).at (show k < ys.length by rw [HN.out]; exact hk)
          simp only [Option.some.injEq, Addr.mk.injEq] at e
          obtain ⟨rfl, rfl, -⟩ := e
          obtain ⟨b', off', y, e, hy, hy20, hbs2, hry⟩ := (HSW.out wq hbq).at (show k < S.length by rw [HSN.out]; exact hk)
          simp only [Option.some.injEq, Addr.mk.injEq] at e
          obtain ⟨rfl, rfl, -⟩ := e
          have HXX := Lib.hid hx
          have HYY := Lib.hid hy
          have Hx : Hid (x.n.length = 20) := hx20
          have Hy : Hid (y.n.length = 20) := hy20
          have HRx : Hid (wq.drew.rangeAt b (off + k * 22) (entL x)) := hrx
          have HRy : Hid (wq.drew.rangeAt bs (os + k * 22) (entL y)) := hry
          have HBs : Hid (bs < wq.drew.heap.size) := hbs2
          have HRz : Hid (wq.drew.rangeAt b (off + i * 22) (entL z)) := range_below HRZ.out HBQ.out.drew HBZ.out
          have HBz : Hid (b < wq.drew.heap.size) := Nat.lt_of_lt_of_le HBZ.out HBQ.out.drew.size
          have WK := Lib.hid (next_int k (by have := HKN.out; have := HNB.out; omega))
          have WN := Lib.hid (next_int cn (by have := HCL.out; omega))
          have WM := Lib.hid (next_int cm (by have := HCL.out; omega))
          clear hx hy hx20 hy20 hrx hry hbs2 hk hkn hcn hcm hbq
          go_wp2_with fail
          refine wp_region_noPanic ?_
          refine wp_region_held_drew (S := fun W => W.rangeAt b (off + k * 22) (entL x) ∧ W.rangeAt b (off + i * 22) (entL z)) (by kernel_rfl) ?_ (fun hHeld => ?_)
          · exact ⟨HRx.out, HRz.out⟩
          refine wpAnyH_take (i := 0) (v := ?_) (by simp only [List.getElem?_toArray, List.getElem?_cons_zero]; rfl) (by kernel_rfl) (by kernel_rfl) (by kernel_rfl) (fun _ _ _ h => h) (Or.inl ⟨by rfl, ?_⟩) (by assumption) ?_
          rotate_left
          · intro W hSW
            go_simp
            try with_reducible rfl
          try simp only [Act.put, List.setIfInBounds_toArray, List.set_cons_zero, List.set_cons_succ]
          refine wpAnyH_take (i := 1) (v := ?_) (by simp only [List.getElem?_toArray, List.getElem?_cons_succ, List.getElem?_cons_zero]; rfl) (by kernel_rfl) (by kernel_rfl) (by kernel_rfl) (fun _ _ _ h => h) (Or.inl ⟨by rfl, ?_⟩) (by assumption) ?_
          rotate_left
          · intro W hSW
            go_simp
            try with_reducible rfl
          try simp only [Act.put, List.setIfInBounds_toArray, List.set_cons_zero, List.set_cons_succ]
          refine wpAnyH_take (i := 2) (v := ?_) (by simp only [List.getElem?_toArray, List.getElem?_cons_succ, List.getElem?_cons_zero]; rfl) (by kernel_rfl) (by kernel_rfl) (by kernel_rfl) (fun _ _ _ h => h) (Or.inl ⟨by rfl, ?_⟩) (by assumption) ?_
          rotate_left
          · intro W hSW
            go_simp
            try with_reducible rfl
          try simp only [Act.put, List.setIfInBounds_toArray, List.set_cons_zero, List.set_cons_succ]
          refine wpAnyH_take (i := 3) (by simp only [List.getElem?_toArray, List.getElem?_cons_succ, List.getElem?_cons_zero]; rfl) (by kernel_rfl) (by kernel_rfl) (by kernel_rfl) (fun _ _ _ h => h) (yieldsIf_load_mid (by rfl) 30 _ rfl b (off + k * 22) rfl (entL x) _ (fun W h => h.1) Tryd.underlying30 rfl (ent_infoL x Hx.out)) (by assumption) ?_
          try simp only [Act.put, List.setIfInBounds_toArray, List.set_cons_zero, List.set_cons_succ]
          refine wpAnyH_take (i := 4) (v := ?_) (by simp only [List.getElem?_toArray, List.getElem?_cons_succ, List.getElem?_cons_zero]; rfl) (by kernel_rfl) (by kernel_rfl) (by kernel_rfl) (fun _ _ _ h => h) (Or.inl ⟨by rfl, ?_⟩) (by assumption) ?_
          rotate_left
          · intro W hSW
            go_simp
            try with_reducible rfl
          try simp only [Act.put, List.setIfInBounds_toArray, List.set_cons_zero, List.set_cons_succ]
          refine wpAnyH_take (i := 5) (v := ?_) (by simp only [List.getElem?_toArray, List.getElem?_cons_succ, List.getElem?_cons_zero]; rfl) (by kernel_rfl) (by kernel_rfl) (by kernel_rfl) (fun _ _ _ h => h) (Or.inl ⟨by rfl, ?_⟩) (by assumption) ?_
          rotate_left
          · intro W hSW
            go_simp
            try with_reducible rfl
          try simp only [Act.put, List.setIfInBounds_toArray, List.set_cons_zero, List.set_cons_succ]
          refine wpAnyH_take (i := 6) (v := ?_) (by simp only [List.getElem?_toArray, List.getElem?_cons_succ, List.getElem?_cons_zero]; rfl) (by kernel_rfl) (by kernel_rfl) (by kernel_rfl) (fun _ _ _ h => h) (Or.inl ⟨by rfl, ?_⟩) (by assumption) ?_
          rotate_left
          · intro W hSW
            go_simp
            try with_reducible rfl
          try simp only [Act.put, List.setIfInBounds_toArray, List.set_cons_zero, List.set_cons_succ]
          refine wpAnyH_take (i := 7) (by simp only [List.getElem?_toArray, List.getElem?_cons_succ, List.getElem?_cons_zero]; rfl) (by kernel_rfl) (by kernel_rfl) (by kernel_rfl) (fun _ _ _ h => h) (yieldsIf_load_mid (by rfl) 30 _ rfl b (off + i * 22) rfl (entL z) _ (fun W h => h.2) Tryd.underlying30 rfl (ent_infoL z Hz.out)) (by assumption) ?_
          try simp only [Act.put, List.setIfInBounds_toArray, List.set_cons_zero, List.set_cons_succ]
          refine wpAnyH_take (i := 8) (by simp only [List.getElem?_toArray, List.getElem?_cons_succ, List.getElem?_cons_zero]; rfl) (by kernel_rfl) (by kernel_rfl) (by kernel_rfl) (fun _ _ _ h => h) (yieldsIf_eql (by rfl) .eql 30 _ _ _ rfl (.agg (entA x)) (.agg (entA z)) rfl rfl (.bool (eqT x z)) (fun W => guard_eql _ _ _ _ W) (fun W => eql_ent x z Hx.out Hz.out W)) (by assumption) ?_
          try simp only [Act.put, List.setIfInBounds_toArray, List.set_cons_zero, List.set_cons_succ]
          refine wpAnyH_done (by kernel_rfl) ?_ _
          refine NoPanic.normal ?_
          clear hHeld
          cases h1 : eqT x z
          · have HE1 : Hid (cntT z (ys.take (k + 1)) = cn) := by show _ = _; rw [cnt_snoc HXX.out, h1, HCN.out]; rfl
            clear h1
            go_wp2_with fail
            refine wp_region_noPanic ?_
            refine wp_region_held_drew (S := fun W => W.rangeAt bs (os + k * 22) (entL y) ∧ W.rangeAt b (off + i * 22) (entL z)) (by kernel_rfl) ?_ (fun hHeld => ?_)
            · exact ⟨range_below HRy.out (Below.refl _ _).drew HBs.out, range_below HRz.out (Below.refl _ _).drew HBz.out⟩
            refine wpAnyH_take (i := 0) (v := ?_) (by simp only [List.getElem?_toArray, List.getElem?_cons_zero]; rfl) (by kernel_rfl) (by kernel_rfl) (by kernel_rfl) (fun _ _ _ h => h) (Or.inl ⟨by rfl, ?_⟩) (by assumption) ?_
            rotate_left
            · intro W hSW
              go_simp
              try with_reducible rfl
            try simp only [Act.put, List.setIfInBounds_toArray, List.set_cons_zero, List.set_cons_succ]
            refine wpAnyH_take (i := 1) (v := ?_) (by simp only [List.getElem?_toArray, List.getElem?_cons_succ, List.getElem?_cons_zero]; rfl) (by kernel_rfl) (by kernel_rfl) (by kernel_rfl) (fun _ _ _ h => h) (Or.inl ⟨by rfl, ?_⟩) (by assumption) ?_
            rotate_left
            · intro W hSW
              go_simp
              try with_reducible rfl
            try simp only [Act.put, List.setIfInBounds_toArray, List.set_cons_zero, List.set_cons_succ]
            refine wpAnyH_take (i := 2) (v := ?_) (by simp only [List.getElem?_toArray, List.getElem?_cons_succ, List.getElem?_cons_zero]; rfl) (by kernel_rfl) (by kernel_rfl) (by kernel_rfl) (fun _ _ _ h => h) (Or.inl ⟨by rfl, ?_⟩) (by assumption) ?_
            rotate_left
            · intro W hSW
              go_simp
              try with_reducible rfl
            try simp only [Act.put, List.setIfInBounds_toArray, List.set_cons_zero, List.set_cons_succ]
            refine wpAnyH_take (i := 3) (by simp only [List.getElem?_toArray, List.getElem?_cons_succ, List.getElem?_cons_zero]; rfl) (by kernel_rfl) (by kernel_rfl) (by kernel_rfl) (fun _ _ _ h => h) (yieldsIf_load_mid (by rfl) 30 _ rfl bs (os + k * 22) rfl (entL y) _ (fun W h => h.1) Tryd.underlying30 rfl (ent_infoL y Hy.out)) (by assumption) ?_
            try simp only [Act.put, List.setIfInBounds_toArray, List.set_cons_zero, List.set_cons_succ]
            refine wpAnyH_take (i := 4) (v := ?_) (by simp only [List.getElem?_toArray, List.getElem?_cons_succ, List.getElem?_cons_zero]; rfl) (by kernel_rfl) (by kernel_rfl) (by kernel_rfl) (fun _ _ _ h => h) (Or.inl ⟨by rfl, ?_⟩) (by assumption) ?_
            rotate_left
            · intro W hSW
              go_simp
              try with_reducible rfl
            try simp only [Act.put, List.setIfInBounds_toArray, List.set_cons_zero, List.set_cons_succ]
            refine wpAnyH_take (i := 5) (v := ?_) (by simp only [List.getElem?_toArray, List.getElem?_cons_succ, List.getElem?_cons_zero]; rfl) (by kernel_rfl) (by kernel_rfl) (by kernel_rfl) (fun _ _ _ h => h) (Or.inl ⟨by rfl, ?_⟩) (by assumption) ?_
            rotate_left
            · intro W hSW
              go_simp
              try with_reducible rfl
            try simp only [Act.put, List.setIfInBounds_toArray, List.set_cons_zero, List.set_cons_succ]
            refine wpAnyH_take (i := 6) (v := ?_) (by simp only [List.getElem?_toArray, List.getElem?_cons_succ, List.getElem?_cons_zero]; rfl) (by kernel_rfl) (by kernel_rfl) (by kernel_rfl) (fun _ _ _ h => h) (Or.inl ⟨by rfl, ?_⟩) (by assumption) ?_
            rotate_left
            · intro W hSW
              go_simp
              try with_reducible rfl
            try simp only [Act.put, List.setIfInBounds_toArray, List.set_cons_zero, List.set_cons_succ]
            refine wpAnyH_take (i := 7) (by simp only [List.getElem?_toArray, List.getElem?_cons_succ, List.getElem?_cons_zero]; rfl) (by kernel_rfl) (by kernel_rfl) (by kernel_rfl) (fun _ _ _ h => h) (yieldsIf_load_mid (by rfl) 30 _ rfl b (off + i * 22) rfl (entL z) _ (fun W h => h.2) Tryd.underlying30 rfl (ent_infoL z Hz.out)) (by assumption) ?_
            try simp only [Act.put, List.setIfInBounds_toArray, List.set_cons_zero, List.set_cons_succ]
            refine wpAnyH_take (i := 8) (by simp only [List.getElem?_toArray, List.getElem?_cons_succ, List.getElem?_cons_zero]; rfl) (by kernel_rfl) (by kernel_rfl) (by kernel_rfl) (fun _ _ _ h => h) (yieldsIf_eql (by rfl) .eql 30 _ _ _ rfl (.agg (entA y)) (.agg (entA z)) rfl rfl (.bool (eqT y z)) (fun W => guard_eql _ _ _ _ W) (fun W => eql_ent y z Hy.out Hz.out W)) (by assumption) ?_
            try simp only [Act.put, List.setIfInBounds_toArray, List.set_cons_zero, List.set_cons_succ]
            refine wpAnyH_done (by kernel_rfl) ?_ _
            refine NoPanic.normal ?_
            clear hHeld
            cases h2 : eqT y z
            · have HE2 : Hid (cntT z (S.take (k + 1)) = cm) := by show _ = _; rw [cnt_snoc HYY.out, h2, HCM.out]; rfl
              clear h2
              go_wp2_with fail
              exact ⟨⟨k + 1, cn, cm, by first | rw [WK.out _ rfl] | rfl, rfl, rfl, HKN.out, HE1.out.symm, HE2.out.symm, HBQ.out.drew.drew⟩, by have := HKN.out; (first | rw [WK.out _ rfl] | skip); simp [intOf]; omega⟩
            · have HE2 : Hid (cntT z (S.take (k + 1)) = cm + 1) := by show _ = _; rw [cnt_snoc HYY.out, h2, HCM.out]; rfl
              clear h2
              go_wp2_with fail
              exact ⟨⟨k + 1, cn, cm + 1, by first | rw [WK.out _ rfl] | rfl, rfl, by first | rw [WM.out _ rfl] | rfl, HKN.out, HE1.out.symm, HE2.out.symm, HBQ.out.drew.drew⟩, by have := HKN.out; (first | rw [WK.out _ rfl] | skip); simp [intOf]; omega⟩
          · have HE1 : Hid (cntT z (ys.take (k + 1)) = cn + 1) := by show _ = _; rw [cnt_snoc HXX.out, h1, HCN.out]; rfl
            clear h1
            go_wp2_with fail
            refine wp_region_noPanic ?_
            refine wp_region_held_drew (S := fun W => W.rangeAt bs (os + k * 22) (entL y) ∧ W.rangeAt b (off + i * 22) (entL z)) (by kernel_rfl) ?_ (fun hHeld => ?_)
            · exact ⟨range_below HRy.out (Below.refl _ _).drew HBs.out, range_below HRz.out (Below.refl _ _).drew HBz.out⟩
            refine wpAnyH_take (i := 0) (v := ?_) (by simp only [List.getElem?_toArray, List.getElem?_cons_zero]; rfl) (by kernel_rfl) (by kernel_rfl) (by kernel_rfl) (fun _ _ _ h => h) (Or.inl ⟨by rfl, ?_⟩) (by assumption) ?_
            rotate_left
            · intro W hSW
              go_simp
              try with_reducible rfl
            try simp only [Act.put, List.setIfInBounds_toArray, List.set_cons_zero, List.set_cons_succ]
            refine wpAnyH_take (i := 1) (v := ?_) (by simp only [List.getElem?_toArray, List.getElem?_cons_succ, List.getElem?_cons_zero]; rfl) (by kernel_rfl) (by kernel_rfl) (by kernel_rfl) (fun _ _ _ h => h) (Or.inl ⟨by rfl, ?_⟩) (by assumption) ?_
            rotate_left
            · intro W hSW
              go_simp
              try with_reducible rfl
            try simp only [Act.put, List.setIfInBounds_toArray, List.set_cons_zero, List.set_cons_succ]
            refine wpAnyH_take (i := 2) (v := ?_) (by simp only [List.getElem?_toArray, List.getElem?_cons_succ, List.getElem?_cons_zero]; rfl) (by kernel_rfl) (by kernel_rfl) (by kernel_rfl) (fun _ _ _ h => h) (Or.inl ⟨by rfl, ?_⟩) (by assumption) ?_
            rotate_left
            · intro W hSW
              go_simp
              try with_reducible rfl
            try simp only [Act.put, List.setIfInBounds_toArray, List.set_cons_zero, List.set_cons_succ]
            refine wpAnyH_take (i := 3) (by simp only [List.getElem?_toArray, List.getElem?_cons_succ, List.getElem?_cons_zero]; rfl) (by kernel_rfl) (by kernel_rfl) (by kernel_rfl) (fun _ _ _ h => h) (yieldsIf_load_mid (by rfl) 30 _ rfl bs (os + k * 22) rfl (entL y) _ (fun W h => h.1) Tryd.underlying30 rfl (ent_infoL y Hy.out)) (by assumption) ?_
            try simp only [Act.put, List.setIfInBounds_toArray, List.set_cons_zero, List.set_cons_succ]
            refine wpAnyH_take (i := 4) (v := ?_) (by simp only [List.getElem?_toArray, List.getElem?_cons_succ, List.getElem?_cons_zero]; rfl) (by kernel_rfl) (by kernel_rfl) (by kernel_rfl) (fun _ _ _ h => h) (Or.inl ⟨by rfl, ?_⟩) (by assumption) ?_
            rotate_left
            · intro W hSW
              go_simp
              try with_reducible rfl
            try simp only [Act.put, List.setIfInBounds_toArray, List.set_cons_zero, List.set_cons_succ]
            refine wpAnyH_take (i := 5) (v := ?_) (by simp only [List.getElem?_toArray, List.getElem?_cons_succ, List.getElem?_cons_zero]; rfl) (by kernel_rfl) (by kernel_rfl) (by kernel_rfl) (fun _ _ _ h => h) (Or.inl ⟨by rfl, ?_⟩) (by assumption) ?_
            rotate_left
            · intro W hSW
              go_simp
              try with_reducible rfl
            try simp only [Act.put, List.setIfInBounds_toArray, List.set_cons_zero, List.set_cons_succ]
            refine wpAnyH_take (i := 6) (v := ?_) (by simp only [List.getElem?_toArray, List.getElem?_cons_succ, List.getElem?_cons_zero]; rfl) (by kernel_rfl) (by kernel_rfl) (by kernel_rfl) (fun _ _ _ h => h) (Or.inl ⟨by rfl, ?_⟩) (by assumption) ?_
            rotate_left
            · intro W hSW
              go_simp
              try with_reducible rfl
            try simp only [Act.put, List.setIfInBounds_toArray, List.set_cons_zero, List.set_cons_succ]
            refine wpAnyH_take (i := 7) (by simp only [List.getElem?_toArray, List.getElem?_cons_succ, List.getElem?_cons_zero]; rfl) (by kernel_rfl) (by kernel_rfl) (by kernel_rfl) (fun _ _ _ h => h) (yieldsIf_load_mid (by rfl) 30 _ rfl b (off + i * 22) rfl (entL z) _ (fun W h => h.2) Tryd.underlying30 rfl (ent_infoL z Hz.out)) (by assumption) ?_
            try simp only [Act.put, List.setIfInBounds_toArray, List.set_cons_zero, List.set_cons_succ]
            refine wpAnyH_take (i := 8) (by simp only [List.getElem?_toArray, List.getElem?_cons_succ, List.getElem?_cons_zero]; rfl) (by kernel_rfl) (by kernel_rfl) (by kernel_rfl) (fun _ _ _ h => h) (yieldsIf_eql (by rfl) .eql 30 _ _ _ rfl (.agg (entA y)) (.agg (entA z)) rfl rfl (.bool (eqT y z)) (fun W => guard_eql _ _ _ _ W) (fun W => eql_ent y z Hy.out Hz.out W)) (by assumption) ?_
            try simp only [Act.put, List.setIfInBounds_toArray, List.set_cons_zero, List.set_cons_succ]
            refine wpAnyH_done (by kernel_rfl) ?_ _
            refine NoPanic.normal ?_
            clear hHeld
            cases h2 : eqT y z
            · have HE2 : Hid (cntT z (S.take (k + 1)) = cm) := by show _ = _; rw [cnt_snoc HYY.out, h2, HCM.out]; rfl
              clear h2
              go_wp2_with fail
              exact ⟨⟨k + 1, cn + 1, cm, by first | rw [WK.out _ rfl] | rfl, by first | rw [WN.out _ rfl] | rfl, rfl, HKN.out, HE1.out.symm, HE2.out.symm, HBQ.out.drew.drew⟩, by have := HKN.out; (first | rw [WK.out _ rfl] | skip); simp [intOf]; omega⟩
            · have HE2 : Hid (cntT z (S.take (k + 1)) = cm + 1) := by show _ = _; rw [cnt_snoc HYY.out, h2, HCM.out]; rfl
              clear h2
              go_wp2_with fail
              exact ⟨⟨k + 1, cn + 1, cm + 1, by first | rw [WK.out _ rfl] | rfl, by first | rw [WN.out _ rfl] | rfl, by first | rw [WM.out _ rfl] | rfl, HKN.out, HE1.out.symm, HE2.out.symm, HBQ.out.drew.drew⟩, by have := HKN.out; (first | rw [WK.out _ rfl] | skip); simp [intOf]; omega⟩
        · have hki : ¬ (k : Int) < (k : Int) := by omega
          obtain rfl : k = n := by omega
          have hkk : ¬ (k : Int) < (k : Int) := by omega
          have e1 : cm = cn := by
            rw [hcn, hcm, List.take_of_length_le (by rw [HSN.out]; omega), List.take_of_length_le (by rw [HN.out]; omega)]
            exact HCNT.out z
          subst e1
          have hcc : ((cm : Int) != (cm : Int)) = false := by simp
          clear hk hkn hcn hcm hbq HRZ HBZ
          by_cases hiz : i = 0
          · subst hiz
            rw [show ((0 : Nat) : Int) = 0 from rfl] at *
            go_wp2_with fail
            refine wp_region_noPanic ?_
            refine wp_region_held_drew (S := fun _ => True) (by kernel_rfl) ?_ (fun hHeld => ?_)
            · exact True.intro
            refine wpAnyH_take (i := 0) (v := ?_) (by simp only [List.getElem?_toArray, List.getElem?_cons_zero]; rfl) (by kernel_rfl) (by kernel_rfl) (by kernel_rfl) (fun _ _ _ h => h) (Or.inl ⟨by rfl, ?_⟩) (by assumption) ?_
            rotate_left
            · intro W hSW
              go_simp
              try with_reducible rfl
            try simp only [Act.put, List.setIfInBounds_toArray, List.set_cons_zero, List.set_cons_succ]
            refine wpAnyH_take (i := 1) (v := ?_) (by simp only [List.getElem?_toArray, List.getElem?_cons_succ, List.getElem?_cons_zero]; rfl) (by kernel_rfl) (by kernel_rfl) (by kernel_rfl) (fun _ _ _ h => h) (Or.inl ⟨by rfl, ?_⟩) (by assumption) ?_
            rotate_left
            · intro W hSW
              go_simp
              try with_reducible rfl
            try simp only [Act.put, List.setIfInBounds_toArray, List.set_cons_zero, List.set_cons_succ]
            refine wpAnyH_take (i := 2) (v := ?_) (by simp only [List.getElem?_toArray, List.getElem?_cons_succ, List.getElem?_cons_zero]; rfl) (by kernel_rfl) (by kernel_rfl) (by kernel_rfl) (fun _ _ _ h => h) (Or.inl ⟨by rfl, ?_⟩) (by assumption) ?_
            rotate_left
            · intro W hSW
              go_simp
              try with_reducible rfl
            try simp only [Act.put, List.setIfInBounds_toArray, List.set_cons_zero, List.set_cons_succ]
            refine wpAnyH_take (i := 3) (v := ?_) (by simp only [List.getElem?_toArray, List.getElem?_cons_succ, List.getElem?_cons_zero]; rfl) (by kernel_rfl) (by kernel_rfl) (by kernel_rfl) (fun _ _ _ h => h) (Or.inl ⟨by rfl, ?_⟩) (by assumption) ?_
            rotate_left
            · intro W hSW
              go_simp
              try with_reducible rfl
            try simp only [Act.put, List.setIfInBounds_toArray, List.set_cons_zero, List.set_cons_succ]
            refine wpAnyH_take (i := 4) (v := ?_) (by simp only [List.getElem?_toArray, List.getElem?_cons_succ, List.getElem?_cons_zero]; rfl) (by kernel_rfl) (by kernel_rfl) (by kernel_rfl) (fun _ _ _ h => h) (Or.inl ⟨by rfl, ?_⟩) (by assumption) ?_
            rotate_left
            · intro W hSW
              go_simp
              try with_reducible rfl
            try simp only [Act.put, List.setIfInBounds_toArray, List.set_cons_zero, List.set_cons_succ]
            refine wpAnyH_take (i := 5) (v := ?_) (by simp only [List.getElem?_toArray, List.getElem?_cons_succ, List.getElem?_cons_zero]; rfl) (by kernel_rfl) (by kernel_rfl) (by kernel_rfl) (fun _ _ _ h => h) (Or.inl ⟨by rfl, ?_⟩) (by assumption) ?_
            rotate_left
            · intro W hSW
              go_simp
              try with_reducible rfl
            try simp only [Act.put, List.setIfInBounds_toArray, List.set_cons_zero, List.set_cons_succ]
            refine wpAnyH_take (i := 6) (v := ?_) (by simp only [List.getElem?_toArray, List.getElem?_cons_succ, List.getElem?_cons_zero]; rfl) (by kernel_rfl) (by kernel_rfl) (by kernel_rfl) (fun _ _ _ h => h) (Or.inl ⟨by rfl, ?_⟩) (by assumption) ?_
            rotate_left
            · intro W hSW
              go_simp
              try with_reducible rfl
            try simp only [Act.put, List.setIfInBounds_toArray, List.set_cons_zero, List.set_cons_succ]
            refine wpAnyH_take (i := 7) (v := undef) (by simp only [List.getElem?_toArray, List.getElem?_cons_succ, List.getElem?_cons_zero]; rfl) (by kernel_rfl) (by kernel_rfl) (by kernel_rfl) (fun _ _ _ h => h) (Or.inr ⟨by rfl, rfl⟩) (by assumption) ?_
            try simp only [Act.put, List.setIfInBounds_toArray, List.set_cons_zero, List.set_cons_succ]
            refine wpAnyH_take (i := 8) (v := undef) (by simp only [List.getElem?_toArray, List.getElem?_cons_succ, List.getElem?_cons_zero]; rfl) (by kernel_rfl) (by kernel_rfl) (by kernel_rfl) (fun _ _ _ h => h) (Or.inr ⟨by rfl, rfl⟩) (by assumption) ?_
            try simp only [Act.put, List.setIfInBounds_toArray, List.set_cons_zero, List.set_cons_succ]
            refine wpAnyH_take (i := 9) (v := undef) (by simp only [List.getElem?_toArray, List.getElem?_cons_succ, List.getElem?_cons_zero]; rfl) (by kernel_rfl) (by kernel_rfl) (by kernel_rfl) (fun _ _ _ h => h) (Or.inr ⟨by rfl, rfl⟩) (by assumption) ?_
            try simp only [Act.put, List.setIfInBounds_toArray, List.set_cons_zero, List.set_cons_succ]
            refine wpAnyH_take (i := 10) (v := undef) (by simp only [List.getElem?_toArray, List.getElem?_cons_succ, List.getElem?_cons_zero]; rfl) (by kernel_rfl) (by kernel_rfl) (by kernel_rfl) (fun _ _ _ h => h) (Or.inr ⟨by rfl, rfl⟩) (by assumption) ?_
            try simp only [Act.put, List.setIfInBounds_toArray, List.set_cons_zero, List.set_cons_succ]
            refine wpAnyH_take (i := 11) (v := undef) (by simp only [List.getElem?_toArray, List.getElem?_cons_succ, List.getElem?_cons_zero]; rfl) (by kernel_rfl) (by kernel_rfl) (by kernel_rfl) (fun _ _ _ h => h) (Or.inr ⟨by rfl, rfl⟩) (by assumption) ?_
            try simp only [Act.put, List.setIfInBounds_toArray, List.set_cons_zero, List.set_cons_succ]
            refine wpAnyH_take (i := 12) (v := undef) (by simp only [List.getElem?_toArray, List.getElem?_cons_succ, List.getElem?_cons_zero]; rfl) (by kernel_rfl) (by kernel_rfl) (by kernel_rfl) (fun _ _ _ h => h) (Or.inr ⟨by rfl, rfl⟩) (by assumption) ?_
            try simp only [Act.put, List.setIfInBounds_toArray, List.set_cons_zero, List.set_cons_succ]
            refine wpAnyH_take (i := 13) (v := undef) (by simp only [List.getElem?_toArray, List.getElem?_cons_succ, List.getElem?_cons_zero]; rfl) (by kernel_rfl) (by kernel_rfl) (by kernel_rfl) (fun _ _ _ h => h) (Or.inr ⟨by rfl, rfl⟩) (by assumption) ?_
            try simp only [Act.put, List.setIfInBounds_toArray, List.set_cons_zero, List.set_cons_succ]
            refine wpAnyH_take (i := 14) (v := undef) (by simp only [List.getElem?_toArray, List.getElem?_cons_succ, List.getElem?_cons_zero]; rfl) (by kernel_rfl) (by kernel_rfl) (by kernel_rfl) (fun _ _ _ h => h) (Or.inr ⟨by rfl, rfl⟩) (by assumption) ?_
            try simp only [Act.put, List.setIfInBounds_toArray, List.set_cons_zero, List.set_cons_succ]
            refine wpAnyH_take (i := 15) (v := undef) (by simp only [List.getElem?_toArray, List.getElem?_cons_succ, List.getElem?_cons_zero]; rfl) (by kernel_rfl) (by kernel_rfl) (by kernel_rfl) (fun _ _ _ h => h) (Or.inr ⟨by rfl, rfl⟩) (by assumption) ?_
            try simp only [Act.put, List.setIfInBounds_toArray, List.set_cons_zero, List.set_cons_succ]
            refine wpAnyH_take (i := 16) (v := undef) (by simp only [List.getElem?_toArray, List.getElem?_cons_succ, List.getElem?_cons_zero]; rfl) (by kernel_rfl) (by kernel_rfl) (by kernel_rfl) (fun _ _ _ h => h) (Or.inr ⟨by rfl, rfl⟩) (by assumption) ?_
            try simp only [Act.put, List.setIfInBounds_toArray, List.set_cons_zero, List.set_cons_succ]
            refine wpAnyH_take (i := 17) (v := undef) (by simp only [List.getElem?_toArray, List.getElem?_cons_succ, List.getElem?_cons_zero]; rfl) (by kernel_rfl) (by kernel_rfl) (by kernel_rfl) (fun _ _ _ h => h) (Or.inr ⟨by rfl, rfl⟩) (by assumption) ?_
            try simp only [Act.put, List.setIfInBounds_toArray, List.set_cons_zero, List.set_cons_succ]
            refine wpAnyH_take (i := 18) (v := undef) (by simp only [List.getElem?_toArray, List.getElem?_cons_succ, List.getElem?_cons_zero]; rfl) (by kernel_rfl) (by kernel_rfl) (by kernel_rfl) (fun _ _ _ h => h) (Or.inr ⟨by rfl, rfl⟩) (by assumption) ?_
            try simp only [Act.put, List.setIfInBounds_toArray, List.set_cons_zero, List.set_cons_succ]
            refine wpAnyH_take (i := 19) (v := ?_) (by simp only [List.getElem?_toArray, List.getElem?_cons_succ, List.getElem?_cons_zero]; rfl) (by kernel_rfl) (by kernel_rfl) (by kernel_rfl) (fun _ _ _ h => h) (Or.inl ⟨by rfl, ?_⟩) (by assumption) ?_
            rotate_left
            · intro W hSW
              go_simp
              try with_reducible rfl
            try simp only [Act.put, List.setIfInBounds_toArray, List.set_cons_zero, List.set_cons_succ]
            refine wpAnyH_take (i := 20) (v := ?_) (by simp only [List.getElem?_toArray, List.getElem?_cons_succ, List.getElem?_cons_zero]; rfl) (by kernel_rfl) (by kernel_rfl) (by kernel_rfl) (fun _ _ _ h => h) (Or.inl ⟨by rfl, ?_⟩) (by assumption) ?_
            rotate_left
            · intro W hSW
              go_simp
              try with_reducible rfl
            try simp only [Act.put, List.setIfInBounds_toArray, List.set_cons_zero, List.set_cons_succ]
            refine wpAnyH_done (by kernel_rfl) ?_ _
            refine NoPanic.normal ?_
            clear hHeld
            go_wp2_with fail
            exact ⟨⟨1, by first | rw [WI.out _ rfl] | rfl, by have := HIN.out; omega, (HB0.out.trans (HBQ.out.mono HB0.out.size)).drew⟩, by have := HIN.out; (first | rw [WI.out _ rfl] | skip); simp [intOf]; omega⟩
          · obtain ⟨p, hp⟩ : ∃ p, i = p + 1 := ⟨i - 1, by omega⟩
            have HPI : Hid (p < i ∧ p < k) := ⟨by omega, by have := HIN.out; omega⟩
            have hip : (0 : Int) < (i : Int) := by omega
            have hip2 : 0 < i := by omega
            have hpn : (p : Int) < (k : Int) := by have := HPI.out; omega
            have hp0 : (0 : Int) ≤ (p : Int) := Int.natCast_nonneg p
            have e1 : (i : Int) - 1 = (p : Int) := by omega
            have bp : -9223372036854775808 ≤ (p : Int) ∧ (p : Int) ≤ 9223372036854775807 := by have := HIN.out; have := HPI.out; omega
            have HW1 : Hid (wrap64 ((i : Int) - 1) = (p : Int)) := by rw [e1]; exact w64 _ bp.1 bp.2
            have HV1 : Hid (IntKind.i64.wrap ((i : Int) - 1) = (p : Int)) := by rw [e1]; exact w64k _ bp.1 bp.2
            have HSWQ : Hid (∀ W, Below wq.heap.size wq W → EsAt W (some ⟨bs, os, none⟩) S) := fun W hW => HSW.out W (HBQ.out.trans (hW.mono HBQ.out.size))
            have HB00 : Hid (Below wq.heap.size wq wq.drew) := (Below.refl _ _).drew
            clear hiz hp e1 bp HSW
            have hw1 := HW1.out
            have hv1 := HV1.out
            go_wp2_with fail
            refine wp_region_noPanic ?_
            refine wp_region_held_drew (S := fun _ => True) (by kernel_rfl) ?_ (fun hHeld => ?_)
            · exact True.intro
            refine wpAnyH_take (i := 0) (v := ?_) (by simp only [List.getElem?_toArray, List.getElem?_cons_zero]; rfl) (by kernel_rfl) (by kernel_rfl) (by kernel_rfl) (fun _ _ _ h => h) (Or.inl ⟨by rfl, ?_⟩) (by assumption) ?_
            rotate_left
            · intro W hSW
              go_simp
              try with_reducible rfl
            try simp only [Act.put, List.setIfInBounds_toArray, List.set_cons_zero, List.set_cons_succ]
            refine wpAnyH_take (i := 1) (v := ?_) (by simp only [List.getElem?_toArray, List.getElem?_cons_succ, List.getElem?_cons_zero]; rfl) (by kernel_rfl) (by kernel_rfl) (by kernel_rfl) (fun _ _ _ h => h) (Or.inl ⟨by rfl, ?_⟩) (by assumption) ?_
            rotate_left
            · intro W hSW
              go_simp
              try with_reducible rfl
            try simp only [Act.put, List.setIfInBounds_toArray, List.set_cons_zero, List.set_cons_succ]
            refine wpAnyH_take (i := 2) (v := ?_) (by simp only [List.getElem?_toArray, List.getElem?_cons_succ, List.getElem?_cons_zero]; rfl) (by kernel_rfl) (by kernel_rfl) (by kernel_rfl) (fun _ _ _ h => h) (Or.inl ⟨by rfl, ?_⟩) (by assumption) ?_
            rotate_left
            · intro W hSW
              go_simp
              try with_reducible rfl
            try simp only [Act.put, List.setIfInBounds_toArray, List.set_cons_zero, List.set_cons_succ]
            refine wpAnyH_take (i := 3) (v := ?_) (by simp only [List.getElem?_toArray, List.getElem?_cons_succ, List.getElem?_cons_zero]; rfl) (by kernel_rfl) (by kernel_rfl) (by kernel_rfl) (fun _ _ _ h => h) (Or.inl ⟨by rfl, ?_⟩) (by assumption) ?_
            rotate_left
            · intro W hSW
              go_simp
              try with_reducible rfl
            try simp only [Act.put, List.setIfInBounds_toArray, List.set_cons_zero, List.set_cons_succ]
            refine wpAnyH_take (i := 4) (v := ?_) (by simp only [List.getElem?_toArray, List.getElem?_cons_succ, List.getElem?_cons_zero]; rfl) (by kernel_rfl) (by kernel_rfl) (by kernel_rfl) (fun _ _ _ h => h) (Or.inl ⟨by rfl, ?_⟩) (by assumption) ?_
            rotate_left
            · intro W hSW
              go_simp
              try with_reducible rfl
            try simp only [Act.put, List.setIfInBounds_toArray, List.set_cons_zero, List.set_cons_succ]
            refine wpAnyH_take (i := 5) (v := ?_) (by simp only [List.getElem?_toArray, List.getElem?_cons_succ, List.getElem?_cons_zero]; rfl) (by kernel_rfl) (by kernel_rfl) (by kernel_rfl) (fun _ _ _ h => h) (Or.inl ⟨by rfl, ?_⟩) (by assumption) ?_
            rotate_left
            · intro W hSW
              go_simp
              try with_reducible rfl
            try simp only [Act.put, List.setIfInBounds_toArray, List.set_cons_zero, List.set_cons_succ]
            refine wpAnyH_take (i := 6) (v := ?_) (by simp only [List.getElem?_toArray, List.getElem?_cons_succ, List.getElem?_cons_zero]; rfl) (by kernel_rfl) (by kernel_rfl) (by kernel_rfl) (fun _ _ _ h => h) (Or.inl ⟨by rfl, ?_⟩) (by assumption) ?_
            rotate_left
            · intro W hSW
              go_simp
              try with_reducible rfl
            try simp only [Act.put, List.setIfInBounds_toArray, List.set_cons_zero, List.set_cons_succ]
            refine wpAnyH_take (i := 7) (v := ?_) (by simp only [List.getElem?_toArray, List.getElem?_cons_succ, List.getElem?_cons_zero]; rfl) (by kernel_rfl) (by kernel_rfl) (by kernel_rfl) (fun _ _ _ h => h) (Or.inl ⟨by rfl, ?_⟩) (by assumption) ?_
            rotate_left
            · intro W hSW
              go_simp
              try with_reducible rfl
            try simp only [Act.put, List.setIfInBounds_toArray, List.set_cons_zero, List.set_cons_succ]
            refine wpAnyH_take (i := 9) (v := ?_) (by simp only [List.getElem?_toArray, List.getElem?_cons_succ, List.getElem?_cons_zero]; rfl) (by kernel_rfl) (by kernel_rfl) (by kernel_rfl) (fun _ _ _ h => h) (Or.inl ⟨by rfl, ?_⟩) (by assumption) ?_
            rotate_left
            · intro W hSW
              go_simp
              try with_reducible rfl
            try simp only [Act.put, List.setIfInBounds_toArray, List.set_cons_zero, List.set_cons_succ]
            refine wpAnyH_take (i := 12) (v := ?_) (by simp only [List.getElem?_toArray, List.getElem?_cons_succ, List.getElem?_cons_zero]; rfl) (by kernel_rfl) (by kernel_rfl) (by kernel_rfl) (fun _ _ _ h => h) (Or.inl ⟨by rfl, ?_⟩) (by assumption) ?_
            rotate_left
            · intro W hSW
              go_simp
              try with_reducible rfl
            try simp only [Act.put, List.setIfInBounds_toArray, List.set_cons_zero, List.set_cons_succ]
            refine wpAnyH_take (i := 14) (v := ?_) (by simp only [List.getElem?_toArray, List.getElem?_cons_succ, List.getElem?_cons_zero]; rfl) (by kernel_rfl) (by kernel_rfl) (by kernel_rfl) (fun _ _ _ h => h) (Or.inl ⟨by rfl, ?_⟩) (by assumption) ?_
            rotate_left
            · intro W hSW
              go_simp
              try with_reducible rfl
            try simp only [Act.put, List.setIfInBounds_toArray, List.set_cons_zero, List.set_cons_succ]
            refine wpAnyH_take (i := 15) (v := ?_) (by simp only [List.getElem?_toArray, List.getElem?_cons_succ, List.getElem?_cons_zero]; rfl) (by kernel_rfl) (by kernel_rfl) (by kernel_rfl) (fun _ _ _ h => h) (Or.inl ⟨by rfl, ?_⟩) (by assumption) ?_
            rotate_left
            · intro W hSW
              go_simp
              try with_reducible rfl
            try simp only [Act.put, List.setIfInBounds_toArray, List.set_cons_zero, List.set_cons_succ]
            refine wpAnyH_ready (rs := [8]) (by kernel_rfl) (by simp) ?_
            refine AllReadyH.cons (by simp only [List.getElem?_toArray, List.getElem?_cons_succ, List.getElem?_cons_zero]; rfl) (fun K hK => ?_) AllReadyH.nil
            go_simp
            refine (tas_n k S HSN.out (by have := HNB.out; omega) (some ⟨bs, os, none⟩) sc _ (HSWQ.out _ HB00.out)).mono ?_
            rintro e v4 ⟨⟨u, rfl, ho⟩, hb⟩
            have HBv4 := Lib.hid (Below.trans (HB00.out) (hb.mono (Below.size (HB00.out))))
            have HCv4 := Lib.hid hb
            obtain ⟨qa, qc, rfl, hat, -, -⟩ := ho.at
            rw [HSN.out]
            have HAq := Lib.hid hat
            clear hat ho hb
            go_wp2_with fail
            refine hK.out _ _ (True.intro) (fun hHeld2 => ?_)
            clear hK K hHeld
            have hHeld := hHeld2
            clear hHeld2
            try simp only [Act.put, List.setIfInBounds_toArray, List.set_cons_zero, List.set_cons_succ]
            obtain ⟨bq, oq, x, rfl, hx, hx20, hblx, hrx⟩ := HAq.out.at (show i < S.length by rw [HSN.out]; exact HIN.out.1)
            have HX := Lib.hid hx
            have Hx : Hid (x.n.length = 20) := hx20
            have Hxp : Hid (x.p.size ≤ 100000) := HSP.out x (List.mem_of_getElem? hx)
            have HRq : Hid (v4.rangeAt bq (oq + i * 22) (entL x)) := hrx
            have HBq : Hid (bq < v4.heap.size) := hblx
            clear hx hx20 hblx hrx HAq
            refine wpAnyH_take (i := 10) (v := ?_) (by simp only [List.getElem?_toArray, List.getElem?_cons_succ, List.getElem?_cons_zero]; rfl) (by kernel_rfl) (by kernel_rfl) (by kernel_rfl) (fun _ _ _ h => h) (Or.inl ⟨by rfl, ?_⟩) (by assumption) ?_
            rotate_left
            · intro W hSW
              go_simp
              try with_reducible rfl
            try simp only [Act.put, List.setIfInBounds_toArray, List.set_cons_zero, List.set_cons_succ]
            refine wpAnyH_ready (rs := [11, 13]) (by kernel_rfl) (by simp) ?_
            refine AllReadyH.cons (by simp only [List.getElem?_toArray, List.getElem?_cons_succ, List.getElem?_cons_zero]; rfl) (fun K hK => ?_) (AllReadyH.cons (by simp only [List.getElem?_toArray, List.getElem?_cons_succ, List.getElem?_cons_zero]; rfl) (fun K hK => ?_) AllReadyH.nil)
            · refine step_load_mid (by rfl) 33 _ rfl bq (oq + i * 22) rfl (entL x) _ (HRq.out) Tryd.underlying33 rfl (rent_infoL x Hx.out) ?_
              refine hK.out _ _ (True.intro) (fun hHeld2 => ?_)
              clear hK K hHeld
              have hHeld := hHeld2
              clear hHeld2
              try simp only [Act.put, List.setIfInBounds_toArray, List.set_cons_zero, List.set_cons_succ]
              refine wpAnyH_ready (rs := [13]) (by kernel_rfl) (by simp) ?_
              refine AllReadyH.cons (by simp only [List.getElem?_toArray, List.getElem?_cons_succ, List.getElem?_cons_zero]; rfl) (fun K hK => ?_) AllReadyH.nil
              go_simp
              refine (tas_n k S HSN.out (by have := HNB.out; omega) (some ⟨bs, os, none⟩) sc _ (HSWQ.out _ HBv4.out)).mono ?_
              rintro e v5 ⟨⟨u, rfl, ho⟩, hb⟩
              have HBv5 := Lib.hid (Below.trans (HBv4.out) (hb.mono (Below.size (HBv4.out))))
              have HCv5 := Lib.hid hb
              obtain ⟨ra, rc, rfl, hat, -, -⟩ := ho.at
              rw [HSN.out]
              have HAr := Lib.hid hat
              clear hat ho hb
              go_wp2_with fail
              refine hK.out _ _ (True.intro) (fun hHeld2 => ?_)
              clear hK K hHeld
              have hHeld := hHeld2
              clear hHeld2
              try simp only [Act.put, List.setIfInBounds_toArray, List.set_cons_zero, List.set_cons_succ]
              obtain ⟨br, orr, y, rfl, hy, hy20, hbly, hry⟩ := HAr.out.at (show p < S.length by rw [HSN.out]; exact HPI.out.2)
              have HY := Lib.hid hy
              have Hy : Hid (y.n.length = 20) := hy20
              have Hyp : Hid (y.p.size ≤ 100000) := HSP.out y (List.mem_of_getElem? hy)
              have HRr : Hid (v5.rangeAt br (orr + p * 22) (entL y)) := hry
              have HRq5 : Hid (v5.rangeAt bq (oq + i * 22) (entL x)) := range_below HRq.out HCv5.out HBq.out
              clear hy hy20 hbly hry HAr
              refine wpAnyH_take (i := 16) (v := ?_) (by simp only [List.getElem?_toArray, List.getElem?_cons_succ, List.getElem?_cons_zero]; rfl) (by kernel_rfl) (by kernel_rfl) (by kernel_rfl) (fun _ _ _ h => h) (Or.inl ⟨by rfl, ?_⟩) (by assumption) ?_
              rotate_left
              · intro W hSW
                go_simp
                try with_reducible rfl
              try simp only [Act.put, List.setIfInBounds_toArray, List.set_cons_zero, List.set_cons_succ]
              refine wpAnyH_ready (rs := [17]) (by kernel_rfl) (by simp) ?_
              refine AllReadyH.cons (by simp only [List.getElem?_toArray, List.getElem?_cons_succ, List.getElem?_cons_zero]; rfl) (fun K hK => ?_) AllReadyH.nil
              refine step_load_mid (by rfl) 33 _ rfl br (orr + p * 22) rfl (entL y) _ (HRr.out) Tryd.underlying33 rfl (rent_infoL y Hy.out) ?_
              refine hK.out _ _ (True.intro) (fun hHeld2 => ?_)
              clear hK K hHeld
              have hHeld := hHeld2
              clear hHeld2
              try simp only [Act.put, List.setIfInBounds_toArray, List.set_cons_zero, List.set_cons_succ]
              refine wpAnyH_ready (rs := [18]) (by kernel_rfl) (by simp) ?_
              refine AllReadyH.cons (by simp only [List.getElem?_toArray, List.getElem?_cons_succ, List.getElem?_cons_zero]; rfl) (fun K hK => ?_) AllReadyH.nil
              go_simp
              refine (refless_any x y Hxp.out Hyp.out _).mono ?_
              rintro e v6 ⟨rfl, hb⟩
              have HBv6 := Lib.hid (HBv5.out.trans (hb.mono HBv5.out.size))
              have HLS : Hid (ltB (keyT x) (keyT y) = false) := srt_get HSRT.out HPI.out.1 HY.out HX.out
              rw [HLS.out]
              clear hb
              go_wp2_with fail
              refine hK.out _ _ (True.intro) (fun hHeld2 => ?_)
              clear hK K hHeld
              have hHeld := hHeld2
              clear hHeld2
              try simp only [Act.put, List.setIfInBounds_toArray, List.set_cons_zero, List.set_cons_succ]
              refine wpAnyH_take (i := 19) (v := ?_) (by simp only [List.getElem?_toArray, List.getElem?_cons_succ, List.getElem?_cons_zero]; rfl) (by kernel_rfl) (by kernel_rfl) (by kernel_rfl) (fun _ _ _ h => h) (Or.inl ⟨by rfl, ?_⟩) (by assumption) ?_
              rotate_left
              · intro W hSW
                go_simp
                try with_reducible rfl
              try simp only [Act.put, List.setIfInBounds_toArray, List.set_cons_zero, List.set_cons_succ]
              refine wpAnyH_take (i := 20) (v := ?_) (by simp only [List.getElem?_toArray, List.getElem?_cons_succ, List.getElem?_cons_zero]; rfl) (by kernel_rfl) (by kernel_rfl) (by kernel_rfl) (fun _ _ _ h => h) (Or.inl ⟨by rfl, ?_⟩) (by assumption) ?_
              rotate_left
              · intro W hSW
                go_simp
                try with_reducible rfl
              try simp only [Act.put, List.setIfInBounds_toArray, List.set_cons_zero, List.set_cons_succ]
              refine wpAnyH_done (by kernel_rfl) ?_ _
              refine NoPanic.normal ?_
              clear hHeld
              go_wp2_with fail
              exact ⟨⟨i + 1, by first | rw [WI.out _ rfl] | rfl, HIN.out.1, HB0.out.trans ((HBQ.out.trans (HBv6.out.mono HBQ.out.size)).mono HB0.out.size)⟩, by have := HIN.out; (first | rw [WI.out _ rfl] | skip); simp [intOf]; omega⟩
            · go_simp
              refine (tas_n k S HSN.out (by have := HNB.out; omega) (some ⟨bs, os, none⟩) sc _ (HSWQ.out _ HBv4.out)).mono ?_
              rintro e v5 ⟨⟨u, rfl, ho⟩, hb⟩
              have HBv5 := Lib.hid (Below.trans (HBv4.out) (hb.mono (Below.size (HBv4.out))))
              have HCv5 := Lib.hid hb
              obtain ⟨ra, rc, rfl, hat, -, -⟩ := ho.at
              rw [HSN.out]
              have HAr := Lib.hid hat
              clear hat ho hb
              go_wp2_with fail
              refine hK.out _ _ (True.intro) (fun hHeld2 => ?_)
              clear hK K hHeld
              have hHeld := hHeld2
              clear hHeld2
              try simp only [Act.put, List.setIfInBounds_toArray, List.set_cons_zero, List.set_cons_succ]
              obtain ⟨br, orr, y, rfl, hy, hy20, hbly, hry⟩ := HAr.out.at (show p < S.length by rw [HSN.out]; exact HPI.out.2)
              have HY := Lib.hid hy
              have Hy : Hid (y.n.length = 20) := hy20
              have Hyp : Hid (y.p.size ≤ 100000) := HSP.out y (List.mem_of_getElem? hy)
              have HRr : Hid (v5.rangeAt br (orr + p * 22) (entL y)) := hry
              have HRq5 : Hid (v5.rangeAt bq (oq + i * 22) (entL x)) := range_below HRq.out HCv5.out HBq.out
              clear hy hy20 hbly hry HAr
              refine wpAnyH_take (i := 16) (v := ?_) (by simp only [List.getElem?_toArray, List.getElem?_cons_succ, List.getElem?_cons_zero]; rfl) (by kernel_rfl) (by kernel_rfl) (by kernel_rfl) (fun _ _ _ h => h) (Or.inl ⟨by rfl, ?_⟩) (by assumption) ?_
              rotate_left
              · intro W hSW
                go_simp
                try with_reducible rfl
              try simp only [Act.put, List.setIfInBounds_toArray, List.set_cons_zero, List.set_cons_succ]
              refine wpAnyH_ready (rs := [11, 17]) (by kernel_rfl) (by simp) ?_
              refine AllReadyH.cons (by simp only [List.getElem?_toArray, List.getElem?_cons_succ, List.getElem?_cons_zero]; rfl) (fun K hK => ?_) (AllReadyH.cons (by simp only [List.getElem?_toArray, List.getElem?_cons_succ, List.getElem?_cons_zero]; rfl) (fun K hK => ?_) AllReadyH.nil)
              · refine step_load_mid (by rfl) 33 _ rfl bq (oq + i * 22) rfl (entL x) _ (HRq5.out) Tryd.underlying33 rfl (rent_infoL x Hx.out) ?_
                refine hK.out _ _ (True.intro) (fun hHeld2 => ?_)
                clear hK K hHeld
                have hHeld := hHeld2
                clear hHeld2
                try simp only [Act.put, List.setIfInBounds_toArray, List.set_cons_zero, List.set_cons_succ]
                refine wpAnyH_ready (rs := [17]) (by kernel_rfl) (by simp) ?_
                refine AllReadyH.cons (by simp only [List.getElem?_toArray, List.getElem?_cons_succ, List.getElem?_cons_zero]; rfl) (fun K hK => ?_) AllReadyH.nil
                refine step_load_mid (by rfl) 33 _ rfl br (orr + p * 22) rfl (entL y) _ (HRr.out) Tryd.underlying33 rfl (rent_infoL y Hy.out) ?_
                refine hK.out _ _ (True.intro) (fun hHeld2 => ?_)
                clear hK K hHeld
                have hHeld := hHeld2
                clear hHeld2
                try simp only [Act.put, List.setIfInBounds_toArray, List.set_cons_zero, List.set_cons_succ]
                refine wpAnyH_ready (rs := [18]) (by kernel_rfl) (by simp) ?_
                refine AllReadyH.cons (by simp only [List.getElem?_toArray, List.getElem?_cons_succ, List.getElem?_cons_zero]; rfl) (fun K hK => ?_) AllReadyH.nil
                go_simp
                refine (refless_any x y Hxp.out Hyp.out _).mono ?_
                rintro e v6 ⟨rfl, hb⟩
                have HBv6 := Lib.hid (HBv5.out.trans (hb.mono HBv5.out.size))
                have HLS : Hid (ltB (keyT x) (keyT y) = false) := srt_get HSRT.out HPI.out.1 HY.out HX.out
                rw [HLS.out]
                clear hb
                go_wp2_with fail
                refine hK.out _ _ (True.intro) (fun hHeld2 => ?_)
                clear hK K hHeld
                have hHeld := hHeld2
                clear hHeld2
                try simp only [Act.put, List.setIfInBounds_toArray, List.set_cons_zero, List.set_cons_succ]
                refine wpAnyH_take (i := 19) (v := ?_) (by simp only [List.getElem?_toArray, List.getElem?_cons_succ, List.getElem?_cons_zero]; rfl) (by kernel_rfl) (by kernel_rfl) (by kernel_rfl) (fun _ _ _ h => h) (Or.inl ⟨by rfl, ?_⟩) (by assumption) ?_
                rotate_left
                · intro W hSW
                  go_simp
                  try with_reducible rfl
                try simp only [Act.put, List.setIfInBounds_toArray, List.set_cons_zero, List.set_cons_succ]
                refine wpAnyH_take (i := 20) (v := ?_) (by simp only [List.getElem?_toArray, List.getElem?_cons_succ, List.getElem?_cons_zero]; rfl) (by kernel_rfl) (by kernel_rfl) (by kernel_rfl) (fun _ _ _ h => h) (Or.inl ⟨by rfl, ?_⟩) (by assumption) ?_
                rotate_left
                · intro W hSW
                  go_simp
                  try with_reducible rfl
                try simp only [Act.put, List.setIfInBounds_toArray, List.set_cons_zero, List.set_cons_succ]
                refine wpAnyH_done (by kernel_rfl) ?_ _
                refine NoPanic.normal ?_
                clear hHeld
                go_wp2_with fail
                exact ⟨⟨i + 1, by first | rw [WI.out _ rfl] | rfl, HIN.out.1, HB0.out.trans ((HBQ.out.trans (HBv6.out.mono HBQ.out.size)).mono HB0.out.size)⟩, by have := HIN.out; (first | rw [WI.out _ rfl] | skip); simp [intOf]; omega⟩
              · refine step_load_mid (by rfl) 33 _ rfl br (orr + p * 22) rfl (entL y) _ (HRr.out) Tryd.underlying33 rfl (rent_infoL y Hy.out) ?_
                refine hK.out _ _ (True.intro) (fun hHeld2 => ?_)
                clear hK K hHeld
                have hHeld := hHeld2
                clear hHeld2
                try simp only [Act.put, List.setIfInBounds_toArray, List.set_cons_zero, List.set_cons_succ]
                refine wpAnyH_ready (rs := [11]) (by kernel_rfl) (by simp) ?_
                refine AllReadyH.cons (by simp only [List.getElem?_toArray, List.getElem?_cons_succ, List.getElem?_cons_zero]; rfl) (fun K hK => ?_) AllReadyH.nil
                refine step_load_mid (by rfl) 33 _ rfl bq (oq + i * 22) rfl (entL x) _ (HRq5.out) Tryd.underlying33 rfl (rent_infoL x Hx.out) ?_
                refine hK.out _ _ (True.intro) (fun hHeld2 => ?_)
                clear hK K hHeld
                have hHeld := hHeld2
                clear hHeld2
                try simp only [Act.put, List.setIfInBounds_toArray, List.set_cons_zero, List.set_cons_succ]
                refine wpAnyH_ready (rs := [18]) (by kernel_rfl) (by simp) ?_
                refine AllReadyH.cons (by simp only [List.getElem?_toArray, List.getElem?_cons_succ, List.getElem?_cons_zero]; rfl) (fun K hK => ?_) AllReadyH.nil
                go_simp
                refine (refless_any x y Hxp.out Hyp.out _).mono ?_
                rintro e v6 ⟨rfl, hb⟩
                have HBv6 := Lib.hid (HBv5.out.trans (hb.mono HBv5.out.size))
                have HLS : Hid (ltB (keyT x) (keyT y) = false) := srt_get HSRT.out HPI.out.1 HY.out HX.out
                rw [HLS.out]
                clear hb
                go_wp2_with fail
                refine hK.out _ _ (True.intro) (fun hHeld2 => ?_)
                clear hK K hHeld
                have hHeld := hHeld2
                clear hHeld2
                try simp only [Act.put, List.setIfInBounds_toArray, List.set_cons_zero, List.set_cons_succ]
                refine wpAnyH_take (i := 19) (v := ?_) (by simp only [List.getElem?_toArray, List.getElem?_cons_succ, List.getElem?_cons_zero]; rfl) (by kernel_rfl) (by kernel_rfl) (by kernel_rfl) (fun _ _ _ h => h) (Or.inl ⟨by rfl, ?_⟩) (by assumption) ?_
                rotate_left
                · intro W hSW
                  go_simp
                  try with_reducible rfl
                try simp only [Act.put, List.setIfInBounds_toArray, List.set_cons_zero, List.set_cons_succ]
                refine wpAnyH_take (i := 20) (v := ?_) (by simp only [List.getElem?_toArray, List.getElem?_cons_succ, List.getElem?_cons_zero]; rfl) (by kernel_rfl) (by kernel_rfl) (by kernel_rfl) (fun _ _ _ h => h) (Or.inl ⟨by rfl, ?_⟩) (by assumption) ?_
                rotate_left
                · intro W hSW
                  go_simp
                  try with_reducible rfl
                try simp only [Act.put, List.setIfInBounds_toArray, List.set_cons_zero, List.set_cons_succ]
                refine wpAnyH_done (by kernel_rfl) ?_ _
                refine NoPanic.normal ?_
                clear hHeld
                go_wp2_with fail
                exact ⟨⟨i + 1, by first | rw [WI.out _ rfl] | rfl, HIN.out.1, HB0.out.trans ((HBQ.out.trans (HBv6.out.mono HBQ.out.size)).mono HB0.out.size)⟩, by have := HIN.out; (first | rw [WI.out _ rfl] | skip); simp [intOf]; omega⟩
    · have hii : ¬ (i : Int) < (i : Int) := by omega
      obtain rfl : i = n := by omega
      clear hi hin hbl
      go_wp2_with fail
      refine (tright_n i ys HN.out (by have := HNB.out; omega) la lc wr (HCY.out wr HB0.out) HYP.out).mono ?_
      rintro e u1 ⟨rfl, hb⟩
      have HU1 := Lib.hid (HB0.out.trans (hb.mono HB0.out.size))
      have HYU : Hid (∀ W, Below u1.heap.size u1 W → EsAt W la ys) := fun W hW => HCY.out W (HU1.out.trans (hW.mono HU1.out.size))
      have HV4 := Lib.hid (HV3.out.trans (HU1.out.mono HV3.out.size))
      clear hb HCY HCS HB0
      cases hr : rightT ys
      · clear hr
        go_wp2_with fail
        (try simp only [Exit.inBlock, Exit.then])
        go_ret
        exact ⟨rfl, HV4.out⟩
      · have HR := Lib.hid hr
        clear hr
        by_cases hn0 : i = 0
        · subst hn0
          rw [show ((0 : Nat) : Int) = 0 from rfl] at *
          go_wp2_with fail
          (try simp only [Exit.inBlock, Exit.then])
          go_ret
          exact ⟨rfl, HV4.out⟩
        · obtain ⟨k, HM, HKI⟩ : ∃ k : Nat, Hid (wrap64 ((IntKind.u64.wrap at_).tmod (i : Int)) = (k : Int)) ∧ Hid (k < i) := by
            have h0 : 0 ≤ IntKind.u64.wrap at_ := by rw [IntKind.wrap_u64]; omega
            generalize IntKind.u64.wrap at_ = u at *
            rw [Int.tmod_eq_emod_of_nonneg h0]
            have h1 := Int.emod_nonneg u (show (i : Int) ≠ 0 by omega)
            have h2 := Int.emod_lt_of_pos u (show (0 : Int) < (i : Int) by omega)
            rw [IntWalk.wrap64_in _ (by have := HNB.out; omega)]
            exact ⟨(u % (i : Int)).toNat, Lib.hid (by omega), Lib.hid (by omega)⟩
          have HU64 : Hid (IntKind.u64.wrap (i : Int) = (i : Int)) := by show _ = _; rw [IntKind.wrap_u64]; have := HNB.out; omega
          have hni : ¬ (i : Int) = 0 := by omega
          have hnb : ((i : Int) == 0) = false := beq_eq_false_iff_ne.2 hni
          have hm := HM.out
          have hu64 := HU64.out
          clear hn0
          go_upto_region 21 with fail
          try simp only [HU64.out, HM.out]
          clear hm hu64 hni hnb
          have hs1 := fun W => slice_fromE la i lc k (Nat.le_of_lt HKI.out) HLC.out W
          have hs2 := fun W => slice_toE la i lc k (by have := HKI.out; have := HLC.out; omega) W
          obtain ⟨R, hR⟩ : ∃ R, ys.drop k ++ ys.take k = R := ⟨_, rfl⟩
          have HRN : Hid (R.length = i) := by show _ = _; rw [← hR, List.length_append, List.length_drop, List.length_take, HN.out]; have := HKI.out; omega
          have HRP : Hid (∀ y ∈ R, y.p.size ≤ 100000) := fun y hy => by
            rw [← hR] at hy
            rcases List.mem_append.1 hy with h | h
            · exact HYP.out y (List.mem_of_mem_drop h)
            · exact HYP.out y (List.mem_of_mem_take h)
          have HRS : Hid (sortS ltT R = ys) := by rw [← hR]; exact turned_sort HR.out k
          have HRW : Hid (0 < k → rightT R = false) := fun h => by rw [← hR]; exact turned_wrong HR.out k h (by rw [HN.out]; exact HKI.out)
          have HRE := Lib.hid hR
          clear hR
          refine wp_region_noPanic ?_
          refine wp_region_held_drew (S := fun _ => True) (by kernel_rfl) ?_ (fun hHeld => ?_)
          · exact True.intro
          refine wpAnyH_take (i := 1) (v := ?_) (by simp only [List.getElem?_toArray, List.getElem?_cons_succ, List.getElem?_cons_zero]; rfl) (by kernel_rfl) (by kernel_rfl) (by kernel_rfl) (fun _ _ _ h => h) (Or.inl ⟨by rfl, ?_⟩) (by assumption) ?_
          rotate_left
          · intro W hSW
            go_simp
            try with_reducible rfl
          try simp only [Act.put, List.setIfInBounds_toArray, List.set_cons_zero, List.set_cons_succ]
          refine wpAnyH_take (i := 2) (v := ?_) (by simp only [List.getElem?_toArray, List.getElem?_cons_succ, List.getElem?_cons_zero]; rfl) (by kernel_rfl) (by kernel_rfl) (by kernel_rfl) (fun _ _ _ h => h) (Or.inl ⟨by rfl, ?_⟩) (by assumption) ?_
          rotate_left
          · intro W hSW
            go_simp
            try with_reducible rfl
          try simp only [Act.put, List.setIfInBounds_toArray, List.set_cons_zero, List.set_cons_succ]
          refine wpAnyH_take (i := 3) (by simp only [List.getElem?_toArray, List.getElem?_cons_succ, List.getElem?_cons_zero]; rfl) (by kernel_rfl) (by kernel_rfl) (by kernel_rfl) (fun _ _ _ h => h) (yieldsIf_slice_from (by rfl) 23 _ _ rfl (.slice la i lc) (.int .i64 (k : Int)) rfl rfl (.slice (subE la lc k) (i - k) (lc - k)) hs1) (by assumption) ?_
          try simp only [Act.put, List.setIfInBounds_toArray, List.set_cons_zero, List.set_cons_succ]
          refine wpAnyH_take (i := 5) (v := ?_) (by simp only [List.getElem?_toArray, List.getElem?_cons_succ, List.getElem?_cons_zero]; rfl) (by kernel_rfl) (by kernel_rfl) (by kernel_rfl) (fun _ _ _ h => h) (Or.inl ⟨by rfl, ?_⟩) (by assumption) ?_
          rotate_left
          · intro W hSW
            go_simp
            try with_reducible rfl
          try simp only [Act.put, List.setIfInBounds_toArray, List.set_cons_zero, List.set_cons_succ]
          refine wpAnyH_take (i := 6) (v := ?_) (by simp only [List.getElem?_toArray, List.getElem?_cons_succ, List.getElem?_cons_zero]; rfl) (by kernel_rfl) (by kernel_rfl) (by kernel_rfl) (fun _ _ _ h => h) (Or.inl ⟨by rfl, ?_⟩) (by assumption) ?_
          rotate_left
          · intro W hSW
            go_simp
            try with_reducible rfl
          try simp only [Act.put, List.setIfInBounds_toArray, List.set_cons_zero, List.set_cons_succ]
          refine wpAnyH_take (i := 7) (by simp only [List.getElem?_toArray, List.getElem?_cons_succ, List.getElem?_cons_zero]; rfl) (by kernel_rfl) (by kernel_rfl) (by kernel_rfl) (fun _ _ _ h => h) (yieldsIf_slice_to (by rfl) 23 _ _ rfl (.slice la i lc) (.int .i64 (k : Int)) rfl rfl (.slice la k lc) hs2) (by assumption) ?_
          try simp only [Act.put, List.setIfInBounds_toArray, List.set_cons_zero, List.set_cons_succ]
          refine wpAnyH_ready (rs := [0]) (by kernel_rfl) (by simp) ?_
          refine AllReadyH.cons (by simp only [List.getElem?_toArray, List.getElem?_cons_zero]; rfl) (fun K hK => ?_) AllReadyH.nil
          refine step_slice (by rfl) _ _ _ rfl #[] (by simp) _ _ (slice_noE _) ?_
          have HZB : Hid (Below u1.heap.size u1 (u1.drew.alloc (.cells #[] 30))) := (Below.refl _ _).drew.alloc (Nat.le_refl _) _
          have HZ : Hid (OwnE 30 (u1.drew.alloc (.cells #[] 30)) u1.heap.size (.slice (some ⟨u1.heap.size, 0, none⟩) 0 0) []) := OwnE.empty u1.drew
          refine hK.out _ _ (True.intro) (fun hHeld2 => ?_)
          clear hK K hHeld
          have hHeld := hHeld2
          clear hHeld2
          try simp only [Act.put, List.setIfInBounds_toArray, List.set_cons_zero, List.set_cons_succ]
          refine wpAnyH_ready (rs := [4]) (by kernel_rfl) (by simp) ?_
          refine AllReadyH.cons (by simp only [List.getElem?_toArray, List.getElem?_cons_succ, List.getElem?_cons_zero]; rfl) (fun K hK => ?_) AllReadyH.nil
          refine step_append_many (by rfl) _ _ rfl u1.heap.size _ [] 0 rfl rfl HZ.out (subE la lc k) (i - k) (lc - k) (ys.drop k) (by rw [List.length_drop, HN.out]) rfl ((HYU.out _ HZB.out).drop lc k (by rw [HN.out]; exact HLC.out) (by rw [HN.out]; exact Nat.le_of_lt HKI.out)) (i - k) (ys.drop k) (Nat.zero_add _) rfl (by have := HNB.out; omega) HZB.out.size ?_
          intro vx w5 ho hg
          have HO5 : Hid (OwnE 30 w5 u1.heap.size vx (ys.drop k)) := ho
          have HB5 : Hid (Below u1.heap.size u1 w5) := HZB.out.trans (own_off HZ.out HZB.out.size hg)
          clear ho hg HZ HZB
          refine hK.out _ _ (True.intro) (fun hHeld2 => ?_)
          clear hK K hHeld
          have hHeld := hHeld2
          clear hHeld2
          try simp only [Act.put, List.setIfInBounds_toArray, List.set_cons_zero, List.set_cons_succ]
          refine wpAnyH_ready (rs := [8]) (by kernel_rfl) (by simp) ?_
          refine AllReadyH.cons (by simp only [List.getElem?_toArray, List.getElem?_cons_succ, List.getElem?_cons_zero]; rfl) (fun K hK => ?_) AllReadyH.nil
          refine step_append_many (by rfl) _ _ rfl u1.heap.size vx (ys.drop k) (i - k) (by rw [List.length_drop, HN.out]) rfl HO5.out la k lc (ys.take k) (by rw [List.length_take, HN.out]; have := HKI.out; omega) rfl ((HYU.out _ HB5.out).take k) i R (by have := HKI.out; omega) HRE.out (by have := HNB.out; omega) HB5.out.size ?_
          intro vy w6 ho hg
          have HB6 : Hid (Below u1.heap.size u1 w6) := HB5.out.trans (own_off HO5.out HB5.out.size hg)
          obtain ⟨ta, tc, rfl, hat, -, hnc⟩ := ho.at
          rw [HRN.out]
          have HTA := Lib.hid hat
          have HTC := Lib.hid hnc
          clear ho hg hat hnc HO5 HB5
          refine hK.out _ _ (True.intro) (fun hHeld2 => ?_)
          clear hK K hHeld
          have hHeld := hHeld2
          clear hHeld2
          try simp only [Act.put, List.setIfInBounds_toArray, List.set_cons_zero, List.set_cons_succ]
          refine wpAnyH_take (i := 9) (v := ?_) (by simp only [List.getElem?_toArray, List.getElem?_cons_succ, List.getElem?_cons_zero]; rfl) (by kernel_rfl) (by kernel_rfl) (by kernel_rfl) (fun _ _ _ h => h) (Or.inl ⟨by rfl, ?_⟩) (by assumption) ?_
          rotate_left
          · intro W hSW
            go_simp
            try with_reducible rfl
          try simp only [Act.put, List.setIfInBounds_toArray, List.set_cons_zero, List.set_cons_succ]
          refine wpAnyH_done (by kernel_rfl) ?_ _
          refine NoPanic.normal ?_
          clear hHeld hs1 hs2
          go_wp2_with fail
          refine (tsort_n i R HRN.out (by have := HNB.out; omega) ta tc HTC.out w6 HTA.out HRP.out).mono ?_
          rintro e u2 ⟨⟨v, rfl, ho⟩, hb⟩
          rw [HRS.out] at ho
          have HB2 := Lib.hid (HB6.out.trans (hb.mono HB6.out.size))
          have HTA2 := Lib.hid (HTA.out.below hb)
          obtain ⟨qa, qc, rfl, hat, -, -⟩ := ho.at
          have HQ2 := Lib.hid hat
          rw [HN.out]
          clear hat ho hb HTA HB6
          go_wp2_with fail
          refine (tas_n i ys HN.out (by have := HNB.out; omega) qa qc u2 HQ2.out).mono ?_
          rintro e u3 ⟨⟨v, rfl, ho⟩, hb⟩
          have HB3 := Lib.hid (HB2.out.trans (hb.mono HB2.out.size))
          have HTA3 := Lib.hid (HTA2.out.below hb)
          obtain ⟨ra, rc, rfl, hat, -, -⟩ := ho.at
          have HR3 := Lib.hid hat
          rw [HN.out]
          clear hat ho hb HTA2 HB2 HQ2
          go_wp2_with fail
          refine (tas_n i ys HN.out (by have := HNB.out; omega) la lc u3 (HYU.out u3 HB3.out)).mono ?_
          rintro e u4 ⟨⟨v, rfl, ho⟩, hb⟩
          have HB4 := Lib.hid (HB3.out.trans (hb.mono HB3.out.size))
          have HTA4 := Lib.hid (HTA3.out.below hb)
          have HR4 := Lib.hid (HR3.out.below hb)
          obtain ⟨ua, uc, rfl, hat, -, -⟩ := ho.at
          have HU4 := Lib.hid hat
          rw [HN.out]
          clear hat ho hb HTA3 HB3 HR3
          go_wp2_with fail
          refine (tsame_n i ys HN.out (by have := HNB.out; omega) ra ua rc uc u4 HR4.out HU4.out).mono ?_
          rintro e u5 ⟨rfl, hb⟩
          have HB5 := Lib.hid (HB4.out.trans (hb.mono HB4.out.size))
          have HTA5 := Lib.hid (HTA4.out.below hb)
          clear hb HTA4 HB4 HR4 HU4
          by_cases hk0 : k = 0
          · subst hk0
            rw [show ((0 : Nat) : Int) = 0 from rfl] at *
            go_wp2_with fail
            (try simp only [Exit.inBlock, Exit.then])
            go_ret
            exact ⟨rfl, HV4.out.trans (HB5.out.mono HV4.out.size)⟩
          · have HRF := Lib.hid (HRW.out (by omega))
            have hki : ¬ (k : Int) = 0 := by omega
            have hkb : ((k : Int) == 0) = false := beq_eq_false_iff_ne.2 hki
            clear hk0
            go_wp2_with fail
            refine (tright_n i R HRN.out (by have := HNB.out; omega) ta tc u5 HTA5.out HRP.out).mono ?_
            rintro e u6 ⟨rfl, hb⟩
            rw [HRF.out]
            have HB6 := Lib.hid (HB5.out.trans (hb.mono HB5.out.size))
            clear hb
            go_wp2_with fail
            (try simp only [Exit.inBlock, Exit.then])
            go_ret
            exact ⟨rfl, HV4.out.trans (HB6.out.mono HV4.out.size)⟩
end Go.Proofs.YthemolkmciofaaaDoor
