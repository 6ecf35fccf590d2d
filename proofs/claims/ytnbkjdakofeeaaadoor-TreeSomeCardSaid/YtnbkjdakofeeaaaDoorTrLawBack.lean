/- TreeBack: the walk. -/
import Derived.Test.YtnbkjdakofeeaaaDoorTrKnown
namespace Go.Proofs.YtnbkjdakofeeaaaDoor
open Go.RowKit Plain
set_option linter.unusedVariables false
set_option linter.unusedSimpArgs false
theorem tas_n (n : Nat) (ys : List TE) (hn : ys.length = n) (hb : n ≤ 1000000) (a : Option Addr) (c : Nat) (w : World) (h : EsAt w a ys) :
    Calls Tryd.prog 10 #[.slice a n c] w fun e w' => (∃ v, e = .returned v ∧ OwnE 50 w' w.heap.size v ys) ∧ Below w.heap.size w w' := by
  subst hn; exact as_any a c ys w h hb
theorem tsame_n (n : Nat) (ys : List TE) (hn : ys.length = n) (hb : n ≤ 1000000) (a1 a2 : Option Addr) (c1 c2 : Nat) (w : World) (h1 : EsAt w a1 ys) (h2 : EsAt w a2 ys) :
    Calls Tryd.prog 9 #[.slice a1 n c1, .slice a2 n c2] w fun e w' => e = .returned (.bool true) ∧ Below w.heap.size w w' := by
  subst hn; exact same_any a1 a2 c1 c2 ys w h1 h2 hb
theorem tprint_n (n : Nat) (ys : List TE) (hn : ys.length = n) (hb : n ≤ 100000) (a : Option Addr) (c : Nat) (w : World) (h : EsAt w a ys) (hgf : ∀ x ∈ ys, GoodE x) (hps : ∀ x ∈ ys, x.p.size ≤ 100000) (hE : Env w) :
    Calls Tryd.prog 11 #[.slice a n c] w fun e w' => TrPrint e w' ys ∧ Below w.heap.size w w' := by
  subst hn; exact tprint_any a c ys w h hb hgf hps hE
theorem tright_n (n : Nat) (ys : List TE) (hn : ys.length = n) (hb : n ≤ 1000000) (a : Option Addr) (c : Nat) (w : World) (h : EsAt w a ys) (hps : ∀ x ∈ ys, x.p.size ≤ 100000) :
    Calls Tryd.prog 13 #[.slice a n c] w fun e w' => e = .returned (.bool (rightT ys)) ∧ Below w.heap.size w w' := by
  subst hn; exact tright_any a c ys w h hb hps
theorem few_small (x : TE) : (fewE x).p.size ≤ 100000 := by
  show (x.p.extract 0 (min x.p.size 300)).size ≤ _
  simp; omega
theorem EsAt.take {w : World} {a : Option Addr} {xs : List TE} (h : EsAt w a xs) (k : Nat) : EsAt w a (xs.take k) := by
  refine ⟨fun x hx => h.each x (List.mem_of_mem_take hx), ?_⟩
  rcases h.rows with h0 | ⟨b, off, rfl, hl, hc⟩
  · exact .inl (by rw [List.length_take]; omega)
  · refine .inr ⟨b, off, rfl, hl, fun j x hj => hc j x ?_⟩
    by_cases hjk : j < k
    · rwa [List.getElem?_take_of_lt hjk] at hj
    · rw [List.getElem?_eq_none (by rw [List.length_take]; omega)] at hj; cases hj
theorem slice_toE (a : Option Addr) (m cap hi : Nat) (h2 : hi ≤ cap) (w : World) :
    (Instr.sliceAt 23 (.slice a m cap) none (some (.int .i64 (hi : Int))) none).run Tryd.prog w = .ok (.slice a hi cap) w := by
  have hsz : ∀ W : World, (sizeOf (Tryd.prog.elem 23)).run Tryd.prog W = .ok 22 W := fun W => by kernel_rfl
  have h0 : ∀ x : Addr, x.add 0 = x := fun x => by unfold Addr.add; simp
  rw [run_sliceAt_slice w 23 _ _ _ _ (by kernel_rfl), run_slice_h w 23 a m cap (by kernel_rfl) .i64 (hi : Int) (by omega) (by omega), hsz]
  simp [Result.andThen_ok, sliced, h0]
theorem yieldsIf_slice_to {P : Program} {ops : Array Oper} {S : World → Prop} {op : Oper} {a : Act} (hw : Region.wanted op (yielded ops a.tmps) = true) (ty : TypeId) (x hi : Operand) (ho : op.op = .slice ty x none (some hi) none)
    (u uh : Value) (h1 : a.eval x = u) (h2 : a.eval hi = uh) (v : Value) (hr : ∀ W, (Instr.sliceAt ty u none (some uh) none).run P W = .ok v W) : YieldsIf P ops S op v a := by
  refine .inl ⟨hw, fun W hS => ?_⟩
  unfold execOp
  simp [ho, h1, h2, hr]
theorem neq_self (s : ByteArray) (W : World) : (binOp .neq 9 (.string s) (.string s)).run Tryd.prog W = .ok (.bool false) W :=
  ne_str s s true (beq_self_eq_true _) W
theorem mod_is (t : Nat) (z : Int) (ht : t ≤ 1000000) : ∃ k : Nat, (wrap64 ((IntKind.u64.wrap z).tmod ((t : Int) + 1)) = (k : Int) ∧ wrap64 ((IntKind.u64.wrap z).tmod ((t + 1 : Nat) : Int)) = (k : Int)) ∧ k ≤ t := by
  have h0 : 0 ≤ IntKind.u64.wrap z := by rw [IntKind.wrap_u64]; omega
  generalize IntKind.u64.wrap z = u at *
  have e : ((t + 1 : Nat) : Int) = (t : Int) + 1 := by omega
  rw [e, Int.tmod_eq_emod_of_nonneg h0]
  have h1 := Int.emod_nonneg u (show (t : Int) + 1 ≠ 0 by omega)
  have h2 := Int.emod_lt_of_pos u (show (0 : Int) < (t : Int) + 1 by omega)
  rw [IntWalk.wrap64_in _ (by omega)]
  exact ⟨(u % ((t : Int) + 1)).toNat, ⟨by omega, by omega⟩, by omega⟩
theorem u64_succ (t : Nat) (ht : t ≤ 1000000) : IntKind.u64.wrap ((t : Int) + 1) = (t : Int) + 1 := by rw [IntKind.wrap_u64]; omega
theorem u64_succ2 (t : Nat) (ht : t ≤ 1000000) : IntKind.u64.wrap ((t + 1 : Nat) : Int) = (t : Int) + 1 := by rw [IntKind.wrap_u64]; omega
set_option maxRecDepth 100000 in
set_option maxHeartbeats 64000000 in
theorem lawtback_any (a1 : Option Addr) (len cap : Nat) (T : List Int) (a : Option Addr) (c : Nat) (xs : List TE) (z : Int) (w : World) (hE : Env w) (R0 : RowB w a1 (min len 4000) cap T) (hlc : len ≤ cap)
    (h : EsAt w a xs) (hn : xs.length ≤ 9223372036854775807) (hg : ∀ x ∈ xs, GoodE x) :
    Calls Tryd.prog 4 #[.slice a1 len cap, .slice a xs.length c, .int .i64 z] w fun e w' => e = .returned (.bool true) ∧ Below w.heap.size w w' := by
  have hmin : min (len : Int) 4000 = ((min len 4000 : Nat) : Int) := by omega
  obtain ⟨m, hm⟩ : ∃ m, min len 4000 = m := ⟨_, rfl⟩
  rw [hm] at hmin R0
  have HM4 : Hid (m ≤ 4000) := by show _ ≤ _; omega
  have hsl := fun W => slice_to a1 len cap m (by omega) W
  obtain ⟨L, hL⟩ : ∃ l, (strOfNums T).data.toList = l := ⟨_, rfl⟩
  have hTL : numsOf (txt L) = T := by rw [← hL, txt_of]; exact nums_str T (fun x hx => by have := R0.mem x hx; omega)
  have HTR : Hid (∀ W, Below w.heap.size w W → (convert 22 9 (.slice a1 m cap)).run Tryd.prog W = .ok (.string (txt L)) W) := fun W hW => by
    rw [← hL, txt_of]; exact text_run W a1 m cap T (R0.bytes.below hW)
  rw [← hTL] at R0
  have HR := Lib.hid R0
  clear R0 hm hlc hL hTL
  have HE := Lib.hid hE
  obtain ⟨ys, hys⟩ : ∃ ys, (xs.take 60).map fewE = ys := ⟨_, rfl⟩
  have HYG : Hid (∀ y ∈ ys, GoodE y) := fun y hy => by
    rw [← hys] at hy
    obtain ⟨x, hx, rfl⟩ := List.mem_map.1 hy
    exact hg x (List.mem_of_mem_take hx)
  have HYP : Hid (∀ y ∈ ys, y.p.size ≤ 100000) := fun y hy => by
    rw [← hys] at hy
    obtain ⟨x, hx, rfl⟩ := List.mem_map.1 hy
    exact few_small x
  have HFEW0 := fun W (hW : Below w.heap.size w W) => few_any a c xs W (h.below hW) hn
  simp only [hys] at HFEW0
  obtain ⟨n, hyn⟩ : ∃ n, ys.length = n := ⟨_, rfl⟩
  have HN := Lib.hid hyn
  have HNB : Hid (n ≤ 60) := by
    show _ ≤ _
    rw [← hyn, ← hys, List.length_map, List.length_take]; omega
  obtain ⟨xn, hxn⟩ : ∃ n, xs.length = n := ⟨_, rfl⟩
  simp only [hxn] at HFEW0
  rw [hxn]
  have HFEW := Lib.hid HFEW0
  clear hys hyn hxn h hg hn hE HFEW0
  go_enter Tryd.func4, Tryd.ntmps4
  go_wp2_with fail
  clear hmin hsl
  refine (tparse_any a1 m cap L w HR.out (by have := HM4.out; omega) HE.out).mono ?_
  rintro e z1 ⟨hpo, hb⟩
  have HZ1 := Lib.hid hb
  clear hb
  cases hq : readT L with
  | none =>
    rw [hq] at hpo
    obtain rfl : e = _ := hpo
    clear hq
    go_wp2_with fail
    refine (HFEW.out z1 HZ1.out).mono ?_
    rintro e v1 ⟨⟨v, rfl, ho⟩, hb⟩
    have HV1 := Lib.hid (HZ1.out.trans (hb.mono HZ1.out.size))
    obtain ⟨la, lc, rfl, hat, hlc2, -⟩ := ho.at
    have HA1 := Lib.hid hat
    rw [HN.out] at hlc2
    have HLC := Lib.hid hlc2
    clear hat ho hb hlc2
    rw [HN.out]
    go_wp2_with fail
    refine (tprint_n n ys HN.out (by have := HNB.out; omega) la lc v1 HA1.out HYG.out HYP.out (HE.out.below HV1.out)).mono ?_
    rintro e v2 ⟨hpo, hb⟩
    have HV2 := Lib.hid (HV1.out.trans (hb.mono HV1.out.size))
    have HA2 := Lib.hid (HA1.out.below hb)
    clear hb HA1 HV1
    cases hr : rightT ys
    · obtain rfl := hpo.no hr
      clear hr hpo
      go_wp2_with fail
      refine (known_any v2 (HE.out.below HV2.out)).mono ?_
      rintro e v3 ⟨rfl, hb⟩
      have HV3 := Lib.hid (HV2.out.trans (hb.mono HV2.out.size))
      clear hb
      go_wp2_with fail
      refine (known_any v3 (HE.out.below HV3.out)).mono ?_
      rintro e v4 ⟨rfl, hb⟩
      have HV4 := Lib.hid (HV3.out.trans (hb.mono HV3.out.size))
      clear hb
      go_wp2_with fail
      (try simp only [Exit.inBlock, Exit.then])
      go_ret
      exact ⟨rfl, HV4.out⟩
    · obtain ⟨ba, bc, rfl, hbt⟩ := hpo.yes hr
      have hrb := tread_back HYG.out hr
      have htl2 := textT_len ys (right_each hr) (fun x hx => (HYG.out x hx).1)
      obtain ⟨TL, hTL⟩ : ∃ t, textT ys = t := ⟨_, rfl⟩
      rw [hTL] at hbt hrb htl2 ⊢
      have HRB := Lib.hid hrb
      obtain ⟨tl, htl⟩ : ∃ t, TL.length = t := ⟨_, rfl⟩
      rw [htl] at hbt htl2 ⊢
      have HBT := Lib.hid hbt
      have HTB : Hid (tl ≤ 16980) := by show _ ≤ _; have h2 := HN.out; have h3 := HNB.out; omega
      have HTL := Lib.hid htl
      clear hr hpo hbt hrb hTL htl htl2
      go_wp2_with fail
      refine (known_any v2 (HE.out.below HV2.out)).mono ?_
      rintro e v3 ⟨rfl, hb⟩
      have HV3 := Lib.hid (HV2.out.trans (hb.mono HV2.out.size))
      have HA3 := Lib.hid (HA2.out.below hb)
      have HB3 := Lib.hid (HBT.out.below hb)
      clear hb HA2 HBT HV2
      go_wp2_with fail
      refine (tparse_any ba tl bc TL v3 HB3.out (by have := HTB.out; omega) (HE.out.below HV3.out)).mono ?_
      rintro e v4 ⟨hpo, hb⟩
      rw [HRB.out] at hpo
      obtain ⟨xa, xc, rfl, hox⟩ := hpo
      have HX4 := Lib.hid hox.fs.1
      have HV4 := Lib.hid (HV3.out.trans (hb.mono HV3.out.size))
      have HA4 := Lib.hid (HA3.out.below hb)
      have HB4 := Lib.hid (HB3.out.below hb)
      rw [HN.out]
      clear hb hox HA3 HB3 HV3
      go_wp2_with fail
      refine (tas_n n ys HN.out (by have := HNB.out; omega) xa xc v4 HX4.out).mono ?_
      rintro e v5 ⟨⟨v, rfl, ho⟩, hb⟩
      have HV5 := Lib.hid (HV4.out.trans (hb.mono HV4.out.size))
      have HA5 := Lib.hid (HA4.out.below hb)
      have HB5 := Lib.hid (HB4.out.below hb)
      obtain ⟨ra, rc, rfl, hat, -, -⟩ := ho.at
      have HR5 := Lib.hid hat
      rw [HN.out]
      clear hat ho hb HA4 HB4 HV4 HX4
      go_wp2_with fail
      refine (tas_n n ys HN.out (by have := HNB.out; omega) la lc v5 HA5.out).mono ?_
      rintro e w5 ⟨⟨v, rfl, ho⟩, hb⟩
      have HW5 := Lib.hid (HV5.out.trans (hb.mono HV5.out.size))
      have HA6 := Lib.hid (HA5.out.below hb)
      have HB6 := Lib.hid (HB5.out.below hb)
      have HR6 := Lib.hid (HR5.out.below hb)
      obtain ⟨ua, uc, rfl, hat, -, -⟩ := ho.at
      have HU6 := Lib.hid hat
      rw [HN.out]
      clear hat ho hb HA5 HB5 HR5 HV5
      go_wp2_with fail
      refine (tsame_n n ys HN.out (by have := HNB.out; omega) ra ua rc uc w5 HR6.out HU6.out).mono ?_
      rintro e w6 ⟨rfl, hb⟩
      have HW6 := Lib.hid (HW5.out.trans (hb.mono HW5.out.size))
      have HA7 := Lib.hid (HA6.out.below hb)
      have HB7r := Lib.hid (HB6.out.below hb)
      clear hb HA6 HB6 HR6 HU6 HW5
      obtain ⟨k, hk, hkt⟩ := mod_is tl z (by have := HTB.out; omega)
      have wk := next_int tl (by have := HTB.out; omega)
      have hu1 := u64_succ tl (by have := HTB.out; omega)
      have hu2 := u64_succ2 tl (by have := HTB.out; omega)
      have hk1 := hk.1
      have hk2 := hk.2
      have hsl := fun W => slice_to ba tl bc k (by have := HB7r.out.le; omega) W
      have HPK := Lib.hid (row_take HB7r.out k hkt)
      have HKL : Hid (TL.take k ++ TL.drop k = TL) := List.take_append_drop _ _
      have HKT := Lib.hid hkt
      clear hk hkt
      go_wp2_with fail
      clear hsl wk hu1 hu2 hk1 hk2
      refine (tparse_any ba k bc (TL.take k) w6 HPK.out (by have := HTB.out; have := HKT.out; omega) (HE.out.below HW6.out)).mono ?_
      rintro e v6 ⟨hpo, hb⟩
      have HV6 := Lib.hid (HW6.out.trans (hb.mono HW6.out.size))
      have HA8 := Lib.hid (HA7.out.below hb)
      clear hb HA7 HB7r HW6
      cases hq : readT (TL.take k) with
      | none =>
        rw [hq] at hpo
        obtain rfl : e = _ := hpo
        clear hq
        go_wp2_with fail
        refine wp_region_noPanic ?_
        refine wp_region_held_drew (S := fun W => True) (by kernel_rfl) ?_ (fun hHeld => ?_)
        · exact trivial
        refine wpAnyH_take (i := 0) (v := ?_) (by simp only [List.getElem?_toArray, List.getElem?_cons_zero]; rfl) (by kernel_rfl) (by kernel_rfl) (by kernel_rfl) (fun _ _ _ h => h) (Or.inl ⟨by rfl, ?_⟩) (by assumption) ?_
        rotate_left
        · intro W hSW
          go_simp
          try with_reducible rfl
        try simp only [Act.put, List.setIfInBounds_toArray, List.set_cons_zero, List.set_cons_succ]
        refine wpAnyH_take (i := 1) (v := ?_) (by simp only [List.getElem?_toArray, List.getElem?_cons_succ, List.getElem?_cons_zero]; rfl) (by kernel_rfl) (by kernel_rfl) (by kernel_rfl) (fun _ _ _ h => h) (Or.inl ⟨by rfl, ?_⟩) (by assumption) ?_
        rotate_left
        · intro W hSW
          go_simp
          try with_reducible rfl
        try simp only [Act.put, List.setIfInBounds_toArray, List.set_cons_zero, List.set_cons_succ]
        refine wpAnyH_take (i := 2) (v := ?_) (by simp only [List.getElem?_toArray, List.getElem?_cons_succ, List.getElem?_cons_zero]; rfl) (by kernel_rfl) (by kernel_rfl) (by kernel_rfl) (fun _ _ _ h => h) (Or.inl ⟨by rfl, ?_⟩) (by assumption) ?_
        rotate_left
        · intro W hSW
          go_simp
          try with_reducible rfl
        try simp only [Act.put, List.setIfInBounds_toArray, List.set_cons_zero, List.set_cons_succ]
        refine wpAnyH_take (i := 3) (v := undef) (by simp only [List.getElem?_toArray, List.getElem?_cons_succ, List.getElem?_cons_zero]; rfl) (by kernel_rfl) (by kernel_rfl) (by kernel_rfl) (fun _ _ _ h => h) (Or.inr ⟨by rfl, rfl⟩) (by assumption) ?_
        try simp only [Act.put, List.setIfInBounds_toArray, List.set_cons_zero, List.set_cons_succ]
        refine wpAnyH_take (i := 4) (v := undef) (by simp only [List.getElem?_toArray, List.getElem?_cons_succ, List.getElem?_cons_zero]; rfl) (by kernel_rfl) (by kernel_rfl) (by kernel_rfl) (fun _ _ _ h => h) (Or.inr ⟨by rfl, rfl⟩) (by assumption) ?_
        try simp only [Act.put, List.setIfInBounds_toArray, List.set_cons_zero, List.set_cons_succ]
        refine wpAnyH_take (i := 5) (v := undef) (by simp only [List.getElem?_toArray, List.getElem?_cons_succ, List.getElem?_cons_zero]; rfl) (by kernel_rfl) (by kernel_rfl) (by kernel_rfl) (fun _ _ _ h => h) (Or.inr ⟨by rfl, rfl⟩) (by assumption) ?_
        try simp only [Act.put, List.setIfInBounds_toArray, List.set_cons_zero, List.set_cons_succ]
        refine wpAnyH_take (i := 6) (v := undef) (by simp only [List.getElem?_toArray, List.getElem?_cons_succ, List.getElem?_cons_zero]; rfl) (by kernel_rfl) (by kernel_rfl) (by kernel_rfl) (fun _ _ _ h => h) (Or.inr ⟨by rfl, rfl⟩) (by assumption) ?_
        try simp only [Act.put, List.setIfInBounds_toArray, List.set_cons_zero, List.set_cons_succ]
        refine wpAnyH_take (i := 7) (v := undef) (by simp only [List.getElem?_toArray, List.getElem?_cons_succ, List.getElem?_cons_zero]; rfl) (by kernel_rfl) (by kernel_rfl) (by kernel_rfl) (fun _ _ _ h => h) (Or.inr ⟨by rfl, rfl⟩) (by assumption) ?_
        try simp only [Act.put, List.setIfInBounds_toArray, List.set_cons_zero, List.set_cons_succ]
        refine wpAnyH_take (i := 8) (v := undef) (by simp only [List.getElem?_toArray, List.getElem?_cons_succ, List.getElem?_cons_zero]; rfl) (by kernel_rfl) (by kernel_rfl) (by kernel_rfl) (fun _ _ _ h => h) (Or.inr ⟨by rfl, rfl⟩) (by assumption) ?_
        try simp only [Act.put, List.setIfInBounds_toArray, List.set_cons_zero, List.set_cons_succ]
        refine wpAnyH_take (i := 9) (v := undef) (by simp only [List.getElem?_toArray, List.getElem?_cons_succ, List.getElem?_cons_zero]; rfl) (by kernel_rfl) (by kernel_rfl) (by kernel_rfl) (fun _ _ _ h => h) (Or.inr ⟨by rfl, rfl⟩) (by assumption) ?_
        try simp only [Act.put, List.setIfInBounds_toArray, List.set_cons_zero, List.set_cons_succ]
        refine wpAnyH_take (i := 10) (v := undef) (by simp only [List.getElem?_toArray, List.getElem?_cons_succ, List.getElem?_cons_zero]; rfl) (by kernel_rfl) (by kernel_rfl) (by kernel_rfl) (fun _ _ _ h => h) (Or.inr ⟨by rfl, rfl⟩) (by assumption) ?_
        try simp only [Act.put, List.setIfInBounds_toArray, List.set_cons_zero, List.set_cons_succ]
        refine wpAnyH_take (i := 11) (v := undef) (by simp only [List.getElem?_toArray, List.getElem?_cons_succ, List.getElem?_cons_zero]; rfl) (by kernel_rfl) (by kernel_rfl) (by kernel_rfl) (fun _ _ _ h => h) (Or.inr ⟨by rfl, rfl⟩) (by assumption) ?_
        try simp only [Act.put, List.setIfInBounds_toArray, List.set_cons_zero, List.set_cons_succ]
        refine wpAnyH_take (i := 12) (v := undef) (by simp only [List.getElem?_toArray, List.getElem?_cons_succ, List.getElem?_cons_zero]; rfl) (by kernel_rfl) (by kernel_rfl) (by kernel_rfl) (fun _ _ _ h => h) (Or.inr ⟨by rfl, rfl⟩) (by assumption) ?_
        try simp only [Act.put, List.setIfInBounds_toArray, List.set_cons_zero, List.set_cons_succ]
        refine wpAnyH_take (i := 13) (v := undef) (by simp only [List.getElem?_toArray, List.getElem?_cons_succ, List.getElem?_cons_zero]; rfl) (by kernel_rfl) (by kernel_rfl) (by kernel_rfl) (fun _ _ _ h => h) (Or.inr ⟨by rfl, rfl⟩) (by assumption) ?_
        try simp only [Act.put, List.setIfInBounds_toArray, List.set_cons_zero, List.set_cons_succ]
        refine wpAnyH_take (i := 14) (v := undef) (by simp only [List.getElem?_toArray, List.getElem?_cons_succ, List.getElem?_cons_zero]; rfl) (by kernel_rfl) (by kernel_rfl) (by kernel_rfl) (fun _ _ _ h => h) (Or.inr ⟨by rfl, rfl⟩) (by assumption) ?_
        try simp only [Act.put, List.setIfInBounds_toArray, List.set_cons_zero, List.set_cons_succ]
        refine wpAnyH_take (i := 15) (v := undef) (by simp only [List.getElem?_toArray, List.getElem?_cons_succ, List.getElem?_cons_zero]; rfl) (by kernel_rfl) (by kernel_rfl) (by kernel_rfl) (fun _ _ _ h => h) (Or.inr ⟨by rfl, rfl⟩) (by assumption) ?_
        try simp only [Act.put, List.setIfInBounds_toArray, List.set_cons_zero, List.set_cons_succ]
        refine wpAnyH_take (i := 16) (v := undef) (by simp only [List.getElem?_toArray, List.getElem?_cons_succ, List.getElem?_cons_zero]; rfl) (by kernel_rfl) (by kernel_rfl) (by kernel_rfl) (fun _ _ _ h => h) (Or.inr ⟨by rfl, rfl⟩) (by assumption) ?_
        try simp only [Act.put, List.setIfInBounds_toArray, List.set_cons_zero, List.set_cons_succ]
        refine wpAnyH_take (i := 17) (v := undef) (by simp only [List.getElem?_toArray, List.getElem?_cons_succ, List.getElem?_cons_zero]; rfl) (by kernel_rfl) (by kernel_rfl) (by kernel_rfl) (fun _ _ _ h => h) (Or.inr ⟨by rfl, rfl⟩) (by assumption) ?_
        try simp only [Act.put, List.setIfInBounds_toArray, List.set_cons_zero, List.set_cons_succ]
        refine wpAnyH_take (i := 18) (v := ?_) (by simp only [List.getElem?_toArray, List.getElem?_cons_succ, List.getElem?_cons_zero]; rfl) (by kernel_rfl) (by kernel_rfl) (by kernel_rfl) (fun _ _ _ h => h) (Or.inl ⟨by rfl, ?_⟩) (by assumption) ?_
        rotate_left
        · intro W hSW
          go_simp
          try with_reducible rfl
        try simp only [Act.put, List.setIfInBounds_toArray, List.set_cons_zero, List.set_cons_succ]
        refine wpAnyH_take (i := 19) (v := ?_) (by simp only [List.getElem?_toArray, List.getElem?_cons_succ, List.getElem?_cons_zero]; rfl) (by kernel_rfl) (by kernel_rfl) (by kernel_rfl) (fun _ _ _ h => h) (Or.inl ⟨by rfl, ?_⟩) (by assumption) ?_
        rotate_left
        · intro W hSW
          go_simp
          try with_reducible rfl
        try simp only [Act.put, List.setIfInBounds_toArray, List.set_cons_zero, List.set_cons_succ]
        refine wpAnyH_done (by kernel_rfl) ?_ _
        refine NoPanic.normal ?_
        clear hHeld
        go_wp2_with fail
        go_ret
        exact ⟨rfl, HV6.out.drew⟩
      | some zs =>
        rw [hq] at hpo
        obtain ⟨ya, yc, rfl, hoy⟩ := hpo
        have hrb := HRB.out
        rw [← HKL.out] at hrb
        have hpre := tread_prefix hq hrb
        have HY8 := Lib.hid hoy.fs.1
        obtain ⟨j, hj⟩ : ∃ j, zs.length = j := ⟨_, rfl⟩
        rw [hj] at hpre ⊢
        have HJ := Lib.hid hj
        have hjn : j ≤ n := by
          have := congrArg List.length hpre
          rw [List.length_take, HN.out, hj] at this
          omega
        have hji : (j : Int) ≤ (n : Int) := by omega
        have HTJ : Hid ((ys.take j).length = j) := by show _ = _; rw [List.length_take, HN.out]; omega
        have HASY : Hid (∀ W, Below v6.heap.size v6 W → Calls Tryd.prog 10 #[.slice ya j yc] W fun e w' => (∃ v, e = .returned v ∧ OwnE 50 w' W.heap.size v zs) ∧ Below W.heap.size W w') := fun W hW =>
          tas_n j zs HJ.out (by have := HNB.out; omega) ya yc W (HY8.out.below hW)
        have HASA : Hid (∀ W, Below v6.heap.size v6 W → Calls Tryd.prog 10 #[.slice la j lc] W fun e w' => (∃ v, e = .returned v ∧ OwnE 50 w' W.heap.size v (ys.take j)) ∧ Below W.heap.size W w') := fun W hW =>
          tas_n j (ys.take j) HTJ.out (by have := HNB.out; omega) la lc W ((HA8.out.below hW).take j)
        have HSAME : Hid (∀ a7 a8 c7 c8 W, EsAt W a7 zs → EsAt W a8 (ys.take j) → Calls Tryd.prog 9 #[.slice a7 j c7, .slice a8 j c8] W fun e w' => e = .returned (.bool true) ∧ Below W.heap.size W w') := fun a7 a8 c7 c8 W h7 h8 => by
          rw [← hpre] at h8
          exact tsame_n j zs HJ.out (by have := HNB.out; omega) a7 a8 c7 c8 W h7 h8
        have hsj := fun W => slice_toE la n lc j (by have := HLC.out; omega) W
        clear hq hoy hrb hpre hj hjn
        go_wp2_with fail
        refine wp_region_noPanic ?_
        refine wp_region_held_drew (S := fun W => Below v6.heap.size v6 W) (by kernel_rfl) ?_ (fun hHeld => ?_)
        · exact (Below.refl _ _).drew
        refine wpAnyH_take (i := 0) (v := ?_) (by simp only [List.getElem?_toArray, List.getElem?_cons_zero]; rfl) (by kernel_rfl) (by kernel_rfl) (by kernel_rfl) (fun _ _ _ h => h) (Or.inl ⟨by rfl, ?_⟩) (by assumption) ?_
        rotate_left
        · intro W hSW
          go_simp
          try with_reducible rfl
        try simp only [Act.put, List.setIfInBounds_toArray, List.set_cons_zero, List.set_cons_succ]
        refine wpAnyH_take (i := 1) (v := ?_) (by simp only [List.getElem?_toArray, List.getElem?_cons_succ, List.getElem?_cons_zero]; rfl) (by kernel_rfl) (by kernel_rfl) (by kernel_rfl) (fun _ _ _ h => h) (Or.inl ⟨by rfl, ?_⟩) (by assumption) ?_
        rotate_left
        · intro W hSW
          go_simp
          try with_reducible rfl
        try simp only [Act.put, List.setIfInBounds_toArray, List.set_cons_zero, List.set_cons_succ]
        refine wpAnyH_take (i := 2) (v := ?_) (by simp only [List.getElem?_toArray, List.getElem?_cons_succ, List.getElem?_cons_zero]; rfl) (by kernel_rfl) (by kernel_rfl) (by kernel_rfl) (fun _ _ _ h => h) (Or.inl ⟨by rfl, ?_⟩) (by assumption) ?_
        rotate_left
        · intro W hSW
          go_simp
          try with_reducible rfl
        try simp only [Act.put, List.setIfInBounds_toArray, List.set_cons_zero, List.set_cons_succ]
        refine wpAnyH_take (i := 3) (v := ?_) (by simp only [List.getElem?_toArray, List.getElem?_cons_succ, List.getElem?_cons_zero]; rfl) (by kernel_rfl) (by kernel_rfl) (by kernel_rfl) (fun _ _ _ h => h) (Or.inl ⟨by rfl, ?_⟩) (by assumption) ?_
        rotate_left
        · intro W hSW
          go_simp
          try with_reducible rfl
        try simp only [Act.put, List.setIfInBounds_toArray, List.set_cons_zero, List.set_cons_succ]
        refine wpAnyH_take (i := 4) (v := ?_) (by simp only [List.getElem?_toArray, List.getElem?_cons_succ, List.getElem?_cons_zero]; rfl) (by kernel_rfl) (by kernel_rfl) (by kernel_rfl) (fun _ _ _ h => h) (Or.inl ⟨by rfl, ?_⟩) (by assumption) ?_
        rotate_left
        · intro W hSW
          go_simp
          try with_reducible rfl
        try simp only [Act.put, List.setIfInBounds_toArray, List.set_cons_zero, List.set_cons_succ]
        refine wpAnyH_take (i := 5) (v := ?_) (by simp only [List.getElem?_toArray, List.getElem?_cons_succ, List.getElem?_cons_zero]; rfl) (by kernel_rfl) (by kernel_rfl) (by kernel_rfl) (fun _ _ _ h => h) (Or.inl ⟨by rfl, ?_⟩) (by assumption) ?_
        rotate_left
        · intro W hSW
          go_simp
          try with_reducible rfl
        try simp only [Act.put, List.setIfInBounds_toArray, List.set_cons_zero, List.set_cons_succ]
        refine wpAnyH_take (i := 6) (v := ?_) (by simp only [List.getElem?_toArray, List.getElem?_cons_succ, List.getElem?_cons_zero]; rfl) (by kernel_rfl) (by kernel_rfl) (by kernel_rfl) (fun _ _ _ h => h) (Or.inl ⟨by rfl, ?_⟩) (by assumption) ?_
        rotate_left
        · intro W hSW
          go_simp
          try with_reducible rfl
        try simp only [Act.put, List.setIfInBounds_toArray, List.set_cons_zero, List.set_cons_succ]
        refine wpAnyH_take (i := 7) (v := ?_) (by simp only [List.getElem?_toArray, List.getElem?_cons_succ, List.getElem?_cons_zero]; rfl) (by kernel_rfl) (by kernel_rfl) (by kernel_rfl) (fun _ _ _ h => h) (Or.inl ⟨by rfl, ?_⟩) (by assumption) ?_
        rotate_left
        · intro W hSW
          go_simp
          try with_reducible rfl
        try simp only [Act.put, List.setIfInBounds_toArray, List.set_cons_zero, List.set_cons_succ]
        refine wpAnyH_take (i := 8) (v := ?_) (by simp only [List.getElem?_toArray, List.getElem?_cons_succ, List.getElem?_cons_zero]; rfl) (by kernel_rfl) (by kernel_rfl) (by kernel_rfl) (fun _ _ _ h => h) (Or.inl ⟨by rfl, ?_⟩) (by assumption) ?_
        rotate_left
        · intro W hSW
          go_simp
          try with_reducible rfl
        try simp only [Act.put, List.setIfInBounds_toArray, List.set_cons_zero, List.set_cons_succ]
        refine wpAnyH_take (i := 9) (v := ?_) (by simp only [List.getElem?_toArray, List.getElem?_cons_succ, List.getElem?_cons_zero]; rfl) (by kernel_rfl) (by kernel_rfl) (by kernel_rfl) (fun _ _ _ h => h) (Or.inl ⟨by rfl, ?_⟩) (by assumption) ?_
        rotate_left
        · intro W hSW
          go_simp
          try with_reducible rfl
        try simp only [Act.put, List.setIfInBounds_toArray, List.set_cons_zero, List.set_cons_succ]
        refine wpAnyH_take (i := 11) (v := ?_) (by simp only [List.getElem?_toArray, List.getElem?_cons_succ, List.getElem?_cons_zero]; rfl) (by kernel_rfl) (by kernel_rfl) (by kernel_rfl) (fun _ _ _ h => h) (Or.inl ⟨by rfl, ?_⟩) (by assumption) ?_
        rotate_left
        · intro W hSW
          go_simp
          try with_reducible rfl
        try simp only [Act.put, List.setIfInBounds_toArray, List.set_cons_zero, List.set_cons_succ]
        refine wpAnyH_take (i := 12) (v := ?_) (by simp only [List.getElem?_toArray, List.getElem?_cons_succ, List.getElem?_cons_zero]; rfl) (by kernel_rfl) (by kernel_rfl) (by kernel_rfl) (fun _ _ _ h => h) (Or.inl ⟨by rfl, ?_⟩) (by assumption) ?_
        rotate_left
        · intro W hSW
          go_simp
          try with_reducible rfl
        try simp only [Act.put, List.setIfInBounds_toArray, List.set_cons_zero, List.set_cons_succ]
        refine wpAnyH_take (i := 13) (v := ?_) (by simp only [List.getElem?_toArray, List.getElem?_cons_succ, List.getElem?_cons_zero]; rfl) (by kernel_rfl) (by kernel_rfl) (by kernel_rfl) (fun _ _ _ h => h) (Or.inl ⟨by rfl, ?_⟩) (by assumption) ?_
        rotate_left
        · intro W hSW
          go_simp
          try with_reducible rfl
        try simp only [Act.put, List.setIfInBounds_toArray, List.set_cons_zero, List.set_cons_succ]
        refine wpAnyH_take (i := 14) (by simp only [List.getElem?_toArray, List.getElem?_cons_succ, List.getElem?_cons_zero]; rfl) (by kernel_rfl) (by kernel_rfl) (by kernel_rfl) (fun _ _ _ h => h) (yieldsIf_slice_to (by rfl) 23 _ _ rfl (.slice la n lc) (.int .i64 (j : Int)) rfl rfl (.slice la j lc) hsj) (by assumption) ?_
        try simp only [Act.put, List.setIfInBounds_toArray, List.set_cons_zero, List.set_cons_succ]
        refine wpAnyH_ready (rs := [10]) (by kernel_rfl) (by simp) ?_
        refine AllReadyH.cons (by simp only [List.getElem?_toArray, List.getElem?_cons_succ, List.getElem?_cons_zero]; rfl) (fun K hK => ?_) AllReadyH.nil
        go_simp
        refine (HASY.out _ ((Below.refl _ _).drew)).mono ?_
        rintro e v7 ⟨⟨v, rfl, ho⟩, hb⟩
        obtain ⟨a7, c7, rfl, hat7, -, -⟩ := ho.at
        rw [HJ.out]
        have hb7 : Below v6.heap.size v6 v7 := (Below.refl _ _).drew.trans hb
        have HB7 := Lib.hid hb7
        have HT7 := Lib.hid hat7
        clear ho hat7 hb
        go_wp2_with fail
        refine hK.out _ _ (hb7) (fun hHeld2 => ?_)
        clear hK K hHeld
        have hHeld := hHeld2
        clear hHeld2
        try simp only [Act.put, List.setIfInBounds_toArray, List.set_cons_zero, List.set_cons_succ]
        clear hb7
        refine wpAnyH_ready (rs := [15]) (by kernel_rfl) (by simp) ?_
        refine AllReadyH.cons (by simp only [List.getElem?_toArray, List.getElem?_cons_succ, List.getElem?_cons_zero]; rfl) (fun K hK => ?_) AllReadyH.nil
        go_simp
        refine (HASA.out _ HB7.out).mono ?_
        rintro e v8 ⟨⟨v, rfl, ho⟩, hb⟩
        obtain ⟨a8, c8, rfl, hat8, -, -⟩ := ho.at
        rw [HTJ.out]
        have hb8 : Below v6.heap.size v6 v8 := HB7.out.trans (hb.mono HB7.out.size)
        have HB8 := Lib.hid hb8
        have HSM := Lib.hid (HSAME.out a7 a8 c7 c8 v8 (HT7.out.below hb) hat8)
        clear ho hat8 hb
        go_wp2_with fail
        refine hK.out _ _ (hb8) (fun hHeld2 => ?_)
        clear hK K hHeld
        have hHeld := hHeld2
        clear hHeld2
        try simp only [Act.put, List.setIfInBounds_toArray, List.set_cons_zero, List.set_cons_succ]
        clear hb8
        refine wpAnyH_ready (rs := [16]) (by kernel_rfl) (by simp) ?_
        refine AllReadyH.cons (by simp only [List.getElem?_toArray, List.getElem?_cons_succ, List.getElem?_cons_zero]; rfl) (fun K hK => ?_) AllReadyH.nil
        go_simp
        refine (HSM.out).mono ?_
        rintro e v9 ⟨rfl, hb⟩
        have hb9 : Below v6.heap.size v6 v9 := HB8.out.trans (hb.mono HB8.out.size)
        have HB9 := Lib.hid hb9
        clear hb HSM
        go_wp2_with fail
        refine hK.out _ _ (hb9) (fun hHeld2 => ?_)
        clear hK K hHeld
        have hHeld := hHeld2
        clear hHeld2
        try simp only [Act.put, List.setIfInBounds_toArray, List.set_cons_zero, List.set_cons_succ]
        clear hb9
        refine wpAnyH_take (i := 17) (v := ?_) (by simp only [List.getElem?_toArray, List.getElem?_cons_succ, List.getElem?_cons_zero]; rfl) (by kernel_rfl) (by kernel_rfl) (by kernel_rfl) (fun _ _ _ h => h) (Or.inl ⟨by rfl, ?_⟩) (by assumption) ?_
        rotate_left
        · intro W hSW
          go_simp
          try with_reducible rfl
        try simp only [Act.put, List.setIfInBounds_toArray, List.set_cons_zero, List.set_cons_succ]
        refine wpAnyH_take (i := 18) (v := ?_) (by simp only [List.getElem?_toArray, List.getElem?_cons_succ, List.getElem?_cons_zero]; rfl) (by kernel_rfl) (by kernel_rfl) (by kernel_rfl) (fun _ _ _ h => h) (Or.inl ⟨by rfl, ?_⟩) (by assumption) ?_
        rotate_left
        · intro W hSW
          go_simp
          try with_reducible rfl
        try simp only [Act.put, List.setIfInBounds_toArray, List.set_cons_zero, List.set_cons_succ]
        refine wpAnyH_take (i := 19) (v := ?_) (by simp only [List.getElem?_toArray, List.getElem?_cons_succ, List.getElem?_cons_zero]; rfl) (by kernel_rfl) (by kernel_rfl) (by kernel_rfl) (fun _ _ _ h => h) (Or.inl ⟨by rfl, ?_⟩) (by assumption) ?_
        rotate_left
        · intro W hSW
          go_simp
          try with_reducible rfl
        try simp only [Act.put, List.setIfInBounds_toArray, List.set_cons_zero, List.set_cons_succ]
        refine wpAnyH_done (by kernel_rfl) ?_ _
        refine NoPanic.normal ?_
        clear hHeld
        go_wp2_with fail
        go_ret
        exact ⟨rfl, HV6.out.trans (HB9.out.mono HV6.out.size)⟩
  | some qs =>
    rw [hq] at hpo
    obtain ⟨ja, jc, rfl, hol⟩ := hpo
    have HJ0 := Lib.hid hol.fs.1
    obtain ⟨qn, hqn⟩ : ∃ n, qs.length = n := ⟨_, rfl⟩
    have HQN := Lib.hid hqn
    obtain ⟨ht, hr, hgq, h22, hen⟩ := tread_text hq
    have hll := row_len HR.out
    have HQB : Hid (qn ≤ 100000) := by show _ ≤ _; have := HM4.out; omega
    have HT := Lib.hid ht
    have HRR := Lib.hid hr
    have HGQ := Lib.hid hgq
    have HPQ : Hid (∀ x ∈ qs, x.p.size ≤ 100000) := fun x hx => by
      have := (ents_back L.length L (Nat.le_refl _) hen).2.2 x hx
      have := HM4.out
      omega
    rw [hqn]
    clear hq hol hqn ht hr hgq h22 hen hll
    go_wp2_with fail
    refine (tprint_n qn qs HQN.out HQB.out ja jc z1 HJ0.out HGQ.out HPQ.out (HE.out.below HZ1.out)).mono ?_
    rintro e z2 ⟨hpo, hb⟩
    obtain ⟨ka, kc, rfl, hbt⟩ := hpo.yes HRR.out
    rw [HT.out] at hbt
    rw [HT.out]
    have HZ2 := Lib.hid (HZ1.out.trans (hb.mono HZ1.out.size))
    have htx := HTR.out z2 HZ2.out
    have hty := text_run z2 ka _ kc _ hbt.bytes
    rw [str_nums] at hty
    clear hb hpo hbt
    generalize L.length = ln at *
    go_wp2_with (first
      | refine wpList_eql (by rfl) .neq 9 _ _ _ rfl (.string (txt L)) (.string (txt L)) rfl rfl (.bool false) (guard_ne _ _ _ _) (neq_self (txt L)) ?_)
    clear htx hty
    refine (HFEW.out z2 HZ2.out).mono ?_
    rintro e v1 ⟨⟨v, rfl, ho⟩, hb⟩
    have HV1 := Lib.hid (HZ2.out.trans (hb.mono HZ2.out.size))
    obtain ⟨la, lc, rfl, hat, hlc2, -⟩ := ho.at
    have HA1 := Lib.hid hat
    rw [HN.out] at hlc2
    have HLC := Lib.hid hlc2
    clear hat ho hb hlc2
    rw [HN.out]
    go_wp2_with fail
    refine (tprint_n n ys HN.out (by have := HNB.out; omega) la lc v1 HA1.out HYG.out HYP.out (HE.out.below HV1.out)).mono ?_
    rintro e v2 ⟨hpo, hb⟩
    have HV2 := Lib.hid (HV1.out.trans (hb.mono HV1.out.size))
    have HA2 := Lib.hid (HA1.out.below hb)
    clear hb HA1 HV1
    cases hr : rightT ys
    · obtain rfl := hpo.no hr
      clear hr hpo
      go_wp2_with fail
      refine (known_any v2 (HE.out.below HV2.out)).mono ?_
      rintro e v3 ⟨rfl, hb⟩
      have HV3 := Lib.hid (HV2.out.trans (hb.mono HV2.out.size))
      clear hb
      go_wp2_with fail
      refine (known_any v3 (HE.out.below HV3.out)).mono ?_
      rintro e v4 ⟨rfl, hb⟩
      have HV4 := Lib.hid (HV3.out.trans (hb.mono HV3.out.size))
      clear hb
      go_wp2_with fail
      (try simp only [Exit.inBlock, Exit.then])
      go_ret
      exact ⟨rfl, HV4.out⟩
    · obtain ⟨ba, bc, rfl, hbt⟩ := hpo.yes hr
      have hrb := tread_back HYG.out hr
      have htl2 := textT_len ys (right_each hr) (fun x hx => (HYG.out x hx).1)
      obtain ⟨TL, hTL⟩ : ∃ t, textT ys = t := ⟨_, rfl⟩
      rw [hTL] at hbt hrb htl2 ⊢
      have HRB := Lib.hid hrb
      obtain ⟨tl, htl⟩ : ∃ t, TL.length = t := ⟨_, rfl⟩
      rw [htl] at hbt htl2 ⊢
      have HBT := Lib.hid hbt
      have HTB : Hid (tl ≤ 16980) := by show _ ≤ _; have h2 := HN.out; have h3 := HNB.out; omega
      have HTL := Lib.hid htl
      clear hr hpo hbt hrb hTL htl htl2
      go_wp2_with fail
      refine (known_any v2 (HE.out.below HV2.out)).mono ?_
      rintro e v3 ⟨rfl, hb⟩
      have HV3 := Lib.hid (HV2.out.trans (hb.mono HV2.out.size))
      have HA3 := Lib.hid (HA2.out.below hb)
      have HB3 := Lib.hid (HBT.out.below hb)
      clear hb HA2 HBT HV2
      go_wp2_with fail
      refine (tparse_any ba tl bc TL v3 HB3.out (by have := HTB.out; omega) (HE.out.below HV3.out)).mono ?_
      rintro e v4 ⟨hpo, hb⟩
      rw [HRB.out] at hpo
      obtain ⟨xa, xc, rfl, hox⟩ := hpo
      have HX4 := Lib.hid hox.fs.1
      have HV4 := Lib.hid (HV3.out.trans (hb.mono HV3.out.size))
      have HA4 := Lib.hid (HA3.out.below hb)
      have HB4 := Lib.hid (HB3.out.below hb)
      rw [HN.out]
      clear hb hox HA3 HB3 HV3
      go_wp2_with fail
      refine (tas_n n ys HN.out (by have := HNB.out; omega) xa xc v4 HX4.out).mono ?_
      rintro e v5 ⟨⟨v, rfl, ho⟩, hb⟩
      have HV5 := Lib.hid (HV4.out.trans (hb.mono HV4.out.size))
      have HA5 := Lib.hid (HA4.out.below hb)
      have HB5 := Lib.hid (HB4.out.below hb)
      obtain ⟨ra, rc, rfl, hat, -, -⟩ := ho.at
      have HR5 := Lib.hid hat
      rw [HN.out]
      clear hat ho hb HA4 HB4 HV4 HX4
      go_wp2_with fail
      refine (tas_n n ys HN.out (by have := HNB.out; omega) la lc v5 HA5.out).mono ?_
      rintro e w5 ⟨⟨v, rfl, ho⟩, hb⟩
      have HW5 := Lib.hid (HV5.out.trans (hb.mono HV5.out.size))
      have HA6 := Lib.hid (HA5.out.below hb)
      have HB6 := Lib.hid (HB5.out.below hb)
      have HR6 := Lib.hid (HR5.out.below hb)
      obtain ⟨ua, uc, rfl, hat, -, -⟩ := ho.at
      have HU6 := Lib.hid hat
      rw [HN.out]
      clear hat ho hb HA5 HB5 HR5 HV5
      go_wp2_with fail
      refine (tsame_n n ys HN.out (by have := HNB.out; omega) ra ua rc uc w5 HR6.out HU6.out).mono ?_
      rintro e w6 ⟨rfl, hb⟩
      have HW6 := Lib.hid (HW5.out.trans (hb.mono HW5.out.size))
      have HA7 := Lib.hid (HA6.out.below hb)
      have HB7r := Lib.hid (HB6.out.below hb)
      clear hb HA6 HB6 HR6 HU6 HW5
      obtain ⟨k, hk, hkt⟩ := mod_is tl z (by have := HTB.out; omega)
      have wk := next_int tl (by have := HTB.out; omega)
      have hu1 := u64_succ tl (by have := HTB.out; omega)
      have hu2 := u64_succ2 tl (by have := HTB.out; omega)
      have hk1 := hk.1
      have hk2 := hk.2
      have hsl := fun W => slice_to ba tl bc k (by have := HB7r.out.le; omega) W
      have HPK := Lib.hid (row_take HB7r.out k hkt)
      have HKL : Hid (TL.take k ++ TL.drop k = TL) := List.take_append_drop _ _
      have HKT := Lib.hid hkt
      clear hk hkt
      go_wp2_with fail
      clear hsl wk hu1 hu2 hk1 hk2
      refine (tparse_any ba k bc (TL.take k) w6 HPK.out (by have := HTB.out; have := HKT.out; omega) (HE.out.below HW6.out)).mono ?_
      rintro e v6 ⟨hpo, hb⟩
      have HV6 := Lib.hid (HW6.out.trans (hb.mono HW6.out.size))
      have HA8 := Lib.hid (HA7.out.below hb)
      clear hb HA7 HB7r HW6
      cases hq : readT (TL.take k) with
      | none =>
        rw [hq] at hpo
        obtain rfl : e = _ := hpo
        clear hq
        go_wp2_with fail
        refine wp_region_noPanic ?_
        refine wp_region_held_drew (S := fun W => True) (by kernel_rfl) ?_ (fun hHeld => ?_)
        · exact trivial
        refine wpAnyH_take (i := 0) (v := ?_) (by simp only [List.getElem?_toArray, List.getElem?_cons_zero]; rfl) (by kernel_rfl) (by kernel_rfl) (by kernel_rfl) (fun _ _ _ h => h) (Or.inl ⟨by rfl, ?_⟩) (by assumption) ?_
        rotate_left
        · intro W hSW
          go_simp
          try with_reducible rfl
        try simp only [Act.put, List.setIfInBounds_toArray, List.set_cons_zero, List.set_cons_succ]
        refine wpAnyH_take (i := 1) (v := ?_) (by simp only [List.getElem?_toArray, List.getElem?_cons_succ, List.getElem?_cons_zero]; rfl) (by kernel_rfl) (by kernel_rfl) (by kernel_rfl) (fun _ _ _ h => h) (Or.inl ⟨by rfl, ?_⟩) (by assumption) ?_
        rotate_left
        · intro W hSW
          go_simp
          try with_reducible rfl
        try simp only [Act.put, List.setIfInBounds_toArray, List.set_cons_zero, List.set_cons_succ]
        refine wpAnyH_take (i := 2) (v := ?_) (by simp only [List.getElem?_toArray, List.getElem?_cons_succ, List.getElem?_cons_zero]; rfl) (by kernel_rfl) (by kernel_rfl) (by kernel_rfl) (fun _ _ _ h => h) (Or.inl ⟨by rfl, ?_⟩) (by assumption) ?_
        rotate_left
        · intro W hSW
          go_simp
          try with_reducible rfl
        try simp only [Act.put, List.setIfInBounds_toArray, List.set_cons_zero, List.set_cons_succ]
        refine wpAnyH_take (i := 3) (v := undef) (by simp only [List.getElem?_toArray, List.getElem?_cons_succ, List.getElem?_cons_zero]; rfl) (by kernel_rfl) (by kernel_rfl) (by kernel_rfl) (fun _ _ _ h => h) (Or.inr ⟨by rfl, rfl⟩) (by assumption) ?_
        try simp only [Act.put, List.setIfInBounds_toArray, List.set_cons_zero, List.set_cons_succ]
        refine wpAnyH_take (i := 4) (v := undef) (by simp only [List.getElem?_toArray, List.getElem?_cons_succ, List.getElem?_cons_zero]; rfl) (by kernel_rfl) (by kernel_rfl) (by kernel_rfl) (fun _ _ _ h => h) (Or.inr ⟨by rfl, rfl⟩) (by assumption) ?_
        try simp only [Act.put, List.setIfInBounds_toArray, List.set_cons_zero, List.set_cons_succ]
        refine wpAnyH_take (i := 5) (v := undef) (by simp only [List.getElem?_toArray, List.getElem?_cons_succ, List.getElem?_cons_zero]; rfl) (by kernel_rfl) (by kernel_rfl) (by kernel_rfl) (fun _ _ _ h => h) (Or.inr ⟨by rfl, rfl⟩) (by assumption) ?_
        try simp only [Act.put, List.setIfInBounds_toArray, List.set_cons_zero, List.set_cons_succ]
        refine wpAnyH_take (i := 6) (v := undef) (by simp only [List.getElem?_toArray, List.getElem?_cons_succ, List.getElem?_cons_zero]; rfl) (by kernel_rfl) (by kernel_rfl) (by kernel_rfl) (fun _ _ _ h => h) (Or.inr ⟨by rfl, rfl⟩) (by assumption) ?_
        try simp only [Act.put, List.setIfInBounds_toArray, List.set_cons_zero, List.set_cons_succ]
        refine wpAnyH_take (i := 7) (v := undef) (by simp only [List.getElem?_toArray, List.getElem?_cons_succ, List.getElem?_cons_zero]; rfl) (by kernel_rfl) (by kernel_rfl) (by kernel_rfl) (fun _ _ _ h => h) (Or.inr ⟨by rfl, rfl⟩) (by assumption) ?_
        try simp only [Act.put, List.setIfInBounds_toArray, List.set_cons_zero, List.set_cons_succ]
        refine wpAnyH_take (i := 8) (v := undef) (by simp only [List.getElem?_toArray, List.getElem?_cons_succ, List.getElem?_cons_zero]; rfl) (by kernel_rfl) (by kernel_rfl) (by kernel_rfl) (fun _ _ _ h => h) (Or.inr ⟨by rfl, rfl⟩) (by assumption) ?_
        try simp only [Act.put, List.setIfInBounds_toArray, List.set_cons_zero, List.set_cons_succ]
        refine wpAnyH_take (i := 9) (v := undef) (by simp only [List.getElem?_toArray, List.getElem?_cons_succ, List.getElem?_cons_zero]; rfl) (by kernel_rfl) (by kernel_rfl) (by kernel_rfl) (fun _ _ _ h => h) (Or.inr ⟨by rfl, rfl⟩) (by assumption) ?_
        try simp only [Act.put, List.setIfInBounds_toArray, List.set_cons_zero, List.set_cons_succ]
        refine wpAnyH_take (i := 10) (v := undef) (by simp only [List.getElem?_toArray, List.getElem?_cons_succ, List.getElem?_cons_zero]; rfl) (by kernel_rfl) (by kernel_rfl) (by kernel_rfl) (fun _ _ _ h => h) (Or.inr ⟨by rfl, rfl⟩) (by assumption) ?_
        try simp only [Act.put, List.setIfInBounds_toArray, List.set_cons_zero, List.set_cons_succ]
        refine wpAnyH_take (i := 11) (v := undef) (by simp only [List.getElem?_toArray, List.getElem?_cons_succ, List.getElem?_cons_zero]; rfl) (by kernel_rfl) (by kernel_rfl) (by kernel_rfl) (fun _ _ _ h => h) (Or.inr ⟨by rfl, rfl⟩) (by assumption) ?_
        try simp only [Act.put, List.setIfInBounds_toArray, List.set_cons_zero, List.set_cons_succ]
        refine wpAnyH_take (i := 12) (v := undef) (by simp only [List.getElem?_toArray, List.getElem?_cons_succ, List.getElem?_cons_zero]; rfl) (by kernel_rfl) (by kernel_rfl) (by kernel_rfl) (fun _ _ _ h => h) (Or.inr ⟨by rfl, rfl⟩) (by assumption) ?_
        try simp only [Act.put, List.setIfInBounds_toArray, List.set_cons_zero, List.set_cons_succ]
        refine wpAnyH_take (i := 13) (v := undef) (by simp only [List.getElem?_toArray, List.getElem?_cons_succ, List.getElem?_cons_zero]; rfl) (by kernel_rfl) (by kernel_rfl) (by kernel_rfl) (fun _ _ _ h => h) (Or.inr ⟨by rfl, rfl⟩) (by assumption) ?_
        try simp only [Act.put, List.setIfInBounds_toArray, List.set_cons_zero, List.set_cons_succ]
        refine wpAnyH_take (i := 14) (v := undef) (by simp only [List.getElem?_toArray, List.getElem?_cons_succ, List.getElem?_cons_zero]; rfl) (by kernel_rfl) (by kernel_rfl) (by kernel_rfl) (fun _ _ _ h => h) (Or.inr ⟨by rfl, rfl⟩) (by assumption) ?_
        try simp only [Act.put, List.setIfInBounds_toArray, List.set_cons_zero, List.set_cons_succ]
        refine wpAnyH_take (i := 15) (v := undef) (by simp only [List.getElem?_toArray, List.getElem?_cons_succ, List.getElem?_cons_zero]; rfl) (by kernel_rfl) (by kernel_rfl) (by kernel_rfl) (fun _ _ _ h => h) (Or.inr ⟨by rfl, rfl⟩) (by assumption) ?_
        try simp only [Act.put, List.setIfInBounds_toArray, List.set_cons_zero, List.set_cons_succ]
        refine wpAnyH_take (i := 16) (v := undef) (by simp only [List.getElem?_toArray, List.getElem?_cons_succ, List.getElem?_cons_zero]; rfl) (by kernel_rfl) (by kernel_rfl) (by kernel_rfl) (fun _ _ _ h => h) (Or.inr ⟨by rfl, rfl⟩) (by assumption) ?_
        try simp only [Act.put, List.setIfInBounds_toArray, List.set_cons_zero, List.set_cons_succ]
        refine wpAnyH_take (i := 17) (v := undef) (by simp only [List.getElem?_toArray, List.getElem?_cons_succ, List.getElem?_cons_zero]; rfl) (by kernel_rfl) (by kernel_rfl) (by kernel_rfl) (fun _ _ _ h => h) (Or.inr ⟨by rfl, rfl⟩) (by assumption) ?_
        try simp only [Act.put, List.setIfInBounds_toArray, List.set_cons_zero, List.set_cons_succ]
        refine wpAnyH_take (i := 18) (v := ?_) (by simp only [List.getElem?_toArray, List.getElem?_cons_succ, List.getElem?_cons_zero]; rfl) (by kernel_rfl) (by kernel_rfl) (by kernel_rfl) (fun _ _ _ h => h) (Or.inl ⟨by rfl, ?_⟩) (by assumption) ?_
        rotate_left
        · intro W hSW
          go_simp
          try with_reducible rfl
        try simp only [Act.put, List.setIfInBounds_toArray, List.set_cons_zero, List.set_cons_succ]
        refine wpAnyH_take (i := 19) (v := ?_) (by simp only [List.getElem?_toArray, List.getElem?_cons_succ, List.getElem?_cons_zero]; rfl) (by kernel_rfl) (by kernel_rfl) (by kernel_rfl) (fun _ _ _ h => h) (Or.inl ⟨by rfl, ?_⟩) (by assumption) ?_
        rotate_left
        · intro W hSW
          go_simp
          try with_reducible rfl
        try simp only [Act.put, List.setIfInBounds_toArray, List.set_cons_zero, List.set_cons_succ]
        refine wpAnyH_done (by kernel_rfl) ?_ _
        refine NoPanic.normal ?_
        clear hHeld
        go_wp2_with fail
        go_ret
        exact ⟨rfl, HV6.out.drew⟩
      | some zs =>
        rw [hq] at hpo
        obtain ⟨ya, yc, rfl, hoy⟩ := hpo
        have hrb := HRB.out
        rw [← HKL.out] at hrb
        have hpre := tread_prefix hq hrb
        have HY8 := Lib.hid hoy.fs.1
        obtain ⟨j, hj⟩ : ∃ j, zs.length = j := ⟨_, rfl⟩
        rw [hj] at hpre ⊢
        have HJ := Lib.hid hj
        have hjn : j ≤ n := by
          have := congrArg List.length hpre
          rw [List.length_take, HN.out, hj] at this
          omega
        have hji : (j : Int) ≤ (n : Int) := by omega
        have HTJ : Hid ((ys.take j).length = j) := by show _ = _; rw [List.length_take, HN.out]; omega
        have HASY : Hid (∀ W, Below v6.heap.size v6 W → Calls Tryd.prog 10 #[.slice ya j yc] W fun e w' => (∃ v, e = .returned v ∧ OwnE 50 w' W.heap.size v zs) ∧ Below W.heap.size W w') := fun W hW =>
          tas_n j zs HJ.out (by have := HNB.out; omega) ya yc W (HY8.out.below hW)
        have HASA : Hid (∀ W, Below v6.heap.size v6 W → Calls Tryd.prog 10 #[.slice la j lc] W fun e w' => (∃ v, e = .returned v ∧ OwnE 50 w' W.heap.size v (ys.take j)) ∧ Below W.heap.size W w') := fun W hW =>
          tas_n j (ys.take j) HTJ.out (by have := HNB.out; omega) la lc W ((HA8.out.below hW).take j)
        have HSAME : Hid (∀ a7 a8 c7 c8 W, EsAt W a7 zs → EsAt W a8 (ys.take j) → Calls Tryd.prog 9 #[.slice a7 j c7, .slice a8 j c8] W fun e w' => e = .returned (.bool true) ∧ Below W.heap.size W w') := fun a7 a8 c7 c8 W h7 h8 => by
          rw [← hpre] at h8
          exact tsame_n j zs HJ.out (by have := HNB.out; omega) a7 a8 c7 c8 W h7 h8
        have hsj := fun W => slice_toE la n lc j (by have := HLC.out; omega) W
        clear hq hoy hrb hpre hj hjn
        go_wp2_with fail
        refine wp_region_noPanic ?_
        refine wp_region_held_drew (S := fun W => Below v6.heap.size v6 W) (by kernel_rfl) ?_ (fun hHeld => ?_)
        · exact (Below.refl _ _).drew
        refine wpAnyH_take (i := 0) (v := ?_) (by simp only [List.getElem?_toArray, List.getElem?_cons_zero]; rfl) (by kernel_rfl) (by kernel_rfl) (by kernel_rfl) (fun _ _ _ h => h) (Or.inl ⟨by rfl, ?_⟩) (by assumption) ?_
        rotate_left
        · intro W hSW
          go_simp
          try with_reducible rfl
        try simp only [Act.put, List.setIfInBounds_toArray, List.set_cons_zero, List.set_cons_succ]
        refine wpAnyH_take (i := 1) (v := ?_) (by simp only [List.getElem?_toArray, List.getElem?_cons_succ, List.getElem?_cons_zero]; rfl) (by kernel_rfl) (by kernel_rfl) (by kernel_rfl) (fun _ _ _ h => h) (Or.inl ⟨by rfl, ?_⟩) (by assumption) ?_
        rotate_left
        · intro W hSW
          go_simp
          try with_reducible rfl
        try simp only [Act.put, List.setIfInBounds_toArray, List.set_cons_zero, List.set_cons_succ]
        refine wpAnyH_take (i := 2) (v := ?_) (by simp only [List.getElem?_toArray, List.getElem?_cons_succ, List.getElem?_cons_zero]; rfl) (by kernel_rfl) (by kernel_rfl) (by kernel_rfl) (fun _ _ _ h => h) (Or.inl ⟨by rfl, ?_⟩) (by assumption) ?_
        rotate_left
        · intro W hSW
          go_simp
          try with_reducible rfl
        try simp only [Act.put, List.setIfInBounds_toArray, List.set_cons_zero, List.set_cons_succ]
        refine wpAnyH_take (i := 3) (v := ?_) (by simp only [List.getElem?_toArray, List.getElem?_cons_succ, List.getElem?_cons_zero]; rfl) (by kernel_rfl) (by kernel_rfl) (by kernel_rfl) (fun _ _ _ h => h) (Or.inl ⟨by rfl, ?_⟩) (by assumption) ?_
        rotate_left
        · intro W hSW
          go_simp
          try with_reducible rfl
        try simp only [Act.put, List.setIfInBounds_toArray, List.set_cons_zero, List.set_cons_succ]
        refine wpAnyH_take (i := 4) (v := ?_) (by simp only [List.getElem?_toArray, List.getElem?_cons_succ, List.getElem?_cons_zero]; rfl) (by kernel_rfl) (by kernel_rfl) (by kernel_rfl) (fun _ _ _ h => h) (Or.inl ⟨by rfl, ?_⟩) (by assumption) ?_
        rotate_left
        · intro W hSW
          go_simp
          try with_reducible rfl
        try simp only [Act.put, List.setIfInBounds_toArray, List.set_cons_zero, List.set_cons_succ]
        refine wpAnyH_take (i := 5) (v := ?_) (by simp only [List.getElem?_toArray, List.getElem?_cons_succ, List.getElem?_cons_zero]; rfl) (by kernel_rfl) (by kernel_rfl) (by kernel_rfl) (fun _ _ _ h => h) (Or.inl ⟨by rfl, ?_⟩) (by assumption) ?_
        rotate_left
        · intro W hSW
          go_simp
          try with_reducible rfl
        try simp only [Act.put, List.setIfInBounds_toArray, List.set_cons_zero, List.set_cons_succ]
        refine wpAnyH_take (i := 6) (v := ?_) (by simp only [List.getElem?_toArray, List.getElem?_cons_succ, List.getElem?_cons_zero]; rfl) (by kernel_rfl) (by kernel_rfl) (by kernel_rfl) (fun _ _ _ h => h) (Or.inl ⟨by rfl, ?_⟩) (by assumption) ?_
        rotate_left
        · intro W hSW
          go_simp
          try with_reducible rfl
        try simp only [Act.put, List.setIfInBounds_toArray, List.set_cons_zero, List.set_cons_succ]
        refine wpAnyH_take (i := 7) (v := ?_) (by simp only [List.getElem?_toArray, List.getElem?_cons_succ, List.getElem?_cons_zero]; rfl) (by kernel_rfl) (by kernel_rfl) (by kernel_rfl) (fun _ _ _ h => h) (Or.inl ⟨by rfl, ?_⟩) (by assumption) ?_
        rotate_left
        · intro W hSW
          go_simp
          try with_reducible rfl
        try simp only [Act.put, List.setIfInBounds_toArray, List.set_cons_zero, List.set_cons_succ]
        refine wpAnyH_take (i := 8) (v := ?_) (by simp only [List.getElem?_toArray, List.getElem?_cons_succ, List.getElem?_cons_zero]; rfl) (by kernel_rfl) (by kernel_rfl) (by kernel_rfl) (fun _ _ _ h => h) (Or.inl ⟨by rfl, ?_⟩) (by assumption) ?_
        rotate_left
        · intro W hSW
          go_simp
          try with_reducible rfl
        try simp only [Act.put, List.setIfInBounds_toArray, List.set_cons_zero, List.set_cons_succ]
        refine wpAnyH_take (i := 9) (v := ?_) (by simp only [List.getElem?_toArray, List.getElem?_cons_succ, List.getElem?_cons_zero]; rfl) (by kernel_rfl) (by kernel_rfl) (by kernel_rfl) (fun _ _ _ h => h) (Or.inl ⟨by rfl, ?_⟩) (by assumption) ?_
        rotate_left
        · intro W hSW
          go_simp
          try with_reducible rfl
        try simp only [Act.put, List.setIfInBounds_toArray, List.set_cons_zero, List.set_cons_succ]
        refine wpAnyH_take (i := 11) (v := ?_) (by simp only [List.getElem?_toArray, List.getElem?_cons_succ, List.getElem?_cons_zero]; rfl) (by kernel_rfl) (by kernel_rfl) (by kernel_rfl) (fun _ _ _ h => h) (Or.inl ⟨by rfl, ?_⟩) (by assumption) ?_
        rotate_left
        · intro W hSW
          go_simp
          try with_reducible rfl
        try simp only [Act.put, List.setIfInBounds_toArray, List.set_cons_zero, List.set_cons_succ]
        refine wpAnyH_take (i := 12) (v := ?_) (by simp only [List.getElem?_toArray, List.getElem?_cons_succ, List.getElem?_cons_zero]; rfl) (by kernel_rfl) (by kernel_rfl) (by kernel_rfl) (fun _ _ _ h => h) (Or.inl ⟨by rfl, ?_⟩) (by assumption) ?_
        rotate_left
        · intro W hSW
          go_simp
          try with_reducible rfl
        try simp only [Act.put, List.setIfInBounds_toArray, List.set_cons_zero, List.set_cons_succ]
        refine wpAnyH_take (i := 13) (v := ?_) (by simp only [List.getElem?_toArray, List.getElem?_cons_succ, List.getElem?_cons_zero]; rfl) (by kernel_rfl) (by kernel_rfl) (by kernel_rfl) (fun _ _ _ h => h) (Or.inl ⟨by rfl, ?_⟩) (by assumption) ?_
        rotate_left
        · intro W hSW
          go_simp
          try with_reducible rfl
        try simp only [Act.put, List.setIfInBounds_toArray, List.set_cons_zero, List.set_cons_succ]
        refine wpAnyH_take (i := 14) (by simp only [List.getElem?_toArray, List.getElem?_cons_succ, List.getElem?_cons_zero]; rfl) (by kernel_rfl) (by kernel_rfl) (by kernel_rfl) (fun _ _ _ h => h) (yieldsIf_slice_to (by rfl) 23 _ _ rfl (.slice la n lc) (.int .i64 (j : Int)) rfl rfl (.slice la j lc) hsj) (by assumption) ?_
        try simp only [Act.put, List.setIfInBounds_toArray, List.set_cons_zero, List.set_cons_succ]
        refine wpAnyH_ready (rs := [10]) (by kernel_rfl) (by simp) ?_
        refine AllReadyH.cons (by simp only [List.getElem?_toArray, List.getElem?_cons_succ, List.getElem?_cons_zero]; rfl) (fun K hK => ?_) AllReadyH.nil
        go_simp
        refine (HASY.out _ ((Below.refl _ _).drew)).mono ?_
        rintro e v7 ⟨⟨v, rfl, ho⟩, hb⟩
        obtain ⟨a7, c7, rfl, hat7, -, -⟩ := ho.at
        rw [HJ.out]
        have hb7 : Below v6.heap.size v6 v7 := (Below.refl _ _).drew.trans hb
        have HB7 := Lib.hid hb7
        have HT7 := Lib.hid hat7
        clear ho hat7 hb
        go_wp2_with fail
        refine hK.out _ _ (hb7) (fun hHeld2 => ?_)
        clear hK K hHeld
        have hHeld := hHeld2
        clear hHeld2
        try simp only [Act.put, List.setIfInBounds_toArray, List.set_cons_zero, List.set_cons_succ]
        clear hb7
        refine wpAnyH_ready (rs := [15]) (by kernel_rfl) (by simp) ?_
        refine AllReadyH.cons (by simp only [List.getElem?_toArray, List.getElem?_cons_succ, List.getElem?_cons_zero]; rfl) (fun K hK => ?_) AllReadyH.nil
        go_simp
        refine (HASA.out _ HB7.out).mono ?_
        rintro e v8 ⟨⟨v, rfl, ho⟩, hb⟩
        obtain ⟨a8, c8, rfl, hat8, -, -⟩ := ho.at
        rw [HTJ.out]
        have hb8 : Below v6.heap.size v6 v8 := HB7.out.trans (hb.mono HB7.out.size)
        have HB8 := Lib.hid hb8
        have HSM := Lib.hid (HSAME.out a7 a8 c7 c8 v8 (HT7.out.below hb) hat8)
        clear ho hat8 hb
        go_wp2_with fail
        refine hK.out _ _ (hb8) (fun hHeld2 => ?_)
        clear hK K hHeld
        have hHeld := hHeld2
        clear hHeld2
        try simp only [Act.put, List.setIfInBounds_toArray, List.set_cons_zero, List.set_cons_succ]
        clear hb8
        refine wpAnyH_ready (rs := [16]) (by kernel_rfl) (by simp) ?_
        refine AllReadyH.cons (by simp only [List.getElem?_toArray, List.getElem?_cons_succ, List.getElem?_cons_zero]; rfl) (fun K hK => ?_) AllReadyH.nil
        go_simp
        refine (HSM.out).mono ?_
        rintro e v9 ⟨rfl, hb⟩
        have hb9 : Below v6.heap.size v6 v9 := HB8.out.trans (hb.mono HB8.out.size)
        have HB9 := Lib.hid hb9
        clear hb HSM
        go_wp2_with fail
        refine hK.out _ _ (hb9) (fun hHeld2 => ?_)
        clear hK K hHeld
        have hHeld := hHeld2
        clear hHeld2
        try simp only [Act.put, List.setIfInBounds_toArray, List.set_cons_zero, List.set_cons_succ]
        clear hb9
        refine wpAnyH_take (i := 17) (v := ?_) (by simp only [List.getElem?_toArray, List.getElem?_cons_succ, List.getElem?_cons_zero]; rfl) (by kernel_rfl) (by kernel_rfl) (by kernel_rfl) (fun _ _ _ h => h) (Or.inl ⟨by rfl, ?_⟩) (by assumption) ?_
        rotate_left
        · intro W hSW
          go_simp
          try with_reducible rfl
        try simp only [Act.put, List.setIfInBounds_toArray, List.set_cons_zero, List.set_cons_succ]
        refine wpAnyH_take (i := 18) (v := ?_) (by simp only [List.getElem?_toArray, List.getElem?_cons_succ, List.getElem?_cons_zero]; rfl) (by kernel_rfl) (by kernel_rfl) (by kernel_rfl) (fun _ _ _ h => h) (Or.inl ⟨by rfl, ?_⟩) (by assumption) ?_
        rotate_left
        · intro W hSW
          go_simp
          try with_reducible rfl
        try simp only [Act.put, List.setIfInBounds_toArray, List.set_cons_zero, List.set_cons_succ]
        refine wpAnyH_take (i := 19) (v := ?_) (by simp only [List.getElem?_toArray, List.getElem?_cons_succ, List.getElem?_cons_zero]; rfl) (by kernel_rfl) (by kernel_rfl) (by kernel_rfl) (fun _ _ _ h => h) (Or.inl ⟨by rfl, ?_⟩) (by assumption) ?_
        rotate_left
        · intro W hSW
          go_simp
          try with_reducible rfl
        try simp only [Act.put, List.setIfInBounds_toArray, List.set_cons_zero, List.set_cons_succ]
        refine wpAnyH_done (by kernel_rfl) ?_ _
        refine NoPanic.normal ?_
        clear hHeld
        go_wp2_with fail
        go_ret
        exact ⟨rfl, HV6.out.trans (HB9.out.mono HV6.out.size)⟩
end Go.Proofs.YtnbkjdakofeeaaaDoor
