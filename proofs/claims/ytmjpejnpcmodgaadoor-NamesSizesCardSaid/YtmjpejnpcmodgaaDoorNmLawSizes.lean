/- The law NamesSizes. -/
import Derived.Test.YtmjpejnpcmodgaaDoorNmLawBack
namespace Go.Proofs.YtmjpejnpcmodgaaDoor
open Go.RowKit Plain
set_option linter.unusedVariables false
set_option linter.unusedSimpArgs false
theorem yieldsIf_eql {P : Program} {ops : Array Oper} {S : World → Prop} {op : Oper} {a : Act} (hw : Region.wanted op (yielded ops a.tmps) = true) (b : BinOp) (ty : TypeId) (x y : Operand) (tz : TypeId) (ho : op.op = .binOp b ty x y tz)
    (u1 u2 : Value) (h1 : a.eval x = u1) (h2 : a.eval y = u2) (v : Value) (hg : ∀ W, (eqGuard b ty x y u1 u2).run P W = .ok () W) (hr : ∀ W, (binOp b ty u1 u2).run P W = .ok v W) : YieldsIf P ops S op v a := by
  refine .inl ⟨hw, fun W hS => ?_⟩
  unfold execOp
  simp only [ho, h1, h2, Sem.run_bind, hg, hr, Result.andThen_ok]
  rfl
theorem wrap_rule (y : Nat) (h : y ≤ 4611686018427387904) : ∀ y' : Int, y' = (y : Int) → wrap64 y' = (y : Int) := fun y' h' => by
  rw [h']; exact IntWalk.wrap64_in _ (by omega)
set_option maxRecDepth 100000 in
set_option maxHeartbeats 32000000 in
theorem lawsizes_any (s0 s1 s2 : ByteArray) (w : World) (hE : Env w) (h0 : s0.size ≤ maxLen) (h1 : s1.size ≤ maxLen) (h2 : s2.size ≤ maxLen) :
    Calls Tryd.prog 4 #[.string s0, .string s1, .string s2] w fun e w' => e = .returned (.bool true) ∧ Below w.heap.size w w' := by
  have HE := Lib.hid hE
  obtain ⟨m0, hm0⟩ : ∃ m, min s0.size 60 = m := ⟨_, rfl⟩
  have hmin0 : min (s0.size : Int) 60 = (m0 : Int) := by omega
  have hsl0 := fun W => slice_front s0 m0 (by omega) (m0 : Int) rfl W
  obtain ⟨P, hP⟩ : ∃ P, s0.extract 0 m0 = P := ⟨_, rfl⟩
  have HPB : Hid (P.size ≤ 60) := by show _ ≤ _; rw [← hP, ByteArray.size_extract]; omega
  rw [hP] at hsl0
  clear hm0 hP
  obtain ⟨m1, hm1⟩ : ∃ m, min s1.size 60 = m := ⟨_, rfl⟩
  have hmin1 : min (s1.size : Int) 60 = (m1 : Int) := by omega
  have hsl1 := fun W => slice_front s1 m1 (by omega) (m1 : Int) rfl W
  obtain ⟨Q, hQ⟩ : ∃ P, s1.extract 0 m1 = P := ⟨_, rfl⟩
  have HQB : Hid (Q.size ≤ 60) := by show _ ≤ _; rw [← hQ, ByteArray.size_extract]; omega
  rw [hQ] at hsl1
  clear hm1 hQ
  obtain ⟨m2, hm2⟩ : ∃ m, min s2.size 60 = m := ⟨_, rfl⟩
  have hmin2 : min (s2.size : Int) 60 = (m2 : Int) := by omega
  have hsl2 := fun W => slice_front s2 m2 (by omega) (m2 : Int) rfl W
  obtain ⟨D, hD⟩ : ∃ P, s2.extract 0 m2 = P := ⟨_, rfl⟩
  have HDB : Hid (D.size ≤ 60) := by show _ ≤ _; rw [← hD, ByteArray.size_extract]; omega
  rw [hD] at hsl2
  clear hm2 hD
  clear hE h0 h1 h2
  go_enter Tryd.func4, Tryd.ntmps4
  go_wp2_with fail
  refine wp_region_noPanic ?_
  refine wp_region_held_drew (S := fun _ => True) (by kernel_rfl) ?_ (fun hHeld => ?_)
  · exact True.intro
  refine wpAnyH_take (i := 0) (v := ?_) (by simp only [List.getElem?_toArray, List.getElem?_cons_zero]; rfl) (by kernel_rfl) (by kernel_rfl) (by kernel_rfl) (fun _ _ _ h => h) (Or.inl ⟨by rfl, ?_⟩) (by assumption) ?_
  rotate_left
  · intro W hSW
    go_simp
    try with_reducible rfl
  try simp only [Act.put, List.setIfInBounds_toArray, List.set_cons_zero, List.set_cons_succ]
  refine wpAnyH_take (i := 1) (v := ?_) (by simp only [List.getElem?_toArray, List.getElem?_cons_succ, List.getElem?_cons_zero]; rfl) (by kernel_rfl) (by kernel_rfl) (by kernel_rfl) (fun _ _ _ h => h) (Or.inl ⟨by rfl, ?_⟩) (by assumption) ?_
  rotate_left
  · intro W hSW
    go_simp
    try with_reducible rfl
  try simp only [Act.put, List.setIfInBounds_toArray, List.set_cons_zero, List.set_cons_succ]
  refine wpAnyH_take (i := 2) (v := ?_) (by simp only [List.getElem?_toArray, List.getElem?_cons_succ, List.getElem?_cons_zero]; rfl) (by kernel_rfl) (by kernel_rfl) (by kernel_rfl) (fun _ _ _ h => h) (Or.inl ⟨by rfl, ?_⟩) (by assumption) ?_
  rotate_left
  · intro W hSW
    go_simp
    try with_reducible rfl
  try simp only [Act.put, List.setIfInBounds_toArray, List.set_cons_zero, List.set_cons_succ]
  refine wpAnyH_take (i := 3) (v := ?_) (by simp only [List.getElem?_toArray, List.getElem?_cons_succ, List.getElem?_cons_zero]; rfl) (by kernel_rfl) (by kernel_rfl) (by kernel_rfl) (fun _ _ _ h => h) (Or.inl ⟨by rfl, ?_⟩) (by assumption) ?_
  rotate_left
  · intro W hSW
    go_simp
    try with_reducible rfl
  try simp only [Act.put, List.setIfInBounds_toArray, List.set_cons_zero, List.set_cons_succ]
  refine wpAnyH_take (i := 4) (v := ?_) (by simp only [List.getElem?_toArray, List.getElem?_cons_succ, List.getElem?_cons_zero]; rfl) (by kernel_rfl) (by kernel_rfl) (by kernel_rfl) (fun _ _ _ h => h) (Or.inl ⟨by rfl, ?_⟩) (by assumption) ?_
  rotate_left
  · intro W hSW
    go_simp
    try with_reducible rfl
  try simp only [Act.put, List.setIfInBounds_toArray, List.set_cons_zero, List.set_cons_succ]
  refine wpAnyH_take (i := 5) (v := ?_) (by simp only [List.getElem?_toArray, List.getElem?_cons_succ, List.getElem?_cons_zero]; rfl) (by kernel_rfl) (by kernel_rfl) (by kernel_rfl) (fun _ _ _ h => h) (Or.inl ⟨by rfl, ?_⟩) (by assumption) ?_
  rotate_left
  · intro W hSW
    go_simp
    try with_reducible rfl
  try simp only [Act.put, List.setIfInBounds_toArray, List.set_cons_zero, List.set_cons_succ]
  refine wpAnyH_take (i := 6) (v := ?_) (by simp only [List.getElem?_toArray, List.getElem?_cons_succ, List.getElem?_cons_zero]; rfl) (by kernel_rfl) (by kernel_rfl) (by kernel_rfl) (fun _ _ _ h => h) (Or.inl ⟨by rfl, ?_⟩) (by assumption) ?_
  rotate_left
  · intro W hSW
    go_simp
    try with_reducible rfl
  try simp only [Act.put, List.setIfInBounds_toArray, List.set_cons_zero, List.set_cons_succ]
  refine wpAnyH_take (i := 7) (v := ?_) (by simp only [List.getElem?_toArray, List.getElem?_cons_succ, List.getElem?_cons_zero]; rfl) (by kernel_rfl) (by kernel_rfl) (by kernel_rfl) (fun _ _ _ h => h) (Or.inl ⟨by rfl, ?_⟩) (by assumption) ?_
  rotate_left
  · intro W hSW
    go_simp
    try with_reducible rfl
  try simp only [Act.put, List.setIfInBounds_toArray, List.set_cons_zero, List.set_cons_succ]
  refine wpAnyH_take (i := 8) (v := ?_) (by simp only [List.getElem?_toArray, List.getElem?_cons_succ, List.getElem?_cons_zero]; rfl) (by kernel_rfl) (by kernel_rfl) (by kernel_rfl) (fun _ _ _ h => h) (Or.inl ⟨by rfl, ?_⟩) (by assumption) ?_
  rotate_left
  · intro W hSW
    go_simp
    try with_reducible rfl
  try simp only [Act.put, List.setIfInBounds_toArray, List.set_cons_zero, List.set_cons_succ]
  refine wpAnyH_take (i := 9) (v := ?_) (by simp only [List.getElem?_toArray, List.getElem?_cons_succ, List.getElem?_cons_zero]; rfl) (by kernel_rfl) (by kernel_rfl) (by kernel_rfl) (fun _ _ _ h => h) (Or.inl ⟨by rfl, ?_⟩) (by assumption) ?_
  rotate_left
  · intro W hSW
    go_simp
    try with_reducible rfl
  try simp only [Act.put, List.setIfInBounds_toArray, List.set_cons_zero, List.set_cons_succ]
  refine wpAnyH_take (i := 10) (v := ?_) (by simp only [List.getElem?_toArray, List.getElem?_cons_succ, List.getElem?_cons_zero]; rfl) (by kernel_rfl) (by kernel_rfl) (by kernel_rfl) (fun _ _ _ h => h) (Or.inl ⟨by rfl, ?_⟩) (by assumption) ?_
  rotate_left
  · intro W hSW
    go_simp
    try with_reducible rfl
  try simp only [Act.put, List.setIfInBounds_toArray, List.set_cons_zero, List.set_cons_succ]
  refine wpAnyH_take (i := 11) (v := ?_) (by simp only [List.getElem?_toArray, List.getElem?_cons_succ, List.getElem?_cons_zero]; rfl) (by kernel_rfl) (by kernel_rfl) (by kernel_rfl) (fun _ _ _ h => h) (Or.inl ⟨by rfl, ?_⟩) (by assumption) ?_
  rotate_left
  · intro W hSW
    go_simp
    try with_reducible rfl
  try simp only [Act.put, List.setIfInBounds_toArray, List.set_cons_zero, List.set_cons_succ]
  refine wpAnyH_take (i := 12) (v := ?_) (by simp only [List.getElem?_toArray, List.getElem?_cons_succ, List.getElem?_cons_zero]; rfl) (by kernel_rfl) (by kernel_rfl) (by kernel_rfl) (fun _ _ _ h => h) (Or.inl ⟨by rfl, ?_⟩) (by assumption) ?_
  rotate_left
  · intro W hSW
    go_simp
    try with_reducible rfl
  try simp only [Act.put, List.setIfInBounds_toArray, List.set_cons_zero, List.set_cons_succ]
  refine wpAnyH_take (i := 13) (v := ?_) (by simp only [List.getElem?_toArray, List.getElem?_cons_succ, List.getElem?_cons_zero]; rfl) (by kernel_rfl) (by kernel_rfl) (by kernel_rfl) (fun _ _ _ h => h) (Or.inl ⟨by rfl, ?_⟩) (by assumption) ?_
  rotate_left
  · intro W hSW
    go_simp
    try with_reducible rfl
  try simp only [Act.put, List.setIfInBounds_toArray, List.set_cons_zero, List.set_cons_succ]
  refine wpAnyH_take (i := 14) (v := ?_) (by simp only [List.getElem?_toArray, List.getElem?_cons_succ, List.getElem?_cons_zero]; rfl) (by kernel_rfl) (by kernel_rfl) (by kernel_rfl) (fun _ _ _ h => h) (Or.inl ⟨by rfl, ?_⟩) (by assumption) ?_
  rotate_left
  · intro W hSW
    go_simp
    try with_reducible rfl
  try simp only [Act.put, List.setIfInBounds_toArray, List.set_cons_zero, List.set_cons_succ]
  refine wpAnyH_take (i := 15) (v := ?_) (by simp only [List.getElem?_toArray, List.getElem?_cons_succ, List.getElem?_cons_zero]; rfl) (by kernel_rfl) (by kernel_rfl) (by kernel_rfl) (fun _ _ _ h => h) (Or.inl ⟨by rfl, ?_⟩) (by assumption) ?_
  rotate_left
  · intro W hSW
    go_simp
    try with_reducible rfl
  try simp only [Act.put, List.setIfInBounds_toArray, List.set_cons_zero, List.set_cons_succ]
  refine wpAnyH_take (i := 16) (v := ?_) (by simp only [List.getElem?_toArray, List.getElem?_cons_succ, List.getElem?_cons_zero]; rfl) (by kernel_rfl) (by kernel_rfl) (by kernel_rfl) (fun _ _ _ h => h) (Or.inl ⟨by rfl, ?_⟩) (by assumption) ?_
  rotate_left
  · intro W hSW
    go_simp
    try with_reducible rfl
  try simp only [Act.put, List.setIfInBounds_toArray, List.set_cons_zero, List.set_cons_succ]
  refine wpAnyH_take (i := 17) (v := ?_) (by simp only [List.getElem?_toArray, List.getElem?_cons_succ, List.getElem?_cons_zero]; rfl) (by kernel_rfl) (by kernel_rfl) (by kernel_rfl) (fun _ _ _ h => h) (Or.inl ⟨by rfl, ?_⟩) (by assumption) ?_
  rotate_left
  · intro W hSW
    go_simp
    try with_reducible rfl
  try simp only [Act.put, List.setIfInBounds_toArray, List.set_cons_zero, List.set_cons_succ]
  refine wpAnyH_done (by kernel_rfl) ?_ _
  refine NoPanic.normal ?_
  clear hHeld hmin0 hmin1 hmin2 hsl0 hsl1 hsl2
  obtain ⟨w0, hw0⟩ : ∃ W, w.drew = W := ⟨_, rfl⟩
  have HB0 : Hid (Below w.heap.size w w0) := by rw [← hw0]; exact (Below.refl _ _).drew
  try rw [hw0]
  clear hw0
  obtain ⟨d, hd⟩ : ∃ l, D.data.toList = l := ⟨_, rfl⟩
  have HDD := Lib.hid hd
  obtain ⟨dl, hdl⟩ : ∃ k, D.size = k := ⟨_, rfl⟩
  have HDS := Lib.hid hdl
  have HDN : Hid (d.length = dl) := by show _ = _; rw [← hd, ← Lib.size_eq]; exact hdl
  have HDL : Hid (d.length ≤ 60) := by have := HDB.out; show _ ≤ _; rw [HDN.out, ← hdl]; exact this
  have hdls : D.size = dl := hdl
  obtain ⟨pl, hpl⟩ : ∃ k, P.size = k := ⟨_, rfl⟩
  have HPS := Lib.hid hpl
  have HPN : Hid (P.data.toList.length = pl) := by show _ = _; rw [← Lib.size_eq]; exact hpl
  have HPLB : Hid (pl ≤ 60) := by rw [← hpl]; exact HPB.out
  have hpls : P.size = pl := hpl
  clear hd hdl hpl
  go_wp2_with fail
  refine (name_any P w0 (HE.out.below HB0.out) (by have := HPB.out; omega)).mono ?_
  rintro e w2 ⟨rfl, hb⟩
  have HB2 := Lib.hid (HB0.out.trans (hb.mono HB0.out.size))
  clear hb
  obtain ⟨n, hn⟩ : ∃ n, (nameE P.data.toList).1 = n := ⟨_, rfl⟩
  obtain ⟨z, hz⟩ : ∃ z, (nameE P.data.toList).2 = z := ⟨_, rfl⟩
  have HNP : Hid (nameE P.data.toList = (n, z)) := by show _ = _; rw [← hn, ← hz]
  rw [hn, hz]
  clear hn hz
  by_cases hz0 : z = 0
  rotate_left
  · have e1 : ((z : Int) == 0) = false := beq_eq_false_iff_ne.2 (by omega)
    have e3 : ¬ (z : Int) = 0 := by omega
    clear hz0
    obtain ⟨l1, hl1⟩ : ∃ l, d ++ [47] = l := ⟨_, rfl⟩
    have HL1B : Hid (l1.length ≤ 61) := by show _ ≤ _; rw [← hl1, List.length_append]; have := HDL.out; simp; omega
    have HA1 : Hid (∀ W, (binOp .add 9 (.string D) (.string ⟨#[47]⟩)).run Tryd.prog W = .ok (.string (txt l1)) W) := fun W => add_txt _ _ _ (by rw [HDD.out]; exact hl1) (by have := HDB.out; show _ + 1 ≤ _; omega) W
    obtain ⟨l2, hl2⟩ : ∃ l, l1 ++ P.data.toList = l := ⟨_, rfl⟩
    obtain ⟨l3, hl3⟩ : ∃ l, l1 ++ Q.data.toList = l := ⟨_, rfl⟩
    have HA2 : Hid (∀ W, (binOp .add 9 (.string (txt l1)) (.string P)).run Tryd.prog W = .ok (.string (txt l2)) W) := fun W => add_txt _ _ _ (by rw [txt_list]; exact hl2) (by rw [txt_size]; have := HL1B.out; have := HPB.out; omega) W
    have HA3 : Hid (∀ W, (binOp .add 9 (.string (txt l1)) (.string Q)).run Tryd.prog W = .ok (.string (txt l3)) W) := fun W => add_txt _ _ _ (by rw [txt_list]; exact hl3) (by rw [txt_size]; have := HL1B.out; have := HQB.out; omega) W
    have HE2 : Hid (l2 = d ++ 47 :: P.data.toList) := by show _ = _; rw [← hl2, ← hl1]; simp
    have HE3 : Hid (l3 = d ++ 47 :: Q.data.toList) := by show _ = _; rw [← hl3, ← hl1]; simp
    have HL2B : Hid (l2.length ≤ 200) := by show _ ≤ _; rw [← hl2, List.length_append, ← Lib.size_eq]; have := HL1B.out; have := HPB.out; omega
    have HL3B : Hid (l3.length ≤ 200) := by show _ ≤ _; rw [← hl3, List.length_append, ← Lib.size_eq]; have := HL1B.out; have := HQB.out; omega
    clear hl1 hl2 hl3
    go_wp2_with (first
      | refine wpList_eql (by rfl) .add 9 _ _ _ rfl (.string D) (.string ⟨#[47]⟩) rfl rfl (.string (txt l1)) (guard_addn _ _ _ _) HA1.out ?_
      | refine wpList_eql (by rfl) .add 9 _ _ _ rfl (.string (txt l1)) (.string P) rfl rfl (.string (txt l2)) (guard_addn _ _ _ _) HA2.out ?_)
    refine (name_any (txt l2) w2 (HE.out.below HB2.out) (by rw [txt_size]; have := HL2B.out; omega)).mono ?_
    rintro e w3 ⟨rfl, hb⟩
    have HB3 := Lib.hid (HB2.out.trans (hb.mono HB2.out.size))
    clear hb
    rw [txt_list]
    obtain ⟨a, ha⟩ : ∃ n, (nameE l2).1 = n := ⟨_, rfl⟩
    obtain ⟨za, hza⟩ : ∃ z, (nameE l2).2 = z := ⟨_, rfl⟩
    have HNA : Hid (nameE l2 = (a, za)) := by show _ = _; rw [← ha, ← hza]
    rw [ha, hza]
    clear ha hza
    go_wp2_with (first
      | refine wpList_eql (by rfl) .add 9 _ _ _ rfl (.string D) (.string ⟨#[47]⟩) rfl rfl (.string (txt l1)) (guard_addn _ _ _ _) HA1.out ?_
      | refine wpList_eql (by rfl) .add 9 _ _ _ rfl (.string (txt l1)) (.string Q) rfl rfl (.string (txt l3)) (guard_addn _ _ _ _) HA3.out ?_)
    refine (name_any (txt l3) w3 (HE.out.below HB3.out) (by rw [txt_size]; have := HL3B.out; omega)).mono ?_
    rintro e w4 ⟨rfl, hb⟩
    have HB4 := Lib.hid (HB3.out.trans (hb.mono HB3.out.size))
    clear hb
    rw [txt_list]
    obtain ⟨b, hb⟩ : ∃ n, (nameE l3).1 = n := ⟨_, rfl⟩
    obtain ⟨zb, hzb⟩ : ∃ z, (nameE l3).2 = z := ⟨_, rfl⟩
    have HNB : Hid (nameE l3 = (b, zb)) := by show _ = _; rw [← hb, ← hzb]
    rw [hb, hzb]
    clear hb hzb
    by_cases hza0 : za = 0
    rotate_left
    · have e2 : ((za : Int) != 0) = true := bne_iff_ne.2 (by omega)
      have e3 : ¬ (za : Int) = 0 := by omega
      clear hza0
      go_wp2_with fail
      refine (known_any w4 (HE.out.below HB4.out)).mono ?_
      rintro e wk ⟨rfl, hb⟩
      have HBK := Lib.hid (HB4.out.trans (hb.mono HB4.out.size))
      clear hb
      go_wp2_with fail
      go_ret
      exact ⟨rfl, HBK.out⟩
    subst hza0
    rw [show ((0 : Nat) : Int) = 0 from rfl]
    by_cases hzb0 : zb = 0
    rotate_left
    · have e2 : ((zb : Int) != 0) = true := bne_iff_ne.2 (by omega)
      have e3 : ¬ (zb : Int) = 0 := by omega
      clear hzb0
      go_wp2_with fail
      refine (known_any w4 (HE.out.below HB4.out)).mono ?_
      rintro e wk ⟨rfl, hb⟩
      have HBK := Lib.hid (HB4.out.trans (hb.mono HB4.out.size))
      clear hb
      go_wp2_with fail
      go_ret
      exact ⟨rfl, HBK.out⟩
    subst hzb0
    rw [show ((0 : Nat) : Int) = 0 from rfl]
    obtain ⟨han, ha255⟩ := nameE_zero HNA.out
    obtain ⟨hbn, hb255⟩ := nameE_zero HNB.out
    obtain ⟨ra, hra⟩ := name_dir d P.data.toList
    obtain ⟨rb, hrb⟩ := name_dir d Q.data.toList
    have HAD : Hid (a = dirL d ++ ra) := by show _ = _; rw [han, HE2.out, hra]
    have HBD : Hid (b = dirL d ++ rb) := by show _ = _; rw [hbn, HE3.out, hrb]
    obtain ⟨la, hla⟩ : ∃ k, a.length = k := ⟨_, rfl⟩
    obtain ⟨lb, hlb⟩ : ∃ k, b.length = k := ⟨_, rfl⟩
    have HLA := Lib.hid hla
    have HLB := Lib.hid hlb
    have hlas : (txt a).size = la := by rw [txt_size]; exact hla
    have hlbs : (txt b).size = lb := by rw [txt_size]; exact hlb
    have HLAB : Hid (la ≤ 255) := by rw [← hla]; exact ha255
    have HLAD : Hid ((dirL d).length ≤ la) := by show _ ≤ _; rw [← hla, HAD.out, List.length_append]; omega
    have HLBD : Hid ((dirL d).length ≤ lb) := by show _ ≤ _; rw [← hlb, HBD.out, List.length_append]; omega
    clear han ha255 hbn hb255 hra hrb hla hlb
    go_wp2_with fail
    go_loopw [16, 17] (fun sv i wr => ∃ (k c0 : Nat), k ≤ dl ∧ i = .int .i64 (k : Int) ∧ sv = .int .i64 (c0 : Int) ∧ c0 = (d.take k).count 47 ∧ wr = w4) (fun _ i _ => dl - (intOf i).toNat)
    case atStart => exact ⟨0, 0, Nat.zero_le _, rfl, rfl, by simp, rfl⟩
    case round =>
      obtain ⟨k, c0, hk, rfl, rfl, hc0, rfl⟩ := hrel
      rename World => w4
      have HC0 := Lib.hid hc0
      have HC0B : Hid (c0 ≤ 60) := by
        show _ ≤ _
        have h2 := List.count_le_length (a := (47 : UInt8)) (l := d.take k)
        rw [List.length_take] at h2
        have := HDL.out
        omega
      have WK := Lib.hid (next_int k (by have := HDL.out; have := HDN.out; omega))
      have WC := Lib.hid (next_int c0 (by have := HC0B.out; omega))
      clear hc0
      by_cases hkl : k < dl
      · have hki : (k : Int) < (dl : Int) := by omega
        have HKL := Lib.hid hkl
        obtain ⟨c, hc⟩ : ∃ c, d[k]? = some c := ⟨_, List.getElem?_eq_getElem (by rw [HDN.out]; exact hkl)⟩
        have hix := fun W => index_text D k (by rw [HDS.out]; exact hkl) (k : Int) rfl W
        have h8 : at8 D k = c.toNat := by unfold at8; rw [HDD.out, hc]; rfl
        rw [h8] at hix
        have HTK : Hid (d.take (k + 1) = d.take k ++ [c]) := by show _ = _; rw [List.take_add_one, hc]; rfl
        clear h8
        by_cases h47 : c = 47
        · subst h47
          have HS2 : Hid (c0 + 1 = (d.take (k + 1)).count 47) := by show _ = _; rw [HTK.out, List.count_append, ← HC0.out]; rfl
          clear hc hkl hk
          go_wp2_with fail
          exact ⟨⟨k + 1, c0 + 1, HKL.out, by first | rw [WK.out _ rfl] | rfl, by first | rw [WC.out _ rfl] | rfl, HS2.out, by first | rfl | trivial⟩, by have := HKL.out; (first | rw [WK.out _ rfl] | skip); simp [intOf]; omega⟩
        · have HS2 : Hid (c0 = (d.take (k + 1)).count 47) := by show _ = _; rw [HTK.out, List.count_append, ← HC0.out, show ([c] : List UInt8).count 47 = 0 from List.count_eq_zero.2 (by simp; exact fun e => h47 e.symm), Nat.add_zero]
          have hn47 : ¬ (c.toNat : Int) = 47 := fun e => h47 (UInt8.toNat_inj.1 (by show c.toNat = 47; omega))
          have hb47 : ((c.toNat : Int) == 47) = false := beq_eq_false_iff_ne.2 hn47
          clear hc hkl hk h47
          generalize (c.toNat : Int) = ci at *
          go_wp2_with fail
          exact ⟨⟨k + 1, c0, HKL.out, by first | rw [WK.out _ rfl] | rfl, rfl, HS2.out, by first | rfl | trivial⟩, by have := HKL.out; (first | rw [WK.out _ rfl] | skip); simp [intOf]; omega⟩
      · have hki : ¬ (k : Int) < (dl : Int) := by omega
        have HCC : Hid (c0 = d.count 47) := by show _ = _; rw [HC0.out, List.take_of_length_le (by rw [HDN.out]; omega)]
        rw [HCC.out]
        clear hk hkl
        go_wp2_with fail
        clear hki
        try simp only [Act.put, List.setIfInBounds_toArray, List.set_cons_zero, List.set_cons_succ]
        go_loopw [15, 16] (fun cut sv wr => ∃ (k : Nat) (sl : Int), k ≤ (dirL d).length ∧ cut = .int .i64 (k : Int) ∧ sv = .int .i64 sl ∧ sl = ((d.count 47 : Nat) : Int) - (((a.take k).count 47 : Nat) : Int) ∧ wr = w4) (fun cut _ _ => la - (intOf cut).toNat)
        case atStart => exact ⟨0, ((d.count 47 : Nat) : Int), Nat.zero_le _, rfl, rfl, by simp, rfl⟩
        case round =>
          obtain ⟨k, sl, hk, rfl, rfl, hsl, rfl⟩ := hrel
          rename World => w4
          have HKD := Lib.hid hk
          have HSL := Lib.hid hsl
          have WK := Lib.hid (next_int k (by have := HLAB.out; have := HLAD.out; omega))
          clear hk hsl
          by_cases hkl : k < la
          · have hki : (k : Int) < (la : Int) := by omega
            by_cases hge : -1 ≤ sl
            · have HKL := Lib.hid hkl
              have HLT : Hid (k + 1 ≤ (dirL d).length) := by
                show _ ≤ _
                have h1 := HKD.out
                by_cases he : k = (dirL d).length
                · exfalso
                  have h2 := HSL.out
                  rw [he, HAD.out, List.take_left, dir_count] at h2
                  omega
                · omega
              obtain ⟨c, hc⟩ : ∃ c, a[k]? = some c := ⟨_, List.getElem?_eq_getElem (by rw [HLA.out]; exact hkl)⟩
              have hix := fun W => index_text (txt a) k (by rw [txt_size, HLA.out]; exact hkl) (k : Int) rfl W
              rw [at8_txt, hc, Option.getD_some] at hix
              have HTK : Hid (a.take (k + 1) = a.take k ++ [c]) := by show _ = _; rw [List.take_add_one, hc]; rfl
              by_cases h47 : c = 47
              · subst h47
                have HS2 : Hid (sl - 1 = ((d.count 47 : Nat) : Int) - (((a.take (k + 1)).count 47 : Nat) : Int)) := by
                  have h1 := HSL.out
                  show _ = _
                  rw [HTK.out, List.count_append, show ([47] : List UInt8).count 47 = 1 by decide]
                  omega
                have hsb : wrap64 (sl - 1) = sl - 1 := IntWalk.wrap64_in _ (by
                  have h1 := HSL.out
                  have h2 := List.count_le_length (a := (47 : UInt8)) (l := d)
                  have := HDL.out
                  omega)
                have HSB := Lib.hid hsb
                clear hc hkl hsb
                go_wp2_with fail
                exact ⟨⟨k + 1, sl - 1, HLT.out, by first | rw [WK.out _ rfl] | rfl, by first | rw [HSB.out] | rfl, HS2.out, by first | rfl | trivial⟩, by have := HKL.out; (first | rw [WK.out _ rfl] | skip); simp [intOf]; omega⟩
              · have HS2 : Hid (sl = ((d.count 47 : Nat) : Int) - (((a.take (k + 1)).count 47 : Nat) : Int)) := by
                  have h1 := HSL.out
                  show _ = _
                  rw [HTK.out, List.count_append, show ([c] : List UInt8).count 47 = 0 from List.count_eq_zero.2 (by simp; exact fun e => h47 e.symm), Nat.add_zero]
                  exact h1
                have hn47 : ¬ (c.toNat : Int) = 47 := fun e => h47 (UInt8.toNat_inj.1 (by show c.toNat = 47; omega))
                have hb47 : ((c.toNat : Int) == 47) = false := beq_eq_false_iff_ne.2 hn47
                clear hc hkl h47
                generalize (c.toNat : Int) = ci at *
                go_wp2_with fail
                exact ⟨⟨k + 1, sl, HLT.out, by first | rw [WK.out _ rfl] | rfl, rfl, HS2.out, by first | rfl | trivial⟩, by have := HKL.out; (first | rw [WK.out _ rfl] | skip); simp [intOf]; omega⟩
            · clear hkl
              have hgl : (k : Int) ≤ (lb : Int) := by have := HKD.out; have := HLBD.out; omega
              have hgl2 : ¬ (lb : Int) < (k : Int) := by have := HKD.out; have := HLBD.out; omega
              have hs1 := fun W => slice_front (txt a) k (by rw [txt_size, HLA.out]; have := HKD.out; have := HLAD.out; omega) (k : Int) rfl W
              have hs2 := fun W => slice_front (txt b) k (by rw [txt_size, HLB.out]; have := HKD.out; have := HLBD.out; omega) (k : Int) rfl W
              have HEQ : Hid (∀ W, (binOp .eql 9 (.string ((txt a).extract 0 k)) (.string ((txt b).extract 0 k))).run Tryd.prog W = .ok (.bool true) W) := fun W => by
                rw [str_eql, extract_list, extract_list, txt_list, txt_list, HAD.out, HBD.out, List.take_append_of_le_length HKD.out, List.take_append_of_le_length HKD.out, beq_self_eq_true]
              have HBL := HB4
              go_wp2_with fail
              refine wp_region_noPanic ?_
              refine wp_region_held_drew (S := fun W => Below w.heap.size w W) (by kernel_rfl) ?_ (fun hHeld => ?_)
              · exact HBL.out.drew
              refine wpAnyH_ready (rs := [0]) (by kernel_rfl) (by simp) ?_
              refine AllReadyH.cons (by simp only [List.getElem?_toArray, List.getElem?_cons_zero]; rfl) (fun K hK => ?_) AllReadyH.nil
              go_simp
              refine (known_any _ (HE.out.below HBL.out.drew)).mono ?_
              rintro e v0 ⟨rfl, hb⟩
              have HV0 : Hid (Below w.heap.size w v0) := HBL.out.drew.trans (hb.mono HBL.out.drew.size)
              clear hb
              go_wp2_with fail
              refine hK.out _ _ (HV0.out) (fun hHeld2 => ?_)
              clear hK K hHeld
              have hHeld := hHeld2
              clear hHeld2
              try simp only [Act.put, List.setIfInBounds_toArray, List.set_cons_zero, List.set_cons_succ]
              refine wpAnyH_take (i := 1) (v := ?_) (by simp only [List.getElem?_toArray, List.getElem?_cons_succ, List.getElem?_cons_zero]; rfl) (by kernel_rfl) (by kernel_rfl) (by kernel_rfl) (fun _ _ _ h => h) (Or.inl ⟨by rfl, ?_⟩) (by assumption) ?_
              rotate_left
              · intro W hSW
                go_simp
                try with_reducible rfl
              try simp only [Act.put, List.setIfInBounds_toArray, List.set_cons_zero, List.set_cons_succ]
              refine wpAnyH_take (i := 2) (v := ?_) (by simp only [List.getElem?_toArray, List.getElem?_cons_succ, List.getElem?_cons_zero]; rfl) (by kernel_rfl) (by kernel_rfl) (by kernel_rfl) (fun _ _ _ h => h) (Or.inl ⟨by rfl, ?_⟩) (by assumption) ?_
              rotate_left
              · intro W hSW
                go_simp
                try with_reducible rfl
              try simp only [Act.put, List.setIfInBounds_toArray, List.set_cons_zero, List.set_cons_succ]
              refine wpAnyH_take (i := 3) (v := ?_) (by simp only [List.getElem?_toArray, List.getElem?_cons_succ, List.getElem?_cons_zero]; rfl) (by kernel_rfl) (by kernel_rfl) (by kernel_rfl) (fun _ _ _ h => h) (Or.inl ⟨by rfl, ?_⟩) (by assumption) ?_
              rotate_left
              · intro W hSW
                go_simp
                try with_reducible rfl
              try simp only [Act.put, List.setIfInBounds_toArray, List.set_cons_zero, List.set_cons_succ]
              refine wpAnyH_take (i := 4) (v := ?_) (by simp only [List.getElem?_toArray, List.getElem?_cons_succ, List.getElem?_cons_zero]; rfl) (by kernel_rfl) (by kernel_rfl) (by kernel_rfl) (fun _ _ _ h => h) (Or.inl ⟨by rfl, ?_⟩) (by assumption) ?_
              rotate_left
              · intro W hSW
                go_simp
                try with_reducible rfl
              try simp only [Act.put, List.setIfInBounds_toArray, List.set_cons_zero, List.set_cons_succ]
              refine wpAnyH_take (i := 5) (v := ?_) (by simp only [List.getElem?_toArray, List.getElem?_cons_succ, List.getElem?_cons_zero]; rfl) (by kernel_rfl) (by kernel_rfl) (by kernel_rfl) (fun _ _ _ h => h) (Or.inl ⟨by rfl, ?_⟩) (by assumption) ?_
              rotate_left
              · intro W hSW
                go_simp
                try with_reducible rfl
              try simp only [Act.put, List.setIfInBounds_toArray, List.set_cons_zero, List.set_cons_succ]
              refine wpAnyH_take (i := 6) (v := ?_) (by simp only [List.getElem?_toArray, List.getElem?_cons_succ, List.getElem?_cons_zero]; rfl) (by kernel_rfl) (by kernel_rfl) (by kernel_rfl) (fun _ _ _ h => h) (Or.inl ⟨by rfl, ?_⟩) (by assumption) ?_
              rotate_left
              · intro W hSW
                go_simp
                try with_reducible rfl
              try simp only [Act.put, List.setIfInBounds_toArray, List.set_cons_zero, List.set_cons_succ]
              refine wpAnyH_take (i := 7) (v := ?_) (by simp only [List.getElem?_toArray, List.getElem?_cons_succ, List.getElem?_cons_zero]; rfl) (by kernel_rfl) (by kernel_rfl) (by kernel_rfl) (fun _ _ _ h => h) (Or.inl ⟨by rfl, ?_⟩) (by assumption) ?_
              rotate_left
              · intro W hSW
                go_simp
                try with_reducible rfl
              try simp only [Act.put, List.setIfInBounds_toArray, List.set_cons_zero, List.set_cons_succ]
              refine wpAnyH_take (i := 8) (v := ?_) (by simp only [List.getElem?_toArray, List.getElem?_cons_succ, List.getElem?_cons_zero]; rfl) (by kernel_rfl) (by kernel_rfl) (by kernel_rfl) (fun _ _ _ h => h) (Or.inl ⟨by rfl, ?_⟩) (by assumption) ?_
              rotate_left
              · intro W hSW
                go_simp
                try with_reducible rfl
              try simp only [Act.put, List.setIfInBounds_toArray, List.set_cons_zero, List.set_cons_succ]
              refine wpAnyH_take (i := 9) (v := ?_) (by simp only [List.getElem?_toArray, List.getElem?_cons_succ, List.getElem?_cons_zero]; rfl) (by kernel_rfl) (by kernel_rfl) (by kernel_rfl) (fun _ _ _ h => h) (Or.inl ⟨by rfl, ?_⟩) (by assumption) ?_
              rotate_left
              · intro W hSW
                go_simp
                try with_reducible rfl
              try simp only [Act.put, List.setIfInBounds_toArray, List.set_cons_zero, List.set_cons_succ]
              refine wpAnyH_take (i := 10) (v := ?_) (by simp only [List.getElem?_toArray, List.getElem?_cons_succ, List.getElem?_cons_zero]; rfl) (by kernel_rfl) (by kernel_rfl) (by kernel_rfl) (fun _ _ _ h => h) (Or.inl ⟨by rfl, ?_⟩) (by assumption) ?_
              rotate_left
              · intro W hSW
                go_simp
                try with_reducible rfl
              try simp only [Act.put, List.setIfInBounds_toArray, List.set_cons_zero, List.set_cons_succ]
              refine wpAnyH_take (i := 11) (v := ?_) (by simp only [List.getElem?_toArray, List.getElem?_cons_succ, List.getElem?_cons_zero]; rfl) (by kernel_rfl) (by kernel_rfl) (by kernel_rfl) (fun _ _ _ h => h) (Or.inl ⟨by rfl, ?_⟩) (by assumption) ?_
              rotate_left
              · intro W hSW
                go_simp
                try with_reducible rfl
              try simp only [Act.put, List.setIfInBounds_toArray, List.set_cons_zero, List.set_cons_succ]
              refine wpAnyH_take (i := 12) (v := ?_) (by simp only [List.getElem?_toArray, List.getElem?_cons_succ, List.getElem?_cons_zero]; rfl) (by kernel_rfl) (by kernel_rfl) (by kernel_rfl) (fun _ _ _ h => h) (Or.inl ⟨by rfl, ?_⟩) (by assumption) ?_
              rotate_left
              · intro W hSW
                go_simp
                try with_reducible rfl
              try simp only [Act.put, List.setIfInBounds_toArray, List.set_cons_zero, List.set_cons_succ]
              refine wpAnyH_take (i := 13) (v := ?_) (by simp only [List.getElem?_toArray, List.getElem?_cons_succ, List.getElem?_cons_zero]; rfl) (by kernel_rfl) (by kernel_rfl) (by kernel_rfl) (fun _ _ _ h => h) (Or.inl ⟨by rfl, ?_⟩) (by assumption) ?_
              rotate_left
              · intro W hSW
                go_simp
                try with_reducible rfl
              try simp only [Act.put, List.setIfInBounds_toArray, List.set_cons_zero, List.set_cons_succ]
              refine wpAnyH_take (i := 14) (by simp only [List.getElem?_toArray, List.getElem?_cons_succ, List.getElem?_cons_zero]; rfl) (by kernel_rfl) (by kernel_rfl) (by kernel_rfl) (fun _ _ _ h => h) (yieldsIf_eql (by rfl) .eql 9 _ _ _ rfl (.string ((txt a).extract 0 k)) (.string ((txt b).extract 0 k)) rfl rfl (.bool true) (guard_eq _ _ _ _) (fun W => HEQ.out W)) (by assumption) ?_
              try simp only [Act.put, List.setIfInBounds_toArray, List.set_cons_zero, List.set_cons_succ]
              refine wpAnyH_take (i := 15) (v := ?_) (by simp only [List.getElem?_toArray, List.getElem?_cons_succ, List.getElem?_cons_zero]; rfl) (by kernel_rfl) (by kernel_rfl) (by kernel_rfl) (fun _ _ _ h => h) (Or.inl ⟨by rfl, ?_⟩) (by assumption) ?_
              rotate_left
              · intro W hSW
                go_simp
                try with_reducible rfl
              try simp only [Act.put, List.setIfInBounds_toArray, List.set_cons_zero, List.set_cons_succ]
              refine wpAnyH_take (i := 16) (v := ?_) (by simp only [List.getElem?_toArray, List.getElem?_cons_succ, List.getElem?_cons_zero]; rfl) (by kernel_rfl) (by kernel_rfl) (by kernel_rfl) (fun _ _ _ h => h) (Or.inl ⟨by rfl, ?_⟩) (by assumption) ?_
              rotate_left
              · intro W hSW
                go_simp
                try with_reducible rfl
              try simp only [Act.put, List.setIfInBounds_toArray, List.set_cons_zero, List.set_cons_succ]
              refine wpAnyH_done (by kernel_rfl) ?_ _
              refine NoPanic.normal ?_
              clear hHeld
              go_wp2_with fail
              go_ret
              exact ⟨rfl, HV0.out⟩
          · have hki : ¬ (k : Int) < (la : Int) := by omega
            clear hkl
            have hgl : (k : Int) ≤ (lb : Int) := by have := HKD.out; have := HLBD.out; omega
            have hgl2 : ¬ (lb : Int) < (k : Int) := by have := HKD.out; have := HLBD.out; omega
            have hs1 := fun W => slice_front (txt a) k (by rw [txt_size, HLA.out]; have := HKD.out; have := HLAD.out; omega) (k : Int) rfl W
            have hs2 := fun W => slice_front (txt b) k (by rw [txt_size, HLB.out]; have := HKD.out; have := HLBD.out; omega) (k : Int) rfl W
            have HEQ : Hid (∀ W, (binOp .eql 9 (.string ((txt a).extract 0 k)) (.string ((txt b).extract 0 k))).run Tryd.prog W = .ok (.bool true) W) := fun W => by
              rw [str_eql, extract_list, extract_list, txt_list, txt_list, HAD.out, HBD.out, List.take_append_of_le_length HKD.out, List.take_append_of_le_length HKD.out, beq_self_eq_true]
            have HBL := HB4
            go_wp2_with fail
            refine wp_region_noPanic ?_
            refine wp_region_held_drew (S := fun W => Below w.heap.size w W) (by kernel_rfl) ?_ (fun hHeld => ?_)
            · exact HBL.out.drew
            refine wpAnyH_ready (rs := [0]) (by kernel_rfl) (by simp) ?_
            refine AllReadyH.cons (by simp only [List.getElem?_toArray, List.getElem?_cons_zero]; rfl) (fun K hK => ?_) AllReadyH.nil
            go_simp
            refine (known_any _ (HE.out.below HBL.out.drew)).mono ?_
            rintro e v0 ⟨rfl, hb⟩
            have HV0 : Hid (Below w.heap.size w v0) := HBL.out.drew.trans (hb.mono HBL.out.drew.size)
            clear hb
            go_wp2_with fail
            refine hK.out _ _ (HV0.out) (fun hHeld2 => ?_)
            clear hK K hHeld
            have hHeld := hHeld2
            clear hHeld2
            try simp only [Act.put, List.setIfInBounds_toArray, List.set_cons_zero, List.set_cons_succ]
            refine wpAnyH_take (i := 1) (v := ?_) (by simp only [List.getElem?_toArray, List.getElem?_cons_succ, List.getElem?_cons_zero]; rfl) (by kernel_rfl) (by kernel_rfl) (by kernel_rfl) (fun _ _ _ h => h) (Or.inl ⟨by rfl, ?_⟩) (by assumption) ?_
            rotate_left
            · intro W hSW
              go_simp
              try with_reducible rfl
            try simp only [Act.put, List.setIfInBounds_toArray, List.set_cons_zero, List.set_cons_succ]
            refine wpAnyH_take (i := 2) (v := ?_) (by simp only [List.getElem?_toArray, List.getElem?_cons_succ, List.getElem?_cons_zero]; rfl) (by kernel_rfl) (by kernel_rfl) (by kernel_rfl) (fun _ _ _ h => h) (Or.inl ⟨by rfl, ?_⟩) (by assumption) ?_
            rotate_left
            · intro W hSW
              go_simp
              try with_reducible rfl
            try simp only [Act.put, List.setIfInBounds_toArray, List.set_cons_zero, List.set_cons_succ]
            refine wpAnyH_take (i := 3) (v := ?_) (by simp only [List.getElem?_toArray, List.getElem?_cons_succ, List.getElem?_cons_zero]; rfl) (by kernel_rfl) (by kernel_rfl) (by kernel_rfl) (fun _ _ _ h => h) (Or.inl ⟨by rfl, ?_⟩) (by assumption) ?_
            rotate_left
            · intro W hSW
              go_simp
              try with_reducible rfl
            try simp only [Act.put, List.setIfInBounds_toArray, List.set_cons_zero, List.set_cons_succ]
            refine wpAnyH_take (i := 4) (v := ?_) (by simp only [List.getElem?_toArray, List.getElem?_cons_succ, List.getElem?_cons_zero]; rfl) (by kernel_rfl) (by kernel_rfl) (by kernel_rfl) (fun _ _ _ h => h) (Or.inl ⟨by rfl, ?_⟩) (by assumption) ?_
            rotate_left
            · intro W hSW
              go_simp
              try with_reducible rfl
            try simp only [Act.put, List.setIfInBounds_toArray, List.set_cons_zero, List.set_cons_succ]
            refine wpAnyH_take (i := 5) (v := ?_) (by simp only [List.getElem?_toArray, List.getElem?_cons_succ, List.getElem?_cons_zero]; rfl) (by kernel_rfl) (by kernel_rfl) (by kernel_rfl) (fun _ _ _ h => h) (Or.inl ⟨by rfl, ?_⟩) (by assumption) ?_
            rotate_left
            · intro W hSW
              go_simp
              try with_reducible rfl
            try simp only [Act.put, List.setIfInBounds_toArray, List.set_cons_zero, List.set_cons_succ]
            refine wpAnyH_take (i := 6) (v := ?_) (by simp only [List.getElem?_toArray, List.getElem?_cons_succ, List.getElem?_cons_zero]; rfl) (by kernel_rfl) (by kernel_rfl) (by kernel_rfl) (fun _ _ _ h => h) (Or.inl ⟨by rfl, ?_⟩) (by assumption) ?_
            rotate_left
            · intro W hSW
              go_simp
              try with_reducible rfl
            try simp only [Act.put, List.setIfInBounds_toArray, List.set_cons_zero, List.set_cons_succ]
            refine wpAnyH_take (i := 7) (v := ?_) (by simp only [List.getElem?_toArray, List.getElem?_cons_succ, List.getElem?_cons_zero]; rfl) (by kernel_rfl) (by kernel_rfl) (by kernel_rfl) (fun _ _ _ h => h) (Or.inl ⟨by rfl, ?_⟩) (by assumption) ?_
            rotate_left
            · intro W hSW
              go_simp
              try with_reducible rfl
            try simp only [Act.put, List.setIfInBounds_toArray, List.set_cons_zero, List.set_cons_succ]
            refine wpAnyH_take (i := 8) (v := ?_) (by simp only [List.getElem?_toArray, List.getElem?_cons_succ, List.getElem?_cons_zero]; rfl) (by kernel_rfl) (by kernel_rfl) (by kernel_rfl) (fun _ _ _ h => h) (Or.inl ⟨by rfl, ?_⟩) (by assumption) ?_
            rotate_left
            · intro W hSW
              go_simp
              try with_reducible rfl
            try simp only [Act.put, List.setIfInBounds_toArray, List.set_cons_zero, List.set_cons_succ]
            refine wpAnyH_take (i := 9) (v := ?_) (by simp only [List.getElem?_toArray, List.getElem?_cons_succ, List.getElem?_cons_zero]; rfl) (by kernel_rfl) (by kernel_rfl) (by kernel_rfl) (fun _ _ _ h => h) (Or.inl ⟨by rfl, ?_⟩) (by assumption) ?_
            rotate_left
            · intro W hSW
              go_simp
              try with_reducible rfl
            try simp only [Act.put, List.setIfInBounds_toArray, List.set_cons_zero, List.set_cons_succ]
            refine wpAnyH_take (i := 10) (v := ?_) (by simp only [List.getElem?_toArray, List.getElem?_cons_succ, List.getElem?_cons_zero]; rfl) (by kernel_rfl) (by kernel_rfl) (by kernel_rfl) (fun _ _ _ h => h) (Or.inl ⟨by rfl, ?_⟩) (by assumption) ?_
            rotate_left
            · intro W hSW
              go_simp
              try with_reducible rfl
            try simp only [Act.put, List.setIfInBounds_toArray, List.set_cons_zero, List.set_cons_succ]
            refine wpAnyH_take (i := 11) (v := ?_) (by simp only [List.getElem?_toArray, List.getElem?_cons_succ, List.getElem?_cons_zero]; rfl) (by kernel_rfl) (by kernel_rfl) (by kernel_rfl) (fun _ _ _ h => h) (Or.inl ⟨by rfl, ?_⟩) (by assumption) ?_
            rotate_left
            · intro W hSW
              go_simp
              try with_reducible rfl
            try simp only [Act.put, List.setIfInBounds_toArray, List.set_cons_zero, List.set_cons_succ]
            refine wpAnyH_take (i := 12) (v := ?_) (by simp only [List.getElem?_toArray, List.getElem?_cons_succ, List.getElem?_cons_zero]; rfl) (by kernel_rfl) (by kernel_rfl) (by kernel_rfl) (fun _ _ _ h => h) (Or.inl ⟨by rfl, ?_⟩) (by assumption) ?_
            rotate_left
            · intro W hSW
              go_simp
              try with_reducible rfl
            try simp only [Act.put, List.setIfInBounds_toArray, List.set_cons_zero, List.set_cons_succ]
            refine wpAnyH_take (i := 13) (v := ?_) (by simp only [List.getElem?_toArray, List.getElem?_cons_succ, List.getElem?_cons_zero]; rfl) (by kernel_rfl) (by kernel_rfl) (by kernel_rfl) (fun _ _ _ h => h) (Or.inl ⟨by rfl, ?_⟩) (by assumption) ?_
            rotate_left
            · intro W hSW
              go_simp
              try with_reducible rfl
            try simp only [Act.put, List.setIfInBounds_toArray, List.set_cons_zero, List.set_cons_succ]
            refine wpAnyH_take (i := 14) (by simp only [List.getElem?_toArray, List.getElem?_cons_succ, List.getElem?_cons_zero]; rfl) (by kernel_rfl) (by kernel_rfl) (by kernel_rfl) (fun _ _ _ h => h) (yieldsIf_eql (by rfl) .eql 9 _ _ _ rfl (.string ((txt a).extract 0 k)) (.string ((txt b).extract 0 k)) rfl rfl (.bool true) (guard_eq _ _ _ _) (fun W => HEQ.out W)) (by assumption) ?_
            try simp only [Act.put, List.setIfInBounds_toArray, List.set_cons_zero, List.set_cons_succ]
            refine wpAnyH_take (i := 15) (v := ?_) (by simp only [List.getElem?_toArray, List.getElem?_cons_succ, List.getElem?_cons_zero]; rfl) (by kernel_rfl) (by kernel_rfl) (by kernel_rfl) (fun _ _ _ h => h) (Or.inl ⟨by rfl, ?_⟩) (by assumption) ?_
            rotate_left
            · intro W hSW
              go_simp
              try with_reducible rfl
            try simp only [Act.put, List.setIfInBounds_toArray, List.set_cons_zero, List.set_cons_succ]
            refine wpAnyH_take (i := 16) (v := ?_) (by simp only [List.getElem?_toArray, List.getElem?_cons_succ, List.getElem?_cons_zero]; rfl) (by kernel_rfl) (by kernel_rfl) (by kernel_rfl) (fun _ _ _ h => h) (Or.inl ⟨by rfl, ?_⟩) (by assumption) ?_
            rotate_left
            · intro W hSW
              go_simp
              try with_reducible rfl
            try simp only [Act.put, List.setIfInBounds_toArray, List.set_cons_zero, List.set_cons_succ]
            refine wpAnyH_done (by kernel_rfl) ?_ _
            refine NoPanic.normal ?_
            clear hHeld
            go_wp2_with fail
            go_ret
            exact ⟨rfl, HV0.out⟩
  subst hz0
  rw [show ((0 : Nat) : Int) = 0 from rfl]
  obtain ⟨hnn, hn255⟩ := nameE_zero HNP.out
  have HNN := Lib.hid hnn
  obtain ⟨nl, hnl⟩ : ∃ k, n.length = k := ⟨_, rfl⟩
  have HNL := Lib.hid hnl
  have hns : (txt n).size = nl := by rw [txt_size]; exact hnl
  clear hnn hn255 hnl
  go_wp2_with fail
  go_loopw [9, 10] (fun pv i wr => ∃ (k pc : Nat), k ≤ pl ∧ i = .int .i64 (k : Int) ∧ pv = .int .i64 (pc : Int) ∧ pc = (P.data.toList.take k).count 47 + 1 ∧ wr = w2) (fun _ i _ => pl - (intOf i).toNat)
  case atStart => exact ⟨0, 1, Nat.zero_le _, rfl, rfl, by simp, rfl⟩
  case round =>
    obtain ⟨k, pc, hk, rfl, rfl, hpc, rfl⟩ := hrel
    rename World => w2
    have HPC := Lib.hid hpc
    have HPCB : Hid (pc ≤ 61) := by
      show _ ≤ _
      have h2 := List.count_le_length (a := (47 : UInt8)) (l := P.data.toList.take k)
      rw [List.length_take] at h2
      have := HPLB.out
      have := HPN.out
      omega
    have WK := Lib.hid (next_int k (by have := HPLB.out; omega))
    have WC := Lib.hid (next_int pc (by have := HPCB.out; omega))
    clear hpc
    by_cases hkl : k < pl
    · have hki : (k : Int) < (pl : Int) := by omega
      have HKL := Lib.hid hkl
      obtain ⟨c, hc⟩ : ∃ c, P.data.toList[k]? = some c := ⟨_, List.getElem?_eq_getElem (by rw [HPN.out]; exact hkl)⟩
      have hix := fun W => index_text P k (by rw [HPS.out]; exact hkl) (k : Int) rfl W
      have h8 : at8 P k = c.toNat := by unfold at8; rw [hc]; rfl
      rw [h8] at hix
      have HTK : Hid (P.data.toList.take (k + 1) = P.data.toList.take k ++ [c]) := by show _ = _; rw [List.take_add_one, hc]; rfl
      clear h8
      by_cases h47 : c = 47
      · subst h47
        have HS2 : Hid (pc + 1 = (P.data.toList.take (k + 1)).count 47 + 1) := by show _ = _; rw [HTK.out, List.count_append, HPC.out]; rfl
        clear hc hkl hk
        go_wp2_with fail
        exact ⟨⟨k + 1, pc + 1, HKL.out, by first | rw [WK.out _ rfl] | rfl, by first | rw [WC.out _ rfl] | rfl, HS2.out, by first | rfl | trivial⟩, by have := HKL.out; (first | rw [WK.out _ rfl] | skip); simp [intOf]; omega⟩
      · have HS2 : Hid (pc = (P.data.toList.take (k + 1)).count 47 + 1) := by show _ = _; rw [HTK.out, List.count_append, HPC.out, show ([c] : List UInt8).count 47 = 0 from List.count_eq_zero.2 (by simp; exact fun e => h47 e.symm), Nat.add_zero]
        have hn47 : ¬ (c.toNat : Int) = 47 := fun e => h47 (UInt8.toNat_inj.1 (by show c.toNat = 47; omega))
        have hb47 : ((c.toNat : Int) == 47) = false := beq_eq_false_iff_ne.2 hn47
        clear hc hkl hk h47
        generalize (c.toNat : Int) = ci at *
        go_wp2_with fail
        exact ⟨⟨k + 1, pc, HKL.out, by first | rw [WK.out _ rfl] | rfl, rfl, HS2.out, by first | rfl | trivial⟩, by have := HKL.out; (first | rw [WK.out _ rfl] | skip); simp [intOf]; omega⟩
    · have hki : ¬ (k : Int) < (pl : Int) := by omega
      have hpcp : pc = (partsL P.data.toList).length := by rw [HPC.out, parts_count, List.take_of_length_le (by rw [HPN.out]; omega)]
      have hsz := name_sizes P.data.toList
      rw [← hpcp, ← HNN.out, HNL.out, HPN.out] at hsz
      have hpb := HPLB.out
      have hcb := HPCB.out
      obtain ⟨x1, hx1⟩ : ∃ x, 3 * pl = x := ⟨_, rfl⟩
      obtain ⟨x2, hx2⟩ : ∃ x, x1 + 10 = x := ⟨_, rfl⟩
      obtain ⟨x3, hx3⟩ : ∃ x, 6 * pc = x := ⟨_, rfl⟩
      obtain ⟨x4, hx4⟩ : ∃ x, x2 + x3 = x := ⟨_, rfl⟩
      obtain ⟨x5, hx5⟩ : ∃ x, pl + 7 = x := ⟨_, rfl⟩
      have q1 : ∀ y : Int, y = (pl : Int) → 3 * y = (x1 : Int) := fun y hy => by rw [hy, ← hx1]; simp
      have q2 : ∀ y : Int, y = (x1 : Int) → y + 10 = (x2 : Int) := fun y hy => by rw [hy, ← hx2]; simp
      have q3 : ∀ y : Int, y = (pc : Int) → 6 * y = (x3 : Int) := fun y hy => by rw [hy, ← hx3]; simp
      have q4 : ∀ y y' : Int, y = (x2 : Int) → y' = (x3 : Int) → y + y' = (x4 : Int) := fun y y' hy hy' => by rw [hy, hy', ← hx4]; simp
      have q5 : ∀ y : Int, y = (pl : Int) → y + 7 = (x5 : Int) := fun y hy => by rw [hy, ← hx5]; simp
      have v1 := wrap_rule x1 (by omega)
      have v2 := wrap_rule x2 (by omega)
      have v3 := wrap_rule x3 (by omega)
      have v4 := wrap_rule x4 (by omega)
      have v5 := wrap_rule x5 (by omega)
      have hg1 : ¬ (x4 : Int) < (nl : Int) := by omega
      have hg2 : ¬ (nl : Int) < (x5 : Int) := by omega
      clear hk hkl hpcp hsz hpb hcb hx1 hx2 hx3 hx4 hx5
      obtain ⟨l1, hl1⟩ : ∃ l, d ++ [47] = l := ⟨_, rfl⟩
      have HL1B : Hid (l1.length ≤ 61) := by show _ ≤ _; rw [← hl1, List.length_append]; have := HDL.out; simp; omega
      have HA1 : Hid (∀ W, (binOp .add 9 (.string D) (.string ⟨#[47]⟩)).run Tryd.prog W = .ok (.string (txt l1)) W) := fun W => add_txt _ _ _ (by rw [HDD.out]; exact hl1) (by have := HDB.out; show _ + 1 ≤ _; omega) W
      obtain ⟨l2, hl2⟩ : ∃ l, l1 ++ P.data.toList = l := ⟨_, rfl⟩
      obtain ⟨l3, hl3⟩ : ∃ l, l1 ++ Q.data.toList = l := ⟨_, rfl⟩
      have HA2 : Hid (∀ W, (binOp .add 9 (.string (txt l1)) (.string P)).run Tryd.prog W = .ok (.string (txt l2)) W) := fun W => add_txt _ _ _ (by rw [txt_list]; exact hl2) (by rw [txt_size]; have := HL1B.out; have := HPB.out; omega) W
      have HA3 : Hid (∀ W, (binOp .add 9 (.string (txt l1)) (.string Q)).run Tryd.prog W = .ok (.string (txt l3)) W) := fun W => add_txt _ _ _ (by rw [txt_list]; exact hl3) (by rw [txt_size]; have := HL1B.out; have := HQB.out; omega) W
      have HE2 : Hid (l2 = d ++ 47 :: P.data.toList) := by show _ = _; rw [← hl2, ← hl1]; simp
      have HE3 : Hid (l3 = d ++ 47 :: Q.data.toList) := by show _ = _; rw [← hl3, ← hl1]; simp
      have HL2B : Hid (l2.length ≤ 200) := by show _ ≤ _; rw [← hl2, List.length_append, ← Lib.size_eq]; have := HL1B.out; have := HPB.out; omega
      have HL3B : Hid (l3.length ≤ 200) := by show _ ≤ _; rw [← hl3, List.length_append, ← Lib.size_eq]; have := HL1B.out; have := HQB.out; omega
      clear hl1 hl2 hl3
      go_wp2_with (first
        | refine wpList_eql (by rfl) .add 9 _ _ _ rfl (.string D) (.string ⟨#[47]⟩) rfl rfl (.string (txt l1)) (guard_addn _ _ _ _) HA1.out ?_
        | refine wpList_eql (by rfl) .add 9 _ _ _ rfl (.string (txt l1)) (.string P) rfl rfl (.string (txt l2)) (guard_addn _ _ _ _) HA2.out ?_)
      refine (name_any (txt l2) w2 (HE.out.below HB2.out) (by rw [txt_size]; have := HL2B.out; omega)).mono ?_
      rintro e w3 ⟨rfl, hb⟩
      have HB3 := Lib.hid (HB2.out.trans (hb.mono HB2.out.size))
      clear hb
      rw [txt_list]
      obtain ⟨a, ha⟩ : ∃ n, (nameE l2).1 = n := ⟨_, rfl⟩
      obtain ⟨za, hza⟩ : ∃ z, (nameE l2).2 = z := ⟨_, rfl⟩
      have HNA : Hid (nameE l2 = (a, za)) := by show _ = _; rw [← ha, ← hza]
      rw [ha, hza]
      clear ha hza
      go_wp2_with (first
        | refine wpList_eql (by rfl) .add 9 _ _ _ rfl (.string D) (.string ⟨#[47]⟩) rfl rfl (.string (txt l1)) (guard_addn _ _ _ _) HA1.out ?_
        | refine wpList_eql (by rfl) .add 9 _ _ _ rfl (.string (txt l1)) (.string Q) rfl rfl (.string (txt l3)) (guard_addn _ _ _ _) HA3.out ?_)
      refine (name_any (txt l3) w3 (HE.out.below HB3.out) (by rw [txt_size]; have := HL3B.out; omega)).mono ?_
      rintro e w4 ⟨rfl, hb⟩
      have HB4 := Lib.hid (HB3.out.trans (hb.mono HB3.out.size))
      clear hb
      rw [txt_list]
      obtain ⟨b, hb⟩ : ∃ n, (nameE l3).1 = n := ⟨_, rfl⟩
      obtain ⟨zb, hzb⟩ : ∃ z, (nameE l3).2 = z := ⟨_, rfl⟩
      have HNB : Hid (nameE l3 = (b, zb)) := by show _ = _; rw [← hb, ← hzb]
      rw [hb, hzb]
      clear hb hzb
      by_cases hza0 : za = 0
      rotate_left
      · have e2 : ((za : Int) != 0) = true := bne_iff_ne.2 (by omega)
        have e3 : ¬ (za : Int) = 0 := by omega
        clear hza0
        go_wp2_with fail
        refine (known_any w4 (HE.out.below HB4.out)).mono ?_
        rintro e wk ⟨rfl, hb⟩
        have HBK := Lib.hid (HB4.out.trans (hb.mono HB4.out.size))
        clear hb
        go_wp2_with fail
        go_ret
        exact ⟨rfl, HBK.out⟩
      subst hza0
      rw [show ((0 : Nat) : Int) = 0 from rfl]
      by_cases hzb0 : zb = 0
      rotate_left
      · have e2 : ((zb : Int) != 0) = true := bne_iff_ne.2 (by omega)
        have e3 : ¬ (zb : Int) = 0 := by omega
        clear hzb0
        go_wp2_with fail
        refine (known_any w4 (HE.out.below HB4.out)).mono ?_
        rintro e wk ⟨rfl, hb⟩
        have HBK := Lib.hid (HB4.out.trans (hb.mono HB4.out.size))
        clear hb
        go_wp2_with fail
        go_ret
        exact ⟨rfl, HBK.out⟩
      subst hzb0
      rw [show ((0 : Nat) : Int) = 0 from rfl]
      obtain ⟨han, ha255⟩ := nameE_zero HNA.out
      obtain ⟨hbn, hb255⟩ := nameE_zero HNB.out
      obtain ⟨ra, hra⟩ := name_dir d P.data.toList
      obtain ⟨rb, hrb⟩ := name_dir d Q.data.toList
      have HAD : Hid (a = dirL d ++ ra) := by show _ = _; rw [han, HE2.out, hra]
      have HBD : Hid (b = dirL d ++ rb) := by show _ = _; rw [hbn, HE3.out, hrb]
      obtain ⟨la, hla⟩ : ∃ k, a.length = k := ⟨_, rfl⟩
      obtain ⟨lb, hlb⟩ : ∃ k, b.length = k := ⟨_, rfl⟩
      have HLA := Lib.hid hla
      have HLB := Lib.hid hlb
      have hlas : (txt a).size = la := by rw [txt_size]; exact hla
      have hlbs : (txt b).size = lb := by rw [txt_size]; exact hlb
      have HLAB : Hid (la ≤ 255) := by rw [← hla]; exact ha255
      have HLAD : Hid ((dirL d).length ≤ la) := by show _ ≤ _; rw [← hla, HAD.out, List.length_append]; omega
      have HLBD : Hid ((dirL d).length ≤ lb) := by show _ ≤ _; rw [← hlb, HBD.out, List.length_append]; omega
      clear han ha255 hbn hb255 hra hrb hla hlb
      go_wp2_with fail
      go_loopw [16, 17] (fun sv i wr => ∃ (k c0 : Nat), k ≤ dl ∧ i = .int .i64 (k : Int) ∧ sv = .int .i64 (c0 : Int) ∧ c0 = (d.take k).count 47 ∧ wr = w4) (fun _ i _ => dl - (intOf i).toNat)
      case atStart => exact ⟨0, 0, Nat.zero_le _, rfl, rfl, by simp, rfl⟩
      case round =>
        obtain ⟨k, c0, hk, rfl, rfl, hc0, rfl⟩ := hrel
        rename World => w4
        have HC0 := Lib.hid hc0
        have HC0B : Hid (c0 ≤ 60) := by
          show _ ≤ _
          have h2 := List.count_le_length (a := (47 : UInt8)) (l := d.take k)
          rw [List.length_take] at h2
          have := HDL.out
          omega
        have WK := Lib.hid (next_int k (by have := HDL.out; have := HDN.out; omega))
        have WC := Lib.hid (next_int c0 (by have := HC0B.out; omega))
        clear hc0
        by_cases hkl : k < dl
        · have hki : (k : Int) < (dl : Int) := by omega
          have HKL := Lib.hid hkl
          obtain ⟨c, hc⟩ : ∃ c, d[k]? = some c := ⟨_, List.getElem?_eq_getElem (by rw [HDN.out]; exact hkl)⟩
          have hix := fun W => index_text D k (by rw [HDS.out]; exact hkl) (k : Int) rfl W
          have h8 : at8 D k = c.toNat := by unfold at8; rw [HDD.out, hc]; rfl
          rw [h8] at hix
          have HTK : Hid (d.take (k + 1) = d.take k ++ [c]) := by show _ = _; rw [List.take_add_one, hc]; rfl
          clear h8
          by_cases h47 : c = 47
          · subst h47
            have HS2 : Hid (c0 + 1 = (d.take (k + 1)).count 47) := by show _ = _; rw [HTK.out, List.count_append, ← HC0.out]; rfl
            clear hc hkl hk
            go_wp2_with fail
            exact ⟨⟨k + 1, c0 + 1, HKL.out, by first | rw [WK.out _ rfl] | rfl, by first | rw [WC.out _ rfl] | rfl, HS2.out, by first | rfl | trivial⟩, by have := HKL.out; (first | rw [WK.out _ rfl] | skip); simp [intOf]; omega⟩
          · have HS2 : Hid (c0 = (d.take (k + 1)).count 47) := by show _ = _; rw [HTK.out, List.count_append, ← HC0.out, show ([c] : List UInt8).count 47 = 0 from List.count_eq_zero.2 (by simp; exact fun e => h47 e.symm), Nat.add_zero]
            have hn47 : ¬ (c.toNat : Int) = 47 := fun e => h47 (UInt8.toNat_inj.1 (by show c.toNat = 47; omega))
            have hb47 : ((c.toNat : Int) == 47) = false := beq_eq_false_iff_ne.2 hn47
            clear hc hkl hk h47
            generalize (c.toNat : Int) = ci at *
            go_wp2_with fail
            exact ⟨⟨k + 1, c0, HKL.out, by first | rw [WK.out _ rfl] | rfl, rfl, HS2.out, by first | rfl | trivial⟩, by have := HKL.out; (first | rw [WK.out _ rfl] | skip); simp [intOf]; omega⟩
        · have hki : ¬ (k : Int) < (dl : Int) := by omega
          have HCC : Hid (c0 = d.count 47) := by show _ = _; rw [HC0.out, List.take_of_length_le (by rw [HDN.out]; omega)]
          rw [HCC.out]
          clear hk hkl
          go_wp2_with fail
          clear hki
          try simp only [Act.put, List.setIfInBounds_toArray, List.set_cons_zero, List.set_cons_succ]
          go_loopw [15, 16] (fun cut sv wr => ∃ (k : Nat) (sl : Int), k ≤ (dirL d).length ∧ cut = .int .i64 (k : Int) ∧ sv = .int .i64 sl ∧ sl = ((d.count 47 : Nat) : Int) - (((a.take k).count 47 : Nat) : Int) ∧ wr = w4) (fun cut _ _ => la - (intOf cut).toNat)
          case atStart => exact ⟨0, ((d.count 47 : Nat) : Int), Nat.zero_le _, rfl, rfl, by simp, rfl⟩
          case round =>
            obtain ⟨k, sl, hk, rfl, rfl, hsl, rfl⟩ := hrel
            rename World => w4
            have HKD := Lib.hid hk
            have HSL := Lib.hid hsl
            have WK := Lib.hid (next_int k (by have := HLAB.out; have := HLAD.out; omega))
            clear hk hsl
            by_cases hkl : k < la
            · have hki : (k : Int) < (la : Int) := by omega
              by_cases hge : -1 ≤ sl
              · have HKL := Lib.hid hkl
                have HLT : Hid (k + 1 ≤ (dirL d).length) := by
                  show _ ≤ _
                  have h1 := HKD.out
                  by_cases he : k = (dirL d).length
                  · exfalso
                    have h2 := HSL.out
                    rw [he, HAD.out, List.take_left, dir_count] at h2
                    omega
                  · omega
                obtain ⟨c, hc⟩ : ∃ c, a[k]? = some c := ⟨_, List.getElem?_eq_getElem (by rw [HLA.out]; exact hkl)⟩
                have hix := fun W => index_text (txt a) k (by rw [txt_size, HLA.out]; exact hkl) (k : Int) rfl W
                rw [at8_txt, hc, Option.getD_some] at hix
                have HTK : Hid (a.take (k + 1) = a.take k ++ [c]) := by show _ = _; rw [List.take_add_one, hc]; rfl
                by_cases h47 : c = 47
                · subst h47
                  have HS2 : Hid (sl - 1 = ((d.count 47 : Nat) : Int) - (((a.take (k + 1)).count 47 : Nat) : Int)) := by
                    have h1 := HSL.out
                    show _ = _
                    rw [HTK.out, List.count_append, show ([47] : List UInt8).count 47 = 1 by decide]
                    omega
                  have hsb : wrap64 (sl - 1) = sl - 1 := IntWalk.wrap64_in _ (by
                    have h1 := HSL.out
                    have h2 := List.count_le_length (a := (47 : UInt8)) (l := d)
                    have := HDL.out
                    omega)
                  have HSB := Lib.hid hsb
                  clear hc hkl hsb
                  go_wp2_with fail
                  exact ⟨⟨k + 1, sl - 1, HLT.out, by first | rw [WK.out _ rfl] | rfl, by first | rw [HSB.out] | rfl, HS2.out, by first | rfl | trivial⟩, by have := HKL.out; (first | rw [WK.out _ rfl] | skip); simp [intOf]; omega⟩
                · have HS2 : Hid (sl = ((d.count 47 : Nat) : Int) - (((a.take (k + 1)).count 47 : Nat) : Int)) := by
                    have h1 := HSL.out
                    show _ = _
                    rw [HTK.out, List.count_append, show ([c] : List UInt8).count 47 = 0 from List.count_eq_zero.2 (by simp; exact fun e => h47 e.symm), Nat.add_zero]
                    exact h1
                  have hn47 : ¬ (c.toNat : Int) = 47 := fun e => h47 (UInt8.toNat_inj.1 (by show c.toNat = 47; omega))
                  have hb47 : ((c.toNat : Int) == 47) = false := beq_eq_false_iff_ne.2 hn47
                  clear hc hkl h47
                  generalize (c.toNat : Int) = ci at *
                  go_wp2_with fail
                  exact ⟨⟨k + 1, sl, HLT.out, by first | rw [WK.out _ rfl] | rfl, rfl, HS2.out, by first | rfl | trivial⟩, by have := HKL.out; (first | rw [WK.out _ rfl] | skip); simp [intOf]; omega⟩
              · clear hkl
                have hgl : (k : Int) ≤ (lb : Int) := by have := HKD.out; have := HLBD.out; omega
                have hgl2 : ¬ (lb : Int) < (k : Int) := by have := HKD.out; have := HLBD.out; omega
                have hs1 := fun W => slice_front (txt a) k (by rw [txt_size, HLA.out]; have := HKD.out; have := HLAD.out; omega) (k : Int) rfl W
                have hs2 := fun W => slice_front (txt b) k (by rw [txt_size, HLB.out]; have := HKD.out; have := HLBD.out; omega) (k : Int) rfl W
                have HEQ : Hid (∀ W, (binOp .eql 9 (.string ((txt a).extract 0 k)) (.string ((txt b).extract 0 k))).run Tryd.prog W = .ok (.bool true) W) := fun W => by
                  rw [str_eql, extract_list, extract_list, txt_list, txt_list, HAD.out, HBD.out, List.take_append_of_le_length HKD.out, List.take_append_of_le_length HKD.out, beq_self_eq_true]
                have HBL := HB4
                go_wp2_with fail
                refine wp_region_noPanic ?_
                refine wp_region_held_drew (S := fun W => Below w.heap.size w W) (by kernel_rfl) ?_ (fun hHeld => ?_)
                · exact HBL.out.drew
                refine wpAnyH_ready (rs := [0]) (by kernel_rfl) (by simp) ?_
                refine AllReadyH.cons (by simp only [List.getElem?_toArray, List.getElem?_cons_zero]; rfl) (fun K hK => ?_) AllReadyH.nil
                go_simp
                refine (known_any _ (HE.out.below HBL.out.drew)).mono ?_
                rintro e v0 ⟨rfl, hb⟩
                have HV0 : Hid (Below w.heap.size w v0) := HBL.out.drew.trans (hb.mono HBL.out.drew.size)
                clear hb
                go_wp2_with fail
                refine hK.out _ _ (HV0.out) (fun hHeld2 => ?_)
                clear hK K hHeld
                have hHeld := hHeld2
                clear hHeld2
                try simp only [Act.put, List.setIfInBounds_toArray, List.set_cons_zero, List.set_cons_succ]
                refine wpAnyH_take (i := 1) (v := ?_) (by simp only [List.getElem?_toArray, List.getElem?_cons_succ, List.getElem?_cons_zero]; rfl) (by kernel_rfl) (by kernel_rfl) (by kernel_rfl) (fun _ _ _ h => h) (Or.inl ⟨by rfl, ?_⟩) (by assumption) ?_
                rotate_left
                · intro W hSW
                  go_simp
                  try with_reducible rfl
                try simp only [Act.put, List.setIfInBounds_toArray, List.set_cons_zero, List.set_cons_succ]
                refine wpAnyH_take (i := 2) (v := ?_) (by simp only [List.getElem?_toArray, List.getElem?_cons_succ, List.getElem?_cons_zero]; rfl) (by kernel_rfl) (by kernel_rfl) (by kernel_rfl) (fun _ _ _ h => h) (Or.inl ⟨by rfl, ?_⟩) (by assumption) ?_
                rotate_left
                · intro W hSW
                  go_simp
                  try with_reducible rfl
                try simp only [Act.put, List.setIfInBounds_toArray, List.set_cons_zero, List.set_cons_succ]
                refine wpAnyH_take (i := 3) (v := ?_) (by simp only [List.getElem?_toArray, List.getElem?_cons_succ, List.getElem?_cons_zero]; rfl) (by kernel_rfl) (by kernel_rfl) (by kernel_rfl) (fun _ _ _ h => h) (Or.inl ⟨by rfl, ?_⟩) (by assumption) ?_
                rotate_left
                · intro W hSW
                  go_simp
                  try with_reducible rfl
                try simp only [Act.put, List.setIfInBounds_toArray, List.set_cons_zero, List.set_cons_succ]
                refine wpAnyH_take (i := 4) (v := ?_) (by simp only [List.getElem?_toArray, List.getElem?_cons_succ, List.getElem?_cons_zero]; rfl) (by kernel_rfl) (by kernel_rfl) (by kernel_rfl) (fun _ _ _ h => h) (Or.inl ⟨by rfl, ?_⟩) (by assumption) ?_
                rotate_left
                · intro W hSW
                  go_simp
                  try with_reducible rfl
                try simp only [Act.put, List.setIfInBounds_toArray, List.set_cons_zero, List.set_cons_succ]
                refine wpAnyH_take (i := 5) (v := ?_) (by simp only [List.getElem?_toArray, List.getElem?_cons_succ, List.getElem?_cons_zero]; rfl) (by kernel_rfl) (by kernel_rfl) (by kernel_rfl) (fun _ _ _ h => h) (Or.inl ⟨by rfl, ?_⟩) (by assumption) ?_
                rotate_left
                · intro W hSW
                  go_simp
                  try with_reducible rfl
                try simp only [Act.put, List.setIfInBounds_toArray, List.set_cons_zero, List.set_cons_succ]
                refine wpAnyH_take (i := 6) (v := ?_) (by simp only [List.getElem?_toArray, List.getElem?_cons_succ, List.getElem?_cons_zero]; rfl) (by kernel_rfl) (by kernel_rfl) (by kernel_rfl) (fun _ _ _ h => h) (Or.inl ⟨by rfl, ?_⟩) (by assumption) ?_
                rotate_left
                · intro W hSW
                  go_simp
                  try with_reducible rfl
                try simp only [Act.put, List.setIfInBounds_toArray, List.set_cons_zero, List.set_cons_succ]
                refine wpAnyH_take (i := 7) (v := ?_) (by simp only [List.getElem?_toArray, List.getElem?_cons_succ, List.getElem?_cons_zero]; rfl) (by kernel_rfl) (by kernel_rfl) (by kernel_rfl) (fun _ _ _ h => h) (Or.inl ⟨by rfl, ?_⟩) (by assumption) ?_
                rotate_left
                · intro W hSW
                  go_simp
                  try with_reducible rfl
                try simp only [Act.put, List.setIfInBounds_toArray, List.set_cons_zero, List.set_cons_succ]
                refine wpAnyH_take (i := 8) (v := ?_) (by simp only [List.getElem?_toArray, List.getElem?_cons_succ, List.getElem?_cons_zero]; rfl) (by kernel_rfl) (by kernel_rfl) (by kernel_rfl) (fun _ _ _ h => h) (Or.inl ⟨by rfl, ?_⟩) (by assumption) ?_
                rotate_left
                · intro W hSW
                  go_simp
                  try with_reducible rfl
                try simp only [Act.put, List.setIfInBounds_toArray, List.set_cons_zero, List.set_cons_succ]
                refine wpAnyH_take (i := 9) (v := ?_) (by simp only [List.getElem?_toArray, List.getElem?_cons_succ, List.getElem?_cons_zero]; rfl) (by kernel_rfl) (by kernel_rfl) (by kernel_rfl) (fun _ _ _ h => h) (Or.inl ⟨by rfl, ?_⟩) (by assumption) ?_
                rotate_left
                · intro W hSW
                  go_simp
                  try with_reducible rfl
                try simp only [Act.put, List.setIfInBounds_toArray, List.set_cons_zero, List.set_cons_succ]
                refine wpAnyH_take (i := 10) (v := ?_) (by simp only [List.getElem?_toArray, List.getElem?_cons_succ, List.getElem?_cons_zero]; rfl) (by kernel_rfl) (by kernel_rfl) (by kernel_rfl) (fun _ _ _ h => h) (Or.inl ⟨by rfl, ?_⟩) (by assumption) ?_
                rotate_left
                · intro W hSW
                  go_simp
                  try with_reducible rfl
                try simp only [Act.put, List.setIfInBounds_toArray, List.set_cons_zero, List.set_cons_succ]
                refine wpAnyH_take (i := 11) (v := ?_) (by simp only [List.getElem?_toArray, List.getElem?_cons_succ, List.getElem?_cons_zero]; rfl) (by kernel_rfl) (by kernel_rfl) (by kernel_rfl) (fun _ _ _ h => h) (Or.inl ⟨by rfl, ?_⟩) (by assumption) ?_
                rotate_left
                · intro W hSW
                  go_simp
                  try with_reducible rfl
                try simp only [Act.put, List.setIfInBounds_toArray, List.set_cons_zero, List.set_cons_succ]
                refine wpAnyH_take (i := 12) (v := ?_) (by simp only [List.getElem?_toArray, List.getElem?_cons_succ, List.getElem?_cons_zero]; rfl) (by kernel_rfl) (by kernel_rfl) (by kernel_rfl) (fun _ _ _ h => h) (Or.inl ⟨by rfl, ?_⟩) (by assumption) ?_
                rotate_left
                · intro W hSW
                  go_simp
                  try with_reducible rfl
                try simp only [Act.put, List.setIfInBounds_toArray, List.set_cons_zero, List.set_cons_succ]
                refine wpAnyH_take (i := 13) (v := ?_) (by simp only [List.getElem?_toArray, List.getElem?_cons_succ, List.getElem?_cons_zero]; rfl) (by kernel_rfl) (by kernel_rfl) (by kernel_rfl) (fun _ _ _ h => h) (Or.inl ⟨by rfl, ?_⟩) (by assumption) ?_
                rotate_left
                · intro W hSW
                  go_simp
                  try with_reducible rfl
                try simp only [Act.put, List.setIfInBounds_toArray, List.set_cons_zero, List.set_cons_succ]
                refine wpAnyH_take (i := 14) (by simp only [List.getElem?_toArray, List.getElem?_cons_succ, List.getElem?_cons_zero]; rfl) (by kernel_rfl) (by kernel_rfl) (by kernel_rfl) (fun _ _ _ h => h) (yieldsIf_eql (by rfl) .eql 9 _ _ _ rfl (.string ((txt a).extract 0 k)) (.string ((txt b).extract 0 k)) rfl rfl (.bool true) (guard_eq _ _ _ _) (fun W => HEQ.out W)) (by assumption) ?_
                try simp only [Act.put, List.setIfInBounds_toArray, List.set_cons_zero, List.set_cons_succ]
                refine wpAnyH_take (i := 15) (v := ?_) (by simp only [List.getElem?_toArray, List.getElem?_cons_succ, List.getElem?_cons_zero]; rfl) (by kernel_rfl) (by kernel_rfl) (by kernel_rfl) (fun _ _ _ h => h) (Or.inl ⟨by rfl, ?_⟩) (by assumption) ?_
                rotate_left
                · intro W hSW
                  go_simp
                  try with_reducible rfl
                try simp only [Act.put, List.setIfInBounds_toArray, List.set_cons_zero, List.set_cons_succ]
                refine wpAnyH_take (i := 16) (v := ?_) (by simp only [List.getElem?_toArray, List.getElem?_cons_succ, List.getElem?_cons_zero]; rfl) (by kernel_rfl) (by kernel_rfl) (by kernel_rfl) (fun _ _ _ h => h) (Or.inl ⟨by rfl, ?_⟩) (by assumption) ?_
                rotate_left
                · intro W hSW
                  go_simp
                  try with_reducible rfl
                try simp only [Act.put, List.setIfInBounds_toArray, List.set_cons_zero, List.set_cons_succ]
                refine wpAnyH_done (by kernel_rfl) ?_ _
                refine NoPanic.normal ?_
                clear hHeld
                go_wp2_with fail
                go_ret
                exact ⟨rfl, HV0.out⟩
            · have hki : ¬ (k : Int) < (la : Int) := by omega
              clear hkl
              have hgl : (k : Int) ≤ (lb : Int) := by have := HKD.out; have := HLBD.out; omega
              have hgl2 : ¬ (lb : Int) < (k : Int) := by have := HKD.out; have := HLBD.out; omega
              have hs1 := fun W => slice_front (txt a) k (by rw [txt_size, HLA.out]; have := HKD.out; have := HLAD.out; omega) (k : Int) rfl W
              have hs2 := fun W => slice_front (txt b) k (by rw [txt_size, HLB.out]; have := HKD.out; have := HLBD.out; omega) (k : Int) rfl W
              have HEQ : Hid (∀ W, (binOp .eql 9 (.string ((txt a).extract 0 k)) (.string ((txt b).extract 0 k))).run Tryd.prog W = .ok (.bool true) W) := fun W => by
                rw [str_eql, extract_list, extract_list, txt_list, txt_list, HAD.out, HBD.out, List.take_append_of_le_length HKD.out, List.take_append_of_le_length HKD.out, beq_self_eq_true]
              have HBL := HB4
              go_wp2_with fail
              refine wp_region_noPanic ?_
              refine wp_region_held_drew (S := fun W => Below w.heap.size w W) (by kernel_rfl) ?_ (fun hHeld => ?_)
              · exact HBL.out.drew
              refine wpAnyH_ready (rs := [0]) (by kernel_rfl) (by simp) ?_
              refine AllReadyH.cons (by simp only [List.getElem?_toArray, List.getElem?_cons_zero]; rfl) (fun K hK => ?_) AllReadyH.nil
              go_simp
              refine (known_any _ (HE.out.below HBL.out.drew)).mono ?_
              rintro e v0 ⟨rfl, hb⟩
              have HV0 : Hid (Below w.heap.size w v0) := HBL.out.drew.trans (hb.mono HBL.out.drew.size)
              clear hb
              go_wp2_with fail
              refine hK.out _ _ (HV0.out) (fun hHeld2 => ?_)
              clear hK K hHeld
              have hHeld := hHeld2
              clear hHeld2
              try simp only [Act.put, List.setIfInBounds_toArray, List.set_cons_zero, List.set_cons_succ]
              refine wpAnyH_take (i := 1) (v := ?_) (by simp only [List.getElem?_toArray, List.getElem?_cons_succ, List.getElem?_cons_zero]; rfl) (by kernel_rfl) (by kernel_rfl) (by kernel_rfl) (fun _ _ _ h => h) (Or.inl ⟨by rfl, ?_⟩) (by assumption) ?_
              rotate_left
              · intro W hSW
                go_simp
                try with_reducible rfl
              try simp only [Act.put, List.setIfInBounds_toArray, List.set_cons_zero, List.set_cons_succ]
              refine wpAnyH_take (i := 2) (v := ?_) (by simp only [List.getElem?_toArray, List.getElem?_cons_succ, List.getElem?_cons_zero]; rfl) (by kernel_rfl) (by kernel_rfl) (by kernel_rfl) (fun _ _ _ h => h) (Or.inl ⟨by rfl, ?_⟩) (by assumption) ?_
              rotate_left
              · intro W hSW
                go_simp
                try with_reducible rfl
              try simp only [Act.put, List.setIfInBounds_toArray, List.set_cons_zero, List.set_cons_succ]
              refine wpAnyH_take (i := 3) (v := ?_) (by simp only [List.getElem?_toArray, List.getElem?_cons_succ, List.getElem?_cons_zero]; rfl) (by kernel_rfl) (by kernel_rfl) (by kernel_rfl) (fun _ _ _ h => h) (Or.inl ⟨by rfl, ?_⟩) (by assumption) ?_
              rotate_left
              · intro W hSW
                go_simp
                try with_reducible rfl
              try simp only [Act.put, List.setIfInBounds_toArray, List.set_cons_zero, List.set_cons_succ]
              refine wpAnyH_take (i := 4) (v := ?_) (by simp only [List.getElem?_toArray, List.getElem?_cons_succ, List.getElem?_cons_zero]; rfl) (by kernel_rfl) (by kernel_rfl) (by kernel_rfl) (fun _ _ _ h => h) (Or.inl ⟨by rfl, ?_⟩) (by assumption) ?_
              rotate_left
              · intro W hSW
                go_simp
                try with_reducible rfl
              try simp only [Act.put, List.setIfInBounds_toArray, List.set_cons_zero, List.set_cons_succ]
              refine wpAnyH_take (i := 5) (v := ?_) (by simp only [List.getElem?_toArray, List.getElem?_cons_succ, List.getElem?_cons_zero]; rfl) (by kernel_rfl) (by kernel_rfl) (by kernel_rfl) (fun _ _ _ h => h) (Or.inl ⟨by rfl, ?_⟩) (by assumption) ?_
              rotate_left
              · intro W hSW
                go_simp
                try with_reducible rfl
              try simp only [Act.put, List.setIfInBounds_toArray, List.set_cons_zero, List.set_cons_succ]
              refine wpAnyH_take (i := 6) (v := ?_) (by simp only [List.getElem?_toArray, List.getElem?_cons_succ, List.getElem?_cons_zero]; rfl) (by kernel_rfl) (by kernel_rfl) (by kernel_rfl) (fun _ _ _ h => h) (Or.inl ⟨by rfl, ?_⟩) (by assumption) ?_
              rotate_left
              · intro W hSW
                go_simp
                try with_reducible rfl
              try simp only [Act.put, List.setIfInBounds_toArray, List.set_cons_zero, List.set_cons_succ]
              refine wpAnyH_take (i := 7) (v := ?_) (by simp only [List.getElem?_toArray, List.getElem?_cons_succ, List.getElem?_cons_zero]; rfl) (by kernel_rfl) (by kernel_rfl) (by kernel_rfl) (fun _ _ _ h => h) (Or.inl ⟨by rfl, ?_⟩) (by assumption) ?_
              rotate_left
              · intro W hSW
                go_simp
                try with_reducible rfl
              try simp only [Act.put, List.setIfInBounds_toArray, List.set_cons_zero, List.set_cons_succ]
              refine wpAnyH_take (i := 8) (v := ?_) (by simp only [List.getElem?_toArray, List.getElem?_cons_succ, List.getElem?_cons_zero]; rfl) (by kernel_rfl) (by kernel_rfl) (by kernel_rfl) (fun _ _ _ h => h) (Or.inl ⟨by rfl, ?_⟩) (by assumption) ?_
              rotate_left
              · intro W hSW
                go_simp
                try with_reducible rfl
              try simp only [Act.put, List.setIfInBounds_toArray, List.set_cons_zero, List.set_cons_succ]
              refine wpAnyH_take (i := 9) (v := ?_) (by simp only [List.getElem?_toArray, List.getElem?_cons_succ, List.getElem?_cons_zero]; rfl) (by kernel_rfl) (by kernel_rfl) (by kernel_rfl) (fun _ _ _ h => h) (Or.inl ⟨by rfl, ?_⟩) (by assumption) ?_
              rotate_left
              · intro W hSW
                go_simp
                try with_reducible rfl
              try simp only [Act.put, List.setIfInBounds_toArray, List.set_cons_zero, List.set_cons_succ]
              refine wpAnyH_take (i := 10) (v := ?_) (by simp only [List.getElem?_toArray, List.getElem?_cons_succ, List.getElem?_cons_zero]; rfl) (by kernel_rfl) (by kernel_rfl) (by kernel_rfl) (fun _ _ _ h => h) (Or.inl ⟨by rfl, ?_⟩) (by assumption) ?_
              rotate_left
              · intro W hSW
                go_simp
                try with_reducible rfl
              try simp only [Act.put, List.setIfInBounds_toArray, List.set_cons_zero, List.set_cons_succ]
              refine wpAnyH_take (i := 11) (v := ?_) (by simp only [List.getElem?_toArray, List.getElem?_cons_succ, List.getElem?_cons_zero]; rfl) (by kernel_rfl) (by kernel_rfl) (by kernel_rfl) (fun _ _ _ h => h) (Or.inl ⟨by rfl, ?_⟩) (by assumption) ?_
              rotate_left
              · intro W hSW
                go_simp
                try with_reducible rfl
              try simp only [Act.put, List.setIfInBounds_toArray, List.set_cons_zero, List.set_cons_succ]
              refine wpAnyH_take (i := 12) (v := ?_) (by simp only [List.getElem?_toArray, List.getElem?_cons_succ, List.getElem?_cons_zero]; rfl) (by kernel_rfl) (by kernel_rfl) (by kernel_rfl) (fun _ _ _ h => h) (Or.inl ⟨by rfl, ?_⟩) (by assumption) ?_
              rotate_left
              · intro W hSW
                go_simp
                try with_reducible rfl
              try simp only [Act.put, List.setIfInBounds_toArray, List.set_cons_zero, List.set_cons_succ]
              refine wpAnyH_take (i := 13) (v := ?_) (by simp only [List.getElem?_toArray, List.getElem?_cons_succ, List.getElem?_cons_zero]; rfl) (by kernel_rfl) (by kernel_rfl) (by kernel_rfl) (fun _ _ _ h => h) (Or.inl ⟨by rfl, ?_⟩) (by assumption) ?_
              rotate_left
              · intro W hSW
                go_simp
                try with_reducible rfl
              try simp only [Act.put, List.setIfInBounds_toArray, List.set_cons_zero, List.set_cons_succ]
              refine wpAnyH_take (i := 14) (by simp only [List.getElem?_toArray, List.getElem?_cons_succ, List.getElem?_cons_zero]; rfl) (by kernel_rfl) (by kernel_rfl) (by kernel_rfl) (fun _ _ _ h => h) (yieldsIf_eql (by rfl) .eql 9 _ _ _ rfl (.string ((txt a).extract 0 k)) (.string ((txt b).extract 0 k)) rfl rfl (.bool true) (guard_eq _ _ _ _) (fun W => HEQ.out W)) (by assumption) ?_
              try simp only [Act.put, List.setIfInBounds_toArray, List.set_cons_zero, List.set_cons_succ]
              refine wpAnyH_take (i := 15) (v := ?_) (by simp only [List.getElem?_toArray, List.getElem?_cons_succ, List.getElem?_cons_zero]; rfl) (by kernel_rfl) (by kernel_rfl) (by kernel_rfl) (fun _ _ _ h => h) (Or.inl ⟨by rfl, ?_⟩) (by assumption) ?_
              rotate_left
              · intro W hSW
                go_simp
                try with_reducible rfl
              try simp only [Act.put, List.setIfInBounds_toArray, List.set_cons_zero, List.set_cons_succ]
              refine wpAnyH_take (i := 16) (v := ?_) (by simp only [List.getElem?_toArray, List.getElem?_cons_succ, List.getElem?_cons_zero]; rfl) (by kernel_rfl) (by kernel_rfl) (by kernel_rfl) (fun _ _ _ h => h) (Or.inl ⟨by rfl, ?_⟩) (by assumption) ?_
              rotate_left
              · intro W hSW
                go_simp
                try with_reducible rfl
              try simp only [Act.put, List.setIfInBounds_toArray, List.set_cons_zero, List.set_cons_succ]
              refine wpAnyH_done (by kernel_rfl) ?_ _
              refine NoPanic.normal ?_
              clear hHeld
              go_wp2_with fail
              go_ret
              exact ⟨rfl, HV0.out⟩
end Go.Proofs.YtmjpejnpcmodgaaDoor
