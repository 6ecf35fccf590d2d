/- There and back: the walk. -/
import Derived.Test.YtomnogbahjcnnaaDoorBackMath
import Derived.Test.YtomnogbahjcnnaaDoorFromBe
import Derived.Test.YtomnogbahjcnnaaDoorTexts
namespace Go.Proofs.YtomnogbahjcnnaaDoor
open Go.RowKit Plain
set_option linter.unusedVariables false
open Sv.Plain (lebGo lebOf)
theorem and_7 (x : Int) : ∃ k : Nat, k ≤ 7 ∧ bits .and .i64 x 7 = (k : Int) := by
  refine ⟨(BitVec.ofInt 64 x).toNat % 2 ^ 3, by omega, ?_⟩
  show IntKind.i64.wrap ((BitVec.ofInt 64 _ &&& BitVec.ofInt 64 _ : BitVec 64).toNat : Int) = _
  rw [BitVec.toNat_and]
  have e2 : (BitVec.ofInt 64 (7 : Int)).toNat = 2 ^ 3 - 1 := by decide
  rw [e2, Nat.and_two_pow_sub_one_eq_mod, IntKind.wrap_i64]
  omega
theorem unhid {p : Prop} (h : p) : Hid p := h
theorem pre_rule (k j : Nat) (h : k = j + 1) : ∀ k' : Int, k' = (k : Int) → k' - 1 = (j : Int) := fun k' h' => by rw [h', h]; omega
theorem cut_bytes {w : World} {a : Option Addr} {k : Nat} {xs : List Int} (h : Bytes w a k xs) (j : Nat) (hj : k = j + 1) : Bytes w a j (xs.take j) := by
  have := h.first j
  rwa [show min k j = j by omega] at this
set_option maxRecDepth 100000 in
set_option maxHeartbeats 8000000 in
theorem back_any (a0 a1 : Int) (a2 : Option Addr) (len2 cap2 q : Nat) (bs : List Int) (w : World) (htab : Lib.TabIs Tryd.prog w "internal/strconv.uint64pow10" .u64 Lib.pow10Tab) (hv : ErrVars w)
    (hlc : len2 ≤ cap2) (hcm : cap2 ≤ 9223372036854775807) (hq : min len2 50 = q) (hB : Bytes w a2 q bs) (hnil : a2 = none → cap2 = 0) :
    Calls Tryd.prog 4 #[.int .i64 a0, .int .i64 a1, .slice a2 len2 cap2] w fun e w' => e = .returned (.bool true) ∧ Below w.heap.size w w' := by
  have HT : Hid (Lib.TabIs Tryd.prog w "internal/strconv.uint64pow10" .u64 Lib.pow10Tab) := htab
  have HV : Hid (ErrVars w) := hv
  have HN : Hid (a2 = none → cap2 = 0) := hnil
  have HB0 : Hid (Bytes w a2 q bs) := hB
  have HBR : Hid (∀ j : Nat, 0 ≤ bs[j]?.getD 0 ∧ bs[j]?.getD 0 ≤ 255) := hB.2.2.1
  clear htab hv hnil hB
  have hq5 : q ≤ 50 := by omega
  have hqc : q ≤ cap2 := by omega
  have hmn : ∀ (ts : Array TypeId) (t : TypeId) (W : World), (Builtin.min_ ts t #[.int .i64 (len2 : Int), .int .i64 50]).run Tryd.prog W = .ok (.int .i64 (q : Int)) W := fun ts t W => by
    rw [show (q : Int) = min (len2 : Int) 50 by omega]; exact min2_run ts t .i64 .i64 len2 50 W
  have sl2 := fun W => slice_to a2 len2 cap2 q hqc W
  clear hq
  obtain ⟨n, hn, hand0⟩ := and_most a0
  obtain ⟨kd, hkd, hand1⟩ := and_7 a1
  go_enter Tryd.func4, Tryd.ntmps4
  go_wp2_with fail
  refine (leb_any n hn w).mono ?_
  rintro e w1 ⟨⟨x1, k1, c1, rfl, ho⟩, hb⟩
  have l1 : Hid ((lebBytes n).length = k1) := own_len ho
  have hc1 : k1 ≤ c1 := by obtain ⟨_, _, e, h, -⟩ := ho.shape; cases e; exact h
  have N1 : Hid (x1 = none → c1 = 0) := nil_of_own ho
  have A1 : Hid (Bytes w1 x1 k1 (lebBytes n)) := ho.bytes (range_of_mem (lebF_bytes 10 n))
  have HW1 : Hid (Below w.heap.size w w1) := hb
  clear ho hb
  go_wp2_with fail
  refine (ofs_any n hn w1).mono ?_
  rintro e w2 ⟨⟨x2, k2, c2, rfl, ho⟩, hb⟩
  have l2 : Hid ((ofsBytes n).length = k2) := own_len ho
  have hc2 : k2 ≤ c2 := by obtain ⟨_, _, e, h, -⟩ := ho.shape; cases e; exact h
  have N2 : Hid (x2 = none → c2 = 0) := nil_of_own ho
  have B1 : Hid (Bytes w2 x1 k1 (lebBytes n)) := A1.out.below hb
  have A2 : Hid (Bytes w2 x2 k2 (ofsBytes n)) := ho.bytes (range_of_mem (ofsBytes_bytes n))
  have HW2 : Hid (Below w.heap.size w w2) := HW1.out.trans (hb.mono HW1.out.size)
  clear ho hb A1
  go_wp2_with fail
  refine (head_any kd n hkd hn w2).mono ?_
  rintro e w3 ⟨⟨x3, k3, c3, rfl, ho⟩, hb⟩
  have l3 : Hid ((headBytes kd n).length = k3) := own_len ho
  have hc3 : k3 ≤ c3 := by obtain ⟨_, _, e, h, -⟩ := ho.shape; cases e; exact h
  have hc4 : c3 ≤ 9223372036854775807 := by obtain ⟨_, _, e, _, _, h⟩ := ho.shape; cases e; exact h
  have N3 : Hid (x3 = none → c3 = 0) := nil_of_own ho
  have A1 : Hid (Bytes w3 x1 k1 (lebBytes n)) := B1.out.below hb
  have B2 : Hid (Bytes w3 x2 k2 (ofsBytes n)) := A2.out.below hb
  have A3 : Hid (Bytes w3 x3 k3 (headBytes kd n)) := ho.bytes (range_of_mem (headBytes_bytes kd n hkd))
  have HW3 : Hid (Below w.heap.size w w3) := HW2.out.trans (hb.mono HW2.out.size)
  clear ho hb B1 A2 HW1 HW2
  have p1 : 0 < k1 := by rw [← l1.out]; exact lebBytes_pos n
  have p2 : 0 < k2 := by rw [← l2.out]; exact ofsBytes_pos n
  have p3 : 0 < k3 := by rw [← l3.out]; exact headBytes_pos kd n
  have m1 : k1 ≤ 10 := by rw [← l1.out]; exact lebF_len 10 n
  have m2 : k2 ≤ 10 := by rw [← l2.out]; unfold ofsBytes; rw [List.length_reverse]; exact ofsRise_len n
  have m3 : k3 ≤ 11 := by
    rw [← l3.out]; unfold headBytes; split
    · simp
    · have := lebF_len 10 (n / 16); rw [List.length_cons]; exact Nat.succ_le_succ this
  have F1 : Hid (lebOf (lebBytes n ++ bs) = (n, k1, 0)) := by show _ = _; rw [lebOf_back n hn, l1.out]
  have F2 : Hid (ofsOf (ofsBytes n ++ bs) = (n, k2, 0)) := by show _ = _; rw [ofsOf_back n hn, l2.out]
  have F3 : Hid (headOf (headBytes kd n ++ bs) = (kd, n, k3, 0)) := by show _ = _; rw [headOf_back kd n hkd hn, l3.out]
  have HB3 : Hid (Bytes w3 a2 q bs) := HB0.out.below HW3.out
  have A2 := B2
  clear B2 HB0
  go_wp2_with (
    at_builtin
    refine wpList_append_bytes rfl _ _ rfl w3.heap.size _ 0 [] rfl (Own.empty w3) x1 k1 c1 (lebBytes n) rfl (A1.out.below ((Below.refl _ _).alloc (Nat.le_refl _) _)) N1.out (by omega) (by simp) ?_
    intro u1 w4 hu1 hg1
    rw [Nat.zero_add, List.nil_append] at hu1
    have HK1 : Hid (Below w3.heap.size w3 w4) := ((Below.refl _ _).alloc (Nat.le_refl _) _).trans ((Own.empty w3).kept (by simp) hg1)
    have HU1 : Hid (Own w4 w3.heap.size u1 k1 (lebBytes n)) := hu1
    clear hu1 hg1
    refine Hid.out ?_)
  refine unhid ?_
  have HM1 : Hid (Bytes w4 a2 q bs) := HB3.out.below HK1.out
  go_wp2_with (
    at_builtin
    refine wpList_append_bytes rfl _ _ rfl w3.heap.size u1 k1 (lebBytes n) rfl HU1.out a2 q cap2 bs rfl HM1.out HN.out (by omega) HK1.out.size ?_
    intro u2 w5 hu2 hg2
    have HK2 : Hid (Below w3.heap.size w3 w5) := HK1.out.trans (HU1.out.kept HK1.out.size hg2)
    obtain ⟨y1, d1, rfl, hcd1, -, hdm1⟩ := hu2.shape
    have HU2 : Hid (Bytes w5 y1 (k1 + q) ((lebBytes n) ++ bs)) := hu2.bytes (range_append (range_of_mem (lebF_bytes 10 n)) HBR.out)
    clear hu2 hg2
    refine Hid.out ?_)
  refine unhid ?_
  clear HK1 HU1 HM1
  go_wp2_with fail
  refine (Sv.fromLeb_any y1 (k1 + q) d1 (lebBytes n ++ bs) w5 HU2.out).mono ?_
  rw [F1.out]
  rintro e w6 ⟨rfl, hb⟩
  have HK3 : Hid (Below w3.heap.size w3 w6) := HK2.out.trans (hb.mono HK2.out.size)
  have HW6 : Hid (Below w.heap.size w w6) := HW3.out.trans (HK3.out.mono HW3.out.size)
  have C1 : Hid (Bytes w6 x1 k1 (lebBytes n)) := A1.out.below HK3.out
  have C2 : Hid (Bytes w6 x2 k2 (ofsBytes n)) := A2.out.below HK3.out
  have C3 : Hid (Bytes w6 x3 k3 (headBytes kd n)) := A3.out.below HK3.out
  have CM : Hid (Bytes w6 a2 q bs) := HB3.out.below HK3.out
  clear hb HK2 HK3 HU2 A1 A2 A3 HB3 HW3 F1
  have A1 := C1
  have A2 := C2
  have A3 := C3
  have HM := CM
  clear C1 C2 C3 CM
  dsimp only
  go_wp2_with (
    at_builtin
    refine wpList_append_bytes rfl _ _ rfl w6.heap.size _ 0 [] rfl (Own.empty w6) x2 k2 c2 (ofsBytes n) rfl (A2.out.below ((Below.refl _ _).alloc (Nat.le_refl _) _)) N2.out (by omega) (by simp) ?_
    intro u1 w7 hu1 hg1
    rw [Nat.zero_add, List.nil_append] at hu1
    have HK1 : Hid (Below w6.heap.size w6 w7) := ((Below.refl _ _).alloc (Nat.le_refl _) _).trans ((Own.empty w6).kept (by simp) hg1)
    have HU1 : Hid (Own w7 w6.heap.size u1 k2 (ofsBytes n)) := hu1
    clear hu1 hg1
    refine Hid.out ?_)
  refine unhid ?_
  have HM1 : Hid (Bytes w7 a2 q bs) := HM.out.below HK1.out
  go_wp2_with (
    at_builtin
    refine wpList_append_bytes rfl _ _ rfl w6.heap.size u1 k2 (ofsBytes n) rfl HU1.out a2 q cap2 bs rfl HM1.out HN.out (by omega) HK1.out.size ?_
    intro u2 w8 hu2 hg2
    have HK2 : Hid (Below w6.heap.size w6 w8) := HK1.out.trans (HU1.out.kept HK1.out.size hg2)
    obtain ⟨y2, d2, rfl, hcd2, -, hdm2⟩ := hu2.shape
    have HU2 : Hid (Bytes w8 y2 (k2 + q) ((ofsBytes n) ++ bs)) := hu2.bytes (range_append (range_of_mem (ofsBytes_bytes n)) HBR.out)
    clear hu2 hg2
    refine Hid.out ?_)
  refine unhid ?_
  clear HK1 HU1 HM1
  go_wp2_with fail
  refine (fromOfs_any y2 (k2 + q) d2 (ofsBytes n ++ bs) w8 HU2.out).mono ?_
  rw [F2.out]
  rintro e w9 ⟨rfl, hb⟩
  have HK3 : Hid (Below w6.heap.size w6 w9) := HK2.out.trans (hb.mono HK2.out.size)
  have HW9 : Hid (Below w.heap.size w w9) := HW6.out.trans (HK3.out.mono HW6.out.size)
  have C1 : Hid (Bytes w9 x1 k1 (lebBytes n)) := A1.out.below HK3.out
  have C2 : Hid (Bytes w9 x2 k2 (ofsBytes n)) := A2.out.below HK3.out
  have C3 : Hid (Bytes w9 x3 k3 (headBytes kd n)) := A3.out.below HK3.out
  have CM : Hid (Bytes w9 a2 q bs) := HM.out.below HK3.out
  clear hb HK2 HK3 HU2 A1 A2 A3 HM HW6 F2
  have A1 := C1
  have A2 := C2
  have A3 := C3
  have HM := CM
  clear C1 C2 C3 CM
  dsimp only
  go_wp2_with (
    at_builtin
    refine wpList_append_bytes rfl _ _ rfl w9.heap.size _ 0 [] rfl (Own.empty w9) x3 k3 c3 (headBytes kd n) rfl (A3.out.below ((Below.refl _ _).alloc (Nat.le_refl _) _)) N3.out (by omega) (by simp) ?_
    intro u1 w10 hu1 hg1
    rw [Nat.zero_add, List.nil_append] at hu1
    have HK1 : Hid (Below w9.heap.size w9 w10) := ((Below.refl _ _).alloc (Nat.le_refl _) _).trans ((Own.empty w9).kept (by simp) hg1)
    have HU1 : Hid (Own w10 w9.heap.size u1 k3 (headBytes kd n)) := hu1
    clear hu1 hg1
    refine Hid.out ?_)
  refine unhid ?_
  have HM1 : Hid (Bytes w10 a2 q bs) := HM.out.below HK1.out
  go_wp2_with (
    at_builtin
    refine wpList_append_bytes rfl _ _ rfl w9.heap.size u1 k3 (headBytes kd n) rfl HU1.out a2 q cap2 bs rfl HM1.out HN.out (by omega) HK1.out.size ?_
    intro u2 w11 hu2 hg2
    have HK2 : Hid (Below w9.heap.size w9 w11) := HK1.out.trans (HU1.out.kept HK1.out.size hg2)
    obtain ⟨y3, d3, rfl, hcd3, -, hdm3⟩ := hu2.shape
    have HU2 : Hid (Bytes w11 y3 (k3 + q) ((headBytes kd n) ++ bs)) := hu2.bytes (range_append (range_of_mem (headBytes_bytes kd n hkd)) HBR.out)
    clear hu2 hg2
    refine Hid.out ?_)
  refine unhid ?_
  clear HK1 HU1 HM1
  go_wp2_with fail
  refine (fromHead_any y3 (k3 + q) d3 (headBytes kd n ++ bs) w11 HU2.out hcd3 (by omega)).mono ?_
  rw [F3.out]
  rintro e w12 ⟨rfl, hb⟩
  have HK3 : Hid (Below w9.heap.size w9 w12) := HK2.out.trans (hb.mono HK2.out.size)
  have HW12 : Hid (Below w.heap.size w w12) := HW9.out.trans (HK3.out.mono HW9.out.size)
  have C1 : Hid (Bytes w12 x1 k1 (lebBytes n)) := A1.out.below HK3.out
  have C2 : Hid (Bytes w12 x2 k2 (ofsBytes n)) := A2.out.below HK3.out
  have C3 : Hid (Bytes w12 x3 k3 (headBytes kd n)) := A3.out.below HK3.out
  have CM : Hid (Bytes w12 a2 q bs) := HM.out.below HK3.out
  clear hb HK2 HK3 HU2 A1 A2 A3 HM HW9 F3
  have A1 := C1
  have A2 := C2
  have A3 := C3
  have HM := CM
  clear C1 C2 C3 CM
  dsimp only
  obtain ⟨j1, e1⟩ : ∃ j, k1 = j + 1 := ⟨k1 - 1, by omega⟩
  obtain ⟨j2, e2⟩ : ∃ j, k2 = j + 1 := ⟨k2 - 1, by omega⟩
  obtain ⟨j3, e3⟩ : ∃ j, k3 = j + 1 := ⟨k3 - 1, by omega⟩
  have F1 : Hid (lebOf ((lebBytes n).take j1) = (0, 0, 3)) := by
    have := lebOf_cut n hn
    rwa [l1.out, e1, Nat.add_sub_cancel] at this
  have F2 : Hid (ofsOf ((ofsBytes n).take j2) = (0, 0, 3)) := by
    have := ofsOf_cut n hn
    rwa [l2.out, e2, Nat.add_sub_cancel] at this
  have F3 : Hid (headOf ((headBytes kd n).take j3) = (0, 0, 0, 3)) := by
    have := headOf_cut kd n hkd hn
    rwa [l3.out, e3, Nat.add_sub_cancel] at this
  have E1 : Hid (k1 = j1 + 1) := e1
  have E2 : Hid (k2 = j2 + 1) := e2
  have E3 : Hid (k3 = j3 + 1) := e3
  have z1 : ((k1 : Int) == 0) = false := beq_eq_false_iff_ne.2 (by omega)
  have z2 : ((k2 : Int) == 0) = false := beq_eq_false_iff_ne.2 (by omega)
  have z3 : ((k3 : Int) == 0) = false := beq_eq_false_iff_ne.2 (by omega)
  have r1 := pre_rule k1 j1 e1
  have r2 := pre_rule k2 j2 e2
  have r3 := pre_rule k3 j3 e3
  have v1 := wrap_rule j1 (by omega)
  have v2 := wrap_rule j2 (by omega)
  have v3 := wrap_rule j3 (by omega)
  have q1 : j1 ≤ c1 := by omega
  have q2 : j2 ≤ c2 := by omega
  have q3 : j3 ≤ c3 := by omega
  have s1 := fun W => slice_to x1 k1 c1 j1 q1 W
  have s2 := fun W => slice_to x2 k2 c2 j2 q2 W
  have s3 := fun W => slice_to x3 k3 c3 j3 q3 W
  clear e1 e2 e3 p1 p2 p3 HM hmn sl2
  go_wp2_with fail
  refine (known_any w12).mono ?_
  rintro e w13 ⟨rfl, hb⟩
  have G1 : Hid (Bytes w13 x1 j1 ((lebBytes n).take j1)) := cut_bytes (A1.out.below hb) j1 E1.out
  have G2 : Hid (Bytes w13 x2 j2 ((ofsBytes n).take j2)) := cut_bytes (A2.out.below hb) j2 E2.out
  have G3 : Hid (Bytes w13 x3 j3 ((headBytes kd n).take j3)) := cut_bytes (A3.out.below hb) j3 E3.out
  have HW13 : Hid (Below w.heap.size w w13) := HW12.out.trans (hb.mono HW12.out.size)
  clear hb A1 A2 A3 HW12
  go_wp2_with fail
  refine (Sv.fromLeb_any x1 j1 c1 _ w13 G1.out).mono ?_
  rw [F1.out]
  rintro e w14 ⟨rfl, hb⟩
  have H2 : Hid (Bytes w14 x2 j2 ((ofsBytes n).take j2)) := G2.out.below hb
  have H3 : Hid (Bytes w14 x3 j3 ((headBytes kd n).take j3)) := G3.out.below hb
  have HW14 : Hid (Below w.heap.size w w14) := HW13.out.trans (hb.mono HW13.out.size)
  clear hb G1 G2 G3 HW13 F1
  dsimp only
  go_wp2_with fail
  refine (fromOfs_any x2 j2 c2 _ w14 H2.out).mono ?_
  rw [F2.out]
  rintro e w15 ⟨rfl, hb⟩
  have G3 : Hid (Bytes w15 x3 j3 ((headBytes kd n).take j3)) := H3.out.below hb
  have HW15 : Hid (Below w.heap.size w w15) := HW14.out.trans (hb.mono HW14.out.size)
  clear hb H2 H3 HW14 F2
  dsimp only
  go_wp2_with fail
  refine (fromHead_any x3 j3 c3 _ w15 G3.out q3 hc4).mono ?_
  rw [F3.out]
  rintro e w16 ⟨rfl, hb⟩
  have HW16 : Hid (Below w.heap.size w w16) := HW15.out.trans (hb.mono HW15.out.size)
  clear hb G3 HW15 F3
  dsimp only
  go_wp2_with fail
  refine (dec_any n hn w16 (tab_below HT.out HW16.out)).mono ?_
  rintro e w17 ⟨rfl, hb⟩
  rw [itoa_nat]
  have HW17 : Hid (Below w.heap.size w w17) := HW16.out.trans (hb.mono HW16.out.size)
  clear hb HW16
  obtain ⟨S, hS⟩ : ∃ S : ByteArray, S = ⟨(Lib.decDigits n).toArray⟩ := ⟨_, rfl⟩
  rw [← hS]
  have HD : Hid (S.data.toList = Lib.decDigits n) := by show S.data.toList = _; rw [hS]
  have hsz : S.size ≤ 21 := by
    have := dec_len n hn
    rw [hS]; exact this
  clear hS
  go_wp2_with fail
  refine (fromDec_any S (by omega) w17 (tab_below HT.out HW17.out) (errVars_below HV.out HW17.out)).mono ?_
  rw [HD.out, decF_dec n hn]
  rintro e w18 ⟨rfl, hb⟩
  have HW18 : Hid (Below w.heap.size w w18) := HW17.out.trans (hb.mono HW17.out.size)
  clear hb HW17
  dsimp only
  go_wp2_with fail
  refine (numsBe_any n (by omega) 8 8 (by decide) w18).mono ?_
  rintro e w19 ⟨⟨xb, cb, rfl, ho⟩, hb⟩
  have hcb : 8 ≤ cb := by obtain ⟨_, _, e, h, -⟩ := ho.shape; cases e; exact h
  have GB : Hid (Bytes w19 xb 8 (beTo n 8)) := ho.bytes (range_of_mem (beTo_bytes n 8))
  have HW19 : Hid (Below w.heap.size w w19) := HW18.out.trans (hb.mono HW18.out.size)
  clear hb ho HW18
  go_wp2_with fail
  refine (fromBe_any xb cb _ w19 hcb GB.out).mono ?_
  rw [num_beTo, Nat.mod_eq_of_lt (by have : (256 : Nat) ^ 8 = 18446744073709551616 := by decide
                                     omega)]
  rintro e w20 ⟨rfl, rfl⟩
  go_wp2_with fail
  go_ret
  exact ⟨rfl, HW19.out⟩
end Go.Proofs.YtomnogbahjcnnaaDoor
