/- Signs of numbers: the walk. -/
import Derived.Test.YtomnogbahjcnnaaDoorDigits
import Derived.Test.YtomnogbahjcnnaaDoorKnown
import Derived.Lib.ItoaLen
namespace Go.Proofs.YtomnogbahjcnnaaDoor
open Go.RowKit
set_option linter.unusedVariables false
open Plain
theorem and_most (x : Int) : ∃ n : Nat, n ≤ 4611686018427387903 ∧ bits .and .i64 x 4611686018427387903 = (n : Int) := by
  refine ⟨(BitVec.ofInt 64 x).toNat % 2 ^ 62, by omega, ?_⟩
  show IntKind.i64.wrap ((BitVec.ofInt 64 _ &&& BitVec.ofInt 64 _ : BitVec 64).toNat : Int) = _
  rw [BitVec.toNat_and]
  have e2 : (BitVec.ofInt 64 (4611686018427387903 : Int)).toNat = 2 ^ 62 - 1 := by decide
  rw [e2, Nat.and_two_pow_sub_one_eq_mod, IntKind.wrap_i64]
  omega
theorem dec_len (n : Nat) (hn : n ≤ 4611686018427387903) : (Lib.decDigits n).length ≤ 21 := by
  rw [← itoa_nat]
  exact Lib.itoa_length_le n (by omega) (by omega)
theorem first_of (S : ByteArray) (c : UInt8) (r : List UInt8) (h : S.data.toList = c :: r) (h0 : 0 < S.size) : S[0] = c := by
  show S.data[0] = c
  have : S.data.toList[0]? = some c := by rw [h]; rfl
  rw [Array.getElem?_toList] at this
  have h2 : S.data[0]? = some S.data[0] := Array.getElem?_eq_getElem _
  exact Option.some.inj (h2.symm.trans this)
theorem cat_list (c : UInt8) (S : ByteArray) : ((⟨#[c]⟩ : ByteArray) ++ S).data.toList = c :: S.data.toList := by
  simp [ByteArray.data_append]
theorem size_list (S : ByteArray) : S.size = S.data.toList.length := rfl
set_option maxRecDepth 100000 in
set_option maxHeartbeats 4000000 in
theorem signs_any (a0 : Int) (w : World) (htab : Lib.TabIs Tryd.prog w "internal/strconv.uint64pow10" .u64 Lib.pow10Tab) (hv : ErrVars w) :
    Calls Tryd.prog 7 #[.int .i64 a0] w fun e w' => e = .returned (.bool true) ∧ Below w.heap.size w w' := by
  have HT : Hid (Lib.TabIs Tryd.prog w "internal/strconv.uint64pow10" .u64 Lib.pow10Tab) := htab
  have HV : Hid (ErrVars w) := hv
  clear htab hv
  obtain ⟨n, hn, hand⟩ := and_most a0
  go_enter Tryd.func7, Tryd.ntmps7
  go_wp2_with fail
  refine (dec_any n hn w HT.out).mono ?_
  rintro e w1 ⟨rfl, hb1⟩
  rw [itoa_nat]
  have HW1 : Hid (Below w.heap.size w w1) := hb1
  clear hb1
  obtain ⟨S, hS⟩ : ∃ S : ByteArray, S = ⟨(Lib.decDigits n).toArray⟩ := ⟨_, rfl⟩
  rw [← hS]
  have HS : Hid (S = ⟨(Lib.decDigits n).toArray⟩) := hS
  have HD : Hid (S.data.toList = Lib.decDigits n) := by show S.data.toList = _; rw [hS]
  have hsz : S.size ≤ 21 := by
    have := dec_len n hn
    rw [hS]; exact this
  have hsz1 : ¬ 9223372036854775807 < 1 + S.size := by omega
  clear hS
  go_wp2_with fail
  obtain ⟨M, hM⟩ : ∃ M : ByteArray, M = (⟨#[45]⟩ : ByteArray) ++ S := ⟨_, rfl⟩
  have HM : Hid (M = (⟨#[45]⟩ : ByteArray) ++ S) := hM
  rw [← hM]
  clear hM
  refine (fromDec_any M ?_ w1 (tab_below HT.out HW1.out) (errVars_below HV.out HW1.out)).mono ?_
  · rw [size_list, HM.out, cat_list, List.length_cons, ← size_list]; omega
  rw [show decF M.data.toList = (0, 4) by rw [HM.out, cat_list]; exact decF_minus _]
  rintro e w2 ⟨rfl, hb2⟩
  have HW2 : Hid (Below w.heap.size w w2) := HW1.out.trans (hb2.mono HW1.out.size)
  clear hb2
  go_wp2_with fail
  obtain ⟨Z, hZ⟩ : ∃ Z : ByteArray, Z = (⟨#[48]⟩ : ByteArray) ++ S := ⟨_, rfl⟩
  have HZ : Hid (Z = (⟨#[48]⟩ : ByteArray) ++ S) := hZ
  rw [← hZ]
  clear hZ
  refine (fromDec_any Z ?_ w2 (tab_below HT.out HW2.out) (errVars_below HV.out HW2.out)).mono ?_
  · rw [size_list, HZ.out, cat_list, List.length_cons, ← size_list]; omega
  rw [show decF Z.data.toList = (0, 4) by rw [HZ.out, cat_list]; exact decF_zero _ (by rw [HD.out]; exact dec_ne_nil n)]
  rintro e w3 ⟨rfl, hb3⟩
  have HW3 : Hid (Below w.heap.size w w3) := HW2.out.trans (hb3.mono HW2.out.size)
  clear hb3
  go_wp2_with fail
  refine (known_any w3).mono ?_
  rintro e w4 ⟨rfl, hb4⟩
  have HW4 : Hid (Below w.heap.size w w4) := HW3.out.trans (hb4.mono HW3.out.size)
  clear hb4
  have hs0 : 0 < S.size := by
    rw [size_list, HD.out]
    exact List.length_pos_iff.2 (dec_ne_nil n)
  by_cases h0 : n = 0
  · subst h0
    have hd : S.data.toList = [48] := by rw [HD.out, Lib.decDigits, dif_pos (by omega)]; rfl
    have hf : S[0] = 48 := first_of S 48 [] hd hs0
    clear hd
    go_wp2_with fail
    go_ret
    exact ⟨rfl, HW4.out⟩
  · have h1 : 0 < n := by omega
    have h2 : ¬ (n : Int) = 0 := by omega
    obtain ⟨c, r, hc, hc48⟩ := dec_head n n (Nat.le_refl _) h0
    have hf : S[0] = c := first_of S c r (HD.out.trans hc) hs0
    have hc1 : ¬ c.toNat = 48 := hc48
    have hc2 : ¬ (c.toNat : Int) = 48 := by omega
    clear hc hc48
    go_wp2_with fail
    refine (dec_neg n hn h1 w4 (tab_below HT.out HW4.out)).mono ?_
    rintro e w5 ⟨rfl, hb5⟩
    rw [show (⟨(45 :: Lib.decDigits n).toArray⟩ : ByteArray) = (⟨#[45]⟩ : ByteArray) ++ S from toList_inj0 _ _ (by rw [cat_list, HD.out])]
    have HW5 : Hid (Below w.heap.size w w5) := HW4.out.trans (hb5.mono HW4.out.size)
    clear hb5
    go_wp2_with fail
    go_ret
    exact ⟨rfl, HW5.out⟩
end Go.Proofs.YtomnogbahjcnnaaDoor
