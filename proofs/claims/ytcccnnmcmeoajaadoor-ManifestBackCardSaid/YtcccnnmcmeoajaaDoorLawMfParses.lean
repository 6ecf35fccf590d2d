/- ManifestParses: the walk. -/
import Derived.Test.YtcccnnmcmeoajaaDoorSub
import Derived.Test.YtcccnnmcmeoajaaDoorLawMfPrints
namespace Go.Proofs.YtcccnnmcmeoajaaDoor
open Go.RowKit Plain
set_option linter.unusedVariables false
set_option linter.unusedSimpArgs false
set_option maxRecDepth 100000 in
set_option maxHeartbeats 32000000 in
theorem lawmfparses_any (a : Option Addr) (len cap : Nat) (Z : List Int) (w : World) (hE : Env w) (R0 : Bytes w a len Z) (hlc : len ≤ cap) :
    Calls Tryd.prog 4 #[.slice a len cap] w fun e w' => e = .returned (.bool true) ∧ Below w.heap.size w w' := by
  have hmin : min (len : Int) 3000 = ((min len 3000 : Nat) : Int) := by omega
  have R1 := R0.first (min len 3000)
  rw [show min len (min len 3000) = min len 3000 by omega] at R1
  obtain ⟨m, hm⟩ : ∃ m, min len 3000 = m := ⟨_, rfl⟩
  rw [hm] at hmin R1
  have HM3 : Hid (m ≤ 3000) := by show _ ≤ _; omega
  have hsl := fun W => slice_to a len cap m (by omega) W
  generalize Z.take m = T at *
  have HR := Lib.hid R1
  obtain ⟨LT, hLT⟩ : ∃ l, (strOfNums T).data.toList = l := ⟨_, rfl⟩
  have HLT := Lib.hid hLT
  have HLL : Hid (LT.length ≤ 3000) := by
    show _ ≤ _
    rw [← hLT, strOfNums_data, List.length_map, R1.1]
    exact HM3.out
  have HTR : Hid (∀ W, Below w.heap.size w W → (convert 26 9 (.slice a m cap)).run Tryd.prog W = .ok (.string (txt LT)) W) := fun W hW => by
    rw [← hLT, txt_of]; exact text_run W a m cap T (HR.out.below hW)
  clear R0 R1 hm hlc hLT
  have HE := Lib.hid hE
  clear hE
  have htx := HTR.out w (Below.refl _ _)
  go_enter Tryd.func4, Tryd.ntmps4
  go_wp2_with fail
  clear htx hmin hsl
  refine (mfparse_any a m cap T w HR.out HE.out (by have := HM3.out; omega)).mono ?_
  rintro e w1 ⟨hpo, hb⟩
  rw [HLT.out] at hpo
  have HW1 := Lib.hid hb
  clear hb
  have HRF := Lib.hid (rfparse_any LT w1 (by have := HLL.out; omega))
  cases hq : readL LT with
  | none =>
    rw [hq] at hpo HRF
    obtain rfl : e = _ := hpo
    clear hq
    go_wp2_with fail
    refine HRF.out.mono ?_
    rintro e w2 ⟨hro, hb⟩
    obtain rfl : e = _ := hro
    have HW2 := Lib.hid (HW1.out.trans (hb.mono HW1.out.size))
    clear hb HRF
    go_wp2_with fail
    refine (known_any w2 (HE.out.below HW2.out)).mono ?_
    rintro e y1 ⟨rfl, hb⟩
    have HY1 := Lib.hid (HW2.out.trans (hb.mono HW2.out.size))
    have HK1 := Lib.hid hb
    clear hb
    go_wp2_with fail
    refine (as_n 0 [] rfl (by omega) none 0 y1 (FsAt.nil _)).mono ?_
    rintro e y2 ⟨⟨v, rfl, ho⟩, hb⟩
    have HY2 := Lib.hid (HY1.out.trans (hb.mono HY1.out.size))
    have HK2 := Lib.hid (HK1.out.trans (hb.mono HK1.out.size))
    obtain ⟨a3, c3, rfl, hat, -, -⟩ := ho.at
    have HAT := Lib.hid hat
    clear hb ho hat
    (try rw [show ([] : List MF).length = 0 from rfl])
    go_wp2_with fail
    refine (same_n 0 [] rfl (by omega) a3 none c3 0 y2 HAT.out (FsAt.nil _)).mono ?_
    rintro e y3 ⟨rfl, hb⟩
    have HY3 := Lib.hid (HY2.out.trans (hb.mono HY2.out.size))
    have htx := HTR.out y3 HY3.out
    clear hb
    go_wp2_with (first
      | refine wpList_eql (by rfl) .eql 9 _ _ _ rfl (.string (txt LT)) (.string (txt LT)) rfl rfl (.bool true) (guard_eq _ _ _ _) (eq_self (txt LT)) ?_)
    go_ret
    exact ⟨rfl, HY3.out⟩
  | some qs =>
    rw [hq] at hpo HRF
    obtain ⟨la, lc, rfl, hol⟩ := hpo
    have hla := hol.fs.1
    have HLA := Lib.hid hla
    obtain ⟨qn, hqn⟩ : ∃ n, qs.length = n := ⟨_, rfl⟩
    have HQN := Lib.hid hqn
    have HQB : Hid (qn ≤ 1000000) := by
      show _ ≤ _
      have h1 := (read_text hq).2.2.2
      have h2 := HLL.out
      omega
    rw [hqn]
    clear hq hol hla hqn
    go_wp2_with fail
    refine HRF.out.mono ?_
    rintro e w2 ⟨hro, hb⟩
    obtain ⟨ra, rc, rfl, hor⟩ := hro
    have hra := hor.fs.1
    have HRA := Lib.hid hra
    have HW2 := Lib.hid (HW1.out.trans (hb.mono HW1.out.size))
    have HL2 := Lib.hid (HLA.out.below hb)
    rw [HQN.out]
    clear hb hor hra HRF HLA
    go_wp2_with fail
    refine (known_any w2 (HE.out.below HW2.out)).mono ?_
    rintro e y1 ⟨rfl, hb⟩
    have HY1 := Lib.hid (HW2.out.trans (hb.mono HW2.out.size))
    have HK1 := Lib.hid hb
    clear hb
    go_wp2_with fail
    refine (as_n qn qs HQN.out HQB.out la lc y1 (HL2.out.below HK1.out)).mono ?_
    rintro e y2 ⟨⟨v, rfl, ho⟩, hb⟩
    have HY2 := Lib.hid (HY1.out.trans (hb.mono HY1.out.size))
    have HK2 := Lib.hid (HK1.out.trans (hb.mono HK1.out.size))
    obtain ⟨a3, c3, rfl, hat, -, -⟩ := ho.at
    have HAT := Lib.hid hat
    clear hb ho hat
    rw [HQN.out]
    go_wp2_with fail
    refine (same_n qn qs HQN.out HQB.out a3 ra c3 rc y2 HAT.out (HRA.out.below HK2.out)).mono ?_
    rintro e y3 ⟨rfl, hb⟩
    have HY3 := Lib.hid (HY2.out.trans (hb.mono HY2.out.size))
    have htx := HTR.out y3 HY3.out
    clear hb
    go_wp2_with (first
      | refine wpList_eql (by rfl) .eql 9 _ _ _ rfl (.string (txt LT)) (.string (txt LT)) rfl rfl (.bool true) (guard_eq _ _ _ _) (eq_self (txt LT)) ?_)
    go_ret
    exact ⟨rfl, HY3.out⟩
end Go.Proofs.YtcccnnmcmeoajaaDoor
