/- TreeParses: the walk. -/
import Derived.Test.YtnbkjdakofeeaaaDoorTrRefParse
namespace Go.Proofs.YtnbkjdakofeeaaaDoor
open Go.RowKit Plain
set_option linter.unusedVariables false
set_option linter.unusedSimpArgs false
def resT (r : Option (List TE)) : List TE := r.getD []
def errT (r : Option (List TE)) : Int := if r.isSome then 0 else 4
theorem TrParse.shape {base : Nat} {e : Ending} {w' : World} {r : Option (List TE)} (h : TrParse base e w' r) : ∃ a c, e = .returned (.tuple #[.slice a (resT r).length c, .int .i64 (errT r)]) ∧ EsAt w' a (resT r) := by
  cases r with
  | none => exact ⟨none, 0, h, EsAt.nil _⟩
  | some xs =>
    obtain ⟨a, c, h1, h2⟩ := h
    exact ⟨a, c, h1, h2.fs.1⟩
theorem RfTree.shape {base : Nat} {e : Ending} {w' : World} {r : Option (List TE)} (h : RfTree base e w' r) : ∃ a c, e = .returned (.tuple #[.slice a (resT r).length c, .int .i64 (errT r)]) ∧ EsAt w' a (resT r) := by
  cases r with
  | none => exact ⟨none, 0, h, EsAt.nil _⟩
  | some xs =>
    obtain ⟨a, c, h1, h2⟩ := h
    exact ⟨a, c, h1, h2.fs.1⟩
theorem resT_len (L : List UInt8) : 22 * (resT (readT L)).length ≤ L.length := by
  cases h : readT L with
  | none => exact Nat.zero_le _
  | some xs => exact (tread_text h).2.2.2.1
set_option maxRecDepth 100000 in
set_option maxHeartbeats 16000000 in
theorem lawtparses_any (a1 : Option Addr) (len cap : Nat) (T : List Int) (w : World) (hE : Env w) (R0 : RowB w a1 (min len 4000) cap T) (hlc : len ≤ cap) :
    Calls Tryd.prog 3 #[.slice a1 len cap] w fun e w' => e = .returned (.bool true) ∧ Below w.heap.size w w' := by
  have hmin : min (len : Int) 4000 = ((min len 4000 : Nat) : Int) := by omega
  obtain ⟨m, hm⟩ : ∃ m, min len 4000 = m := ⟨_, rfl⟩
  rw [hm] at hmin R0
  have HM4 : Hid (m ≤ 4000) := by show _ ≤ _; omega
  have hsl := fun W => slice_to a1 len cap m (by omega) W
  obtain ⟨L, hL⟩ : ∃ l, (strOfNums T).data.toList = l := ⟨_, rfl⟩
  have hTL : numsOf (txt L) = T := by rw [← hL, txt_of]; exact nums_str T (fun x hx => by have := R0.mem x hx; omega)
  have HTR : Hid (∀ W, Below w.heap.size w W → (convert 22 9 (.slice a1 m cap)).run Tryd.prog W = .ok (.string (txt L)) W) := fun W hW => by
    rw [← hL, txt_of]; exact text_run W a1 m cap T (R0.bytes.below hW)
  rw [← hTL] at R0
  have HR := Lib.hid R0
  have HLM := Lib.hid (row_len R0)
  clear R0 hm hlc hL hTL
  have HE := Lib.hid hE
  clear hE
  have hcv := HTR.out w (Below.refl _ _)
  go_enter Tryd.func3, Tryd.ntmps3
  go_wp2_with fail
  clear hcv
  refine (tparse_any a1 m cap L w HR.out (by have := HM4.out; omega) HE.out).mono ?_
  rintro e v1 ⟨hpo, hb⟩
  have HV1 := Lib.hid hb
  obtain ⟨la, lc, rfl, hat⟩ := hpo.shape
  have HA1 := Lib.hid hat
  have HNN := Lib.hid (resT_len L)
  clear hpo hb hat
  have HRP := Lib.hid (refparse_any a1 m cap L v1 (HR.out.below HV1.out) (by have := HM4.out; omega))
  obtain ⟨xs, hxs⟩ : ∃ x, resT (readT L) = x := ⟨_, rfl⟩
  obtain ⟨ev, hev⟩ : ∃ x, errT (readT L) = x := ⟨_, rfl⟩
  have HXS := Lib.hid hxs
  have HEV := Lib.hid hev
  rw [hxs] at HA1 HNN ⊢
  rw [hev]
  obtain ⟨n, hn⟩ : ∃ n, xs.length = n := ⟨_, rfl⟩
  have HN := Lib.hid hn
  rw [hn] at HNN ⊢
  have HNB : Hid (n ≤ 100000) := by show _ ≤ _; have h1 := HNN.out; rw [HLM.out] at h1; have h2 := HM4.out; omega
  clear hxs hev hn
  go_wp2_with fail
  refine HRP.out.mono ?_
  rintro e v2 ⟨hpo, hb⟩
  have HV2 := Lib.hid (HV1.out.trans (hb.mono HV1.out.size))
  have HA2 := Lib.hid (HA1.out.below hb)
  obtain ⟨ra, rc, rfl, hat⟩ := hpo.shape
  rw [HXS.out] at hat ⊢
  rw [HEV.out, HN.out]
  have HR2 := Lib.hid hat
  clear hpo hb hat HRP
  go_wp2_with fail
  refine (known_any v2 (HE.out.below HV2.out)).mono ?_
  rintro e v3 ⟨rfl, hb⟩
  have HV3 := Lib.hid (HV2.out.trans (hb.mono HV2.out.size))
  have HA3 := Lib.hid (HA2.out.below hb)
  have HR3 := Lib.hid (HR2.out.below hb)
  clear hb
  go_wp2_with fail
  refine (tas_n n xs HN.out (by have := HNB.out; omega) la lc v3 HA3.out).mono ?_
  rintro e v4 ⟨⟨u, rfl, ho⟩, hb⟩
  have HV4 := Lib.hid (HV3.out.trans (hb.mono HV3.out.size))
  have HR4 := Lib.hid (HR3.out.below hb)
  obtain ⟨ua, uc, rfl, hat, -, -⟩ := ho.at
  have HU4 := Lib.hid hat
  rw [HN.out]
  clear hat ho hb
  go_wp2_with fail
  refine (tsame_n n xs HN.out (by have := HNB.out; omega) ua ra uc rc v4 HU4.out HR4.out).mono ?_
  rintro e v5 ⟨rfl, hb⟩
  have HV5 := Lib.hid (HV4.out.trans (hb.mono HV4.out.size))
  have hcv := HTR.out v5 HV5.out
  clear hb
  go_wp2_with (first
    | refine wpList_eql (by rfl) .eql 9 _ _ _ rfl (.string (txt L)) (.string (txt L)) rfl rfl (.bool true) (guard_eq _ _ _ _) (fun W => eq_self (txt L) W) ?_)
  go_ret
  exact ⟨rfl, HV5.out⟩
end Go.Proofs.YtnbkjdakofeeaaaDoor
