/- The document's unpacking: a sign by its code. -/
import Derived.Test.YtglgchjkonjpiaaGreatDoorRefA
import Derived.Test.YtglgchjkonjpiaaGreatDoorRefCodes
namespace Go.Proofs.YtglgchjkonjpiaaGreatDoor
open Go.RowKit Plain
set_option linter.unusedVariables false
/-- Does a longer code begin so? -/
def longer (l x : Nat) (c : Nat × Nat) : Bool := decide (l < c.1) && decide (c.2 / 2 ^ (c.1 - l) = x)
def signRGo (N L : Nat) (cs : List (Nat × Nat)) : Nat → Nat → Nat → Nat → Except Nat (Nat × Nat)
  | 0, _, _, _ => .error 9
  | f + 1, l, p, x => match num N L p 1 with
    | .error e => .error e
    | .ok (b, q) => match cs.findIdx? (fun c => c == (l + 1, 2 * x + b)) with
      | some i => .ok (i, q)
      | none => if cs.any (longer (l + 1) (2 * x + b)) then signRGo N L cs f (l + 1) q (2 * x + b) else .error 4
def signR (N L : Nat) (cs : List (Nat × Nat)) (p : Nat) : Except Nat (Nat × Nat) := signRGo N L cs 16 0 p 0
theorem goR_err {N L : Nat} {cs : List (Nat × Nat)} {f l p x e : Nat} (h : num N L p 1 = .error e) : signRGo N L cs (f + 1) l p x = .error e := by rw [signRGo, h]
theorem goR_found {N L : Nat} {cs : List (Nat × Nat)} {f l p x b q i : Nat} (h : num N L p 1 = .ok (b, q)) (hi : i < cs.length) (h1 : cs.getD i (0, 0) = (l + 1, 2 * x + b)) (h2 : ∀ j, j < i → cs.getD j (0, 0) ≠ (l + 1, 2 * x + b)) : signRGo N L cs (f + 1) l p x = .ok (i, q) := by
  have hf : cs.findIdx? (fun c => c == (l + 1, 2 * x + b)) = some i := by
    rw [List.findIdx?_eq_some_iff_getElem]
    refine ⟨hi, ?_, fun j hj => ?_⟩
    · rw [List.getD_eq_getElem?_getD, List.getElem?_eq_getElem hi] at h1
      simpa using h1
    · have := h2 j hj
      rw [List.getD_eq_getElem?_getD, List.getElem?_eq_getElem (by omega)] at this
      simpa using this
  rw [signRGo, h]
  simp only [hf]
theorem goR_none {N L : Nat} {cs : List (Nat × Nat)} {f l p x b q : Nat} (h : num N L p 1 = .ok (b, q)) (h2 : ∀ j, j < cs.length → cs.getD j (0, 0) ≠ (l + 1, 2 * x + b)) : signRGo N L cs (f + 1) l p x = if cs.any (longer (l + 1) (2 * x + b)) then signRGo N L cs f (l + 1) q (2 * x + b) else .error 4 := by
  have hf : cs.findIdx? (fun c => c == (l + 1, 2 * x + b)) = none := by
    rw [List.findIdx?_eq_none_iff]
    intro c hc
    obtain ⟨j, hj, rfl⟩ := List.mem_iff_getElem.1 hc
    have := h2 j hj
    rw [List.getD_eq_getElem?_getD, List.getElem?_eq_getElem hj] at this
    simpa using this
  rw [signRGo, h]
  simp only [hf]
theorem any_snoc (cs : List (Nat × Nat)) (p : Nat × Nat → Bool) (i : Nat) (h : i < cs.length) : (cs.take (i + 1)).any p = ((cs.take i).any p || p (cs.getD i (0, 0))) := by
  rw [List.take_succ_eq_append_getElem h, List.any_append, List.getD_eq_getElem?_getD, List.getElem?_eq_getElem h]
  simp
theorem sx_cut (l d u : Nat) : (Sx (l + d) u).extract 0 l = Sx l (u / 2 ^ d) := by
  unfold Sx
  rw [← txt_take]
  apply ByteArray.ext
  apply Array.toList_inj.1
  simp [strOfNums, List.map_take]
/-- A row of codes. -/
def CodeRow (w : World) (Cb : Nat) (cs : List (Nat × Nat)) : Prop := w.heap[Cb]? = some (.cells (strs cs).toArray 9 (0, 0))
theorem CodeRow.cell {w : World} {Cb : Nat} {cs : List (Nat × Nat)} (h : CodeRow w Cb cs) (i : Nat) (hi : i < cs.length) : w.cell? ⟨Cb, i, none⟩ = some (.string (Sx (cs.getD i (0, 0)).1 (cs.getD i (0, 0)).2)) := by
  refine (cell_row0 w Cb i _ _ _ h).trans ?_
  rw [← strs_get cs i hi]
  simp
theorem CodeRow.turn {w w' : World} {Cb Sb : Nat} {cs : List (Nat × Nat)} {mv mv' : Value} (h : CodeRow w Cb cs) (ht : Turn Sb mv mv' w w') (h1 : Cb ≠ Sb) (h2 : mv.ownBlock ≠ some Cb) : CodeRow w' Cb cs := by
  have hlt : Cb < w.heap.size := (Array.getElem?_eq_some_iff.1 h).1
  exact (ht.block Cb hlt h1 h2).trans h
section
variable {w0 : World} {Sb : Nat} {ba : Option Addr} {bn bc : Nat} {M : Int} {N : Nat} {bs : List Int}
def SignQ (w0 : World) (Sb : Nat) (ba : Option Addr) (bn bc : Nat) (M : Int) (N : Nat) (cs : List (Nat × Nat)) (w : World) (p bad : Nat) (mv : Value) (made : List Int) (e : Ending) (w' : World) : Prop :=
  ∃ (v : Int) (s q b' : Nat), e = .returned (.int .i64 v) ∧ (b' = 0 → v = (s : Int) ∧ s < cs.length) ∧ (b' ≠ 0 → v = -1) ∧ RL w0 Sb ba bn bc M w' q b' mv made ∧ Turn Sb mv mv w w' ∧ Tr bad (signR N (8 * bn) cs p) b' (s, q)
set_option maxRecDepth 100000 in
set_option maxHeartbeats 16000000 in
theorem rsign (HS : SrcW w0 ba bn M N bs) (cs : List (Nat × Nat)) (hcs : ∀ x ∈ cs, x.1 ≤ 15 ∧ x.2 < 2 ^ x.1) (n : Nat) (hn : cs.length = n) (hn3 : n ≤ 1000) (Cb : Nat) (hC : Cb ≠ Sb) (w : World) (p bad : Nat) (mv : Value) (made : List Int) (hCm : mv.ownBlock ≠ some Cb) (HC : CodeRow w Cb cs) (H : RL w0 Sb ba bn bc M w p bad mv made) :
    Calls Tryz.prog 53 #[.pointer (some ⟨Sb, 0, none⟩), .slice (some ⟨Cb, 0, none⟩) n n] w (SignQ w0 Sb ba bn bc M N cs w p bad mv made) := by
  have HSS := Lib.hid HS
  have HCS := Lib.hid hcs
  have HN := Lib.hid hn
  have HCR := Lib.hid HC
  have HRL := Lib.hid H
  have HCm := Lib.hid hCm
  clear HS hcs hn HC H hCm
  go_enter Tryz.func53, Tryz.ntmps53
  go_wp2_with fail
  go_loopw [5, 6, 7] (fun vs _ _ wr => ∃ (l x q : Nat), vs = .string (Sx l x) ∧ x < 2 ^ l ∧ l ≤ 15 ∧ RL w0 Sb ba bn bc M wr q bad mv made ∧ Turn Sb mv mv w wr ∧ CodeRow wr Cb cs ∧ signRGo N (8 * bn) cs (16 - l) l q x = signR N (8 * bn) cs p) (fun vs _ _ _ => match vs with | .string s => 20 - s.size | _ => 0)
  case atStart => exact ⟨0, 0, p, rfl, by simp, by omega, HRL.out, Turn.refl _ _ _, HCR.out, rfl⟩
  case round =>
    obtain ⟨l, x, q, rfl, hx, hl, hrl, htn, hcr, hgo⟩ := hrel
    have HX := Lib.hid hx
    have HR := Lib.hid hrl
    have HT := Lib.hid htn
    have HCC := Lib.hid hcr
    have HGO := Lib.hid hgo
    obtain ⟨f, hf⟩ : ∃ f, 16 - l = f + 1 := ⟨15 - l, by omega⟩
    have HF : Hid (16 - (l + 1) = f) := by show _ = _; omega
    rw [hf] at HGO
    have hsz := sx_size l x
    have hadd0 := sx_zero l x
    have hadd1 := sx_one l x
    obtain ⟨G0, eG0⟩ : ∃ G0, Sx l x = G0 := ⟨_, rfl⟩
    obtain ⟨Ga, eGa⟩ : ∃ Ga, Sx (l + 1) (2 * x) = Ga := ⟨_, rfl⟩
    obtain ⟨Gb, eGb⟩ : ∃ Gb, Sx (l + 1) (2 * x + 1) = Gb := ⟨_, rfl⟩
    have HGa := Lib.hid eGa
    have HGb := Lib.hid eGb
    rw [eG0, eGa] at hadd0
    rw [eG0, eGb] at hadd1
    rw [eG0] at hsz
    rw [eG0]
    clear hx hrl htn hcr hgo hf eG0 eGa eGb HRL HCR
    have hcall := rbit HSS.out wr q bad mv made HR.out
    go_wp2_with fail
    refine hcall.mono ?_
    rintro e w2 ⟨y, q2, b2, rfl, hy, h1, h2, h3⟩
    have HR2 := Lib.hid h1
    have HT2 := Lib.hid (HT.out.trans h2)
    have HTR := Lib.hid h3
    have HCC2 := Lib.hid (HCC.out.turn h2 hC HCm.out)
    obtain ⟨-, -, -, -, c4⟩ := rs_cells h1.1
    clear h1 h2 h3 hcall HR HT HCC
    have hy2 : y < 2 := by simpa using hy
    clear hy
    by_cases hy1 : y = 1
    · subst hy1
      clear hadd0 HGa
      have hx2 : 2 * x + 1 < 2 ^ (l + 1) := by have := HX.out; rw [Nat.pow_succ]; omega
      by_cases hb2 : b2 = 0
      · subst hb2
        obtain ⟨K, hK⟩ : ∃ K, l + 1 = K := ⟨_, rfl⟩
        obtain ⟨X, hX⟩ : ∃ X, 2 * x + 1 = X := ⟨_, rfl⟩
        have HG : Hid (Gb = Sx K X) := by show _ = _; rw [← hK, ← hX]; exact HGb.out.symm
        have HK := Lib.hid hK
        have HXX := Lib.hid hX
        rw [hK, hX] at hx2
        have hgs : Gb.size = K := by rw [HG.out]; exact sx_size _ _
        have HLIVE : Hid (num N (8 * bn) q 1 = .ok (1, q2)) := HTR.out.live.2
        have HBAD : Hid (bad = 0) := HTR.out.live.1
        have HX2 := Lib.hid hx2
        clear hK hX HTR hx2 HGb
        go_wp2_with fail
        go_loopw [6, 7] (fun vb vi wz => ∃ (i : Nat) (sm : Bool), vi = .int .i64 (i : Int) ∧ i ≤ n ∧ vb = .bool sm ∧ sm = (cs.take i).any (longer K X) ∧ (∀ j, j < i → cs.getD j (0, 0) ≠ (K, X)) ∧ wz = w2) (fun _ vi _ => n - (intOf vi).toNat)
        case atStart => exact ⟨0, false, rfl, Nat.zero_le _, rfl, by simp, fun j hj => by omega, rfl⟩
        case round =>
          obtain ⟨i, sm, rfl, hi, rfl, hsm, hno, rfl⟩ := hrel
          have HSM := Lib.hid hsm
          have HNO := Lib.hid hno
          clear hsm hno
          by_cases hlt : i < n
          · have hli : (i : Int) < (n : Int) := by omega
            have c1 := HCC2.out.cell i (by rw [HN.out]; exact hlt)
            have hmem := HCS.out (cs.getD i (0, 0)) (by
              have hic : i < cs.length := by rw [HN.out]; exact hlt
              rw [List.getD_eq_getElem?_getD, List.getElem?_eq_getElem hic]; exact List.getElem_mem hic)
            obtain ⟨m, u, emu⟩ : ∃ m u, cs.getD i (0, 0) = (m, u) := ⟨_, _, rfl⟩
            rw [emu] at c1 hmem
            simp only at c1 hmem
            have HEMU := Lib.hid emu
            have hm15 := hmem.1
            have HU : Hid (u < 2 ^ m) := hmem.2
            clear emu hmem
            by_cases hsame : m = K ∧ u = X
            · obtain ⟨e1, e2⟩ := hsame
              rw [e1, e2, ← HG.out] at c1
              have HRES : Hid (signR N (8 * bn) cs p = .ok (i, q2)) := by
                show _ = _
                rw [← HGO.out]
                exact goR_found HLIVE.out (by rw [HN.out]; exact hlt) (by rw [HEMU.out, e1, e2, HK.out, HXX.out]) (fun j hj => by rw [HK.out, HXX.out]; exact HNO.out j hj)
              clear e1 e2
              go_wp2_with fail
              go_ret
              exact ⟨(i : Int), i, q2, 0, rfl, fun _ => ⟨rfl, by rw [HN.out]; exact hlt⟩, fun h => absurd rfl h, HR2.out, HT2.out, by rw [HRES.out, HBAD.out]; exact Tr.ok _ _⟩
            · have hne : ¬ (Sx m u).toList = Gb.toList := by rw [HG.out]; exact sx_ne HU.out HX2.out hsame
              have hneb : ((Sx m u).toList == Gb.toList) = false := by simpa using hne
              have HNO2 : Hid (∀ j, j < i + 1 → cs.getD j (0, 0) ≠ (K, X)) := fun j hj => by
                by_cases hji : j = i
                · rw [hji, HEMU.out]; intro e; injection e with e1 e2; exact hsame ⟨e1, e2⟩
                · exact HNO.out j (by omega)
              have HANY : Hid ((cs.take (i + 1)).any (longer K X) = (sm || longer K X (m, u))) := by
                show _ = _
                rw [any_snoc cs _ i (by rw [HN.out]; exact hlt), HEMU.out, HSM.out]
              have hms := sx_size m u
              cases hsmv : sm with
              | true =>
                have HA2 : Hid ((cs.take (i + 1)).any (longer K X) = true) := by show _ = _; rw [HANY.out, hsmv]; rfl
                obtain ⟨T, eT⟩ : ∃ T, Sx m u = T := ⟨_, rfl⟩
                rw [eT] at c1 hne hneb hms
                clear eT hsame HANY HSM hsmv
                go_wp2_with fail
                go_roundw
                case rel => exact ⟨i + 1, true, by go_num, by omega, rfl, HA2.out.symm, HNO2.out, trivial⟩
                case measure => simp [intOf]; go_num
              | false =>
                by_cases hmk : K < m
                · have hmki : (K : Int) < (m : Int) := by omega
                  have hcut : (Sx m u).extract 0 K = Sx K (u / 2 ^ (m - K)) := by
                    have := sx_cut K (m - K) u
                    rwa [show K + (m - K) = m by omega] at this
                  have HU2 : Hid (u / 2 ^ (m - K) < 2 ^ K) := by
                    show _ < _
                    rw [Nat.div_lt_iff_lt_mul (Nat.two_pow_pos _), ← Nat.pow_add, show K + (m - K) = m by omega]
                    exact HU.out
                  by_cases hpre : u / 2 ^ (m - K) = X
                  · rw [hpre, ← HG.out] at hcut
                    have HA2 : Hid ((cs.take (i + 1)).any (longer K X) = true) := by show _ = _; rw [HANY.out, hsmv]; simp [longer, hmk, hpre]
                    obtain ⟨T, eT⟩ : ∃ T, Sx m u = T := ⟨_, rfl⟩
                    rw [eT] at c1 hne hneb hms hcut
                    have hmk' : K ≤ m := by omega
                    clear eT hsame HANY HSM hsmv hpre HU2
                    go_wp2_with fail
                    go_roundw
                    case rel => exact ⟨i + 1, true, by go_num, by omega, rfl, HA2.out.symm, HNO2.out, trivial⟩
                    case measure => simp [intOf]; go_num
                  · have hne2 : ¬ (Sx K (u / 2 ^ (m - K))).toList = Gb.toList := by rw [HG.out]; exact sx_ne HU2.out HX2.out (fun h => hpre h.2)
                    have hneb2 : ((Sx K (u / 2 ^ (m - K))).toList == Gb.toList) = false := by simpa using hne2
                    have HA2 : Hid ((cs.take (i + 1)).any (longer K X) = false) := by show _ = _; rw [HANY.out, hsmv]; simp [longer, hpre]
                    obtain ⟨T, eT⟩ : ∃ T, Sx m u = T := ⟨_, rfl⟩
                    obtain ⟨T3, eT3⟩ : ∃ T3, Sx K (u / 2 ^ (m - K)) = T3 := ⟨_, rfl⟩
                    rw [eT, eT3] at hcut
                    rw [eT3] at hne2 hneb2
                    rw [eT] at c1 hne hneb hms
                    have hmk' : K ≤ m := by omega
                    clear eT eT3 hsame HANY HSM hsmv hpre HU2
                    go_wp2_with fail
                    go_roundw
                    case rel => exact ⟨i + 1, false, by go_num, by omega, rfl, HA2.out.symm, HNO2.out, trivial⟩
                    case measure => simp [intOf]; go_num
                · have hmki : ¬ (K : Int) < (m : Int) := by omega
                  have HA2 : Hid ((cs.take (i + 1)).any (longer K X) = false) := by show _ = _; rw [HANY.out, hsmv]; simp [longer, hmk]
                  obtain ⟨T, eT⟩ : ∃ T, Sx m u = T := ⟨_, rfl⟩
                  rw [eT] at c1 hne hneb hms
                  clear eT hsame HANY HSM hsmv
                  go_wp2_with fail
                  go_roundw
                  case rel => exact ⟨i + 1, false, by go_num, by omega, rfl, HA2.out.symm, HNO2.out, trivial⟩
                  case measure => simp [intOf]; go_num
          · have hli : ¬ (i : Int) < (n : Int) := by omega
            have HIN : Hid (i = n) := by show _ = _; omega
            have HSTEP : Hid (signR N (8 * bn) cs p = if sm then signRGo N (8 * bn) cs f K q2 X else .error 4) := by
              show _ = _
              rw [← HGO.out, goR_none HLIVE.out (fun j hj => by rw [HK.out, HXX.out]; exact HNO.out j (by rw [HIN.out, ← HN.out]; exact hj)), HK.out, HXX.out, HSM.out, HIN.out, ← HN.out, List.take_length]
            have HALL : Hid (sm = cs.any (longer K X)) := by show _ = _; rw [HSM.out, HIN.out, ← HN.out, List.take_length]
            cases hsmv : sm with
            | true =>
              have HST2 : Hid (signRGo N (8 * bn) cs f K q2 X = signR N (8 * bn) cs p) := by show _ = _; rw [HSTEP.out, hsmv]; rfl
              have hK15 : K ≤ 15 := by
                have h := HALL.out
                rw [hsmv] at h
                obtain ⟨c, hc, hcl⟩ := List.any_eq_true.1 h.symm
                have := (HCS.out c hc).1
                simp only [longer, Bool.and_eq_true, decide_eq_true_eq] at hcl
                omega
              clear HSM HSTEP HALL hsmv
              go_wp2_with fail
              go_roundw
              case rel => exact ⟨K, X, q2, by rw [HG.out], HX2.out, hK15, by rw [HBAD.out]; exact HR2.out, HT2.out, HCC2.out, by rw [← HST2.out, ← HF.out, HK.out]⟩
              case measure =>
                simp only [hsz, hgs]
                have := HK.out
                omega
            | false =>
              have HST2 : Hid (signR N (8 * bn) cs p = .error 4) := by show _ = _; rw [HSTEP.out, hsmv]; rfl
              clear HSM HSTEP HALL hsmv
              go_wp2_with fail
              refine (rstop _ q2 0 mv made 4 HR2.out).mono ?_
              rw [if_pos rfl]
              rintro e w3 ⟨rfl, h1, h2⟩
              have HR3 := Lib.hid h1
              have HT3 := Lib.hid (HT2.out.trans h2)
              clear h1 h2
              go_wp2_with fail
              go_ret
              exact ⟨-1, 0, q2, 4, rfl, fun h => absurd h (by omega), fun _ => rfl, HR3.out, HT3.out, by rw [HST2.out, HBAD.out]; exact Tr.err 0 4 (by omega) _⟩
      · have hbi : ((b2 : Int) != 0) = true := by simp; omega
        have hbj : ¬ ((b2 : Int) = 0) := by omega
        have HB2 := Lib.hid hb2
        have HRES : Hid (Tr bad (signR N (8 * bn) cs p) b2 ((0 : Nat), q2)) := by
          refine ⟨fun hb => ?_, HTR.out.2⟩
          rcases HTR.out.1 hb with ⟨e1, -⟩ | ⟨e1, e2⟩
          · exact absurd e1 hb2
          · refine .inr ⟨e1, ?_⟩
            rw [← HGO.out]
            exact goR_err e2
        clear hb2
        go_wp2_with fail
        go_ret
        exact ⟨-1, 0, q2, b2, rfl, fun h => absurd h HB2.out, fun _ => rfl, HR2.out, HT2.out, HRES.out⟩
    · obtain rfl : y = 0 := by omega
      clear hadd1 HGb hy1
      have hx2 : 2 * x + 0 < 2 ^ (l + 1) := by have := HX.out; rw [Nat.pow_succ]; omega
      by_cases hb2 : b2 = 0
      · subst hb2
        obtain ⟨K, hK⟩ : ∃ K, l + 1 = K := ⟨_, rfl⟩
        obtain ⟨X, hX⟩ : ∃ X, 2 * x + 0 = X := ⟨_, rfl⟩
        have HG : Hid (Ga = Sx K X) := by show _ = _; rw [← hK, ← hX]; exact HGa.out.symm
        have HK := Lib.hid hK
        have HXX := Lib.hid hX
        rw [hK, hX] at hx2
        have hgs : Ga.size = K := by rw [HG.out]; exact sx_size _ _
        have HLIVE : Hid (num N (8 * bn) q 1 = .ok (0, q2)) := HTR.out.live.2
        have HBAD : Hid (bad = 0) := HTR.out.live.1
        have HX2 := Lib.hid hx2
        clear hK hX HTR hx2 HGa
        go_wp2_with fail
        go_loopw [6, 7] (fun vb vi wz => ∃ (i : Nat) (sm : Bool), vi = .int .i64 (i : Int) ∧ i ≤ n ∧ vb = .bool sm ∧ sm = (cs.take i).any (longer K X) ∧ (∀ j, j < i → cs.getD j (0, 0) ≠ (K, X)) ∧ wz = w2) (fun _ vi _ => n - (intOf vi).toNat)
        case atStart => exact ⟨0, false, rfl, Nat.zero_le _, rfl, by simp, fun j hj => by omega, rfl⟩
        case round =>
          obtain ⟨i, sm, rfl, hi, rfl, hsm, hno, rfl⟩ := hrel
          have HSM := Lib.hid hsm
          have HNO := Lib.hid hno
          clear hsm hno
          by_cases hlt : i < n
          · have hli : (i : Int) < (n : Int) := by omega
            have c1 := HCC2.out.cell i (by rw [HN.out]; exact hlt)
            have hmem := HCS.out (cs.getD i (0, 0)) (by
              have hic : i < cs.length := by rw [HN.out]; exact hlt
              rw [List.getD_eq_getElem?_getD, List.getElem?_eq_getElem hic]; exact List.getElem_mem hic)
            obtain ⟨m, u, emu⟩ : ∃ m u, cs.getD i (0, 0) = (m, u) := ⟨_, _, rfl⟩
            rw [emu] at c1 hmem
            simp only at c1 hmem
            have HEMU := Lib.hid emu
            have hm15 := hmem.1
            have HU : Hid (u < 2 ^ m) := hmem.2
            clear emu hmem
            by_cases hsame : m = K ∧ u = X
            · obtain ⟨e1, e2⟩ := hsame
              rw [e1, e2, ← HG.out] at c1
              have HRES : Hid (signR N (8 * bn) cs p = .ok (i, q2)) := by
                show _ = _
                rw [← HGO.out]
                exact goR_found HLIVE.out (by rw [HN.out]; exact hlt) (by rw [HEMU.out, e1, e2, HK.out, HXX.out]) (fun j hj => by rw [HK.out, HXX.out]; exact HNO.out j hj)
              clear e1 e2
              go_wp2_with fail
              go_ret
              exact ⟨(i : Int), i, q2, 0, rfl, fun _ => ⟨rfl, by rw [HN.out]; exact hlt⟩, fun h => absurd rfl h, HR2.out, HT2.out, by rw [HRES.out, HBAD.out]; exact Tr.ok _ _⟩
            · have hne : ¬ (Sx m u).toList = Ga.toList := by rw [HG.out]; exact sx_ne HU.out HX2.out hsame
              have hneb : ((Sx m u).toList == Ga.toList) = false := by simpa using hne
              have HNO2 : Hid (∀ j, j < i + 1 → cs.getD j (0, 0) ≠ (K, X)) := fun j hj => by
                by_cases hji : j = i
                · rw [hji, HEMU.out]; intro e; injection e with e1 e2; exact hsame ⟨e1, e2⟩
                · exact HNO.out j (by omega)
              have HANY : Hid ((cs.take (i + 1)).any (longer K X) = (sm || longer K X (m, u))) := by
                show _ = _
                rw [any_snoc cs _ i (by rw [HN.out]; exact hlt), HEMU.out, HSM.out]
              have hms := sx_size m u
              cases hsmv : sm with
              | true =>
                have HA2 : Hid ((cs.take (i + 1)).any (longer K X) = true) := by show _ = _; rw [HANY.out, hsmv]; rfl
                obtain ⟨T, eT⟩ : ∃ T, Sx m u = T := ⟨_, rfl⟩
                rw [eT] at c1 hne hneb hms
                clear eT hsame HANY HSM hsmv
                go_wp2_with fail
                go_roundw
                case rel => exact ⟨i + 1, true, by go_num, by omega, rfl, HA2.out.symm, HNO2.out, trivial⟩
                case measure => simp [intOf]; go_num
              | false =>
                by_cases hmk : K < m
                · have hmki : (K : Int) < (m : Int) := by omega
                  have hcut : (Sx m u).extract 0 K = Sx K (u / 2 ^ (m - K)) := by
                    have := sx_cut K (m - K) u
                    rwa [show K + (m - K) = m by omega] at this
                  have HU2 : Hid (u / 2 ^ (m - K) < 2 ^ K) := by
                    show _ < _
                    rw [Nat.div_lt_iff_lt_mul (Nat.two_pow_pos _), ← Nat.pow_add, show K + (m - K) = m by omega]
                    exact HU.out
                  by_cases hpre : u / 2 ^ (m - K) = X
                  · rw [hpre, ← HG.out] at hcut
                    have HA2 : Hid ((cs.take (i + 1)).any (longer K X) = true) := by show _ = _; rw [HANY.out, hsmv]; simp [longer, hmk, hpre]
                    obtain ⟨T, eT⟩ : ∃ T, Sx m u = T := ⟨_, rfl⟩
                    rw [eT] at c1 hne hneb hms hcut
                    have hmk' : K ≤ m := by omega
                    clear eT hsame HANY HSM hsmv hpre HU2
                    go_wp2_with fail
                    go_roundw
                    case rel => exact ⟨i + 1, true, by go_num, by omega, rfl, HA2.out.symm, HNO2.out, trivial⟩
                    case measure => simp [intOf]; go_num
                  · have hne2 : ¬ (Sx K (u / 2 ^ (m - K))).toList = Ga.toList := by rw [HG.out]; exact sx_ne HU2.out HX2.out (fun h => hpre h.2)
                    have hneb2 : ((Sx K (u / 2 ^ (m - K))).toList == Ga.toList) = false := by simpa using hne2
                    have HA2 : Hid ((cs.take (i + 1)).any (longer K X) = false) := by show _ = _; rw [HANY.out, hsmv]; simp [longer, hpre]
                    obtain ⟨T, eT⟩ : ∃ T, Sx m u = T := ⟨_, rfl⟩
                    obtain ⟨T3, eT3⟩ : ∃ T3, Sx K (u / 2 ^ (m - K)) = T3 := ⟨_, rfl⟩
                    rw [eT, eT3] at hcut
                    rw [eT3] at hne2 hneb2
                    rw [eT] at c1 hne hneb hms
                    have hmk' : K ≤ m := by omega
                    clear eT eT3 hsame HANY HSM hsmv hpre HU2
                    go_wp2_with fail
                    go_roundw
                    case rel => exact ⟨i + 1, false, by go_num, by omega, rfl, HA2.out.symm, HNO2.out, trivial⟩
                    case measure => simp [intOf]; go_num
                · have hmki : ¬ (K : Int) < (m : Int) := by omega
                  have HA2 : Hid ((cs.take (i + 1)).any (longer K X) = false) := by show _ = _; rw [HANY.out, hsmv]; simp [longer, hmk]
                  obtain ⟨T, eT⟩ : ∃ T, Sx m u = T := ⟨_, rfl⟩
                  rw [eT] at c1 hne hneb hms
                  clear eT hsame HANY HSM hsmv
                  go_wp2_with fail
                  go_roundw
                  case rel => exact ⟨i + 1, false, by go_num, by omega, rfl, HA2.out.symm, HNO2.out, trivial⟩
                  case measure => simp [intOf]; go_num
          · have hli : ¬ (i : Int) < (n : Int) := by omega
            have HIN : Hid (i = n) := by show _ = _; omega
            have HSTEP : Hid (signR N (8 * bn) cs p = if sm then signRGo N (8 * bn) cs f K q2 X else .error 4) := by
              show _ = _
              rw [← HGO.out, goR_none HLIVE.out (fun j hj => by rw [HK.out, HXX.out]; exact HNO.out j (by rw [HIN.out, ← HN.out]; exact hj)), HK.out, HXX.out, HSM.out, HIN.out, ← HN.out, List.take_length]
            have HALL : Hid (sm = cs.any (longer K X)) := by show _ = _; rw [HSM.out, HIN.out, ← HN.out, List.take_length]
            cases hsmv : sm with
            | true =>
              have HST2 : Hid (signRGo N (8 * bn) cs f K q2 X = signR N (8 * bn) cs p) := by show _ = _; rw [HSTEP.out, hsmv]; rfl
              have hK15 : K ≤ 15 := by
                have h := HALL.out
                rw [hsmv] at h
                obtain ⟨c, hc, hcl⟩ := List.any_eq_true.1 h.symm
                have := (HCS.out c hc).1
                simp only [longer, Bool.and_eq_true, decide_eq_true_eq] at hcl
                omega
              clear HSM HSTEP HALL hsmv
              go_wp2_with fail
              go_roundw
              case rel => exact ⟨K, X, q2, by rw [HG.out], HX2.out, hK15, by rw [HBAD.out]; exact HR2.out, HT2.out, HCC2.out, by rw [← HST2.out, ← HF.out, HK.out]⟩
              case measure =>
                simp only [hsz, hgs]
                have := HK.out
                omega
            | false =>
              have HST2 : Hid (signR N (8 * bn) cs p = .error 4) := by show _ = _; rw [HSTEP.out, hsmv]; rfl
              clear HSM HSTEP HALL hsmv
              go_wp2_with fail
              refine (rstop _ q2 0 mv made 4 HR2.out).mono ?_
              rw [if_pos rfl]
              rintro e w3 ⟨rfl, h1, h2⟩
              have HR3 := Lib.hid h1
              have HT3 := Lib.hid (HT2.out.trans h2)
              clear h1 h2
              go_wp2_with fail
              go_ret
              exact ⟨-1, 0, q2, 4, rfl, fun h => absurd h (by omega), fun _ => rfl, HR3.out, HT3.out, by rw [HST2.out, HBAD.out]; exact Tr.err 0 4 (by omega) _⟩
      · have hbi : ((b2 : Int) != 0) = true := by simp; omega
        have hbj : ¬ ((b2 : Int) = 0) := by omega
        have HB2 := Lib.hid hb2
        have HRES : Hid (Tr bad (signR N (8 * bn) cs p) b2 ((0 : Nat), q2)) := by
          refine ⟨fun hb => ?_, HTR.out.2⟩
          rcases HTR.out.1 hb with ⟨e1, -⟩ | ⟨e1, e2⟩
          · exact absurd e1 hb2
          · refine .inr ⟨e1, ?_⟩
            rw [← HGO.out]
            exact goR_err e2
        clear hb2
        go_wp2_with fail
        go_ret
        exact ⟨-1, 0, q2, b2, rfl, fun h => absurd h HB2.out, fun _ => rfl, HR2.out, HT2.out, HRES.out⟩
end
end Go.Proofs.YtglgchjkonjpiaaGreatDoor
