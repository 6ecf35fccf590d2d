/- The document's unpacking: the signs of a block. -/
import Derived.Test.YtglgchjkonjpiaaGreatDoorRefSign
import Derived.Test.YtglgchjkonjpiaaGreatDoorRefB
import Derived.Test.YtglgchjkonjpiaaGreatDoorInfB
import Derived.Test.YtglgchjkonjpiaaGreatDoorBase
import Derived.Deep.CutRange
namespace Go.Proofs.YtglgchjkonjpiaaGreatDoor
open Go.RowKit Plain
set_option linter.unusedVariables false
theorem adv_signRGo (N L : Nat) (cs : List (Nat × Nat)) : ∀ (f l p x s q : Nat), signRGo N L cs f l p x = .ok (s, q) → p < q ∧ q ≤ L
  | 0, l, p, x, s, q, h => by simp [signRGo] at h
  | f + 1, l, p, x, s, q, h => by
    rw [signRGo] at h
    cases hn : num N L p 1 with
    | error e => rw [hn] at h; cases h
    | ok v =>
      obtain ⟨b, r⟩ := v
      have h2 := num_ok hn
      rw [hn] at h
      simp only [] at h
      split at h
      · injection h with h; injection h with _ h; omega
      · split at h
        · have := adv_signRGo N L cs f _ _ _ s q h; omega
        · cases h
theorem adv_signR (N L : Nat) (cs : List (Nat × Nat)) : Adv L (signR N L cs) := fun p s q h => adv_signRGo N L cs _ _ _ _ s q h
def farR (N L : Nat) (fs : List (Nat × Nat)) (sm : Bool) : Nat → Except Nat (Nat × Nat) := if sm then signR N L fs else fun _ => .error 4
theorem adv_farR (N L : Nat) (fs : List (Nat × Nat)) (sm : Bool) : Adv L (farR N L fs sm) := by
  cases sm
  · intro p s q h; cases h
  · exact adv_signR N L fs
/-! ### One sign, in steps that may end -/
section
variable {N L most : Nat} {nx fr : Nat → Except Nat (Nat × Nat)} {go : Nat → List Int → Except Nat (Nat × List Int)} {q : Nat} {m : List Int}
def rest4 (most : Nat) (go : Nat → List Int → Except Nat (Nat × List Int)) (m : List Int) (len : Nat) (x : Nat × Nat) : Except Nat (Nat × List Int) := bindE (againN most m len x.1) fun m' => go x.2 m'
def rest3 (N L most : Nat) (go : Nat → List Int → Except Nat (Nat × List Int)) (m : List Int) (len : Nat) (x : Nat × Nat) : Except Nat (Nat × List Int) := bindE (distN N L x.2 x.1) (rest4 most go m len)
def rest2 (N L most : Nat) (fr : Nat → Except Nat (Nat × Nat)) (go : Nat → List Int → Except Nat (Nat × List Int)) (m : List Int) (x : Nat × Nat) : Except Nat (Nat × List Int) := bindE (fr x.2) (rest3 N L most go m x.1)
def rest1 (N L most : Nat) (fr : Nat → Except Nat (Nat × Nat)) (go : Nat → List Int → Except Nat (Nat × List Int)) (m : List Int) (x : Nat × Nat) : Except Nat (Nat × List Int) :=
  if x.1 < 256 then bindE (giveN most m (x.1 : Int)) fun m' => go x.2 m'
  else if x.1 = 256 then .ok (x.2, m)
  else if 286 ≤ x.1 then .error 4
  else bindE (lengthN N L x.2 x.1) (rest2 N L most fr go m)
theorem step_bind : contN go (stepN N L most nx fr q m) = bindE (nx q) (rest1 N L most fr go m) := by
  unfold stepN bindE
  cases nx q with
  | error e => rfl
  | ok v =>
    obtain ⟨s, r⟩ := v
    simp only [rest1]
    by_cases h1 : s < 256
    · rw [if_pos h1, if_pos h1]
      unfold bindE
      cases giveN most m (s : Int) <;> rfl
    · rw [if_neg h1, if_neg h1]
      by_cases h2 : s = 256
      · rw [if_pos h2, if_pos h2]; rfl
      · rw [if_neg h2, if_neg h2]
        by_cases h3 : 286 ≤ s
        · rw [if_pos h3, if_pos h3]; rfl
        · rw [if_neg h3, if_neg h3]
          unfold bindE rest2
          cases lengthN N L r s with
          | error e => rfl
          | ok v =>
            obtain ⟨len, r3⟩ := v
            simp only []
            unfold bindE rest3
            cases fr r3 with
            | error e => rfl
            | ok v =>
              obtain ⟨t, u⟩ := v
              simp only []
              unfold bindE rest4
              cases distN N L u t with
              | error e => rfl
              | ok v =>
                obtain ⟨d, z⟩ := v
                simp only []
                unfold bindE
                cases againN most m len d <;> rfl
end
theorem Tr.other {α β : Type} {b b' : Nat} {r : Except Nat α} {r' : Except Nat β} {x : α} {y : β} (h0 : b ≠ 0) (h : Tr b r b' x) : Tr b r' b' y := by
  rw [h.2 h0]; exact Tr.dead h0 _ _
theorem NumsAt_lit (w : World) (ls : List Nat) (n : Nat) (t : TypeId) (hn : ls.length = n) : NumsAt (w.alloc (.cells (I64s ls).toArray t)) (some ⟨w.heap.size, 0, none⟩) n ls := by
  refine ⟨hn, fun j hj => ⟨_, _, rfl, ?_⟩⟩
  rw [cell_row0 _ _ _ _ _ _ (heap_alloc_new w _)]
  unfold I64s
  have hjl : j < ls.length := by omega
  rw [Nat.zero_add, List.getElem?_toArray, List.getElem?_map, List.getElem?_eq_getElem hjl, List.getD_eq_getElem?_getD, List.getElem?_eq_getElem hjl]
  rfl
theorem NumsAt.turn {w w' : World} {Sb : Nat} {mv mv' : Value} {a : Option Addr} {n : Nat} {ls : List Nat} (h : NumsAt w a n ls) (ht : Turn Sb mv mv' w w') (h1 : ∀ g o, a = some ⟨g, o, none⟩ → g ≠ Sb ∧ mv.ownBlock ≠ some g) : NumsAt w' a n ls :=
  ⟨h.1, fun j hj => by
    obtain ⟨g, o, e, hc⟩ := h.2 j hj
    refine ⟨g, o, e, ?_⟩
    rw [← hc]
    exact World.cell?_of_block (w := w) (w' := w') (a := ⟨g, o + j, none⟩) (ht.block g (World.block_lt_of_cell? w _ hc) (h1 g o e).1 (h1 g o e).2)⟩
/-- How many bits are left, where nothing is wrong. -/
def leftR (Sb bn : Nat) (w : World) : Nat := match w.cell? ⟨Sb, 4, none⟩, w.cell? ⟨Sb, 1, none⟩ with
  | some (.int _ b), some (.int _ a) => if b = 0 then 8 * bn + 1 - a.toNat else 0
  | _, _ => 0
theorem leftR_of {w : World} {Sb : Nat} {ba : Option Addr} {bn bc p : Nat} {ov : Value} {M : Int} {bad : Nat} (h : RS w Sb ba bn bc p ov M bad) : leftR Sb bn w = if bad = 0 then 8 * bn + 1 - p else 0 := by
  unfold leftR
  rw [(rs_cells h).2.2.2.2, (rs_cells h).2.1]
  by_cases hb : bad = 0
  · rw [if_pos hb, hb]; simp
  · rw [if_neg hb]
    show (if (bad : Int) = 0 then _ else _) = _
    rw [if_neg (by omega)]
theorem RL.own {w0 w : World} {Sb : Nat} {ba : Option Addr} {bn bc : Nat} {M : Int} {p bad : Nat} {mv : Value} {made : List Int} (h : RL w0 Sb ba bn bc M w p bad mv made) : ∀ k, mv.ownBlock = some k → k < w.heap.size := fun k hk => (h.2.2.1.block_ge k hk).2
theorem Turn.not {Sb : Nat} {mv mv' : Value} {w w' : World} (h : Turn Sb mv mv' w w') {k : Nat} (hk : k < w.heap.size) (hm : mv.ownBlock ≠ some k) : mv'.ownBlock ≠ some k := fun e => by
  rcases h.row k e with h1 | h1
  · exact hm h1
  · omega
def Zb (b B D n : Nat) : Prop := b = 0 → B = 0 ∧ D ≤ n
def Adw (b q r L : Nat) : Prop := b = 0 → q < r ∧ r ≤ L
def orFour (b : Nat) : Nat := if b = 0 then 4 else b
theorem orFour_ne (b : Nat) : orFour b ≠ 0 := by unfold orFour; split <;> omega
def lenT : List Nat := tableT 3 4 [0, 0, 1, 2, 3, 4, 5]
def distT : List Nat := tableT 1 2 [0, 0, 1, 2, 3, 4, 5, 6, 7, 8, 9, 10, 11, 12, 13]
theorem lenT_len : lenT.length = 28 := by decide +kernel
theorem distT_len : distT.length = 30 := by decide +kernel
theorem lenT_le : ∀ i, i < 28 → lenT.getD i 0 ≤ 300 := by decide +kernel
theorem distT_le : ∀ i, i < 30 → distT.getD i 0 ≤ 30000 ∧ 1 ≤ distT.getD i 0 := by decide +kernel
section
variable {w0 : World} {Sb : Nat} {ba : Option Addr} {bn bc : Nat} {M : Int} {N : Nat} {bs : List Int}
def SignsQ (w0 : World) (Sb : Nat) (ba : Option Addr) (bn bc : Nat) (M : Int) (w : World) (bad : Nat) (mv : Value) (R : Except Nat (Nat × List Int)) (e : Ending) (w' : World) : Prop :=
  e = .returned (.tuple #[]) ∧ ∃ (q b : Nat) (mv' : Value) (m : List Int), RL w0 Sb ba bn bc M w' q b mv' m ∧ Turn Sb mv mv' w w' ∧ Tr bad R b (q, m)
set_option maxRecDepth 100000 in
set_option maxHeartbeats 64000000 in
theorem rsigns (HS : SrcW w0 ba bn M N bs) (cs fs : List (Nat × Nat)) (hcs : ∀ x ∈ cs, x.1 ≤ 15 ∧ x.2 < 2 ^ x.1) (hfs : ∀ x ∈ fs, x.1 ≤ 15 ∧ x.2 < 2 ^ x.1) (n1 n2 : Nat) (hn1 : cs.length = n1) (hn2 : fs.length = n2) (h13 : n1 ≤ 1000) (h23 : n2 ≤ 1000) (sm : Bool)
    (Cb Fb : Nat) (hC : Cb ≠ Sb) (hF : Fb ≠ Sb) (w : World) (p bad : Nat) (mv : Value) (made : List Int) (hCm : mv.ownBlock ≠ some Cb) (hFm : mv.ownBlock ≠ some Fb) (HC : CodeRow w Cb cs) (HF : CodeRow w Fb fs) (H : RL w0 Sb ba bn bc M w p bad mv made) :
    Calls Tryz.prog 32 #[.pointer (some ⟨Sb, 0, none⟩), .slice (some ⟨Cb, 0, none⟩) n1 n1, .slice (some ⟨Fb, 0, none⟩) n2 n2, .bool sm] w (SignsQ w0 Sb ba bn bc M w bad mv (signsN N (8 * bn) M.toNat (signR N (8 * bn) cs) (farR N (8 * bn) fs sm) p made)) := by
  obtain ⟨go, hgo⟩ : ∃ go, signsN N (8 * bn) M.toNat (signR N (8 * bn) cs) (farR N (8 * bn) fs sm) = go := ⟨_, rfl⟩
  have HSTEP : Hid (∀ q m, q ≤ 8 * bn → go q m = bindE (signR N (8 * bn) cs q) (rest1 N (8 * bn) M.toNat (farR N (8 * bn) fs sm) go m)) := fun q m hq => by
    rw [← hgo, signsN_step (adv_signR N _ cs) (adv_farR N _ fs sm) q m hq, hgo]
    exact step_bind
  have HADV1 : Hid (∀ q s r, signR N (8 * bn) cs q = .ok (s, r) → q < r ∧ r ≤ 8 * bn) := adv_signR N (8 * bn) cs
  obtain ⟨R, hR⟩ : ∃ R, go p made = R := ⟨_, rfl⟩
  have HRR := Lib.hid hR
  rw [hgo, hR]
  have HSS := Lib.hid HS
  have HRL := Lib.hid H
  have HCS := Lib.hid hcs
  have HFS := Lib.hid hfs
  have HN1 := Lib.hid hn1
  have HN2 := Lib.hid hn2
  have HCR := Lib.hid HC
  have HFR := Lib.hid HF
  have HCm := Lib.hid hCm
  have HFm := Lib.hid hFm
  have hM9 := HS.most
  clear HS H hcs hfs hn1 hn2 HC HF hCm hFm hgo hR
  go_enter Tryz.func32, Tryz.ntmps32
  go_wp2_with fail
  have HL1 := Lib.hid (NumsAt_lit w [0, 0, 1, 2, 3, 4, 5] 7 3 rfl)
  have HB1 : Hid (Below w.heap.size w (w.alloc (.cells (I64s [0, 0, 1, 2, 3, 4, 5]).toArray 3))) := (Below.refl _ _).alloc (Nat.le_refl _) _
  have hc1 := table_any (w.alloc (.cells (I64s [0, 0, 1, 2, 3, 4, 5]).toArray 3)) 3 4 (some ⟨w.heap.size, 0, none⟩) 7 7 [0, 0, 1, 2, 3, 4, 5] (by omega) (by omega) (by omega) (by omega) HL1.out (by
    intro i
    by_cases hi : i < 7
    · revert i; decide
    · rw [List.getD_eq_getElem?_getD, List.getElem?_eq_none (by simp; omega)]; simp)
  refine hc1.mono ?_
  rintro e w1 ⟨⟨k1, a1, c1, rfl, hr1⟩, hb1⟩
  have HB1' := Lib.hid (HB1.out.trans (hb1.mono HB1.out.size))
  have hs1 : w.heap.size ≤ (w.alloc (.cells (I64s [0, 0, 1, 2, 3, 4, 5]).toArray 3)).heap.size := HB1.out.size
  have HT1 : Hid (NumsAt w1 a1 k1 lenT ∧ (∀ g o, a1 = some ⟨g, o, none⟩ → w.heap.size ≤ g) ∧ k1 = 28 ∧ k1 ≤ c1) := ⟨hr1.nums.1, fun g o e => Nat.le_trans hs1 (hr1.nums.2 g o e), by have h1 := hr1.len; have h2 := lenT_len; unfold lenT at h2; omega, hr1.cap⟩
  obtain ⟨hk1, hkc1⟩ := HT1.out.2.2
  subst hk1
  clear hc1 hr1 hb1 HL1 HB1 hs1
  go_wp2_with fail
  have HL2 := Lib.hid (NumsAt_lit w1 [0, 0, 1, 2, 3, 4, 5, 6, 7, 8, 9, 10, 11, 12, 13] 15 3 rfl)
  have HB2 : Hid (Below w1.heap.size w1 (w1.alloc (.cells (I64s [0, 0, 1, 2, 3, 4, 5, 6, 7, 8, 9, 10, 11, 12, 13]).toArray 3))) := (Below.refl _ _).alloc (Nat.le_refl _) _
  have hc2 := table_any (w1.alloc (.cells (I64s [0, 0, 1, 2, 3, 4, 5, 6, 7, 8, 9, 10, 11, 12, 13]).toArray 3)) 1 2 (some ⟨w1.heap.size, 0, none⟩) 15 15 [0, 0, 1, 2, 3, 4, 5, 6, 7, 8, 9, 10, 11, 12, 13] (by omega) (by omega) (by omega) (by omega) HL2.out (by
    intro i
    by_cases hi : i < 15
    · revert i; decide
    · rw [List.getD_eq_getElem?_getD, List.getElem?_eq_none (by simp; omega)]; simp)
  refine hc2.mono ?_
  rintro e w2 ⟨⟨k2, a2, c2, rfl, hr2⟩, hb2⟩
  have HB2' := Lib.hid (HB2.out.trans (hb2.mono HB2.out.size))
  have hs2 : w.heap.size ≤ (w1.alloc (.cells (I64s [0, 0, 1, 2, 3, 4, 5, 6, 7, 8, 9, 10, 11, 12, 13]).toArray 3)).heap.size := Nat.le_trans HB1'.out.size HB2.out.size
  have HT2 : Hid (NumsAt w2 a2 k2 distT ∧ (∀ g o, a2 = some ⟨g, o, none⟩ → w.heap.size ≤ g) ∧ k2 = 30 ∧ k2 ≤ c2) := ⟨hr2.nums.1, fun g o e => Nat.le_trans hs2 (hr2.nums.2 g o e), by have h1 := hr2.len; have h2 := distT_len; unfold distT at h2; omega, hr2.cap⟩
  obtain ⟨hk2, hkc2⟩ := HT2.out.2.2
  subst hk2
  have HBB : Hid (Below w.heap.size w w2) := HB1'.out.trans (HB2'.out.mono HB1'.out.size)
  have HLEN : Hid (NumsAt w2 a1 28 lenT) := HT1.out.1.below HB2'.out
  have HDIST : Hid (NumsAt w2 a2 30 distT) := HT2.out.1
  have HRL2 := Lib.hid (HRL.out.below HBB.out)
  have HCR2 : Hid (CodeRow w2 Cb cs) := (HBB.out.block Cb (Array.getElem?_eq_some_iff.1 HCR.out).1).trans HCR.out
  have HFR2 : Hid (CodeRow w2 Fb fs) := (HBB.out.block Fb (Array.getElem?_eq_some_iff.1 HFR.out).1).trans HFR.out
  have HCL : Hid (Cb < w2.heap.size ∧ Fb < w2.heap.size) := ⟨(Array.getElem?_eq_some_iff.1 HCR2.out).1, (Array.getElem?_eq_some_iff.1 HFR2.out).1⟩
  have HK1 : Hid (∀ g o, a1 = some ⟨g, o, none⟩ → g ≠ Sb ∧ mv.ownBlock ≠ some g) := fun g o e => by
    have h1 := HT1.out.2.1 g o e
    have h2 := HRL.out.lt
    exact ⟨by omega, fun e2 => by have := HRL.out.own g e2; omega⟩
  have HK2 : Hid (∀ g o, a2 = some ⟨g, o, none⟩ → g ≠ Sb ∧ mv.ownBlock ≠ some g) := fun g o e => by
    have h1 := HT2.out.2.1 g o e
    have h2 := HRL.out.lt
    exact ⟨by omega, fun e2 => by have := HRL.out.own g e2; omega⟩
  have HTB : Hid (∀ mv' w', Turn Sb mv mv' w2 w' → Turn Sb mv mv' w w') := fun mv' w' h => h.after HBB.out
  clear hc2 hr2 hb2 HL2 HB2 hs2 HT1 HT2 HB1' HB2' HRL HCR HFR HBB
  go_wp2_with fail
  go_loopw [] (fun wr => ∃ (q b : Nat) (m : List Int) (mv1 : Value), RL w0 Sb ba bn bc M wr q b mv1 m ∧ Turn Sb mv mv1 w2 wr ∧ ∀ b' y, Tr b (go q m) b' y → Tr bad R b' y) (fun wr => leftR Sb bn wr)
  case atStart => exact ⟨p, bad, made, mv, HRL2.out, Turn.refl _ _ _, fun b' y h => by rw [HRR.out] at h; exact h⟩
  case round =>
    obtain ⟨q, b, m, mv1, hrl, htn, hk⟩ := hrel
    have HR := Lib.hid hrl
    have HT := Lib.hid htn
    have HK := Lib.hid hk
    have HLEFT := Lib.hid (leftR_of hrl.1)
    have hq8 := hrl.2.1
    have HCC := Lib.hid (HCR2.out.turn htn hC HCm.out)
    have HFF := Lib.hid (HFR2.out.turn htn hF HFm.out)
    have HCN : Hid (mv1.ownBlock ≠ some Cb) := htn.not HCL.out.1 HCm.out
    have HFN : Hid (mv1.ownBlock ≠ some Fb) := htn.not HCL.out.2 HFm.out
    have HLL := Lib.hid (HLEN.out.turn htn HK1.out)
    have HDD := Lib.hid (HDIST.out.turn htn HK2.out)
    have HKL : Hid (∀ g o, a1 = some ⟨g, o, none⟩ → g < w2.heap.size → g ≠ Sb ∧ mv1.ownBlock ≠ some g) := fun g o e hg => ⟨(HK1.out g o e).1, htn.not hg (HK1.out g o e).2⟩
    obtain ⟨-, -, -, -, c4⟩ := rs_cells hrl.1
    clear hrl htn hk HRL2
    by_cases hb : b = 0
    · subst hb
      rw [if_pos rfl] at HLEFT
      have HSTP := Lib.hid (HSTEP.out q m hq8)
      have hcall := rsign HSS.out cs HCS.out n1 HN1.out h13 Cb hC wr q 0 mv1 m HCN.out HCC.out HR.out
      go_wp2_with fail
      clear c4
      refine hcall.mono ?_
      rintro e w3 ⟨v, s, q2, b2, rfl, hv0, hv1, hr3, ht3, htr3⟩
      have HR3 := Lib.hid hr3
      have HT3 := Lib.hid (HT.out.trans ht3)
      have HTR3 := Lib.hid htr3
      have HFF3 := Lib.hid (HFF.out.turn ht3 hF HFN.out)
      have HLL3 := Lib.hid (HLEN.out.turn HT3.out HK1.out)
      have HDD3 := Lib.hid (HDIST.out.turn HT3.out HK2.out)
      obtain ⟨-, -, -, -, c4⟩ := rs_cells hr3.1
      clear hr3 ht3 htr3 hcall HR HT HCC HFF HLL HDD
      by_cases hb2 : b2 = 0
      · subst hb2
        obtain ⟨rfl, hs⟩ := hv0 rfl
        rw [HN1.out] at hs
        have HNX : Hid (signR N (8 * bn) cs q = .ok (s, q2)) := HTR3.out.live.2
        have HAD := Lib.hid (HADV1.out q s q2 HNX.out)
        have HK3 : Hid (∀ b' y, Tr 0 (rest1 N (8 * bn) M.toNat (farR N (8 * bn) fs sm) go m (s, q2)) b' y → Tr bad R b' y) := fun b' y h => HK.out b' y (by rw [HSTP.out, HNX.out]; exact h)
        clear hv0 hv1 HTR3 HK HSTP
        by_cases h256 : s = 256
        · have h256i : (s : Int) = 256 := by omega
          have HFIN : Hid (Tr bad R 0 (q2, m)) := HK3.out _ _ (by
            rw [rest1, if_neg (by show ¬ s < 256; omega), if_pos h256]
            exact Tr.ok _ _)
          clear h256
          go_wp2_with fail
          go_end0
          exact ⟨rfl, q2, 0, mv1, m, HR3.out, HTB.out _ _ HT3.out, HFIN.out⟩
        · have h256i : ¬ (s : Int) = 256 := by omega
          by_cases hlow : s < 256
          · have hlowi : (s : Int) < 256 := by omega
            have hw8 : IntKind.u8.wrap (s : Int) = (s : Int) := by rw [IntKind.wrap_u8]; omega
            have hcall := rput HSS.out w3 q2 0 mv1 m HR3.out s (by omega)
            have HK4 : Hid (∀ b' y, Tr 0 (bindE (giveN M.toNat m (s : Int)) fun m' => go q2 m') b' y → Tr bad R b' y) := fun b' y h => HK3.out b' y (by rw [rest1, if_pos hlow]; exact h)
            clear hlow HK3
            go_wp2_with fail
            refine hcall.mono ?_
            rintro e w4 ⟨rfl, b4, mv4, m4, hr4, ht4, htr4⟩
            have HR4 := Lib.hid hr4
            have HT4 := Lib.hid (HT3.out.trans ht4)
            have HTR4 := Lib.hid htr4
            clear hr4 ht4 htr4 hcall
            go_wp2_with fail
            go_roundw
            case rel => exact ⟨q2, b4, m4, mv4, HR4.out, HT4.out, fun b' y h => HK4.out b' y (HTR4.out.bind h)⟩
            case measure =>
              rw [HLEFT.out, leftR_of HR4.out.1]
              have := HAD.out
              split <;> omega
          · have hlowi : ¬ (s : Int) < 256 := by omega
            by_cases hbig : 286 ≤ s
            · have hbigi : 285 < (s : Int) := by omega
              have HK4 : Hid (∀ b' y, Tr 0 (.error 4) b' y → Tr bad R b' y) := fun b' y h => HK3.out b' y (by rw [rest1, if_neg hlow, if_neg h256, if_pos hbig]; exact h)
              clear hlow h256 hbig HK3
              go_wp2_with fail
              refine (rstop w3 q2 0 mv1 m 4 HR3.out).mono ?_
              rw [if_pos rfl]
              rintro e w4 ⟨rfl, h1, h2⟩
              have HR4 := Lib.hid h1
              have HT4 := Lib.hid (HT3.out.trans h2)
              clear h1 h2
              go_wp2_with fail
              go_end0
              exact ⟨rfl, q2, 4, mv1, m, HR4.out, HTB.out _ _ HT4.out, HK4.out _ _ (Tr.err 0 4 (by omega) _)⟩
            · have hbigi : ¬ 285 < (s : Int) := by omega
              have HK4 : Hid (∀ b' y, Tr 0 (bindE (lengthN N (8 * bn) q2 s) (rest2 N (8 * bn) M.toNat (farR N (8 * bn) fs sm) go m)) b' y → Tr bad R b' y) := fun b' y h => HK3.out b' y (by rw [rest1, if_neg hlow, if_neg h256, if_neg hbig]; exact h)
              have hs257 : 257 ≤ s := by omega
              have hs285 : s ≤ 285 := by omega
              clear hlow h256 hbig HK3 hlowi h256i
              have hlowi : ¬ (s : Int) < 256 := by omega
              have h256i : ¬ (s : Int) = 256 := by omega
              have HS257 := Lib.hid hs257
              go_upto_if 47 with fail
              go_cut [11] from 19 to 126 (fun n wx => ∃ len q5 b5 : Nat, n = .int .i64 (len : Int) ∧ len ≤ 1000 ∧ RL w0 Sb ba bn bc M wx q5 b5 mv1 m ∧ Turn Sb mv mv1 w2 wx ∧ Adw b5 q q5 (8 * bn) ∧ Tr 0 (lengthN N (8 * bn) q2 s) b5 (len, q5))
              case first =>
                by_cases h285 : s = 285
                · have h285i : ¬ (s : Int) < 285 := by omega
                  have HN285 := Lib.hid h285
                  clear h285
                  go_wp2_with fail
                  go_meet
                  exact ⟨258, q2, 0, rfl, by omega, HR3.out, HT3.out, fun _ => HAD.out, by
                    have e : lengthN N (8 * bn) q2 s = .ok (258, q2) := by rw [HN285.out]; unfold lengthN; rw [if_neg (by omega), if_pos rfl]
                    rw [e]; exact Tr.ok _ _⟩
                · have h285i : (s : Int) < 285 := by omega
                  obtain ⟨j, hj⟩ : ∃ j, s - 257 = j := ⟨_, rfl⟩
                  have hji : (s : Int) - 257 = (j : Int) := by omega
                  have hj28 : j < 28 := by omega
                  have hj28i : (j : Int) < 28 := by omega
                  obtain ⟨ga, go1, ha1, hcell⟩ := HLL3.out.2 j hj28
                  subst ha1
                  have HLV := Lib.hid (table_len j hj28)
                  have hlv3 := lenT_le j hj28
                  obtain ⟨base, hbase⟩ : ∃ base, lenT.getD j 0 = base := ⟨_, rfl⟩
                  have HBASE := Lib.hid hbase
                  rw [hbase] at hcell hlv3
                  clear hbase
                  by_cases h264 : s ≤ 264
                  · have h264i : ¬ 264 < (s : Int) := by omega
                    have HL0 : Hid (lengthN N (8 * bn) q2 s = .ok (base, q2)) := by
                      show _ = _
                      unfold lengthN
                      rw [if_pos h264]
                      have := HLV.out
                      have h2 := HBASE.out
                      unfold lenT at h2
                      rw [if_pos (by omega), h2] at this
                      rw [show s - 254 = base by omega]
                    have hbase1 : base ≤ 1000 := by omega
                    have HB1 := Lib.hid hbase1
                    clear h264 hj HLV HBASE hbase1 h285
                    go_wp2_with fail
                    go_meet
                    exact ⟨base, q2, 0, rfl, HB1.out, HR3.out, HT3.out, fun _ => HAD.out, by rw [HL0.out]; exact Tr.ok _ _⟩
                  · have h264i : 264 < (s : Int) := by omega
                    obtain ⟨e1, he1⟩ : ∃ e1, s - 261 = e1 := ⟨_, rfl⟩
                    have he1i : (s : Int) - 261 = (e1 : Int) := by omega
                    obtain ⟨f1, hf1⟩ : ∃ f1, e1 / 4 = f1 := ⟨_, rfl⟩
                    have hf1i : (e1 : Int) / 4 = (f1 : Int) := by omega
                    have HBV : Hid (base = 3 + (4 + (s - 261) % 4) * 2 ^ ((s - 261) / 4)) := by
                      show _ = _
                      have := HLV.out
                      have h2 := HBASE.out
                      unfold lenT at h2
                      rw [if_neg (by omega), h2, show j + 257 = s by omega] at this
                      exact this
                    have HFV : Hid ((s - 261) / 4 = f1) := by show _ = _; rw [he1]; exact hf1
                    have HS264 := Lib.hid h264
                    have HN285 := Lib.hid h285
                    have hf16 : f1 ≤ 5 := by omega
                    have hcall := rnum HSS.out w3 q2 0 mv1 m f1 (by omega) HR3.out
                    clear h264 hj HLV HBASE he1 hf1 h285
                    go_wp2_with fail
                    refine hcall.mono ?_
                    rintro e w5 ⟨x, q5, b5, rfl, hx, hr5, ht5, htr5⟩
                    have HR5 := Lib.hid hr5
                    have HT5 := Lib.hid (HT3.out.trans ht5)
                    have hx32 : x ≤ 32 := by
                      have := Nat.pow_le_pow_right (n := 2) (by omega) hf16
                      have h32 : (2 : Nat) ^ 5 = 32 := rfl
                      omega
                    obtain ⟨len, hlen⟩ : ∃ len, base + x = len := ⟨_, rfl⟩
                    have HTR5 : Hid (Tr 0 (lengthN N (8 * bn) q2 s) b5 (len, q5)) := by
                      have e : lengthN N (8 * bn) q2 s = bindE (num N (8 * bn) q2 f1) (fun z => .ok (base + z.1, z.2)) := by
                        unfold lengthN
                        rw [if_neg HS264.out, if_neg HN285.out, HFV.out]
                        have hb2 := HBV.out
                        rw [HFV.out] at hb2
                        cases num N (8 * bn) q2 f1 with
                        | error e => rfl
                        | ok z => rw [hb2]; rfl
                      show Tr _ _ _ _
                      rw [e]
                      refine htr5.bind ?_
                      show Tr b5 (.ok (base + x, q5)) b5 (len, q5)
                      rw [hlen]
                      exact Tr.ok _ _
                    have hleni : (base : Int) + (x : Int) = (len : Int) := by omega
                    have hlen1 : len ≤ 1000 := by omega
                    have HL1 := Lib.hid hlen1
                    have HAD5 : Hid (Adw b5 q q5 (8 * bn)) := fun h0 => by
                      subst h0
                      have h3 := htr5.live.2
                      have h2 := num_ok h3
                      have := HAD.out
                      omega
                    clear hr5 ht5 htr5 hcall HBV HFV HS264 HN285 hcell hlen hx hx32
                    go_wp2_with fail
                    go_meet
                    exact ⟨len, q5, b5, rfl, HL1.out, HR5.out, HT5.out, HAD5.out, HTR5.out⟩
              case rest =>
                obtain ⟨len, q5, b5, hv11, hlen1, hr5, ht5, had5, htr5⟩ := hcut
                subst hv11
                have HR5 := Lib.hid hr5
                have HT5 := Lib.hid ht5
                have HAD5 := Lib.hid had5
                have HK5 : Hid (∀ b' y, Tr b5 (rest2 N (8 * bn) M.toNat (farR N (8 * bn) fs sm) go m (len, q5)) b' y → Tr bad R b' y) := fun b' y h => HK4.out b' y (htr5.bind h)
                have HFF5 := Lib.hid (HFR2.out.turn HT5.out hF HFm.out)
                have HDD5 := Lib.hid (HDIST.out.turn HT5.out HK2.out)
                clear hr5 ht5 had5 htr5 HK4 HAD HLL3 HFF3 HDD3 hs257 hs285 hlowi hbigi h256i c4 HS257
                obtain rfl | rfl : sm = false ∨ sm = true := by cases sm <;> simp
                · have HFIN : Hid (Tr bad R (orFour b5) (q5, m)) := HK5.out _ _ (by
                    rw [rest2]
                    have e : farR N (8 * bn) fs false q5 = .error 4 := rfl
                    rw [e]
                    exact Tr.err b5 4 (by omega) _)
                  have hstop6 : Calls Tryz.prog 29 #[.pointer (some ⟨Sb, 0, none⟩), .int .i64 4] wc fun e w' => e = .returned (.tuple #[]) ∧ RL w0 Sb ba bn bc M w' q5 (orFour b5) mv1 m ∧ Turn Sb mv1 mv1 wc w' := rstop wc q5 b5 mv1 m 4 HR5.out
                  clear HK5
                  go_wp2_with fail
                  refine hstop6.mono ?_
                  rintro e w6 ⟨rfl, h1, h2⟩
                  have HR6 := Lib.hid h1
                  have HT6 := Lib.hid (HT5.out.trans h2)
                  clear h1 h2
                  go_wp2_with fail
                  go_end0
                  exact ⟨rfl, q5, _, mv1, m, HR6.out, HTB.out _ _ HT6.out, HFIN.out⟩
                · have HK6 : Hid (∀ b' y, Tr b5 (bindE (signR N (8 * bn) fs q5) (rest3 N (8 * bn) M.toNat go m len)) b' y → Tr bad R b' y) := fun b' y h => HK5.out b' y (by
                    rw [rest2]
                    have e : farR N (8 * bn) fs true q5 = signR N (8 * bn) fs q5 := rfl
                    rw [e]; exact h)
                  have hcall6 := rsign HSS.out fs HFS.out n2 HN2.out h23 Fb hF wc q5 b5 mv1 m HFN.out HFF5.out HR5.out
                  clear HK5
                  go_wp2_with fail
                  refine hcall6.mono ?_
                  rintro e w6 ⟨v6, t, q6, b6, rfl, hv0, hv1, hr6, ht6, htr6⟩
                  have HR6 := Lib.hid hr6
                  have HT6 := Lib.hid (HT5.out.trans ht6)
                  have HTR6 := Lib.hid htr6
                  have HDD6 := Lib.hid (HDIST.out.turn HT6.out HK2.out)
                  obtain ⟨-, -, -, -, c4⟩ := rs_cells hr6.1
                  clear hr6 ht6 htr6 hcall6
                  by_cases hb6 : b6 = 0
                  · subst hb6
                    obtain ⟨rfl, ht⟩ := hv0 rfl
                    rw [HN2.out] at ht
                    have HK7 : Hid (∀ b' y, Tr 0 (rest3 N (8 * bn) M.toNat go m len (t, q6)) b' y → Tr bad R b' y) := fun b' y h => HK6.out b' y (HTR6.out.bind h)
                    have HAD6 : Hid (q < q6 ∧ q6 ≤ 8 * bn) := by
                      have h1 := HTR6.out.live
                      have h2 := adv_signR N (8 * bn) fs _ _ _ h1.2
                      have h3 := HAD5.out h1.1
                      exact ⟨by omega, by omega⟩
                    clear hv0 hv1 HK6 HTR6
                    by_cases ht29 : 29 < t
                    · have ht29i : 29 < (t : Int) := by omega
                      have HFIN : Hid (Tr bad R 4 (q6, m)) := HK7.out _ _ (by
                        rw [rest3]
                        have e : distN N (8 * bn) q6 t = .error 4 := by unfold distN; rw [if_pos (by omega)]
                        show Tr 0 (bindE (distN N (8 * bn) q6 t) _) 4 _
                        rw [e]
                        exact Tr.err 0 4 (by omega) _)
                      clear HK7 ht29 c4
                      go_wp2_with fail
                      refine (rstop w6 q6 0 mv1 m 4 HR6.out).mono ?_
                      rw [if_pos rfl]
                      rintro e w7 ⟨rfl, h1, h2⟩
                      have HR7 := Lib.hid h1
                      have HT7 := Lib.hid (HT6.out.trans h2)
                      obtain ⟨-, -, -, -, c4⟩ := rs_cells h1.1
                      clear h1 h2
                      go_wp2_with fail
                      go_end0
                      exact ⟨rfl, q6, 4, mv1, m, HR7.out, HTB.out _ _ HT7.out, HFIN.out⟩
                    · have ht29i : ¬ 29 < (t : Int) := by omega
                      have ht30 : t < 30 := by omega
                      have ht30i : (t : Int) < 30 := by omega
                      obtain ⟨gd, go2, ha2, hcelld⟩ := HDD6.out.2 t ht30
                      subst ha2
                      have HDV := Lib.hid (table_dist t ht30)
                      have hdv3 := distT_le t ht30
                      obtain ⟨dv, hdv⟩ : ∃ dv, distT.getD t 0 = dv := ⟨_, rfl⟩
                      have HDVV := Lib.hid hdv
                      rw [hdv] at hcelld hdv3
                      have hdv1 := hdv3.1
                      have hdv0 := hdv3.2
                      clear hdv ht29 hdv3
                      go_upto_if 83 with fail
                      go_cut [13] from 19 to 126 (fun bk wx => ∃ d q8 b8 : Nat, bk = .int .i64 (d : Int) ∧ d ≤ 40000 ∧ 1 ≤ d ∧ RL w0 Sb ba bn bc M wx q8 b8 mv1 m ∧ Turn Sb mv mv1 w2 wx ∧ Adw b8 q q8 (8 * bn) ∧ Tr 0 (distN N (8 * bn) q6 t) b8 (d, q8))
                      case first =>
                        by_cases ht3 : t ≤ 3
                        · have ht3i : ¬ 3 < (t : Int) := by omega
                          have HD0 : Hid (distN N (8 * bn) q6 t = .ok (dv, q6)) := by
                            show _ = _
                            unfold distN
                            rw [if_neg (by omega), if_pos ht3]
                            have h1 := HDV.out
                            have h2 := HDVV.out
                            unfold distT at h2
                            rw [if_pos ht3, h2] at h1
                            rw [h1]
                          have HX : Hid (dv ≤ 40000 ∧ 1 ≤ dv) := ⟨by omega, by omega⟩
                          clear ht3 HDV HDVV hdv1 hdv0
                          go_wp2_with fail
                          go_meet
                          exact ⟨dv, q6, 0, rfl, HX.out.1, HX.out.2, HR6.out, HT6.out, fun _ => HAD6.out, by rw [HD0.out]; exact Tr.ok _ _⟩
                        · have ht3i : 3 < (t : Int) := by omega
                          obtain ⟨y1, hu1⟩ : ∃ y1, t / 2 = y1 := ⟨_, rfl⟩
                          have hu1i : (t : Int) / 2 = (y1 : Int) := by omega
                          obtain ⟨y2, hu2⟩ : ∃ y2, y1 - 1 = y2 := ⟨_, rfl⟩
                          have hu2i : (y1 : Int) - 1 = (y2 : Int) := by omega
                          have hu14 : y2 ≤ 13 := by omega
                          have HU : Hid ((t - 2) / 2 = y2) := by show _ = _; omega
                          have HT3N := Lib.hid ht3
                          have hcall7 := rnum HSS.out w6 q6 0 mv1 m y2 (by omega) HR6.out
                          clear hu1 hu2 ht3
                          go_wp2_with fail
                          refine hcall7.mono ?_
                          rintro e w8 ⟨x8, q8, b8, rfl, hx8, hr8, ht8, htr8⟩
                          have HR8 := Lib.hid hr8
                          have HT8 := Lib.hid (HT6.out.trans ht8)
                          have hx9 : x8 ≤ 8192 := by
                            have := Nat.pow_le_pow_right (n := 2) (by omega) hu14
                            have h32 : (2 : Nat) ^ 13 = 8192 := rfl
                            omega
                          obtain ⟨d, hd⟩ : ∃ d, dv + x8 = d := ⟨_, rfl⟩
                          have HTR8 : Hid (Tr 0 (distN N (8 * bn) q6 t) b8 (d, q8)) := by
                            have e : distN N (8 * bn) q6 t = bindE (num N (8 * bn) q6 y2) (fun z => .ok (dv + z.1, z.2)) := by
                              unfold distN
                              rw [if_neg (by omega), if_neg HT3N.out, HU.out]
                              have h1 := HDV.out
                              have h2 := HDVV.out
                              unfold distT at h2
                              rw [if_neg HT3N.out, h2, HU.out] at h1
                              cases num N (8 * bn) q6 y2 with
                              | error e => rfl
                              | ok z => rw [h1]; rfl
                            show Tr _ _ _ _
                            rw [e]
                            refine htr8.bind ?_
                            show Tr b8 (.ok (dv + x8, q8)) b8 (d, q8)
                            rw [hd]
                            exact Tr.ok _ _
                          have hdi : (dv : Int) + (x8 : Int) = (d : Int) := by omega
                          have hd1 : d ≤ 40000 := by omega
                          have hd0 : 1 ≤ d := by omega
                          have HX : Hid (d ≤ 40000 ∧ 1 ≤ d) := ⟨hd1, hd0⟩
                          have HAD8 : Hid (Adw b8 q q8 (8 * bn)) := fun h0 => by
                            subst h0
                            have h2 := num_ok htr8.live.2
                            have := HAD6.out
                            omega
                          clear hr8 ht8 htr8 hcall7 HDV HDVV HU HT3N hcelld hd hx8 hx9 hd0
                          go_wp2_with fail
                          go_meet
                          exact ⟨d, q8, b8, rfl, HX.out.1, HX.out.2, HR8.out, HT8.out, HAD8.out, HTR8.out⟩
                      case rest =>
                        obtain ⟨d, q8, b8, hv13, hd1, hd0, hr8, ht8, had8, htr8⟩ := hcut
                        subst hv13
                        have HR8 := Lib.hid hr8
                        have HT8 := Lib.hid ht8
                        have HAD8 := Lib.hid had8
                        have HK8 : Hid (∀ b' y, Tr b8 (rest4 M.toNat go m len (d, q8)) b' y → Tr bad R b' y) := fun b' y h => HK7.out b' y (by rw [rest3]; exact htr8.bind h)
                        clear had8 htr8 HK7 HDV HDVV hcelld hdv1 hdv0 ht ht29i ht30 ht30i c4 HAD6 HDD6 HR6 HT6 HR5 HT5 HAD5 HFF5 HDD5
                        obtain ⟨va, vc, hmv, -, -, -⟩ := hr8.2.2.1.shape
                        have HMV := Lib.hid hmv
                        obtain ⟨nm, hnm⟩ : ∃ nm, m.length = nm := ⟨_, rfl⟩
                        have HNM := Lib.hid hnm
                        rw [hnm] at hmv HMV
                        have hnm9 : nm ≤ 1000000000 := by
                          have := hr8.2.2.2.2.2.2.1
                          omega
                        obtain ⟨-, -, c2, -, c4⟩ := rs_cells hr8.1
                        rw [hmv] at c2
                        clear hmv hnm hr8 ht8
                        go_upto_if 97 with fail
                        go_cut [] from 19 to 126 (fun wx => ∃ b9 : Nat, RL w0 Sb ba bn bc M wx q8 b9 mv1 m ∧ Turn Sb mv mv1 w2 wx ∧ Adw b9 q q8 (8 * bn) ∧ Zb b9 b9 d m.length ∧ ∀ b' y, Tr b9 (bindE (againGo M.toNat d len m) fun m' => go q8 m') b' y → Tr bad R b' y)
                        case first =>
                          by_cases hfar : nm < d
                          · have hfari : (nm : Int) < (d : Int) := by omega
                            have hstop9 : Calls Tryz.prog 29 #[.pointer (some ⟨Sb, 0, none⟩), .int .i64 4] wc fun e w' => e = .returned (.tuple #[]) ∧ RL w0 Sb ba bn bc M w' q8 (orFour b8) mv1 m ∧ Turn Sb mv1 mv1 wc w' := rstop wc q8 b8 mv1 m 4 HR8.out
                            have HFIN : Hid (∀ y, Tr bad R (orFour b8) y) := fun y => HK8.out _ _ (by
                              rw [rest4]
                              have e : againN M.toNat m len d = .error 4 := by unfold againN; rw [if_pos (by rw [HNM.out]; exact hfar)]
                              show Tr b8 (bindE (againN M.toNat m len d) _) _ y
                              rw [e]
                              exact Tr.err b8 4 (by omega) _)
                            clear hfar HK8
                            go_wp2_with fail
                            refine hstop9.mono ?_
                            rintro e w9 ⟨rfl, h1, h2⟩
                            have HR9 := Lib.hid h1
                            have HT9 := Lib.hid (HT8.out.trans h2)
                            clear h1 h2
                            go_wp2_with fail
                            go_meet
                            exact ⟨orFour b8, HR9.out, HT9.out, fun h => absurd h (orFour_ne b8), fun h => absurd h (orFour_ne b8), fun b' y h => by
                              rw [h.2 (orFour_ne b8)]; exact HFIN.out y⟩
                          · have hfari : ¬ (nm : Int) < (d : Int) := by omega
                            have HMD : Hid (d ≤ m.length) := by show _ ≤ _; rw [HNM.out]; omega
                            have HK9 : Hid (∀ b' y, Tr b8 (bindE (againGo M.toNat d len m) fun m' => go q8 m') b' y → Tr bad R b' y) := fun b' y h => HK8.out b' y (by
                              rw [rest4]
                              have e : againN M.toNat m len d = againGo M.toNat d len m := by unfold againN; rw [if_neg (by rw [HNM.out]; exact hfar)]
                              show Tr b8 (bindE (againN M.toNat m len d) _) b' y
                              rw [e]; exact h)
                            clear hfar HK8
                            go_wp2_with fail
                            go_meet
                            exact ⟨b8, HR8.out, HT8.out, HAD8.out, fun h => ⟨h, HMD.out⟩, HK9.out⟩
                        case rest =>
                          obtain ⟨B9, hr9, ht9, had9, hzb9, hk9⟩ := hcut
                          have HR8 := Lib.hid hr9
                          have HT8 := Lib.hid ht9
                          have HADV6 := Lib.hid had9
                          have HZB := Lib.hid hzb9
                          have HK9 := Lib.hid hk9
                          have hLB : len ≤ 1000 := hlen1
                          have hDB : d ≤ 40000 := hd1
                          have hDB1 : 1 ≤ d := hd0
                          clear hr9 ht9 had9 hzb9 hk9 hlen1 hd1 hd0 c2 c4 hnm9 HNM HMV HAD8
                          go_wp2_with fail
                          clear HK1 HK2 HLEN HDIST HCL HCN HFN HSTEP HADV1 HRR HNX HKL
                          go_loopw [14] (fun vi wz => ∃ (i b9 : Nat) (m9 : List Int) (mv9 : Value), vi = .int .i64 (i : Int) ∧ i ≤ len ∧ RL w0 Sb ba bn bc M wz q8 b9 mv9 m9 ∧ Turn Sb mv mv9 w2 wz ∧ Zb b9 B9 d m9.length ∧ ∀ b' y, Tr b9 (bindE (againGo M.toNat d (len - i) m9) fun m' => go q8 m') b' y → Tr bad R b' y) (fun vi _ => len - (intOf vi).toNat)
                          case atStart => exact ⟨0, B9, m, mv1, rfl, Nat.zero_le _, HR8.out, HT8.out, HZB.out, HK9.out⟩
                          case round =>
                            obtain ⟨i, b9, m9, mv9, rfl, hi, hr9, ht9, hbb, hk9⟩ := hrel
                            have HR9 := Lib.hid hr9
                            have HT9 := Lib.hid ht9
                            have HKX := Lib.hid hk9
                            have HBB := Lib.hid hbb
                            obtain ⟨va9, vc9, hmv9, -, -, -⟩ := hr9.2.2.1.shape
                            have hmid9 := hr9.2.2.1
                            have hrg9 := hr9.2.2.2.2.2.2.2
                            have hml9 : m9.length ≤ 1000000000 := by
                              have := hr9.2.2.2.2.2.2.1
                              omega
                            subst hmv9
                            obtain ⟨-, -, c2, -, c4⟩ := rs_cells hr9.1
                            obtain ⟨n9, hn9⟩ : ∃ n9, m9.length = n9 := ⟨_, rfl⟩
                            have HN9 := Lib.hid hn9
                            rw [hn9] at hml9 c2 hmid9
                            rw [hn9] at HR9 HT9
                            clear hr9 ht9 hk9 hbb HK9
                            by_cases hlt : i < len
                            · have hli : (i : Int) < (len : Int) := by omega
                              by_cases hb0 : b9 = 0
                              · subst hb0
                                have hdm := (HBB.out rfl).2
                                rw [hn9] at hdm
                                obtain ⟨j, hj⟩ : ∃ j, n9 - d = j := ⟨_, rfl⟩
                                obtain ⟨g, o, hva, hcellm⟩ := mid_row hmid9 j (by omega)
                                subst hva
                                have hj0 := range_of_mem0 hrg9 j
                                obtain ⟨x, hx⟩ : ∃ x : Nat, m9[j]?.getD 0 = (x : Int) := Int.eq_ofNat_of_zero_le hj0.1
                                rw [hx] at hcellm
                                have hx8 : x ≤ 255 := by omega
                                have hji : (n9 : Int) - (d : Int) = (j : Int) := by omega
                                have hjw : IntKind.i64.wrap (j : Int) = (j : Int) := IntWalk.i64_in _ (by omega)
                                have hjl : (j : Int) < (n9 : Int) := by omega
                                have HAG : Hid (againGo M.toNat d (len - i) m9 = bindE (giveN M.toNat m9 (x : Int)) fun m' => againGo M.toNat d (len - (i + 1)) m') := by
                                  show _ = _
                                  rw [show len - i = (len - (i + 1)) + 1 by omega, againGo, HN9.out, hj, hx]
                                  unfold bindE
                                  cases giveN M.toNat m9 (x : Int) <;> rfl
                                have HPUT : Hid (∀ W, Below wr.heap.size wr W → Calls Tryz.prog 30 #[.pointer (some ⟨Sb, 0, none⟩), .int .u8 (x : Int)] W (PutR w0 Sb ba bn bc M W q8 0 (.slice (some ⟨g, o, none⟩) n9 vc9) m9 x)) := fun W hW => rput HSS.out W q8 0 _ m9 (HR9.out.below hW) x hx8
                                clear hmid9 hrg9 hj0 hx hj hn9
                                go_wp2_with fail
                                go_still_tail 14, (by kernel_rfl)
                                change wpList _ _ _ _ _ wr.drew
                                have HBD : Hid (Below wr.heap.size wr wr.drew) := (Below.refl _ _).drew
                                have hcall9 := HPUT.out _ HBD.out
                                clear hcellm c2 c4 hji hjw
                                generalize wr.drew = wz at *
                                go_wp2_with fail
                                refine hcall9.mono ?_
                                rintro e wa ⟨rfl, ba', mva, ma, hra, hta, htra⟩
                                have HRA := Lib.hid hra
                                have HTA := Lib.hid (HT9.out.trans (hta.after HBD.out))
                                have HTRA := Lib.hid htra
                                have HMA : Hid (ba' = 0 → d ≤ ma.length) := fun h0 => by
                                  subst h0
                                  have h1 := htra.live.2
                                  unfold giveN at h1
                                  split at h1
                                  · cases h1
                                  · injection h1 with h1
                                    rw [← h1, List.length_append, HN9.out]; omega
                                clear hra hta htra hcall9
                                go_wp2_with fail
                                go_roundw
                                case rel => exact ⟨i + 1, ba', ma, mva, by go_num, by omega, HRA.out, HTA.out, fun h0 => ⟨(HBB.out rfl).1, HMA.out h0⟩, fun b' y h => HKX.out b' y (by
                                  rw [HAG.out]
                                  refine Tr.of_eq (HTRA.out.bind (f := fun m' => bindE (againGo M.toNat d (len - (i + 1)) m') fun m2 => go q8 m2) h) (fun _ => ?_)
                                  unfold bindE
                                  cases giveN M.toNat m9 (x : Int) <;> rfl)⟩
                                case measure => simp [intOf]; omega
                              · have hbi : ((b9 : Int) == 0) = false := by simp; omega
                                have hbj : ¬ ((b9 : Int) = 0) := by omega
                                have HNZ := Lib.hid hb0
                                clear hb0
                                go_wp2_with fail
                                go_roundw
                                case rel => exact ⟨q8, b9, m9, _, HR9.out, HT9.out, fun b' y h => HKX.out b' y (Tr.other HNZ.out h)⟩
                                case measure =>
                                  rw [HLEFT.out, leftR_of HR9.out.1, if_neg HNZ.out]
                                  omega
                            · have hli : ¬ (i : Int) < (len : Int) := by omega
                              have HIL : Hid (len - i = 0) := by show _ = _; omega
                              go_wp2_with fail
                              go_roundw
                              case rel => exact ⟨q8, b9, m9, _, HR9.out, HT9.out, fun b' y h => HKX.out b' y (by rw [HIL.out, againGo]; exact h)⟩
                              case measure =>
                                rw [HLEFT.out, leftR_of HR9.out.1]
                                by_cases hz : b9 = 0
                                · rw [if_pos hz]
                                  have := HADV6.out (HBB.out hz).1
                                  omega
                                · rw [if_neg hz]; omega
                  · have hv := hv1 hb6
                    subst hv
                    have hbi : ((b6 : Int) != 0) = true := by simp; omega
                    have hbj : ¬ ((b6 : Int) = 0) := by omega
                    have HFIN : Hid (Tr bad R b6 (q6, m)) := HK6.out _ _ (HTR6.out.bind (Tr.dead hb6 _ _))
                    clear hb6 hv0 hv1 HK6
                    go_wp2_with fail
                    go_end0
                    exact ⟨rfl, q6, b6, mv1, m, HR6.out, HTB.out _ _ HT6.out, HFIN.out⟩
      · have hv := hv1 hb2
        subst hv
        have hbi : ((b2 : Int) != 0) = true := by simp; omega
        have hbj : ¬ ((b2 : Int) = 0) := by omega
        have HFIN : Hid (Tr bad R b2 (q2, m)) := HK.out _ _ (by rw [HSTP.out]; exact HTR3.out.bind (Tr.dead hb2 _ _))
        clear hb2 hv0 hv1
        go_wp2_with fail
        go_end0
        exact ⟨rfl, q2, b2, mv1, m, HR3.out, HTB.out _ _ HT3.out, HFIN.out⟩
    · have hbi : ((b : Int) == 0) = false := by simp; omega
      have hbj : ¬ ((b : Int) = 0) := by omega
      have HFIN : Hid (Tr bad R b (q, m)) := HK.out _ _ (Tr.dead hb _ _)
      clear hb
      go_wp2_with fail
      go_end0
      exact ⟨rfl, q, b, mv1, m, HR.out, HTB.out _ _ HT.out, HFIN.out⟩
end
end Go.Proofs.YtglgchjkonjpiaaGreatDoor
