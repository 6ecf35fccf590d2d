/- The document's unpacking: tables of bases. -/
import Derived.Test.YtglgchjkonjpiaaGreatDoorRefA
import Derived.Test.YtglgchjkonjpiaaGreatDoorInfA
/-! The document's unpacking: tables of bases. -/
namespace Go.Proofs.YtglgchjkonjpiaaGreatDoor
open Go.RowKit Plain
set_option linter.unusedVariables false
structure TSt where
  l : List Nat
  at_ : Nat
def tabIn (m : Nat) (st : TSt) : Nat → TSt
  | 0 => st
  | k + 1 => ⟨(tabIn m st k).l ++ [(tabIn m st k).at_], (tabIn m st k).at_ + 2 ^ m⟩
def tabTo (first each : Nat) (more : List Nat) : Nat → TSt
  | 0 => ⟨[], first⟩
  | i + 1 => tabIn (more.getD i 0) (tabTo first each more i) each
def tableT (first each : Nat) (more : List Nat) : List Nat := (tabTo first each more more.length).l
set_option maxRecDepth 100000 in
set_option maxHeartbeats 8000000 in
theorem table_any (w : World) (first each : Nat) (a : Option Addr) (n c : Nat) (more : List Nat) (hf : first ≤ 10) (he : each ≤ 4) (hn : n ≤ 15) (hnc : n ≤ c) (H : NumsAt w a n more) (h13 : ∀ i, more.getD i 0 ≤ 13) :
    Calls Tryz.prog 52 #[.int .i64 (first : Int), .int .i64 (each : Int), .slice a n c] w fun e w' => (∃ m a' c', e = .returned (.slice a' m c') ∧ Row64 w' w.heap.size (.slice a' m c') m (tableT first each more)) ∧ Below w.heap.size w w' := by
  have HH := Lib.hid H
  have H13 := Lib.hid h13
  have HLN : Hid (more.length = n) := H.1
  clear H h13
  go_enter Tryz.func52, Tryz.ntmps52
  go_wp2_with fail
  go_loopw [7, 8, 9] (fun vl va vi wr => ∃ (i : Nat) (st : TSt) (b : Option Addr) (m k : Nat), vi = .int .i64 (i : Int) ∧ i ≤ n ∧ tabTo first each more i = st ∧ va = .int .i64 (st.at_ : Int) ∧ st.at_ ≤ 10 + 8192 * m ∧ m ≤ 4 * i ∧ vl = .slice b m k ∧ Row64 wr w.heap.size (.slice b m k) m st.l ∧ Below w.heap.size w wr) (fun _ _ vi _ => n - (intOf vi).toNat)
  case atStart => exact ⟨0, ⟨[], first⟩, none, 0, 0, rfl, Nat.zero_le _, rfl, rfl, by show first ≤ _; omega, by omega, rfl, Row64.none _ _, Below.refl _ _⟩
  case round =>
    obtain ⟨i, st, b, m, k, rfl, hi, hst, rfl, hat, hm, rfl, hr, hb⟩ := hrel
    have HST := Lib.hid hst
    have HR := Lib.hid hr
    have HB := Lib.hid hb
    obtain ⟨at0, ea⟩ : ∃ at0, st.at_ = at0 := ⟨_, rfl⟩
    have HA := Lib.hid ea
    rw [ea] at hat ⊢
    clear hst hr hb ea
    by_cases hlt : i < n
    · have hli : (i : Int) < (n : Int) := by omega
      obtain ⟨ga, go, rfl, hcell⟩ := HH.out.2 i hlt
      have HCELL := Lib.hid hcell
      have hy13 := H13.out i
      obtain ⟨y, ey⟩ : ∃ y, more.getD i 0 = y := ⟨_, rfl⟩
      rw [ey] at HCELL hy13
      have HY := Lib.hid ey
      clear hcell ey
      go_wp2_with fail
      go_loopw [7, 8, 10, 11, 12] (fun vl va vk _ _ wr => ∃ (j : Nat) (st2 : TSt) (b : Option Addr) (m k : Nat), vk = .int .i64 (j : Int) ∧ j ≤ each ∧ tabIn y st j = st2 ∧ va = .int .i64 (st2.at_ : Int) ∧ st2.at_ ≤ 10 + 8192 * m ∧ m ≤ 4 * i + j ∧ vl = .slice b m k ∧ Row64 wr w.heap.size (.slice b m k) m st2.l ∧ Below w.heap.size w wr) (fun _ _ vk _ _ _ => each - (intOf vk).toNat)
      case atStart => exact ⟨0, st, b, m, k, rfl, Nat.zero_le _, rfl, by rw [HA.out], by rw [HA.out]; exact hat, by omega, rfl, HR.out, HB.out⟩
      case round =>
        obtain ⟨j, st2, b2, m2, k2, rfl, hj, hst2, rfl, hat2, hm2, rfl, hr2, hb2⟩ := hrel
        have HST2 := Lib.hid hst2
        have HR2 := Lib.hid hr2
        have HB2 := Lib.hid hb2
        obtain ⟨at2, ea2⟩ : ∃ at2, st2.at_ = at2 := ⟨_, rfl⟩
        have HA2 := Lib.hid ea2
        rw [ea2] at hat2 ⊢
        have hsz : w.heap.size ≤ wr.heap.size := hb2.size
        clear hst2 hr2 hb2 ea2 HR HB
        by_cases hlt2 : j < each
        · have hli2 : (j : Int) < (each : Int) := by omega
          have HN : Hid (Below wr.heap.size wr (wr.alloc (.cells #[.int .i64 (at2 : Int)] 3))) := (Below.refl _ _).alloc (Nat.le_refl _) _
          have hc1 : (wr.alloc (.cells #[.int .i64 (at2 : Int)] 3)).cell? ⟨wr.heap.size, 0, none⟩ = some (.int .i64 (at2 : Int)) := by
            have hh : (wr.alloc (.cells #[.int .i64 (at2 : Int)] 3)).heap[wr.heap.size]? = some (.cells #[.int .i64 (at2 : Int)] 3 (0, 0)) := by
              show (wr.heap.push _)[wr.heap.size]? = _
              simp
            exact cell_row0 _ _ 0 _ _ _ hh
          have HC1 := Lib.hid hc1
          clear hc1
          have tok : True := trivial
          go_wp2_with (
            have _t := tok
            at_builtin
            refine wpList_append_i1 rfl _ _ rfl w.heap.size _ m2 _ rfl (HR2.out.below HN.out) ⟨wr.heap.size, 0, none⟩ at2 rfl HC1.out (by omega) (Nat.le_trans hsz HN.out.size) ?_
            intro pa pc p2 hr3 hg
            have HR3 := Lib.hid hr3
            have HB3 : Hid (Below w.heap.size w p2) := (HB2.out.trans (HN.out.mono hsz)).trans (ownsRow_kept (HR2.out.below HN.out) (Nat.le_trans hsz HN.out.size) hg)
            clear tok hr3 hg
            refine Hid.out ?_)
          refine unhid ?_
          have hca : p2.cell? ⟨ga, go + i, none⟩ = some (.int .i64 (y : Int)) := (HB3.out.cell (p := ⟨ga, go + i, none⟩) (World.block_lt_of_cell? w _ HCELL.out)).trans HCELL.out
          clear HR2 HB2 HC1
          go_wp2_with fail
          go_loopw [11, 12] (fun vo vj wz => ∃ q : Nat, vj = .int .i64 (q : Int) ∧ q ≤ y ∧ vo = .int .i64 ((2 ^ q : Nat) : Int) ∧ wz = p2) (fun _ vj _ => y - (intOf vj).toNat)
          case atStart => exact ⟨0, rfl, Nat.zero_le _, rfl, rfl⟩
          case round =>
            obtain ⟨q, rfl, hq, rfl, rfl⟩ := hrel
            have hp2 : 2 ^ q ≤ 8192 := by have := Nat.pow_le_pow_right (n := 2) (by omega) (show q ≤ 13 by omega); simpa using this
            have HP2 : Hid (2 ^ (q + 1) = 2 * 2 ^ q) := by show _ = _; rw [Nat.pow_succ, Nat.mul_comm]
            obtain ⟨o, ho2⟩ : ∃ o, 2 ^ q = o := ⟨_, rfl⟩
            have HO := Lib.hid ho2
            rw [ho2] at hp2 HP2
            rw [ho2]
            clear ho2
            by_cases hqy : q < y
            · have hqi : (q : Int) < (y : Int) := by omega
              go_wp2_with fail
              go_roundw
              case rel => exact ⟨q + 1, by go_num, by omega, by rw [HP2.out]; go_num, trivial⟩
              case measure => simp [intOf]; go_num
            · have hqi : ¬ (q : Int) < (y : Int) := by omega
              have HQY : Hid (q = y) := by show _ = _; omega
              go_wp2_with fail
              go_roundw
              case rel => exact ⟨j + 1, ⟨st2.l ++ [at2], at2 + o⟩, pa, m2 + 1, pc, by go_num, by omega, by rw [tabIn, HST2.out, HA2.out, ← HQY.out, HO.out], by go_num, by show at2 + o ≤ _; omega, by omega, rfl, HR3.out, HB3.out⟩
              case measure => simp [intOf]; go_num
        · have hli2 : ¬ (j : Int) < (each : Int) := by omega
          have HJE : Hid (j = each) := by show _ = _; omega
          go_wp2_with fail
          go_roundw
          case rel => exact ⟨i + 1, st2, b2, m2, k2, by go_num, by omega, by rw [tabTo, HY.out, HST.out, ← HJE.out, HST2.out], by rw [HA2.out], by rw [HA2.out]; exact hat2, by omega, rfl, HR2.out, HB2.out⟩
          case measure => simp [intOf]; go_num
    · have hli : ¬ (i : Int) < (n : Int) := by omega
      have HIN : Hid (i = n) := by show _ = _; omega
      go_wp2_with fail
      go_ret
      refine ⟨⟨m, b, k, rfl, ?_⟩, HB.out⟩
      unfold tableT
      rw [HLN.out, ← HIN.out, HST.out]
      exact HR.out
theorem table_len : ∀ i, i < 28 → (tableT 3 4 [0, 0, 1, 2, 3, 4, 5]).getD i 0 = if i + 257 ≤ 264 then i + 3 else 3 + (4 + (i + 257 - 261) % 4) * 2 ^ ((i + 257 - 261) / 4) := by decide +kernel
theorem table_dist : ∀ d, d < 30 → (tableT 1 2 [0, 0, 1, 2, 3, 4, 5, 6, 7, 8, 9, 10, 11, 12, 13]).getD d 0 = if d ≤ 3 then d + 1 else 1 + (2 + d % 2) * 2 ^ ((d - 2) / 2) := by decide +kernel
end Go.Proofs.YtglgchjkonjpiaaGreatDoor
/-! The document's unpacking: a byte is put. -/
namespace Go.Proofs.YtglgchjkonjpiaaGreatDoor
open Go.RowKit Plain
set_option linter.unusedVariables false
section
variable {w0 : World} {Sb : Nat} {ba : Option Addr} {bn bc : Nat} {M : Int} {N : Nat} {bs : List Int}
def PutR (w0 : World) (Sb : Nat) (ba : Option Addr) (bn bc : Nat) (M : Int) (w : World) (p bad : Nat) (mv : Value) (made : List Int) (x : Nat) (e : Ending) (w' : World) : Prop :=
  e = .returned (.tuple #[]) ∧ ∃ (b' : Nat) (mv' : Value) (made' : List Int), RL w0 Sb ba bn bc M w' p b' mv' made' ∧ Turn Sb mv mv' w w' ∧ Tr bad (giveN M.toNat made (x : Int)) b' made'
set_option maxRecDepth 100000 in
set_option maxHeartbeats 4000000 in
theorem rput (HS : SrcW w0 ba bn M N bs) (w : World) (p bad : Nat) (mv : Value) (made : List Int) (H : RL w0 Sb ba bn bc M w p bad mv made) (x : Nat) (hx : x ≤ 255) :
    Calls Tryz.prog 30 #[.pointer (some ⟨Sb, 0, none⟩), .int .u8 (x : Int)] w (PutR w0 Sb ba bn bc M w p bad mv made x) := by
  have HO := Lib.hid H
  obtain ⟨hrs, hp, hmid, hO, hbel, hge, hlen, hr⟩ := H
  obtain ⟨va, vc, rfl, -, -, -⟩ := hmid.shape
  have HMID := Lib.hid hmid
  have HR := Lib.hid hr
  have HRS := Lib.hid hrs
  have hM := HS.most
  obtain ⟨n, hn⟩ : ∃ n, made.length = n := ⟨_, rfl⟩
  have HN := Lib.hid hn
  rw [hn] at hlen HMID HRS hO HO
  have hn9 : n ≤ 1000000000 := by omega
  have hsz := hbel.size
  clear hrs hr hmid hbel HS
  rw [hn]
  clear hn
  obtain ⟨c0, c1, c2, c3, c4⟩ := rs_cells HRS.out
  by_cases hb : bad = 0
  · subst hb
    by_cases hlt : (n : Int) < M
    · have hlti : ¬ M ≤ (n : Int) := by omega
      have HLT : Hid (n < M.toNat) := by show _ < _; omega
      clear hlen
      go_enter Tryz.func30, Tryz.ntmps30
      go_wp2_with fail
      go_quiet (fail)
      have HTd : Hid (Below w.heap.size w (w.drewN nq)) := ⟨rfl, rfl, rfl, Nat.le_refl _, fun _ _ => rfl⟩
      have HOd : Hid (RL w0 Sb ba bn bc M (w.drewN nq) p 0 (.slice va n vc) made) := HO.out.below (below_drewN w nq)
      have HHd : Hid (RS (w.drewN nq) Sb ba bn bc p (.slice va n vc) M 0) := HRS.out
      have HMd : Hid (Mid (w.drewN nq) w0.heap.size (.slice va n vc) n made) := HMID.out
      have hsz2 : w0.heap.size ≤ (w.drewN nq).heap.size := hsz
      clear c0 c1 c2 c3 c4
      generalize w.drewN nq = wz at *
      obtain ⟨c0, c1, c2, c3, c4⟩ := rs_cells HHd.out
      have HB4 : Hid (Below wz.heap.size wz (wz.alloc (.cells #[.int .u8 (x : Int)] 5))) := (Below.refl _ _).alloc (Nat.le_refl _) _
      have tok : True := trivial
      go_wp2_with (
        have _t := tok
        at_builtin
        refine wpList_append_mid rfl _ _ 22 rfl w0.heap.size (.slice va n vc) n made rfl (HMd.out.below HB4.out) _ 1 [(x : Int)] rfl (src_bytes (Bytes.lit wz wz.heap.size rfl [(x : Int)] 5 (0, 0) 1 rfl (by omega) (by intro y hy; simp at hy; omega))) (by omega) (by simp; omega) ?_
        intro v5 w5 hm5 hg5 ho5
        have HM5 := Lib.hid hm5
        have HG5 := Lib.hid hg5
        have HO5 := Lib.hid ho5
        clear tok hm5 hg5 ho5
        refine Hid.out ?_)
      refine unhid ?_
      have hnew := HOd.out.grow HB4.out HG5.out (v2 := v5) (m2 := made ++ [(x : Int)]) (by rw [List.length_append, HN.out]; exact HM5.out) HO5.out (by rw [List.length_append, HN.out]; have := HLT.out; simp; omega) (fun y hy => by
        rcases List.mem_append.1 hy with h | h
        · exact HR.out y h
        · rw [List.mem_singleton] at h; omega)
      obtain ⟨d5, e5, hv5, -⟩ := HM5.out.shape
      have hh5 : RS w5 Sb ba bn bc p (.slice va n vc) M 0 := hnew.1.trans HHd.out
      obtain ⟨k0, k1, k2, k3, k4⟩ := rs_cells hh5
      have kf := rs_free hh5 2
      subst hv5
      have HNW := Lib.hid hnew.2
      clear hnew hh5 c0 c1 c2 c3 c4
      go_wp2_with fail
      go_end0
      refine ⟨rfl, 0, _, _, HNW.out.1, HNW.out.2.after HTd.out, fun _ => .inl ⟨rfl, ?_⟩, fun h => absurd rfl h⟩
      unfold giveN
      rw [if_neg (by have := HLT.out; rw [HN.out]; omega)]
    · have hlti : M ≤ (n : Int) := by omega
      go_enter Tryz.func30, Tryz.ntmps30
      go_wp2_with fail
      go_quiet (fail)
      have HTd : Hid (Turn Sb (.slice va n vc) (.slice va n vc) w (w.drewN nq)) := (Turn.refl _ _ _).drewN nq
      have HOd : Hid (RL w0 Sb ba bn bc M (w.drewN nq) p 0 (.slice va n vc) made) := HO.out.below (below_drewN w nq)
      clear c0 c1 c2 c3 c4 HRS HMID HO
      generalize w.drewN nq = wz at *
      go_wp2_with fail
      refine (rstop wz p 0 (.slice va n vc) made 2 HOd.out).mono ?_
      rw [if_pos rfl]
      rintro e w2 ⟨rfl, h1, h2⟩
      have H1 := Lib.hid h1
      have H2 : Hid (Turn Sb (.slice va n vc) (.slice va n vc) w w2) := HTd.out.trans h2
      obtain ⟨c0, c1, c2, c3, c4⟩ := rs_cells h1.1
      clear h1 h2
      go_wp2_with fail
      go_end0
      refine ⟨rfl, 2, _, _, H1.out, H2.out, fun _ => .inr ⟨by omega, ?_⟩, fun h => absurd rfl h⟩
      unfold giveN
      rw [if_pos (by rw [HN.out]; omega)]
  · have hbi : ((bad : Int) == 0) = false := by simp; omega
    have hbj : ¬ ((bad : Int) = 0) := by omega
    go_enter Tryz.func30, Tryz.ntmps30
    go_wp2_with fail
    go_quiet (fail)
    have HTd : Hid (Turn Sb (.slice va n vc) (.slice va n vc) w (w.drewN nq)) := (Turn.refl _ _ _).drewN nq
    have HOd : Hid (RL w0 Sb ba bn bc M (w.drewN nq) p bad (.slice va n vc) made) := HO.out.below (below_drewN w nq)
    clear c0 c1 c2 c3 c4 HRS HMID HO
    generalize w.drewN nq = wz at *
    obtain ⟨c0, c1, c2, c3, c4⟩ := rs_cells HOd.out.1
    go_wp2_with fail
    go_end0
    exact ⟨rfl, bad, _, _, HOd.out, HTd.out, Tr.dead hb _ _⟩
end
end Go.Proofs.YtglgchjkonjpiaaGreatDoor
