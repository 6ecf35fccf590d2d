/- One block: the walk. -/
import Derived.Test.YtglgchjkonjpiaaGreatDoorOwn
import Derived.Test.YtglgchjkonjpiaaGreatDoorInfC
import Derived.Test.YtglgchjkonjpiaaGreatDoorBase
import Derived.Defers
import Derived.Recover
import Derived.Laws.Pointers
import Derived.BigQuiet
/-! One block: the walk. -/
namespace Go.Proofs.YtglgchjkonjpiaaGreatDoor
open Go.RowKit Plain
set_option linter.unusedVariables false
theorem signN_small {N L : Nat} {c : CodeS} (h : CodeOk c) : ∀ q s r, signN N L c q = .ok (s, r) → s ≤ 100000 := fun q s r hs => by
  obtain ⟨j, hj⟩ := signGo_mem _ _ _ _ _ _ _ _ _ _ _ hs
  rw [hj]; exact h.small j
theorem fixedSign_small {N L : Nat} : ∀ q s r, fixedSignN N L q = .ok (s, r) → s ≤ 100000 := fun q s r h => by
  unfold fixedSignN codeN at h
  cases hn : num N L q 7 with
  | error e => rw [hn] at h; cases h
  | ok v =>
    obtain ⟨x, z⟩ := v
    have hx := (rev7 x (num_ok hn).1).2.2
    rw [hn] at h
    simp only [] at h
    split at h
    · injection h with h; injection h with h _; omega
    · cases hn1 : num N L z 1 with
      | error e => rw [hn1] at h; cases h
      | ok v =>
        obtain ⟨b, z1⟩ := v
        have hb := (num_ok hn1).1
        rw [hn1] at h
        simp only [] at h
        split at h
        · injection h with h; injection h with h _; omega
        · split at h
          · injection h with h; injection h with h _; omega
          · cases hn2 : num N L z1 1 with
            | error e => rw [hn2] at h; cases h
            | ok v =>
              obtain ⟨c, z2⟩ := v
              have hc := (num_ok hn2).1
              rw [hn2] at h
              injection h with h; injection h with h _; omega
theorem fixedDist_small {N L : Nat} : ∀ q s r, fixedDistN N L q = .ok (s, r) → s ≤ 100000 := fun q s r h => by
  unfold fixedDistN codeN at h
  cases hn : num N L q 5 with
  | error e => rw [hn] at h; cases h
  | ok v =>
    obtain ⟨x, z⟩ := v
    have hx := (rev5 x (num_ok hn).1).2.2
    rw [hn] at h
    injection h with h; injection h with h _; omega
set_option maxRecDepth 100000 in
set_option maxHeartbeats 4000000 in
theorem block1_any {w0 : World} {Ob : Nat} {ba : Option Addr} {bn bc N most : Nat} {bs : List Int} (HS : SrcB w0 ba bn bc N most bs) (w : World) (p : Nat) (mv : Value) (made : List Int) (H : OutL 8 w0 Ob ba bn bc N most w p mv made) (Cb : Nat) (c : CodeS) (HC : CodeAt Ob w mv Cb c)
    (b2 b4 : Addr) (h2 : w.cell? b2 = some (.pointer (some ⟨Ob, 0, none⟩))) (h4 : w.cell? b4 = some (.pointer (some ⟨Cb, 0, none⟩))) :
    Calls Tryz.prog 91 #[.pointer (some b2), .pointer (some b4)] w (Got w0 Ob ba bn bc N most w mv made (signN N (8 * bn) c p)) := by
  have HDB : Hid (Below w.heap.size w w.drew) := (Below.refl _ _).drew
  have hsign := sign_any HS w.drew p mv made (H.below HDB.out) Cb c (HC.turn (Turn.of_below HDB.out))
  clear HS H HC
  go_enter Tryz.func91, Tryz.ntmps91
  go_wp2_with fail
  go_still_tail 4, (by kernel_rfl)
  change wpList _ _ _ _ _ w.drew
  generalize w.drew = wd at *
  go_wp2_with fail
  refine hsign.mono ?_
  intro e w2 hgot
  obtain ⟨x, q, hr, rfl, ht, ho⟩ | ⟨k, hr, rfl, ht⟩ := hgot.lift
  · have HR := Lib.hid hr
    have HT := Lib.hid (ht.after HDB.out)
    have HO := Lib.hid ho
    clear hsign hgot hr ht ho
    go_wp2_with fail
    go_ret
    exact ⟨HT.out, .inl ⟨x, q, HR.out, rfl, HO.out⟩⟩
  · have HR := Lib.hid hr
    have HT := Lib.hid (ht.after HDB.out)
    clear hsign hgot hr ht
    go_wp2_with fail
    exact ⟨rfl, HT.out, .inr ⟨k, HR.out, rfl⟩⟩
set_option maxRecDepth 100000 in
set_option maxHeartbeats 4000000 in
theorem block2_any {w0 : World} {Ob : Nat} {ba : Option Addr} {bn bc N most : Nat} {bs : List Int} (HS : SrcB w0 ba bn bc N most bs) (w : World) (p : Nat) (mv : Value) (made : List Int) (H : OutL 8 w0 Ob ba bn bc N most w p mv made) (Cb : Nat) (c : CodeS) (HC : CodeAt Ob w mv Cb c)
    (b2 b4 : Addr) (h2 : w.cell? b2 = some (.pointer (some ⟨Ob, 0, none⟩))) (h4 : w.cell? b4 = some (.pointer (some ⟨Cb, 0, none⟩))) :
    Calls Tryz.prog 93 #[.pointer (some b2), .pointer (some b4)] w (Got w0 Ob ba bn bc N most w mv made (signN N (8 * bn) c p)) := by
  have HDB : Hid (Below w.heap.size w w.drew) := (Below.refl _ _).drew
  have hsign := sign_any HS w.drew p mv made (H.below HDB.out) Cb c (HC.turn (Turn.of_below HDB.out))
  clear HS H HC
  go_enter Tryz.func93, Tryz.ntmps93
  go_wp2_with fail
  go_still_tail 4, (by kernel_rfl)
  change wpList _ _ _ _ _ w.drew
  generalize w.drew = wd at *
  go_wp2_with fail
  refine hsign.mono ?_
  intro e w2 hgot
  obtain ⟨x, q, hr, rfl, ht, ho⟩ | ⟨k, hr, rfl, ht⟩ := hgot.lift
  · have HR := Lib.hid hr
    have HT := Lib.hid (ht.after HDB.out)
    have HO := Lib.hid ho
    clear hsign hgot hr ht ho
    go_wp2_with fail
    go_ret
    exact ⟨HT.out, .inl ⟨x, q, HR.out, rfl, HO.out⟩⟩
  · have HR := Lib.hid hr
    have HT := Lib.hid (ht.after HDB.out)
    clear hsign hgot hr ht
    go_wp2_with fail
    exact ⟨rfl, HT.out, .inr ⟨k, HR.out, rfl⟩⟩
theorem Mad.lift {w0 : World} {Ob : Nat} {ba : Option Addr} {bn bc N most : Nat} {w w1 : World} {mv : Value} {r : Except Nat (Nat × List Int)} {e : Ending} {w' : World} (hb : Turn Ob mv mv w w1) (h : Mad w0 Ob ba bn bc N most w1 mv r e w') :
    (∃ q m mv', r = .ok (q, m) ∧ e = .returned (.tuple #[]) ∧ Turn Ob mv mv' w w' ∧ OutL 8 w0 Ob ba bn bc N most w' q mv' m) ∨ ∃ n, r = .error n ∧ e = .panicked [{ v := .iface 126 (.agg #[.int .i64 (n : Int)]), recovered := false }] ∧ ∃ mv', Turn Ob mv mv' w w' := by
  obtain ⟨q, m, mv', h1, h2, h3, h4⟩ | ⟨n, h1, h2, mv', h3⟩ := h
  · exact .inl ⟨q, m, mv', h1, h2, hb.trans h3, h4⟩
  · exact .inr ⟨n, h1, h2, mv', hb.trans h3⟩
set_option maxRecDepth 100000 in
set_option maxHeartbeats 8000000 in
theorem block_any {w0 : World} {Ob : Nat} {ba : Option Addr} {bn bc N most : Nat} {bs : List Int} (HS : SrcB w0 ba bn bc N most bs) (w : World) (p : Nat) (mv : Value) (made : List Int) (H : OutL 8 w0 Ob ba bn bc N most w p mv made) (kind : Nat) (hk : kind ≤ 3) :
    Calls Tryz.prog 68 #[.pointer (some ⟨Ob, 0, none⟩), .int .i64 (kind : Int)] w (Mad w0 Ob ba bn bc N most w mv (blockN bs N (8 * bn) most kind p made)) := by
  have HSS := Lib.hid HS
  have HO := Lib.hid H
  have HB1 : Hid (Below w.heap.size w (w.alloc (.cells #[.pointer (some ⟨Ob, 0, none⟩)] 129))) := (Below.refl _ _).alloc (Nat.le_refl _) _
  have hcb : (w.alloc (.cells #[.pointer (some ⟨Ob, 0, none⟩)] 129)).cell? ⟨w.heap.size, 0, none⟩ = some (.pointer (some ⟨Ob, 0, none⟩)) := (cell_row0 _ w.heap.size 0 _ _ _ (heap_alloc_new w _)).trans rfl
  have HCB := Lib.hid hcb
  have hOw := H.lt
  have HMV := Lib.hid H.mid
  have hmf : ∀ (fn : Fn) (first cap : Array Value) (w : World), (Instr.makeFunc fn first cap).run Tryz.prog w = .ok (.func fn first cap) w := fun _ _ _ _ => rfl
  have hst := stored_any HS (w.alloc (.cells #[.pointer (some ⟨Ob, 0, none⟩)] 129)) p mv made (H.below HB1.out)
  have hfx := signsFix_any HS (w.alloc (.cells #[.pointer (some ⟨Ob, 0, none⟩)] 129)) p mv made (H.below HB1.out) (fixedSignN N (8 * bn)) (fixedDistN N (8 * bn)) (adv_fixedSign _ _) (adv_fixedDist _ _) fixedSign_small fixedDist_small (fun W q mv' m _ h => fixedSign_any HS W q mv' m h) (fun W q mv' m _ h => fixedDist_any HS W q mv' m h)
  have hoc := ownCodes_any HS (w.alloc (.cells #[.pointer (some ⟨Ob, 0, none⟩)] 129)) p mv made (H.below HB1.out)
  clear HS H hcb
  go_enter Tryz.func68, Tryz.ntmps68
  have hc : kind = 0 ∨ kind = 1 ∨ kind = 2 ∨ kind = 3 := by omega
  rcases hc with rfl | rfl | rfl | rfl
  · clear hfx hoc
    have HR0 : Hid (blockN bs N (8 * bn) most 0 p made = storedN bs N (8 * bn) most p made) := by show _ = _; unfold blockN; exact if_pos rfl
    go_wp2_with fail
    refine hst.mono ?_
    intro e w2 hgot
    obtain ⟨q, m, mv', hr, rfl, ht, ho⟩ | ⟨k, hr, rfl, mv', ht⟩ := Mad.lift (Turn.of_below HB1.out) hgot
    · have HR := Lib.hid (HR0.out.trans hr)
      have HT := Lib.hid ht
      have HO2 := Lib.hid ho
      clear hst hgot hr ht ho
      go_wp2_with fail
      go_end0
      exact .inl ⟨q, m, mv', HR.out, rfl, HT.out, HO2.out⟩
    · have HR := Lib.hid (HR0.out.trans hr)
      have HT := Lib.hid ht
      clear hst hgot hr ht
      go_wp2_with fail
      exact ⟨rfl, .inr ⟨k, HR.out, rfl, mv', HT.out⟩⟩
  · clear hst hoc
    have HR0 : Hid (blockN bs N (8 * bn) most 1 p made = signsN N (8 * bn) most (fixedSignN N (8 * bn)) (fixedDistN N (8 * bn)) p made) := by show _ = _; unfold blockN; rw [if_neg (by omega), if_pos rfl]
    go_wp2_with fail
    refine hfx.mono ?_
    intro e w2 hgot
    obtain ⟨q, m, mv', hr, rfl, ht, ho⟩ | ⟨k, hr, rfl, mv', ht⟩ := Mad.lift (Turn.of_below HB1.out) hgot
    · have HR := Lib.hid (HR0.out.trans hr)
      have HT := Lib.hid ht
      have HO2 := Lib.hid ho
      clear hfx hgot hr ht ho
      go_wp2_with fail
      go_end0
      exact .inl ⟨q, m, mv', HR.out, rfl, HT.out, HO2.out⟩
    · have HR := Lib.hid (HR0.out.trans hr)
      have HT := Lib.hid ht
      clear hfx hgot hr ht
      go_wp2_with fail
      exact ⟨rfl, .inr ⟨k, HR.out, rfl, mv', HT.out⟩⟩
  · clear hst hfx
    go_wp2_with fail
    refine hoc.mono ?_
    intro e w2 hgot
    obtain ⟨q, c, d, Cb, Db, hr, rfl, ht, ho, hca, hcb⟩ | ⟨k, hr, rfl, ht⟩ := hgot
    · have HR := Lib.hid hr
      have HT := Lib.hid ht
      have HO2 := Lib.hid ho
      have HCA := Lib.hid hca
      have HDB := Lib.hid hcb
      have hmw : mv.ownBlock ≠ some w.heap.size := fun e => Nat.lt_irrefl _ (HMV.out _ e)
      have hmw2 : ∀ k, w2.heap.size ≤ k → mv.ownBlock ≠ some k := fun k hk e => by
        have h1 := HMV.out _ e
        have h2 := ht.size
        rw [World.size_alloc] at h2
        omega
      have hO2 : Ob < w2.heap.size := ho.lt
      have hb2 : w2.cell? ⟨w.heap.size, 0, none⟩ = some (.pointer (some ⟨Ob, 0, none⟩)) := ht.keeps HCB.out (by omega) hmw
      have HB3 : Hid (Below w2.heap.size w2 ((w2.alloc (.cells #[.pointer (some ⟨Cb, 0, none⟩)] 131)).alloc (.cells #[.pointer (some ⟨Db, 0, none⟩)] 131))) := ((Below.refl _ _).alloc (Nat.le_refl _) _).alloc (by rw [World.size_alloc]; omega) _
      have hb3 : ((w2.alloc (.cells #[.pointer (some ⟨Cb, 0, none⟩)] 131)).alloc (.cells #[.pointer (some ⟨Db, 0, none⟩)] 131)).cell? ⟨w.heap.size, 0, none⟩ = some (.pointer (some ⟨Ob, 0, none⟩)) := (HB3.out.cell (p := ⟨w.heap.size, 0, none⟩) (World.block_lt_of_cell? _ _ hb2)).trans hb2
      have hb4 : ((w2.alloc (.cells #[.pointer (some ⟨Cb, 0, none⟩)] 131)).alloc (.cells #[.pointer (some ⟨Db, 0, none⟩)] 131)).cell? ⟨w2.heap.size, 0, none⟩ = some (.pointer (some ⟨Cb, 0, none⟩)) := (cell_row0 _ w2.heap.size 0 _ _ _ ((((Below.refl _ (w2.alloc (.cells #[.pointer (some ⟨Cb, 0, none⟩)] 131))).alloc (Nat.le_refl _) _).block w2.heap.size (by rw [World.size_alloc]; omega)).trans (heap_alloc_new w2 _))).trans rfl
      have hb5 : ((w2.alloc (.cells #[.pointer (some ⟨Cb, 0, none⟩)] 131)).alloc (.cells #[.pointer (some ⟨Db, 0, none⟩)] 131)).cell? ⟨w2.heap.size + 1, 0, none⟩ = some (.pointer (some ⟨Db, 0, none⟩)) := (cell_row0 _ (w2.heap.size + 1) 0 _ _ _ ((by rw [← World.size_alloc w2 (.cells #[.pointer (some ⟨Cb, 0, none⟩)] 131)]; exact heap_alloc_new _ _ : _ = some (Obj.cells #[.pointer (some ⟨Db, 0, none⟩)] 131 (0, 0))))).trans rfl
      have HC3 := Lib.hid (hca.turn (Turn.of_below HB3.out))
      have HD3 := Lib.hid (hcb.turn (Turn.of_below HB3.out))
      have hso := signsOwn_any HSS.out _ q mv made (ho.below HB3.out) ⟨w.heap.size, 0, none⟩ ⟨w2.heap.size, 0, none⟩ ⟨w2.heap.size + 1, 0, none⟩ (signN N (8 * bn) c) (signN N (8 * bn) d) (adv_sign _ _ _) (adv_sign _ _ _) (signN_small hca.ok) (signN_small hcb.ok)
        (fun W q' mv' m ht' h => block1_any HSS.out W q' mv' m h Cb c (HC3.out.turn ht') _ _ (ht'.keeps hb3 (by omega) hmw) (ht'.keeps hb4 (by omega) (hmw2 _ (Nat.le_refl _))))
        (fun W q' mv' m ht' h => block2_any HSS.out W q' mv' m h Db d (HD3.out.turn ht') _ _ (ht'.keeps hb3 (by omega) hmw) (ht'.keeps hb5 (by omega) (hmw2 _ (Nat.le_succ _))))
      have HR1 : Hid (blockN bs N (8 * bn) most 2 p made = signsN N (8 * bn) most (signN N (8 * bn) c) (signN N (8 * bn) d) q made) := by show _ = _; unfold blockN; rw [if_neg (by omega), if_neg (by omega), if_pos rfl, hr]
      have HTW := Lib.hid (((Turn.of_below HB1.out).trans ht).trans (Turn.of_below HB3.out))
      clear hoc hr ht ho hca hcb hb2 hb4 hb5 hmw hmw2
      go_wp2_with fail
      refine hso.mono ?_
      intro e w4 hgot
      obtain ⟨q', m, mv', hr, rfl, ht, ho⟩ | ⟨k, hr, rfl, mv', ht⟩ := hgot
      · have HRR := Lib.hid (HR1.out.trans hr)
        have HT4 := Lib.hid (HTW.out.trans ht)
        have HO4 := Lib.hid ho
        clear hso hr ht ho
        go_wp2_with fail
        go_end0
        exact .inl ⟨q', m, mv', HRR.out, rfl, HT4.out, HO4.out⟩
      · have HRR := Lib.hid (HR1.out.trans hr)
        have HT4 := Lib.hid (HTW.out.trans ht)
        clear hso hr ht
        go_wp2_with fail
        exact ⟨rfl, .inr ⟨k, HRR.out, rfl, mv', HT4.out⟩⟩
    · have HR : Hid (blockN bs N (8 * bn) most 2 p made = .error k) := by show _ = _; unfold blockN; rw [if_neg (by omega), if_neg (by omega), if_pos rfl, hr]
      have HT := Lib.hid ((Turn.of_below HB1.out).trans ht)
      clear hoc hr ht
      go_wp2_with fail
      exact ⟨rfl, .inr ⟨k, HR.out, rfl, mv, HT.out⟩⟩
  · clear hst hfx hoc
    have HR0 : Hid (blockN bs N (8 * bn) most 3 p made = .error 4) := by show _ = _; unfold blockN; rw [if_neg (by omega), if_neg (by omega), if_neg (by omega)]
    go_wp2_with fail
    refine (with_any 4 _).mono ?_
    rintro e w7 ⟨rfl, rfl⟩
    dsimp only [thrown]
    go_wp2_with fail
    exact ⟨rfl, .inr ⟨4, HR0.out, rfl, mv, Turn.of_below HB1.out⟩⟩
end Go.Proofs.YtglgchjkonjpiaaGreatDoor
/-! The steps of Raw: block after block. -/
namespace Go.Proofs.YtglgchjkonjpiaaGreatDoor
open Go.RowKit Plain
set_option linter.unusedVariables false
set_option maxRecDepth 100000 in
set_option maxHeartbeats 4000000 in
theorem rawSteps_any {w0 : World} {Ob : Nat} {ba : Option Addr} {bc N most : Nat} {bs : List Int} (HS : SrcB w0 ba bs.length bc N most bs) (w : World) (p : Nat) (mv : Value) (made : List Int) (H : OutL 8 w0 Ob ba bs.length bc N most w p mv made) :
    Calls Tryz.prog 66 #[.pointer (some ⟨Ob, 0, none⟩)] w (Mad w0 Ob ba bs.length bc N most w mv (rawAt bs N most p made)) := by
  have HSS := Lib.hid HS
  have HO := Lib.hid H
  clear HS H
  go_enter Tryz.func66, Tryz.ntmps66
  go_wp2_with fail
  go_loopw [1] (fun v wr => ∃ (l q : Nat) (m : List Int) (mv' : Value), v = .int .i64 (l : Int) ∧ l ≤ 1 ∧ OutL 8 w0 Ob ba bs.length bc N most wr q mv' m ∧ Turn Ob mv mv' w wr ∧ rawAt bs N most p made = (if l = 0 then rawAt bs N most q m else .ok (q, m))) (fun _ wr => 8 * bs.length + 1 - posB Ob wr)
  case atStart => exact ⟨0, p, made, mv, rfl, by omega, HO.out, Turn.refl _ _ _, rfl⟩
  case round =>
    obtain ⟨l, q, m, mv1, rfl, hl, ho, ht, hs⟩ := hrel
    have HO1 := Lib.hid ho
    have HT1 := Lib.hid ht
    have hq8 := ho.pos
    have hpB := posB_of ho
    have HPB := Lib.hid hpB
    have HS1 := Lib.hid hs
    clear ho ht hs HO hpB
    have hl2 : l = 0 ∨ l = 1 := by omega
    rcases hl2 with rfl | rfl
    · have hstep : Hid (rawAt bs N most p made = contR (rawAt bs N most) (stepR bs N (8 * bs.length) most q m)) := by
        show _ = _
        rw [HS1.out, if_pos rfl, rawAt_step hq8]
      have hcall := one_any HSS.out wr q mv1 m HO1.out
      clear HS1
      go_wp2_with fail
      refine hcall.mono ?_
      intro e w2 hgot
      obtain ⟨last, r, hr, rfl, ht, ho⟩ | ⟨k, hr, rfl, ht⟩ := hgot.lift
      · have h1 := num_ok hr
        have HR := Lib.hid hr
        have HO2 := Lib.hid ho
        have HT2 := Lib.hid (HT1.out.trans ht)
        have hnum := number_any HSS.out w2 r mv1 m ho 2 (by omega)
        clear hcall hgot hr ht ho
        go_wp2_with fail
        refine hnum.mono ?_
        intro e w3 hgot
        obtain ⟨kind, s, hr, rfl, ht, ho⟩ | ⟨k, hr, rfl, ht⟩ := hgot.lift
        · have h2 := num_ok hr
          have HR2 := Lib.hid hr
          have HO3 := Lib.hid ho
          have HT3 := Lib.hid (HT2.out.trans ht)
          have hblk := block_any HSS.out w3 s mv1 m ho kind (by omega)
          clear hnum hgot hr ht ho
          go_wp2_with fail
          refine hblk.mono ?_
          intro e w4 hgot
          obtain ⟨t, m2, mv2, hr, rfl, ht, ho⟩ | ⟨k, hr, rfl, mv2, ht⟩ := hgot
          · have hadv := adv_block h2.2.2 hr
            have HRR : Hid (rawAt bs N most p made = if last = 0 then rawAt bs N most t m2 else .ok (t, m2)) := by
              show _ = _
              rw [hstep.out, stepR, HR.out]
              simp only []
              rw [HR2.out]
              simp only []
              rw [hr]; rfl
            have HO4 := Lib.hid ho
            have HT4 := Lib.hid (HT3.out.trans ht)
            have HPB4 := Lib.hid (posB_of ho)
            clear hblk hr ht ho
            go_wp2_with fail
            exact ⟨⟨last, t, m2, mv2, rfl, by omega, HO4.out, HT4.out, HRR.out⟩, by rw [HPB4.out, HPB.out]; omega⟩
          · have HRR : Hid (rawAt bs N most p made = .error k) := by
              show _ = _
              rw [hstep.out, stepR, HR.out]
              simp only []
              rw [HR2.out]
              simp only []
              rw [hr]; rfl
            have HT4 := Lib.hid (HT3.out.trans ht)
            clear hblk hr ht
            go_wp2_with fail
            exact ⟨rfl, .inr ⟨k, HRR.out, rfl, mv2, HT4.out⟩⟩
        · have HRR : Hid (rawAt bs N most p made = .error k) := by
            show _ = _
            rw [hstep.out, stepR, HR.out]
            simp only []
            rw [hr]; rfl
          have HT3 := Lib.hid (HT2.out.trans ht)
          clear hnum hgot hr ht
          go_wp2_with fail
          exact ⟨rfl, .inr ⟨k, HRR.out, rfl, mv1, HT3.out⟩⟩
      · have HRR : Hid (rawAt bs N most p made = .error k) := by
          show _ = _
          rw [hstep.out, stepR, hr]; rfl
        have HT2 := Lib.hid (HT1.out.trans ht)
        clear hcall hgot hr ht
        go_wp2_with fail
        exact ⟨rfl, .inr ⟨k, HRR.out, rfl, mv1, HT2.out⟩⟩
    · have hres : Hid (rawAt bs N most p made = .ok (q, m)) := HS1.out.trans (if_neg (by omega))
      clear HS1
      go_wp2_with fail
      go_end0
      exact .inl ⟨q, m, mv1, hres.out, rfl, HT1.out, HO1.out⟩
end Go.Proofs.YtglgchjkonjpiaaGreatDoor
/-! halt.Run: what its deferred closure does, in both ways. -/
namespace Go.Proofs.YtglgchjkonjpiaaGreatDoor
open Go.RowKit
set_option linter.unusedVariables false
set_option maxRecDepth 100000 in
theorem catch_idle (p : Addr) (w : World) :
    CallsD Tryz.prog 85 #[.pointer (some p)] .returning w fun e u' w' => e = .returned (.tuple #[]) ∧ u' = .returning ∧ w' = w := by
  refine callsD_of_wpS Tryz.func85 rfl fun c₀ cs hu => ?_
  apply wpS_seq
  apply wpS_region
  simp only [Tryz.ntmps85, List.size_toArray, List.length_cons, List.length_nil, Nat.reduceAdd, Nat.reduceSub, Array.replicate_succ, Array.replicate_zero, List.push_toArray, List.append_toArray, List.nil_append, List.cons_append]
  generalize hN : Code.wpS Tryz.prog _ _ = next
  simp [wpOpsS, go_sem, recoverD, hu, Exit.thenS]
  rw [← hN]
  clear hN
  refine wpS_of_wp ?_
  go_wp2_with fail
  have hr : ∀ t : Array Value, (results Tryz.f85 t).run Tryz.prog w = .ok (.tuple #[]) w := fun t => results_none rfl _ _ _
  exact ⟨rfl, .returning, by rw [← hu], _, hr _, rfl, rfl, rfl⟩
set_option maxRecDepth 100000 in
theorem catch_fault (p : Nat) (old k : Nat) (older : List PanicEntry) (w : World) (hh : w.heap[p]? = some (.cells #[.int .i64 (old : Int)] 24 (0, 0))) :
    CallsD Tryz.prog 85 #[.pointer (some ⟨p, 0, none⟩)] (.panicking ({ v := .iface 126 (.agg #[.int .i64 (k : Int)]), recovered := false } :: older)) w fun e u' w' =>
      e = .returned (.tuple #[]) ∧ u' = .panicking ({ v := .iface 126 (.agg #[.int .i64 (k : Int)]), recovered := true } :: older) ∧ w' = (w.alloc (.cells #[.int .i64 (k : Int)] 126)).setCell ⟨p, 0, none⟩ (.int .i64 (k : Int)) := by
  have hta : ∀ w : World, (Instr.typeAssert (.iface 126 (.agg #[.int .i64 (k : Int)])) 20 126 true).run Tryz.prog w = .ok (.tuple #[.agg #[.int .i64 (k : Int)], .bool true]) w := fun _ => rfl
  have h3 : (w.alloc (.cells #[.int .i64 (k : Int)] 126)).heap[p]? = some (.cells #[.int .i64 (old : Int)] 24 (0, 0)) := (((Below.refl _ w).alloc (Nat.le_refl _) _).block p (Array.getElem?_eq_some_iff.1 hh).1).trans hh
  have hc : (w.alloc (.cells #[.int .i64 (k : Int)] 126)).cell? ⟨p, 0, none⟩ = some (.int .i64 (old : Int)) := by rw [cell_row0 _ _ _ _ _ _ h3]; rfl
  have hz : (w.alloc (.cells #[.int .i64 (k : Int)] 126)).frozen? ⟨p, 0, none⟩ = false := by simp [World.frozen?, h3]
  clear h3 hh
  refine callsD_of_wpS Tryz.func85 rfl fun c₀ cs hu => ?_
  apply wpS_seq
  apply wpS_region
  simp only [Tryz.ntmps85, List.size_toArray, List.length_cons, List.length_nil, Nat.reduceAdd, Nat.reduceSub, Array.replicate_succ, Array.replicate_zero, List.push_toArray, List.append_toArray, List.nil_append, List.cons_append]
  generalize hN : Code.wpS Tryz.prog _ _ = next
  simp [wpOpsS, go_sem, recoverD, hu, Exit.thenS]
  rw [← hN]
  clear hN
  refine wpS_of_wp ?_
  go_wp2_with fail
  have hr : ∀ (t : Array Value) (w : World), (results Tryz.f85 t).run Tryz.prog w = .ok (.tuple #[]) w := fun t _ => results_none rfl _ _ _
  exact ⟨rfl, _, rfl, _, hr _ _, rfl, rfl, rfl⟩
end Go.Proofs.YtglgchjkonjpiaaGreatDoor
/-! halt.Run over Raw's steps. -/
namespace Go.Proofs.YtglgchjkonjpiaaGreatDoor
open Go.RowKit Plain
set_option linter.unusedVariables false
theorem Turn.store {Ob : Nat} {mv mv' : Value} {w w' : World} (h : Turn Ob mv mv' w w') (Lb i : Nat) (v : Value) (hl : w.heap.size ≤ Lb) : Turn Ob mv mv' w (w'.setCell ⟨Lb, i, none⟩ v) :=
  ⟨h.os, h.tape, h.output, by rw [World.size_setCell]; exact h.size, fun k hk h1 h2 => (Below.heap_setCell w' _ v k (by show k ≠ Lb; omega)).trans (h.block k hk h1 h2), h.row⟩
/-- What Run tells. -/
def RunP (w0 : World) (Ob : Nat) (ba : Option Addr) (bn bc N most : Nat) (w : World) (mv : Value) (r : Except Nat (Nat × List Int)) (e : Ending) (w' : World) : Prop :=
  (∃ q m mv', r = .ok (q, m) ∧ e = .returned (.int .i64 0) ∧ Turn Ob mv mv' w w' ∧ OutL 8 w0 Ob ba bn bc N most w' q mv' m) ∨ ∃ n, r = .error n ∧ e = .returned (.int .i64 (n : Int)) ∧ ∃ mv', Turn Ob mv mv' w w'
set_option maxRecDepth 100000 in
set_option maxHeartbeats 4000000 in
theorem run_any {w0 : World} {Ob : Nat} {ba : Option Addr} {bc N most : Nat} {bs : List Int} (HS : SrcB w0 ba bs.length bc N most bs) (w : World) (p : Nat) (mv : Value) (made : List Int) (H : OutL 8 w0 Ob ba bs.length bc N most w p mv made) :
    Calls Tryz.prog 65 #[.func (.func 66) #[] #[.pointer (some ⟨Ob, 0, none⟩)]] w (RunP w0 Ob ba bs.length bc N most w mv (rawAt bs N most p made)) := by
  have HB1 : Hid (Below w.heap.size w (w.alloc (.cells #[.int .i64 0] 24))) := (Below.refl _ _).alloc (Nat.le_refl _) _
  have HNEW : Hid ((w.alloc (.cells #[.int .i64 0] 24)).heap[w.heap.size]? = some (.cells #[.int .i64 0] 24 (0, 0))) := heap_alloc_new w _
  have hst := rawSteps_any HS (w.alloc (.cells #[.int .i64 0] 24)) p mv made (H.below HB1.out)
  have hOw := H.lt
  have hw0 : w0.heap.size ≤ w.heap.size := by
    obtain ⟨_, _, _, _, _, _, _, _, _, _, hb, _⟩ := H
    exact hb.size
  have HMV := Lib.hid H.mid
  have hmf : ∀ (fn : Fn) (first cap : Array Value) (w : World), (Instr.makeFunc fn first cap).run Tryz.prog w = .ok (.func fn first cap) w := fun _ _ _ _ => rfl
  clear HS H
  go_enter_defers Tryz.func65, Tryz.ntmps65
  go_wp2_with fail
  refine hst.mono ?_
  intro e w2 hgot
  obtain ⟨q, m, mv', hr, rfl, ht, ho⟩ | ⟨k, hr, rfl, mv', ht⟩ := hgot
  · have hmw : mv.ownBlock ≠ some w.heap.size := fun e => Nat.lt_irrefl _ (HMV.out _ e)
    have hsz : w.heap.size < (w.alloc (.cells #[.int .i64 0] 24)).heap.size := by rw [World.size_alloc]; omega
    have hL : w2.heap[w.heap.size]? = some (.cells #[.int .i64 0] 24 (0, 0)) := (ht.block _ hsz (by omega) hmw).trans HNEW.out
    have hmv : mv'.ownBlock ≠ some w.heap.size := fun e => by
      rcases ht.row _ e with h | h
      · exact hmw h
      · omega
    have hc : w2.cell? ⟨w.heap.size, 0, none⟩ = some (.int .i64 0) := by rw [cell_row0 _ _ _ _ _ _ hL]; rfl
    have hz : w2.frozen? ⟨w.heap.size, 0, none⟩ = false := by simp [World.frozen?, hL]
    have HC3 : Hid ((w2.setCell ⟨w.heap.size, 0, none⟩ (.int .i64 0)).cell? ⟨w.heap.size, 0, none⟩ = some (.int .i64 0)) := World.cell?_setCell_same _ _ _ hc
    have HR := Lib.hid hr
    have HT := Lib.hid (((Turn.of_below HB1.out).trans ht).store w.heap.size 0 (.int .i64 0) (Nat.le_refl _))
    have HO := Lib.hid (ho.store w.heap.size 0 (.int .i64 0) (by omega) hmv hw0)
    clear hst hr ht ho hL
    go_wp2_with fail
    refine leaves_cons (f := 85) (args := #[.pointer (some ⟨w.heap.size, 0, none⟩)]) (by simp) (by simp [go_sem]) ?_
    refine (catch_idle ⟨w.heap.size, 0, none⟩ _).mono ?_
    rintro e u' w'' ⟨rfl, rfl, rfl⟩
    refine ⟨.int .i64 0, ?_, ?_⟩
    · simp [results, Tryz.results65, go_sem, HC3.out]
    · exact .inl ⟨q, m, mv', HR.out, rfl, HT.out, HO.out⟩
  · have hmw : mv.ownBlock ≠ some w.heap.size := fun e => Nat.lt_irrefl _ (HMV.out _ e)
    have hsz : w.heap.size < (w.alloc (.cells #[.int .i64 0] 24)).heap.size := by rw [World.size_alloc]; omega
    have hL : w2.heap[w.heap.size]? = some (.cells #[.int .i64 0] 24 (0, 0)) := (ht.block _ hsz (by omega) hmw).trans HNEW.out
    have hcatch := catch_fault w.heap.size 0 k [] w2 hL
    have HR := Lib.hid hr
    have HT := Lib.hid (((Turn.of_below HB1.out).trans ht).trans (Turn.of_below ((Below.refl _ w2).alloc (Nat.le_refl _) (.cells #[.int .i64 (k : Int)] 126))))
    have h3 : (w2.alloc (.cells #[.int .i64 (k : Int)] 126)).cell? ⟨w.heap.size, 0, none⟩ = some (.int .i64 0) := by
      rw [cell_row0 _ _ _ _ _ _ ((((Below.refl _ w2).alloc (Nat.le_refl _) _).block _ (Array.getElem?_eq_some_iff.1 hL).1).trans hL)]; rfl
    have HC3 : Hid (((w2.alloc (.cells #[.int .i64 (k : Int)] 126)).setCell ⟨w.heap.size, 0, none⟩ (.int .i64 (k : Int))).cell? ⟨w.heap.size, 0, none⟩ = some (.int .i64 (k : Int))) := World.cell?_setCell_same _ _ _ h3
    have HT3 := Lib.hid (HT.out.store w.heap.size 0 (.int .i64 (k : Int)) (Nat.le_refl _))
    clear hst hr ht h3
    go_wp2_with fail
    refine leaves_cons (f := 85) (args := #[.pointer (some ⟨w.heap.size, 0, none⟩)]) (by simp) (by simp [go_sem]) ?_
    refine hcatch.mono ?_
    rintro e u' w'' ⟨rfl, rfl, rfl⟩
    refine ⟨.int .i64 (k : Int), ?_, ?_⟩
    · simp [results, Tryz.results65, go_sem, HC3.out]
    · exact .inr ⟨k, HR.out, rfl, mv', HT3.out⟩
end Go.Proofs.YtglgchjkonjpiaaGreatDoor
/-! inflate.Raw. -/
namespace Go.Proofs.YtglgchjkonjpiaaGreatDoor
open Go.RowKit Plain
set_option linter.unusedVariables false
/-- What Raw tells. -/
def RawP (w : World) (most : Nat) (bs : List Int) (e : Ending) (w' : World) : Prop :=
  (∃ q m mv, rawOf bs most = .ok (q, m) ∧ e = .returned (.tuple #[mv, .int .i64 (((q + 7) / 8 : Nat) : Int), .int .i64 0]) ∧ Mid w' w.heap.size mv m.length m ∧ m.length ≤ most ∧ (∀ x ∈ m, 0 ≤ x ∧ x ≤ 255) ∧ Below w.heap.size w w') ∨
    ∃ k, rawOf bs most = .error k ∧ e = .returned (.tuple #[.slice none 0 0, .int .i64 0, .int .i64 (k : Int)]) ∧ Below w.heap.size w w'
theorem start_out (w : World) (ba : Option Addr) (bn bc N most : Nat) : OutL 8 w w.heap.size ba bn bc N most (w.alloc (.cells (cellsO ba bn bc 0 0 0 (.slice none 0 0) most) 104)) 0 (.slice none 0 0) [] :=
  ⟨0, 0, 0, heap_alloc_new w _, rfl, by omega, Nat.zero_le _, (Nat.mod_one _).symm, Mid.nil _ _, by simp [Value.ownBlock], (Below.refl _ _).alloc (Nat.le_refl _) _, Nat.le_refl _, Nat.zero_le _, by simp⟩
theorem Turn.whole {mv : Value} {w w' : World} {v : Obj} (h : Turn w.heap.size (.slice none 0 0) mv (w.alloc v) w') : Below w.heap.size w w' :=
  ⟨h.os, h.tape, h.output, by have := h.size; rw [World.size_alloc] at this; omega, fun k hk => (h.block k (by rw [World.size_alloc]; omega) (by omega) (by simp [Value.ownBlock])).trans (((Below.refl _ w).alloc (Nat.le_refl _) v).block k hk)⟩
theorem RawP.drewN {w w' : World} {most : Nat} {bs : List Int} {e : Ending} (h : RawP w most bs e w') (n : Nat) : RawP w most bs e (w'.drewN n) := by
  obtain ⟨q, m, mv, h1, h2, h3, h4, h5, h6⟩ | ⟨k, h1, h2, h3⟩ := h
  · exact .inl ⟨q, m, mv, h1, h2, h3, h4, h5, ⟨h6.os, h6.tape, h6.output, h6.size, h6.block⟩⟩
  · exact .inr ⟨k, h1, h2, ⟨h3.os, h3.tape, h3.output, h3.size, h3.block⟩⟩
set_option maxRecDepth 100000 in
set_option maxHeartbeats 4000000 in
theorem raw_any (w : World) (ba : Option Addr) (bc : Nat) (M : Int) (most : Nat) (bs : List Int) (HS : SrcB w ba bs.length bc (streamN bs) most bs) (hM : most = M.toNat) :
    Calls Tryz.prog 43 #[.slice ba bs.length bc, .int .i64 M] w (RawP w most bs) := by
  have hrun0 := run_any HS _ 0 _ _ (start_out w ba bs.length bc (streamN bs) most)
  have hmf : ∀ (fn : Fn) (first cap : Array Value) (w : World), (Instr.makeFunc fn first cap).run Tryz.prog w = .ok (.func fn first cap) w := fun _ _ _ _ => rfl
  have hM2 : Hid (∀ mm : Int, mm = (most : Int) → Calls Tryz.prog 65 #[.func (.func 66) #[] #[.pointer (some ⟨w.heap.size, 0, none⟩)]] (w.alloc (.cells #[.slice ba bs.length bc, .int .i64 0, .int .u64 0, .int .i64 0, .slice none 0 0, .int .i64 mm] 104)) (RunP w w.heap.size ba bs.length bc (streamN bs) most (w.alloc (.cells (cellsO ba bs.length bc 0 0 0 (.slice none 0 0) most) 104)) (.slice none 0 0) (rawOf bs most))) := fun mm e => by subst e; exact hrun0
  clear hrun0 HS
  have HM := Lib.hid hM
  clear hM
  go_enter Tryz.func43, Tryz.ntmps43
  by_cases hM0 : 0 ≤ M
  · have hrun := hM2.out M (by rw [HM.out]; omega)
    go_wp2_with fail
    refine hrun.mono ?_
    intro e w2 hgot
    obtain ⟨q, m, mv', hr, rfl, ht, ho⟩ | ⟨k, hr, rfl, mv', ht⟩ := hgot
    · obtain ⟨at_, held, left, hh, h1, h2, h3, -, hmid, -, hbel, -, hlen, hran⟩ := ho
      have hat : at_ = (q + 7) / 8 := by omega
      obtain ⟨va, vc, hv, -⟩ := hmid.shape
      subst hv
      have hcs := raw_cells hh
      obtain ⟨c0, c1, c2, c3, c4, c5⟩ := hcs
      have HRR : Hid (RawP w most bs (.returned (.tuple #[.slice va m.length vc, .int .i64 (at_ : Int), .int .i64 0])) w2) := .inl ⟨q, m, _, hr, by rw [hat], hmid, hlen, hran, ht.whole⟩
      clear hrun hr ht hh h1 h2 h3 hmid hbel hlen hran hat c0 c2 c3 c5
      go_wp2_with fail
      go_quiet (fail)
      have HRd := Lib.hid (HRR.out.drewN nq)
      go_wp2_with fail
      go_ret3
      exact HRd.out
    · have hk := nz_raw hr
      have hki : ¬ ((k : Int) = 0) := by omega
      have hkb : ((k : Int) == 0) = false := by simp; omega
      have hkc : ((k : Int) != 0) = true := by simp; omega
      have HRR : Hid (RawP w most bs (.returned (.tuple #[.slice none 0 0, .int .i64 0, .int .i64 (k : Int)])) w2) := .inr ⟨k, hr, rfl, ht.whole⟩
      clear hrun hr ht hk
      go_wp2_with fail
      go_ret3
      exact HRR.out
  · have hrun := hM2.out 0 (by rw [HM.out]; omega)
    have hM1 : M < 0 := by omega
    go_wp2_with fail
    refine hrun.mono ?_
    intro e w2 hgot
    obtain ⟨q, m, mv', hr, rfl, ht, ho⟩ | ⟨k, hr, rfl, mv', ht⟩ := hgot
    · obtain ⟨at_, held, left, hh, h1, h2, h3, -, hmid, -, hbel, -, hlen, hran⟩ := ho
      have hat : at_ = (q + 7) / 8 := by omega
      obtain ⟨va, vc, hv, -⟩ := hmid.shape
      subst hv
      have hcs := raw_cells hh
      obtain ⟨c0, c1, c2, c3, c4, c5⟩ := hcs
      have HRR : Hid (RawP w most bs (.returned (.tuple #[.slice va m.length vc, .int .i64 (at_ : Int), .int .i64 0])) w2) := .inl ⟨q, m, _, hr, by rw [hat], hmid, hlen, hran, ht.whole⟩
      clear hrun hr ht hh h1 h2 h3 hmid hbel hlen hran hat c0 c2 c3 c5
      go_wp2_with fail
      go_quiet (fail)
      have HRd := Lib.hid (HRR.out.drewN nq)
      go_wp2_with fail
      go_ret3
      exact HRd.out
    · have hk := nz_raw hr
      have hki : ¬ ((k : Int) = 0) := by omega
      have hkb : ((k : Int) == 0) = false := by simp; omega
      have hkc : ((k : Int) != 0) = true := by simp; omega
      have HRR : Hid (RawP w most bs (.returned (.tuple #[.slice none 0 0, .int .i64 0, .int .i64 (k : Int)])) w2) := .inr ⟨k, hr, rfl, ht.whole⟩
      clear hrun hr ht hk
      go_wp2_with fail
      go_ret3
      exact HRR.out
end Go.Proofs.YtglgchjkonjpiaaGreatDoor
/-! Rows of bytes that are handed on; Raw over them. -/
namespace Go.Proofs.YtglgchjkonjpiaaGreatDoor
open Go.RowKit Plain
set_option linter.unusedVariables false
/-- A slice of bytes, with what its ends are. -/
structure RowB (w : World) (a : Option Addr) (n c : Nat) (xs : List Int) : Prop where
  le : n ≤ c
  cap : c ≤ 9223372036854775807
  nil : a = none → c = 0
  bytes : Bytes w a n xs
theorem RowB.below {w w' : World} {a : Option Addr} {n c : Nat} {xs : List Int} (h : RowB w a n c xs) (hb : Below w.heap.size w w') : RowB w' a n c xs := ⟨h.le, h.cap, h.nil, h.bytes.below hb⟩
theorem RowB.len {w : World} {a : Option Addr} {n c : Nat} {xs : List Int} (h : RowB w a n c xs) : xs.length = n := h.bytes.1
theorem RowB.range {w : World} {a : Option Addr} {n c : Nat} {xs : List Int} (h : RowB w a n c xs) : ∀ j : Nat, 0 ≤ xs[j]?.getD 0 ∧ xs[j]?.getD 0 ≤ 255 := h.bytes.2.2.1
theorem Mid.row {w : World} {base : Nat} {a : Option Addr} {n c : Nat} {xs : List Int} (h : Mid w base (.slice a n c) n xs) (hx : ∀ j : Nat, 0 ≤ xs[j]?.getD 0 ∧ xs[j]?.getD 0 ≤ 255) : RowB w a n c xs := by
  obtain ⟨a', c', e, h1, h2, h3⟩ := h.shape
  simp only [Value.slice.injEq, true_and] at e
  obtain ⟨rfl, rfl⟩ := e
  exact ⟨h1, h3, h2, h.bytes hx⟩
theorem row_in {w : World} {a : Option Addr} {len cap : Nat} {zs : List Int} 
    (h : (a = none ∧ len = 0 ∧ cap = 0 ∧ zs = []) ∨ ∃ x, a = some x ∧ len ≤ cap ∧ cap ≤ maxLen ∧ zs.length = cap ∧ (∀ i, i < zs.length → w.cell? (x.add i) = some (.int .u8 (zs.getD i 0))) ∧ ∀ n ∈ zs, (Lit.int .u8 n).wf = true) (k : Nat) : RowB w a (min len k) cap ((zs.take len).take k) ∧ len ≤ cap ∧ cap ≤ 9223372036854775807 := by
  obtain ⟨hb, hlc, hcm⟩ := bytes_of h
  refine ⟨⟨by omega, hcm, ?_, hb.first k⟩, hlc, hcm⟩
  rcases h with ⟨-, -, h, -⟩ | ⟨x, rfl, -⟩
  · exact fun _ => h
  · exact fun e => by cases e
/-- What Raw tells of a row. -/
def RawQ (w : World) (most : Nat) (bs : List Int) (e : Ending) (w' : World) : Prop :=
  (∃ q m va vc, rawOf bs most = .ok (q, m) ∧ e = .returned (.tuple #[.slice va m.length vc, .int .i64 (((q + 7) / 8 : Nat) : Int), .int .i64 0]) ∧ RowB w' va m.length vc m ∧ m.length ≤ most ∧ Below w.heap.size w w' ∧ Mid w' w.heap.size (.slice va m.length vc) m.length m) ∨
    ∃ k, rawOf bs most = .error k ∧ k ≠ 0 ∧ e = .returned (.tuple #[.slice none 0 0, .int .i64 0, .int .i64 (k : Int)]) ∧ Below w.heap.size w w'
theorem raw_row (a : Option Addr) (n c : Nat) (bs : List Int) (M : Int) (most : Nat) (w : World) (H : RowB w a n c bs) (hn : n ≤ 1000000000) (hM : most = M.toNat) (hm : most ≤ 1000000000) :
    Calls Tryz.prog 43 #[.slice a n c, .int .i64 M] w (RawQ w most bs) := by
  have hl := H.len
  subst hl
  refine (raw_any w a c M most bs ⟨H.bytes, H.le, H.cap, H.nil, hn, hm, rfl⟩ hM).mono ?_
  rintro e w' (⟨q, m, mv, h1, rfl, h3, h4, h5, h6⟩ | ⟨k, h1, rfl, h3⟩)
  · obtain ⟨va, vc, rfl, -⟩ := h3.shape
    exact .inl ⟨q, m, va, vc, h1, rfl, h3.row (range_of_mem0 h5), h4, h6, h3⟩
  · exact .inr ⟨k, h1, nz_raw h1, rfl, h3⟩
/-- A row that is spelt out. -/
theorem row_lit (w : World) (xs : List Int) (n : Nat) (hn : xs.length = n) (hn1 : n ≤ 1000000000) (hx : ∀ x ∈ xs, 0 ≤ x ∧ x ≤ 255) : RowB (w.alloc (.cells (xs.map (Value.int .u8)).toArray 5)) (some ⟨w.heap.size, 0, none⟩) n n xs :=
  ⟨Nat.le_refl _, by omega, (fun e => by cases e), Bytes.lit w _ rfl xs 5 (0, 0) n hn (by omega) hx⟩
theorem raw_lit (w : World) (xs : List Int) (n : Nat) (M : Int) (most : Nat) (hn : xs.length = n) (hn1 : n ≤ 1000000000) (hx : ∀ x ∈ xs, 0 ≤ x ∧ x ≤ 255) (hM : most = M.toNat) (hm : most ≤ 1000000000) :
    Calls Tryz.prog 43 #[.slice (some ⟨w.heap.size, 0, none⟩) n n, .int .i64 M] (w.alloc (.cells (xs.map (Value.int .u8)).toArray 5)) fun e w' =>
      ((∃ q m va vc, rawOf xs most = .ok (q, m) ∧ e = .returned (.tuple #[.slice va m.length vc, .int .i64 (((q + 7) / 8 : Nat) : Int), .int .i64 0]) ∧ RowB w' va m.length vc m) ∨ ∃ k, rawOf xs most = .error k ∧ e = .returned (.tuple #[.slice none 0 0, .int .i64 0, .int .i64 (k : Int)])) ∧ Below w.heap.size w w' := by
  have hb : Below w.heap.size w (w.alloc (.cells (xs.map (Value.int .u8)).toArray 5)) := (Below.refl _ _).alloc (Nat.le_refl _) _
  refine (raw_row _ n n xs M most _ (row_lit w xs n hn hn1 hx) hn1 hM hm).mono ?_
  rintro e w' (⟨q, m, va, vc, h1, rfl, h3, h4, h5, -⟩ | ⟨k, h1, h2, rfl, h3⟩)
  · exact ⟨.inl ⟨q, m, va, vc, h1, rfl, h3⟩, hb.trans (h5.mono hb.size)⟩
  · exact ⟨.inr ⟨k, h1, rfl⟩, hb.trans (h3.mono hb.size)⟩
end Go.Proofs.YtglgchjkonjpiaaGreatDoor
/-! Raw takes no more than there is. -/
namespace Go.Proofs.YtglgchjkonjpiaaGreatDoor
set_option linter.unusedVariables false
namespace Plain
theorem rawGo_last {bs : List Int} {N most : Nat} : ∀ (f p : Nat) (made : List Int) (q : Nat) (m : List Int), rawGo bs N (8 * bs.length) most f p made = .ok (q, m) → p < q ∧ q ≤ 8 * bs.length
  | 0, p, made, q, m, h => by rw [rawGo] at h; cases h
  | f + 1, p, made, q, m, h => by
    rw [rawGo_step] at h
    cases hs : stepR bs N (8 * bs.length) most p made with
    | error e => rw [hs] at h; cases h
    | ok v =>
      obtain ⟨l, r, m2⟩ := v
      have h1 := stepR_adv hs
      rw [hs] at h
      simp only [contR] at h
      split at h
      · have := rawGo_last f r m2 q m h; omega
      · injection h with h; injection h with h _; omega
theorem raw_last {bs : List Int} {most q : Nat} {m : List Int} (h : rawOf bs most = .ok (q, m)) : 0 < q ∧ q ≤ 8 * bs.length := rawGo_last _ _ _ q m h
end Plain
open Go.RowKit Plain
theorem wpList_append_to {w : World} {ops : Array Oper} {rest : List Oper} {o : Oper} {ac : Act} {Q : Exit → Act → World → Prop} (hgd : o.guard = none) (s x : Operand) (tx : TypeId)
    (ho : o.op = .call { callee := .builtin .append, args := #[s, x], argTypes := #[22, tx] })
    (base : Nat) (v : Value) (n : Nat) (xs : List Int) (hs : ac.eval s = v) (hown : Mid w base v n xs) (xv : Value) (m : Nat) (ys : List Int) (hx : ac.eval x = xv) (hsrc : Src Tryz.prog 1 tx xv m (U8 ys) w)
    (n2 : Nat) (zs : List Int) (hn2 : n + m = n2) (hzs : xs ++ ys = zs) (hsum : n2 ≤ 70368744177664) (hbase : base ≤ w.heap.size)
    (h : ∀ a' c' w', Mid w' base (.slice a' n2 c') n2 zs → Below base w w' → wpList Tryz.prog ops Q rest (ac.put o.dst (.slice a' n2 c')) w') : wpList Tryz.prog ops Q (o :: rest) ac w := by
  subst hn2 hzs
  refine wpList_append_mid hgd s x tx ho base v n xs hs hown xv m ys hx hsrc hsum hbase fun v' w' hm hg ho => ?_
  obtain ⟨a, c, rfl, -⟩ := hm.shape
  exact h a c w' hm (hown.off hbase hg)
theorem run_min2 {P : Program} (ts : Array TypeId) (t : TypeId) (k k1 : IntKind) (x y : Int) (w : World) : (Builtin.min_ ts t #[.int k x, .int k1 y]).run P w = .ok (.int k (min x y)) w := by
  have e : ∀ p q : Int, (if q < p then q else p) = min p q := fun p q => by split <;> omega
  simp [Builtin.min_, Builtin.min2, e]
theorem RowB.mem {w : World} {a : Option Addr} {n c : Nat} {xs : List Int} (h : RowB w a n c xs) : ∀ x ∈ xs, 0 ≤ x ∧ x ≤ 255 := mem_of_getD h.range
end Go.Proofs.YtglgchjkonjpiaaGreatDoor
/-! Parts of rows of bytes. -/
namespace Go.Proofs.YtglgchjkonjpiaaGreatDoor
open Go.RowKit
set_option linter.unusedVariables false
theorem RowB.part {w : World} {a : Option Addr} {n c : Nat} {xs : List Int} (h : RowB w a n c xs) (lo : Nat) (hlo : lo ≤ n) : RowB w (subA a c lo) (n - lo) (c - lo) (xs.drop lo) := by
  have hp := h.bytes.part c lo n hlo (Nat.le_refl _) h.le
  rw [List.take_of_length_le (by rw [List.length_drop, h.len]; omega)] at hp
  exact ⟨by have := h.le; omega, by have := h.cap; omega, subA_nil h.nil, hp⟩
theorem RowB.first {w : World} {a : Option Addr} {n c : Nat} {xs : List Int} (h : RowB w a n c xs) (k : Nat) (hk : k ≤ n) : Bytes w a k (xs.take k) := by
  have := h.bytes.first k
  rwa [show min n k = k by omega] at this
end Go.Proofs.YtglgchjkonjpiaaGreatDoor
