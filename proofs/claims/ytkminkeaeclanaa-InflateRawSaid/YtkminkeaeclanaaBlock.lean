/- One block: the walk. -/
import Derived.Test.YtkminkeaeclanaaOwn
import Derived.Test.YtkminkeaeclanaaSignsOwn
import Derived.Test.YtkminkeaeclanaaStored
namespace Go.Proofs.Ytkminkeaeclanaa
open Go.RowKit Plain
set_option linter.unusedVariables false
theorem signN_small {N L : Nat} {c : CodeS} (h : CodeOk c) : ∀ q s r, signN N L c q = .ok (s, r) → s ≤ 100000 := fun q s r hs => by
  obtain ⟨j, hj⟩ := signGo_mem _ _ _ _ _ _ _ _ _ _ _ hs
  rw [hj]; exact h.small j
theorem fixedSign_small {N L : Nat} : ∀ q s r, fixedSignN N L q = .ok (s, r) → s ≤ 100000 := fun q s r h => by
  unfold fixedSignN codeN at h
  cases hn : num N L q 7 with
  | error e => rw [hn] at h; cases h
  | ok v =>
    obtain ⟨x, z⟩ := v
    have hx := (rev7 x (num_ok hn).1).2.2
    rw [hn] at h
    simp only [] at h
    split at h
    · injection h with h; injection h with h _; omega
    · cases hn1 : num N L z 1 with
      | error e => rw [hn1] at h; cases h
      | ok v =>
        obtain ⟨b, z1⟩ := v
        have hb := (num_ok hn1).1
        rw [hn1] at h
        simp only [] at h
        split at h
        · injection h with h; injection h with h _; omega
        · split at h
          · injection h with h; injection h with h _; omega
          · cases hn2 : num N L z1 1 with
            | error e => rw [hn2] at h; cases h
            | ok v =>
              obtain ⟨c, z2⟩ := v
              have hc := (num_ok hn2).1
              rw [hn2] at h
              injection h with h; injection h with h _; omega
theorem fixedDist_small {N L : Nat} : ∀ q s r, fixedDistN N L q = .ok (s, r) → s ≤ 100000 := fun q s r h => by
  unfold fixedDistN codeN at h
  cases hn : num N L q 5 with
  | error e => rw [hn] at h; cases h
  | ok v =>
    obtain ⟨x, z⟩ := v
    have hx := (rev5 x (num_ok hn).1).2.2
    rw [hn] at h
    injection h with h; injection h with h _; omega
set_option maxRecDepth 100000 in
set_option maxHeartbeats 4000000 in
theorem block1_any {w0 : World} {Ob : Nat} {ba : Option Addr} {bn bc N most : Nat} {bs : List Int} (HS : SrcB w0 ba bn bc N most bs) (w : World) (p : Nat) (mv : Value) (made : List Int) (H : OutL 8 w0 Ob ba bn bc N most w p mv made) (Cb : Nat) (c : CodeS) (HC : CodeAt Ob w mv Cb c)
    (b2 b4 : Addr) (h2 : w.cell? b2 = some (.pointer (some ⟨Ob, 0, none⟩))) (h4 : w.cell? b4 = some (.pointer (some ⟨Cb, 0, none⟩))) :
    Calls Try.prog 33 #[.pointer (some b2), .pointer (some b4)] w (Got w0 Ob ba bn bc N most w mv made (signN N (8 * bn) c p)) := by
  have HDB : Hid (Below w.heap.size w w.drew) := (Below.refl _ _).drew
  have hsign := sign_any HS w.drew p mv made (H.below HDB.out) Cb c (HC.turn (Turn.of_below HDB.out))
  clear HS H HC
  go_enter Try.func33, Try.ntmps33
  go_wp2_with fail
  go_still_tail 4, (by kernel_rfl)
  change wpList _ _ _ _ _ w.drew
  generalize w.drew = wd at *
  go_wp2_with fail
  refine hsign.mono ?_
  intro e w2 hgot
  obtain ⟨x, q, hr, rfl, ht, ho⟩ | ⟨k, hr, rfl, ht⟩ := hgot.lift
  · have HR := Lib.hid hr
    have HT := Lib.hid (ht.after HDB.out)
    have HO := Lib.hid ho
    clear hsign hgot hr ht ho
    go_wp2_with fail
    go_ret
    exact ⟨HT.out, .inl ⟨x, q, HR.out, rfl, HO.out⟩⟩
  · have HR := Lib.hid hr
    have HT := Lib.hid (ht.after HDB.out)
    clear hsign hgot hr ht
    go_wp2_with fail
    exact ⟨rfl, HT.out, .inr ⟨k, HR.out, rfl⟩⟩
set_option maxRecDepth 100000 in
set_option maxHeartbeats 4000000 in
theorem block2_any {w0 : World} {Ob : Nat} {ba : Option Addr} {bn bc N most : Nat} {bs : List Int} (HS : SrcB w0 ba bn bc N most bs) (w : World) (p : Nat) (mv : Value) (made : List Int) (H : OutL 8 w0 Ob ba bn bc N most w p mv made) (Cb : Nat) (c : CodeS) (HC : CodeAt Ob w mv Cb c)
    (b2 b4 : Addr) (h2 : w.cell? b2 = some (.pointer (some ⟨Ob, 0, none⟩))) (h4 : w.cell? b4 = some (.pointer (some ⟨Cb, 0, none⟩))) :
    Calls Try.prog 35 #[.pointer (some b2), .pointer (some b4)] w (Got w0 Ob ba bn bc N most w mv made (signN N (8 * bn) c p)) := by
  have HDB : Hid (Below w.heap.size w w.drew) := (Below.refl _ _).drew
  have hsign := sign_any HS w.drew p mv made (H.below HDB.out) Cb c (HC.turn (Turn.of_below HDB.out))
  clear HS H HC
  go_enter Try.func35, Try.ntmps35
  go_wp2_with fail
  go_still_tail 4, (by kernel_rfl)
  change wpList _ _ _ _ _ w.drew
  generalize w.drew = wd at *
  go_wp2_with fail
  refine hsign.mono ?_
  intro e w2 hgot
  obtain ⟨x, q, hr, rfl, ht, ho⟩ | ⟨k, hr, rfl, ht⟩ := hgot.lift
  · have HR := Lib.hid hr
    have HT := Lib.hid (ht.after HDB.out)
    have HO := Lib.hid ho
    clear hsign hgot hr ht ho
    go_wp2_with fail
    go_ret
    exact ⟨HT.out, .inl ⟨x, q, HR.out, rfl, HO.out⟩⟩
  · have HR := Lib.hid hr
    have HT := Lib.hid (ht.after HDB.out)
    clear hsign hgot hr ht
    go_wp2_with fail
    exact ⟨rfl, HT.out, .inr ⟨k, HR.out, rfl⟩⟩
theorem Mad.lift {w0 : World} {Ob : Nat} {ba : Option Addr} {bn bc N most : Nat} {w w1 : World} {mv : Value} {r : Except Nat (Nat × List Int)} {e : Ending} {w' : World} (hb : Turn Ob mv mv w w1) (h : Mad w0 Ob ba bn bc N most w1 mv r e w') :
    (∃ q m mv', r = .ok (q, m) ∧ e = .returned (.tuple #[]) ∧ Turn Ob mv mv' w w' ∧ OutL 8 w0 Ob ba bn bc N most w' q mv' m) ∨ ∃ n, r = .error n ∧ e = .panicked [{ v := .iface 55 (.agg #[.int .i64 (n : Int)]), recovered := false }] ∧ ∃ mv', Turn Ob mv mv' w w' := by
  obtain ⟨q, m, mv', h1, h2, h3, h4⟩ | ⟨n, h1, h2, mv', h3⟩ := h
  · exact .inl ⟨q, m, mv', h1, h2, hb.trans h3, h4⟩
  · exact .inr ⟨n, h1, h2, mv', hb.trans h3⟩
set_option maxRecDepth 100000 in
set_option maxHeartbeats 8000000 in
theorem block_any {w0 : World} {Ob : Nat} {ba : Option Addr} {bn bc N most : Nat} {bs : List Int} (HS : SrcB w0 ba bn bc N most bs) (w : World) (p : Nat) (mv : Value) (made : List Int) (H : OutL 8 w0 Ob ba bn bc N most w p mv made) (kind : Nat) (hk : kind ≤ 3) :
    Calls Try.prog 17 #[.pointer (some ⟨Ob, 0, none⟩), .int .i64 (kind : Int)] w (Mad w0 Ob ba bn bc N most w mv (blockN bs N (8 * bn) most kind p made)) := by
  have HSS := Lib.hid HS
  have HO := Lib.hid H
  have HB1 : Hid (Below w.heap.size w (w.alloc (.cells #[.pointer (some ⟨Ob, 0, none⟩)] 58))) := (Below.refl _ _).alloc (Nat.le_refl _) _
  have hcb : (w.alloc (.cells #[.pointer (some ⟨Ob, 0, none⟩)] 58)).cell? ⟨w.heap.size, 0, none⟩ = some (.pointer (some ⟨Ob, 0, none⟩)) := (cell_row0 _ w.heap.size 0 _ _ _ (heap_alloc_new w _)).trans rfl
  have HCB := Lib.hid hcb
  have hOw := H.lt
  have HMV := Lib.hid H.mid
  have hmf : ∀ (fn : Fn) (first cap : Array Value) (w : World), (Instr.makeFunc fn first cap).run Try.prog w = .ok (.func fn first cap) w := fun _ _ _ _ => rfl
  have hst := stored_any HS (w.alloc (.cells #[.pointer (some ⟨Ob, 0, none⟩)] 58)) p mv made (H.below HB1.out)
  have hfx := signsFix_any HS (w.alloc (.cells #[.pointer (some ⟨Ob, 0, none⟩)] 58)) p mv made (H.below HB1.out) (fixedSignN N (8 * bn)) (fixedDistN N (8 * bn)) (adv_fixedSign _ _) (adv_fixedDist _ _) fixedSign_small fixedDist_small (fun W q mv' m _ h => fixedSign_any HS W q mv' m h) (fun W q mv' m _ h => fixedDist_any HS W q mv' m h)
  have hoc := ownCodes_any HS (w.alloc (.cells #[.pointer (some ⟨Ob, 0, none⟩)] 58)) p mv made (H.below HB1.out)
  clear HS H hcb
  go_enter Try.func17, Try.ntmps17
  have hc : kind = 0 ∨ kind = 1 ∨ kind = 2 ∨ kind = 3 := by omega
  rcases hc with rfl | rfl | rfl | rfl
  · clear hfx hoc
    have HR0 : Hid (blockN bs N (8 * bn) most 0 p made = storedN bs N (8 * bn) most p made) := by show _ = _; unfold blockN; exact if_pos rfl
    go_wp2_with fail
    refine hst.mono ?_
    intro e w2 hgot
    obtain ⟨q, m, mv', hr, rfl, ht, ho⟩ | ⟨k, hr, rfl, mv', ht⟩ := Mad.lift (Turn.of_below HB1.out) hgot
    · have HR := Lib.hid (HR0.out.trans hr)
      have HT := Lib.hid ht
      have HO2 := Lib.hid ho
      clear hst hgot hr ht ho
      go_wp2_with fail
      go_end0
      exact .inl ⟨q, m, mv', HR.out, rfl, HT.out, HO2.out⟩
    · have HR := Lib.hid (HR0.out.trans hr)
      have HT := Lib.hid ht
      clear hst hgot hr ht
      go_wp2_with fail
      exact ⟨rfl, .inr ⟨k, HR.out, rfl, mv', HT.out⟩⟩
  · clear hst hoc
    have HR0 : Hid (blockN bs N (8 * bn) most 1 p made = signsN N (8 * bn) most (fixedSignN N (8 * bn)) (fixedDistN N (8 * bn)) p made) := by show _ = _; unfold blockN; rw [if_neg (by omega), if_pos rfl]
    go_wp2_with fail
    refine hfx.mono ?_
    intro e w2 hgot
    obtain ⟨q, m, mv', hr, rfl, ht, ho⟩ | ⟨k, hr, rfl, mv', ht⟩ := Mad.lift (Turn.of_below HB1.out) hgot
    · have HR := Lib.hid (HR0.out.trans hr)
      have HT := Lib.hid ht
      have HO2 := Lib.hid ho
      clear hfx hgot hr ht ho
      go_wp2_with fail
      go_end0
      exact .inl ⟨q, m, mv', HR.out, rfl, HT.out, HO2.out⟩
    · have HR := Lib.hid (HR0.out.trans hr)
      have HT := Lib.hid ht
      clear hfx hgot hr ht
      go_wp2_with fail
      exact ⟨rfl, .inr ⟨k, HR.out, rfl, mv', HT.out⟩⟩
  · clear hst hfx
    go_wp2_with fail
    refine hoc.mono ?_
    intro e w2 hgot
    obtain ⟨q, c, d, Cb, Db, hr, rfl, ht, ho, hca, hcb⟩ | ⟨k, hr, rfl, ht⟩ := hgot
    · have HR := Lib.hid hr
      have HT := Lib.hid ht
      have HO2 := Lib.hid ho
      have HCA := Lib.hid hca
      have HDB := Lib.hid hcb
      have hmw : mv.ownBlock ≠ some w.heap.size := fun e => Nat.lt_irrefl _ (HMV.out _ e)
      have hmw2 : ∀ k, w2.heap.size ≤ k → mv.ownBlock ≠ some k := fun k hk e => by
        have h1 := HMV.out _ e
        have h2 := ht.size
        rw [World.size_alloc] at h2
        omega
      have hO2 : Ob < w2.heap.size := ho.lt
      have hb2 : w2.cell? ⟨w.heap.size, 0, none⟩ = some (.pointer (some ⟨Ob, 0, none⟩)) := ht.keeps HCB.out (by omega) hmw
      have HB3 : Hid (Below w2.heap.size w2 ((w2.alloc (.cells #[.pointer (some ⟨Cb, 0, none⟩)] 60)).alloc (.cells #[.pointer (some ⟨Db, 0, none⟩)] 60))) := ((Below.refl _ _).alloc (Nat.le_refl _) _).alloc (by rw [World.size_alloc]; omega) _
      have hb3 : ((w2.alloc (.cells #[.pointer (some ⟨Cb, 0, none⟩)] 60)).alloc (.cells #[.pointer (some ⟨Db, 0, none⟩)] 60)).cell? ⟨w.heap.size, 0, none⟩ = some (.pointer (some ⟨Ob, 0, none⟩)) := (HB3.out.cell (p := ⟨w.heap.size, 0, none⟩) (World.block_lt_of_cell? _ _ hb2)).trans hb2
      have hb4 : ((w2.alloc (.cells #[.pointer (some ⟨Cb, 0, none⟩)] 60)).alloc (.cells #[.pointer (some ⟨Db, 0, none⟩)] 60)).cell? ⟨w2.heap.size, 0, none⟩ = some (.pointer (some ⟨Cb, 0, none⟩)) := (cell_row0 _ w2.heap.size 0 _ _ _ ((((Below.refl _ (w2.alloc (.cells #[.pointer (some ⟨Cb, 0, none⟩)] 60))).alloc (Nat.le_refl _) _).block w2.heap.size (by rw [World.size_alloc]; omega)).trans (heap_alloc_new w2 _))).trans rfl
      have hb5 : ((w2.alloc (.cells #[.pointer (some ⟨Cb, 0, none⟩)] 60)).alloc (.cells #[.pointer (some ⟨Db, 0, none⟩)] 60)).cell? ⟨w2.heap.size + 1, 0, none⟩ = some (.pointer (some ⟨Db, 0, none⟩)) := (cell_row0 _ (w2.heap.size + 1) 0 _ _ _ ((by rw [← World.size_alloc w2 (.cells #[.pointer (some ⟨Cb, 0, none⟩)] 60)]; exact heap_alloc_new _ _ : _ = some (Obj.cells #[.pointer (some ⟨Db, 0, none⟩)] 60 (0, 0))))).trans rfl
      have HC3 := Lib.hid (hca.turn (Turn.of_below HB3.out))
      have HD3 := Lib.hid (hcb.turn (Turn.of_below HB3.out))
      have hso := signsOwn_any HSS.out _ q mv made (ho.below HB3.out) ⟨w.heap.size, 0, none⟩ ⟨w2.heap.size, 0, none⟩ ⟨w2.heap.size + 1, 0, none⟩ (signN N (8 * bn) c) (signN N (8 * bn) d) (adv_sign _ _ _) (adv_sign _ _ _) (signN_small hca.ok) (signN_small hcb.ok)
        (fun W q' mv' m ht' h => block1_any HSS.out W q' mv' m h Cb c (HC3.out.turn ht') _ _ (ht'.keeps hb3 (by omega) hmw) (ht'.keeps hb4 (by omega) (hmw2 _ (Nat.le_refl _))))
        (fun W q' mv' m ht' h => block2_any HSS.out W q' mv' m h Db d (HD3.out.turn ht') _ _ (ht'.keeps hb3 (by omega) hmw) (ht'.keeps hb5 (by omega) (hmw2 _ (Nat.le_succ _))))
      have HR1 : Hid (blockN bs N (8 * bn) most 2 p made = signsN N (8 * bn) most (signN N (8 * bn) c) (signN N (8 * bn) d) q made) := by show _ = _; unfold blockN; rw [if_neg (by omega), if_neg (by omega), if_pos rfl, hr]
      have HTW := Lib.hid (((Turn.of_below HB1.out).trans ht).trans (Turn.of_below HB3.out))
      clear hoc hr ht ho hca hcb hb2 hb4 hb5 hmw hmw2
      go_wp2_with fail
      refine hso.mono ?_
      intro e w4 hgot
      obtain ⟨q', m, mv', hr, rfl, ht, ho⟩ | ⟨k, hr, rfl, mv', ht⟩ := hgot
      · have HRR := Lib.hid (HR1.out.trans hr)
        have HT4 := Lib.hid (HTW.out.trans ht)
        have HO4 := Lib.hid ho
        clear hso hr ht ho
        go_wp2_with fail
        go_end0
        exact .inl ⟨q', m, mv', HRR.out, rfl, HT4.out, HO4.out⟩
      · have HRR := Lib.hid (HR1.out.trans hr)
        have HT4 := Lib.hid (HTW.out.trans ht)
        clear hso hr ht
        go_wp2_with fail
        exact ⟨rfl, .inr ⟨k, HRR.out, rfl, mv', HT4.out⟩⟩
    · have HR : Hid (blockN bs N (8 * bn) most 2 p made = .error k) := by show _ = _; unfold blockN; rw [if_neg (by omega), if_neg (by omega), if_pos rfl, hr]
      have HT := Lib.hid ((Turn.of_below HB1.out).trans ht)
      clear hoc hr ht
      go_wp2_with fail
      exact ⟨rfl, .inr ⟨k, HR.out, rfl, mv, HT.out⟩⟩
  · clear hst hfx hoc
    have HR0 : Hid (blockN bs N (8 * bn) most 3 p made = .error 4) := by show _ = _; unfold blockN; rw [if_neg (by omega), if_neg (by omega), if_neg (by omega)]
    go_wp2_with fail
    refine (with_any 4 _).mono ?_
    rintro e w7 ⟨rfl, rfl⟩
    dsimp only [thrown]
    go_wp2_with fail
    exact ⟨rfl, .inr ⟨4, HR0.out, rfl, mv, Turn.of_below HB1.out⟩⟩
end Go.Proofs.Ytkminkeaeclanaa
