/- A block's own codes: the walk. -/
import Derived.Test.YtglgchjkonjpiaaGreatDoorLens
namespace Go.Proofs.YtglgchjkonjpiaaGreatDoor
open Go.RowKit Plain
set_option linter.unusedVariables false
theorem slice_from_i (a : Option Addr) (m cap lo : Nat) (h1 : lo ≤ m) (h2 : m ≤ cap) (w : World) :
    (Instr.sliceAt 60 (.slice a m cap) (some (.int .i64 (lo : Int))) none none).run Tryz.prog w = .ok (.slice (subA a cap lo) (m - lo) (cap - lo)) w := by
  have hsz : ∀ W : World, (sizeOf (Tryz.prog.elem 60)).run Tryz.prog W = .ok 1 W := fun W => by kernel_rfl
  rw [run_sliceAt_slice w 60 _ _ _ _ (by kernel_rfl), run_slice_l w 60 a m cap (by kernel_rfl) .i64 (lo : Int) (by omega) (by omega), hsz]
  simp [Result.andThen_ok, sliced, subA]
theorem slice_to_i (a : Option Addr) (m cap hi : Nat) (h2 : hi ≤ cap) (w : World) :
    (Instr.sliceAt 60 (.slice a m cap) none (some (.int .i64 (hi : Int))) none).run Tryz.prog w = .ok (.slice a hi cap) w := by
  have hsz : ∀ W : World, (sizeOf (Tryz.prog.elem 60)).run Tryz.prog W = .ok 1 W := fun W => by kernel_rfl
  have h0 : ∀ x : Addr, x.add 0 = x := fun x => by unfold Addr.add; simp
  rw [run_sliceAt_slice w 60 _ _ _ _ (by kernel_rfl), run_slice_h w 60 a m cap (by kernel_rfl) .i64 (hi : Int) (by omega) (by omega), hsz]
  simp [Result.andThen_ok, sliced, h0]
theorem NumsAt.take {w : World} {a : Option Addr} {n : Nat} {ls : List Nat} (h : NumsAt w a n ls) (k : Nat) (hk : k ≤ n) : NumsAt w a k (ls.take k) :=
  ⟨by rw [List.length_take, h.1]; omega, fun j hj => by
    obtain ⟨g, o, e, hc⟩ := h.2 j (by omega)
    exact ⟨g, o, e, by rw [getD_take0 _ _ _ hj]; exact hc⟩⟩
theorem NumsAt.drop {w : World} {a : Option Addr} {n c : Nat} {ls : List Nat} (h : NumsAt w a n ls) (hc : n ≤ c) (k : Nat) (hk : k ≤ n) : NumsAt w (subA a c k) (n - k) (ls.drop k) :=
  ⟨by rw [List.length_drop, h.1], fun j hj => by
    obtain ⟨g, o, e, hcell⟩ := h.2 (k + j) (by omega)
    refine ⟨g, o + k, ?_, ?_⟩
    · subst e
      unfold subA
      rw [if_neg (by omega)]
      show some (Addr.add _ _) = _
      rw [Addr.add_mid]
    · rw [Nat.add_assoc, hcell, List.getD_eq_getElem?_getD, List.getD_eq_getElem?_getD, List.getElem?_drop]⟩
theorem lens_len {N L : Nat} {c : CodeS} {n : Nat} : ∀ (f p : Nat) (ls : List Nat) (q : Nat) (ls' : List Nat), ls.length ≤ n → lensGo N L c n f p ls = .ok (q, ls') → ls'.length = n
  | 0, p, ls, q, ls', hl, h => by simp [lensGo] at h
  | f + 1, p, ls, q, ls', hl, h => by
    rw [lensGo] at h
    split at h
    · injection h with h; injection h with _ h; subst h; omega
    · cases ho : oneLen N L c p ls with
      | error e => rw [ho] at h; cases h
      | ok v =>
        obtain ⟨len, times, r⟩ := v
        rw [ho] at h
        simp only [] at h
        split at h
        · cases h
        · exact lens_len f r _ q ls' (by rw [List.length_append, List.length_replicate]; omega) h
theorem own_e1 {N L p k : Nat} (h : howManyN N L p 5 257 286 = .error k) : ownCodesN N L p = .error k := by unfold ownCodesN; rw [h]
theorem own_e2 {N L p k n q : Nat} (h : howManyN N L p 5 257 286 = .ok (n, q)) (h2 : howManyN N L q 5 1 30 = .error k) : ownCodesN N L p = .error k := by unfold ownCodesN; rw [h]; simp only []; rw [h2]
theorem own_e3 {N L p k n q m r : Nat} (h : howManyN N L p 5 257 286 = .ok (n, q)) (h2 : howManyN N L q 5 1 30 = .ok (m, r)) (h3 : codeOfLengthsN N L r = .error k) : ownCodesN N L p = .error k := by unfold ownCodesN; rw [h]; simp only []; rw [h2]; simp only []; rw [h3]
theorem own_e4 {N L p k n q m r s : Nat} {c : CodeS} (h : howManyN N L p 5 257 286 = .ok (n, q)) (h2 : howManyN N L q 5 1 30 = .ok (m, r)) (h3 : codeOfLengthsN N L r = .ok (s, c)) (h4 : lensN N L c (n + m) s = .error k) : ownCodesN N L p = .error k := by unfold ownCodesN; rw [h]; simp only []; rw [h2]; simp only []; rw [h3]; simp only []; rw [h4]
theorem own_on {N L p n q m r s t : Nat} {c : CodeS} {ls : List Nat} (h : howManyN N L p 5 257 286 = .ok (n, q)) (h2 : howManyN N L q 5 1 30 = .ok (m, r)) (h3 : codeOfLengthsN N L r = .ok (s, c)) (h4 : lensN N L c (n + m) s = .ok (t, ls)) : ownCodesN N L p = if ls.getD 256 0 = 0 ∨ goodN (codeOfN (ls.take n)) = false ∨ (goodN (codeOfN (ls.drop n)) = false ∧ (codeOfN (ls.drop n)).sg ≠ []) then .error 4
          else .ok (t, codeOfN (ls.take n), codeOfN (ls.drop n)) := by unfold ownCodesN; rw [h]; simp only []; rw [h2]; simp only []; rw [h3]; simp only []; rw [h4]
theorem howMany_bound {N L p n least mo x q : Nat} (h : howManyN N L p n least mo = .ok (x, q)) : least ≤ x ∧ x ≤ mo := by
  unfold howManyN at h
  cases hn : num N L p n with
  | error e => rw [hn] at h; cases h
  | ok v =>
    obtain ⟨y, z⟩ := v
    rw [hn] at h
    simp only [] at h
    split at h
    · cases h
    · injection h with h; injection h with h _; omega
/-- The code of the lengths has 19 signs. -/
theorem lengths_18 {N L p q : Nat} {c : CodeS} (h : codeOfLengthsN N L p = .ok (q, c)) : ∀ j, c.sg.getD j 0 ≤ 18 := by
  have told : ∀ (os : List Nat) (p : Nat) (ls : List Nat) (q : Nat) (ls' : List Nat), toldGo N L os p ls = .ok (q, ls') → ls'.length = ls.length := by
    intro os
    induction os with
    | nil => intro p ls q ls' h; injection h with h; injection h with _ h; rw [h]
    | cons o os ih =>
      intro p ls q ls' h
      rw [toldGo] at h
      cases hn : num N L p 3 with
      | error e => rw [hn] at h; cases h
      | ok v =>
        obtain ⟨y, z⟩ := v
        rw [hn] at h
        have := ih _ _ _ _ h
        rwa [List.length_set] at this
  unfold codeOfLengthsN at h
  cases hn : num N L p 4 with
  | error e => rw [hn] at h; cases h
  | ok v =>
    obtain ⟨y, z⟩ := v
    rw [hn] at h
    simp only [] at h
    cases ht : toldGo N L (orderN.take (y + 4)) z (List.replicate 19 0) with
    | error e => rw [ht] at h; cases h
    | ok v =>
      obtain ⟨r, ls⟩ := v
      have hl := told _ _ _ _ _ ht
      rw [List.length_replicate] at hl
      rw [ht] at h
      simp only [] at h
      split at h
      · injection h with h; injection h with _ h
        subst h
        intro j
        have := sg_lt ls (by omega) j
        show (sgOf ls).getD j 0 ≤ 18
        omega
      · cases h
/-- What a call that makes both codes tells. -/
def GotCC (w0 : World) (Ob : Nat) (ba : Option Addr) (bn bc N most : Nat) (w : World) (mv : Value) (made : List Int) (r : Except Nat (Nat × CodeS × CodeS)) (e : Ending) (w' : World) : Prop :=
  (∃ q c d Cb Db, r = .ok (q, c, d) ∧ e = .returned (.tuple #[.pointer (some ⟨Cb, 0, none⟩), .pointer (some ⟨Db, 0, none⟩)]) ∧ Turn Ob mv mv w w' ∧ OutL 8 w0 Ob ba bn bc N most w' q mv made ∧ CodeAt Ob w' mv Cb c ∧ CodeAt Ob w' mv Db d) ∨ ∃ n, r = .error n ∧ e = .panicked [{ v := .iface 126 (.agg #[.int .i64 (n : Int)]), recovered := false }] ∧ Turn Ob mv mv w w'
theorem CodeRes.below {Cb : Nat} {w w' : World} {ls : List Nat} (h : CodeRes Cb w ls) (hn : True) (hb : Below w.heap.size w w') : CodeRes Cb w' ls := by
  obtain ⟨sb, sc, hh, hlt, hc⟩ := h
  exact ⟨sb, sc, (hb.block Cb (Array.getElem?_eq_some_iff.1 hh).1).trans hh, hlt, fun j hj => (hb.cell (p := ⟨sb, j, none⟩) (World.block_lt_of_cell? w _ (hc j hj))).trans (hc j hj)⟩
set_option maxRecDepth 100000 in
set_option maxHeartbeats 8000000 in
theorem ownCodes_any {w0 : World} {Ob : Nat} {ba : Option Addr} {bn bc N most : Nat} {bs : List Int} (HS : SrcB w0 ba bn bc N most bs) (w : World) (p : Nat) (mv : Value) (made : List Int) (H : OutL 8 w0 Ob ba bn bc N most w p mv made) :
    Calls Tryz.prog 90 #[.pointer (some ⟨Ob, 0, none⟩)] w (GotCC w0 Ob ba bn bc N most w mv made (ownCodesN N (8 * bn) p)) := by
  have HSS := Lib.hid HS
  have hnum := howMany_any HS w p mv made H 5 257 286 (by omega) (by omega) (by omega)
  clear HS H
  go_enter Tryz.func90, Tryz.ntmps90
  go_wp2_with fail
  refine hnum.mono ?_
  intro e w1 hgot
  obtain ⟨n, q, hr, rfl, ht, ho⟩ | ⟨k, hr, rfl, ht⟩ := hgot.lift
  · have HR1 := Lib.hid hr
    have HT1 := Lib.hid ht
    have hn := howMany_bound hr
    have hnum2 := howMany_any HSS.out w1 q mv made ho 5 1 30 (by omega) (by omega) (by omega)
    clear hnum hgot hr ht ho
    go_wp2_with fail
    refine hnum2.mono ?_
    intro e w2 hgot
    obtain ⟨m, r, hr, rfl, ht, ho⟩ | ⟨k, hr, rfl, ht⟩ := hgot.lift
    · have HR2 := Lib.hid hr
      have HT2 := Lib.hid (HT1.out.trans ht)
      have hm := howMany_bound hr
      have hcol := codeOfLengths_any HSS.out w2 r mv made ho
      clear hnum2 hgot hr ht ho
      go_wp2_with fail
      refine hcol.mono ?_
      rintro e w3 (⟨s, c, Cb, hr, rfl, ht, ho, hca⟩ | ⟨k, hr, rfl, ht⟩)
      · have HR3 := Lib.hid hr
        have HT3 := Lib.hid (HT2.out.trans ht)
        have hlen := lengths_any HSS.out w3 s mv made ho Cb c hca (lengths_18 hr) (n + m) (by omega)
        rw [show ((n + m : Nat) : Int) = (n : Int) + (m : Int) by omega] at hlen
        clear hcol hr ht ho hca
        go_wp2_with fail
        refine hlen.mono ?_
        rintro e w4 (⟨t, ls, a, cp, hr, rfl, ht, ho, hrow, hl15⟩ | ⟨k, hr, rfl, ht⟩)
        · have HSP := Lib.hid (own_on HR1.out HR2.out HR3.out hr)
          have hll : ls.length = n + m := lens_len _ _ _ _ _ (Nat.zero_le _) hr
          have HT4 := Lib.hid (HT3.out.trans ht)
          have HO4 := Lib.hid ho
          have hnums := hrow.nums.1
          have hcap := hrow.cap
          rw [hll] at hnums hcap
          have HNT := Lib.hid (hnums.take n (by omega))
          have HND := Lib.hid (hnums.drop hcap n (by omega))
          have HNW := Lib.hid hnums
          have HL15 := Lib.hid hl15
          have HLL := Lib.hid hll
          have s1 := fun W => slice_to_i a (n + m) cp n (by omega) W
          have s2 := fun W => slice_from_i a (n + m) cp n (by omega) hcap W
          rw [hll]
          rw [show n + m - n = m by omega] at s2 HND
          clear hlen hr ht ho hrow hl15 hnums hll
          go_wp2_with fail
          --#B
          refine wp_region_noPanic ?_
          refine wp_region_held_drew (S := fun W => Below w4.heap.size w4 W) (by kernel_rfl) ?_ (fun hHeld => ?_)
          · exact (Below.refl _ _).drew
          refine wpAnyH_take (i := 0) (v := ?_) (by simp only [List.getElem?_toArray, List.getElem?_cons_zero]; rfl) (by kernel_rfl) (by kernel_rfl) (by kernel_rfl) (fun _ _ _ h => h) (Or.inl ⟨by rfl, ?_⟩) (by assumption) ?_
          rotate_left
          · intro W hSW
            go_simp
            try with_reducible rfl
          try simp only [Act.put, List.setIfInBounds_toArray, List.set_cons_zero, List.set_cons_succ]
          refine wpAnyH_take (i := 1) (v := ?_) (by simp only [List.getElem?_toArray, List.getElem?_cons_succ, List.getElem?_cons_zero]; rfl) (by kernel_rfl) (by kernel_rfl) (by kernel_rfl) (fun _ _ _ h => h) (Or.inl ⟨by rfl, ?_⟩) (by assumption) ?_
          rotate_left
          · intro W hSW
            go_simp
            try with_reducible rfl
          try simp only [Act.put, List.setIfInBounds_toArray, List.set_cons_zero, List.set_cons_succ]
          refine wpAnyH_take (i := 2) (v := ?_) (by simp only [List.getElem?_toArray, List.getElem?_cons_succ, List.getElem?_cons_zero]; rfl) (by kernel_rfl) (by kernel_rfl) (by kernel_rfl) (fun _ _ _ h => h) (Or.inl ⟨by rfl, ?_⟩) (by assumption) ?_
          rotate_left
          · intro W hSW
            go_simp
            try with_reducible rfl
          try simp only [Act.put, List.setIfInBounds_toArray, List.set_cons_zero, List.set_cons_succ]
          refine wpAnyH_take (i := 4) (v := ?_) (by simp only [List.getElem?_toArray, List.getElem?_cons_succ, List.getElem?_cons_zero]; rfl) (by kernel_rfl) (by kernel_rfl) (by kernel_rfl) (fun _ _ _ h => h) (Or.inl ⟨by rfl, ?_⟩) (by assumption) ?_
          rotate_left
          · intro W hSW
            go_simp
            try with_reducible rfl
          try simp only [Act.put, List.setIfInBounds_toArray, List.set_cons_zero, List.set_cons_succ]
          refine wpAnyH_take (i := 5) (v := ?_) (by simp only [List.getElem?_toArray, List.getElem?_cons_succ, List.getElem?_cons_zero]; rfl) (by kernel_rfl) (by kernel_rfl) (by kernel_rfl) (fun _ _ _ h => h) (Or.inl ⟨by rfl, ?_⟩) (by assumption) ?_
          rotate_left
          · intro W hSW
            go_simp
            try with_reducible rfl
          try simp only [Act.put, List.setIfInBounds_toArray, List.set_cons_zero, List.set_cons_succ]
          refine wpAnyH_take (i := 6) (v := ?_) (by simp only [List.getElem?_toArray, List.getElem?_cons_succ, List.getElem?_cons_zero]; rfl) (by kernel_rfl) (by kernel_rfl) (by kernel_rfl) (fun _ _ _ h => h) (Or.inl ⟨by rfl, ?_⟩) (by assumption) ?_
          rotate_left
          · intro W hSW
            go_simp
            try with_reducible rfl
          try simp only [Act.put, List.setIfInBounds_toArray, List.set_cons_zero, List.set_cons_succ]
          refine wpAnyH_ready (rs := [3]) (by kernel_rfl) (by simp) ?_
          refine AllReadyH.cons (by simp only [List.getElem?_toArray, List.getElem?_cons_succ, List.getElem?_cons_zero]; rfl) (fun K hK => ?_) AllReadyH.nil
          go_simp
          with_reducible refine (codeOf_any w4.drew a n cp (ls.take n) (by omega) (by omega) (HNT.out.below ((Below.refl _ _).drew)) (fun x hx => HL15.out x (List.mem_of_mem_take hx))).mono ?_
          rintro e w5 ⟨rfl, hb, hres⟩
          have hS5 : Below w4.heap.size w4 w5 := (Below.refl _ _).drew.trans hb
          have HS5 := Lib.hid hS5
          have HC1 : Hid (CodeRes w4.heap.size w5 (ls.take n)) := hres
          have hlt5 : w4.heap.size < w5.heap.size := by obtain ⟨sb, sc, hh, -⟩ := hres; exact (Array.getElem?_eq_some_iff.1 hh).1
          clear hb hres
          refine hK.out _ _ hS5 (fun hHeld2 => ?_)
          clear hK K hHeld hHeld2
          try simp only [Act.put, List.setIfInBounds_toArray, List.set_cons_zero, List.set_cons_succ]
          refine wpAnyH_ready (rs := [7]) (by kernel_rfl) (by simp) ?_
          refine AllReadyH.cons (by simp only [List.getElem?_toArray, List.getElem?_cons_succ, List.getElem?_cons_zero]; rfl) (fun K hK => ?_) AllReadyH.nil
          go_simp
          with_reducible refine (codeOf_any w5 (subA a cp n) m (cp - n) (ls.drop n) (by omega) (by omega) (HND.out.below HS5.out) (fun x hx => HL15.out x (List.mem_of_mem_drop hx))).mono ?_
          rintro e w6 ⟨rfl, hb, hres⟩
          have hS6 : Below w4.heap.size w4 w6 := HS5.out.trans (hb.mono HS5.out.size)
          have HS6 := Lib.hid hS6
          have HC2 := Lib.hid hres
          have HC1b := Lib.hid (HC1.out.below trivial hb)
          clear hb hres hS5
          refine hK.out _ _ hS6 (fun hHeld2 => ?_)
          clear hK K hHeld2
          try simp only [Act.put, List.setIfInBounds_toArray, List.set_cons_zero, List.set_cons_succ]
          refine wpAnyH_take (i := 8) (v := ?_) (by simp only [List.getElem?_toArray, List.getElem?_cons_succ, List.getElem?_cons_zero]; rfl) (by kernel_rfl) (by kernel_rfl) (by kernel_rfl) (fun _ _ _ h => h) (Or.inl ⟨by rfl, ?_⟩) (by assumption) ?_
          rotate_left
          · intro W hSW
            go_simp
            try with_reducible rfl
          try simp only [Act.put, List.setIfInBounds_toArray, List.set_cons_zero, List.set_cons_succ]
          refine wpAnyH_take (i := 9) (v := ?_) (by simp only [List.getElem?_toArray, List.getElem?_cons_succ, List.getElem?_cons_zero]; rfl) (by kernel_rfl) (by kernel_rfl) (by kernel_rfl) (fun _ _ _ h => h) (Or.inl ⟨by rfl, ?_⟩) (by assumption) ?_
          rotate_left
          · intro W hSW
            go_simp
            try with_reducible rfl
          try simp only [Act.put, List.setIfInBounds_toArray, List.set_cons_zero, List.set_cons_succ]
          refine wpAnyH_done (by kernel_rfl) ?_ _
          refine NoPanic.normal ?_
          have hO4 := HO4.out.lt
          have hmid4 := HO4.out.mid
          have HCA := Lib.hid (HC1b.out.at (Ob := Ob) (mv := mv) (fun x hx => HL15.out x (List.mem_of_mem_take hx)) (by rw [List.length_take]; omega) hO4 hmid4)
          have HCB := Lib.hid (HC2.out.at (Ob := Ob) (mv := mv) (fun x hx => HL15.out x (List.mem_of_mem_drop hx)) (by rw [List.length_drop, HLL.out]; omega) (by omega) (fun k hk => by have := hmid4 k hk; omega))
          have HO6 := Lib.hid (HO4.out.below HS6.out)
          have HT6 : Hid (Turn Ob mv mv w w6) := HT4.out.trans (Turn.of_below HS6.out)
          obtain ⟨g, o, hag, hcell⟩ := (HNW.out.below HS6.out).2 256 (by omega)
          subst hag
          clear s1 s2 hmid4 HC1 HC2 HC1b HS5 HS6 hS6
          have hi256 : (256 : Int) < (n : Int) + (m : Int) := by omega
          have hi256n : 256 < n + m := by omega
          generalize hD1 : w4.heap.size = D1 at *
          generalize hD2 : w5.heap.size = D2 at *
          clear hD1 hD2
          obtain ⟨y, hy⟩ : ∃ y, ls.getD 256 0 = y := ⟨_, rfl⟩
          rw [hy] at hcell HSP
          clear hy
          have hgo1 := good_any w6 mv D1 (codeOfN (ls.take n)) HCA.out
          have hgo2 := goodDist_any w6 mv D2 (codeOfN (ls.drop n)) HCB.out
          by_cases hy0 : y = 0
          · have hy0i : ((y : Int) == 0) = true := by simp; omega
            have HRES : Hid (ownCodesN N (8 * bn) p = .error 4) := by show _ = _; rw [HSP.out, if_pos (Or.inl hy0)]
            go_wp2_with fail
            refine (with_any 4 w6).mono ?_
            rintro e w7 ⟨rfl, rfl⟩
            dsimp only [thrown]
            go_wp2_with fail
            exact ⟨rfl, .inr ⟨4, HRES.out, rfl, HT6.out⟩⟩
          · have hy0i : ((y : Int) == 0) = false := by simp; omega
            cases hg1 : goodN (codeOfN (ls.take n)) with
            | false =>
              have HRES : Hid (ownCodesN N (8 * bn) p = .error 4) := by show _ = _; rw [HSP.out, if_pos (Or.inr (Or.inl hg1))]
              rw [hg1] at hgo1
              clear hg1
              go_wp2_with fail
              refine hgo1.mono ?_
              rintro e w7 ⟨rfl, rfl⟩
              clear hgo1
              go_wp2_with fail
              refine (with_any 4 w6).mono ?_
              rintro e w7 ⟨rfl, rfl⟩
              dsimp only [thrown]
              go_wp2_with fail
              exact ⟨rfl, .inr ⟨4, HRES.out, rfl, HT6.out⟩⟩
            | true =>
              rw [hg1] at hgo1
              have HG1 := Lib.hid hg1
              clear hg1
              obtain ⟨bd, hg2⟩ : ∃ bd, ((codeOfN (ls.drop n)).sg == [] || goodN (codeOfN (ls.drop n))) = bd := ⟨_, rfl⟩
              rw [hg2] at hgo2
              have HG2 := Lib.hid hg2
              clear hg2
              cases bd with
              | false =>
                have HRES : Hid (ownCodesN N (8 * bn) p = .error 4) := by
                  show _ = _
                  have hg2 := HG2.out
                  rw [Bool.or_eq_false_iff] at hg2
                  have hne : (codeOfN (ls.drop n)).sg ≠ [] := fun e => by rw [e] at hg2; exact Bool.noConfusion hg2.1
                  rw [HSP.out]
                  exact if_pos (Or.inr (Or.inr ⟨hg2.2, hne⟩))
                go_wp2_with fail
                refine hgo1.mono ?_
                rintro e w7 ⟨rfl, rfl⟩
                clear hgo1
                go_wp2_with fail
                refine hgo2.mono ?_
                rintro e w7 ⟨rfl, rfl⟩
                clear hgo2
                go_wp2_with fail
                refine (with_any 4 w6).mono ?_
                rintro e w7 ⟨rfl, rfl⟩
                dsimp only [thrown]
                go_wp2_with fail
                exact ⟨rfl, .inr ⟨4, HRES.out, rfl, HT6.out⟩⟩
              | true =>
                have HRES : Hid (ownCodesN N (8 * bn) p = .ok (t, codeOfN (ls.take n), codeOfN (ls.drop n))) := by
                  show _ = _
                  have hg2 := HG2.out
                  have hneg : ¬ (y = 0 ∨ goodN (codeOfN (ls.take n)) = false ∨ (goodN (codeOfN (ls.drop n)) = false ∧ (codeOfN (ls.drop n)).sg ≠ [])) := by
                    intro h
                    rcases h with h | h | h
                    · exact hy0 h
                    · rw [HG1.out] at h; exact Bool.noConfusion h
                    · rw [h.1, Bool.or_false] at hg2
                      exact h.2 (of_decide_eq_true (by
                        cases hsg : (codeOfN (ls.drop n)).sg with
                        | nil => rfl
                        | cons a b => rw [hsg] at hg2; exact Bool.noConfusion hg2))
                  rw [HSP.out]
                  exact if_neg hneg
                go_wp2_with fail
                refine hgo1.mono ?_
                rintro e w7 ⟨rfl, rfl⟩
                clear hgo1
                go_wp2_with fail
                refine hgo2.mono ?_
                rintro e w7 ⟨rfl, rfl⟩
                clear hgo2
                go_wp2_with fail
                go_ret2
                exact .inl ⟨t, _, _, D1, D2, HRES.out, rfl, HT6.out, HO6.out, HCA.out, HCB.out⟩
          --#E
        · have HRES := Lib.hid (own_e4 HR1.out HR2.out HR3.out hr)
          have HT4 := Lib.hid (HT3.out.trans ht)
          clear hlen hr ht
          go_wp2_with fail
          exact ⟨rfl, .inr ⟨k, HRES.out, rfl, HT4.out⟩⟩
      · have HRES := Lib.hid (own_e3 HR1.out HR2.out hr)
        have HT3 := Lib.hid (HT2.out.trans ht)
        clear hcol hr ht
        go_wp2_with fail
        exact ⟨rfl, .inr ⟨k, HRES.out, rfl, HT3.out⟩⟩
    · have HRES := Lib.hid (own_e2 HR1.out hr)
      have HT2 := Lib.hid (HT1.out.trans ht)
      clear hnum2 hgot hr ht
      go_wp2_with fail
      exact ⟨rfl, .inr ⟨k, HRES.out, rfl, HT2.out⟩⟩
  · have HRES := Lib.hid (own_e1 hr)
    have HT1 := Lib.hid ht
    clear hnum hgot hr ht
    go_wp2_with fail
    exact ⟨rfl, .inr ⟨k, HRES.out, rfl, HT1.out⟩⟩
end Go.Proofs.YtglgchjkonjpiaaGreatDoor
