/- The document's Parse of marks: the walk. -/
import Derived.Test.YtlhdjbnilfbaoaaRefMk
namespace Go.Proofs.Ytlhdjbnilfbaoaa
open Go.RowKit Plain
set_option linter.unusedVariables false
set_option linter.unusedSimpArgs false
theorem append_rpairs_run (w : World) (ty : TypeId) (base : Nat) (v : Value) (ps : List (List Int)) (hown : OwnP 44 w base v ps) (a : Option Addr) (c : Nat) (qs : List (List Int)) (hq : PsAt w a qs) (hnil : a = none → c = 0)
    (hsum : ps.length + qs.length ≤ 10000000) (hbase : base ≤ w.heap.size) :
    ∃ v' w', (Builtin.append_ #[22, 22] ty #[v, .slice a qs.length c]).run Try.prog w = .ok v' w' ∧ OwnP 44 w' base v' (ps ++ qs) ∧ w.grownBy w' v.ownBlock := by
  obtain ⟨i, hi, hz0, hz1, hz2⟩ := parts_r
  have h40 : ∀ p ∈ ps ++ qs, p.length = 40 := fun p hp => (List.mem_append.1 hp).elim (hown.2 p) (hq.each p)
  have key : ∀ x : Addr, (∀ j u, (flat qs)[j]? = some u → w.cell? (x.add j) = some u) →
      ∃ v' w', (Builtin.append_ #[22, 22] ty #[v, .slice (some x) qs.length c]).run Try.prog w = .ok v' w' ∧ OwnP 44 w' base v' (ps ++ qs) ∧ w.grownBy w' v.ownBlock := by
    intro x hx
    obtain ⟨v', w', r1, r2, r3, -⟩ := run_append_own (P := Try.prog) w base 22 ty 44 i (.agg (V8 noPair)) 40 40 Try.underlying22 hi hz0 hz1 hz2 (by show (V8 noPair).size = 40; rw [V8_size, noPair_len]) (by decide) v ps.length _ hown.1 x qs.length c (flat qs) (flat_len qs hq.each) hx
      (U8_one _) (by unfold maxLen; omega) (by omega) hbase
    exact ⟨v', w', r1, ⟨by rw [flat_append, List.length_append]; exact r2, h40⟩, r3⟩
  by_cases h0 : qs.length = 0
  · obtain rfl : qs = [] := List.eq_nil_of_length_eq_zero h0
    cases a with
    | none =>
      obtain rfl := hnil rfl
      refine ⟨v, w, run_append_owned_none (P := Try.prog) (w := w) base 22 ty 44 i 40 Try.underlying22 hi v ps.length _ hown.1, by simpa using hown, ⟨rfl, rfl, rfl, Nat.le_refl _, fun _ _ _ => rfl⟩⟩
    | some x => exact key x (by simp [flat, U8])
  · rcases hq.rows with h | ⟨b, off, rfl, hbl, hc⟩
    · omega
    · refine key _ fun j u hu => ?_
      have hj := (List.getElem?_eq_some_iff.1 hu).1
      rw [flat_len qs hq.each] at hj
      have hj40 : j / 40 < qs.length := by omega
      have hp : qs[j / 40]? = some (qs[j / 40]'hj40) := List.getElem?_eq_getElem hj40
      have hm := flat_get qs (j / 40) (j % 40) _ hq.each hp (Nat.mod_lt _ (by omega))
      have e : j / 40 * 40 + j % 40 = j := by omega
      rw [e, hu] at hm
      have := hc (j / 40) _ hp (j % 40) u hm.symm
      rw [Addr.add_mid]
      rw [show off + j / 40 * 40 + j % 40 = off + j by omega] at this
      exact this
theorem wpList_append_rpairs {w : World} {ops : Array Oper} {rest : List Oper} {o : Oper} {ac : Act} {Q : Exit → Act → World → Prop} (hgd : o.guard = none) (s x : Operand)
    (ho : o.op = .call { callee := .builtin .append, args := #[s, x], argTypes := #[22, 22] })
    (base : Nat) (v : Value) (ps : List (List Int)) (hs : ac.eval s = v) (hown : OwnP 44 w base v ps) (a : Option Addr) (m c : Nat) (qs : List (List Int)) (hm : qs.length = m) (hx : ac.eval x = .slice a m c) (hq : PsAt w a qs) (hnil : a = none → c = 0)
    (hsum : ps.length + qs.length ≤ 10000000) (hbase : base ≤ w.heap.size)
    (h : ∀ v' w', OwnP 44 w' base v' (ps ++ qs) → w.grownBy w' v.ownBlock → wpList Try.prog ops Q rest (ac.put o.dst v') w') : wpList Try.prog ops Q (o :: rest) ac w := by
  subst hm
  obtain ⟨v', w', hrun, r1, r2⟩ := append_rpairs_run w o.type base v ps hown a c qs hq hnil hsum hbase
  refine Lib.wpList_append_run _ hgd _ _ _ _ ho _ _ hs hx _ _ hrun ?_
  exact h v' w' r1 r2
theorem one_rpair (w : World) (q : List Int) (hq : q.length = 40) : PsAt (w.alloc (.cells (V8 q) 44)) (some ⟨w.heap.size, 0, none⟩) [q] :=
  ⟨fun p hp => by rw [List.mem_singleton.1 hp]; exact hq, .inr ⟨w.heap.size, 0, rfl, by simp, fun j p hj => by
    match j, hj with
    | 0, hj =>
      injection hj with hj
      subst hj
      rw [Nat.zero_mul, Nat.zero_add]
      exact box_range w _ _⟩⟩
theorem slice_txt (l : List UInt8) (lo hi : Nat) (h1 : lo ≤ hi) (h2 : hi ≤ l.length) (y x : Int) (hy : y = (lo : Int)) (hx : x = (hi : Int)) (w : World) : (Instr.slice 9 (.string (txt l)) (some (.int .i64 y)) (some (.int .i64 x)) none).run Try.prog w = .ok (.string (txt ((l.drop lo).take (hi - lo)))) w := by
  subst hx hy
  have ht := Try.underlying9
  have h3 : hi ≤ (txt l).size := by rw [txt_size]; exact h2
  have e : (txt l).extract lo hi = txt ((l.drop lo).take (hi - lo)) := by
    apply ByteArray.ext
    apply Array.toList_inj.1
    rw [txt_list]
    simp [txt, List.extract_eq_take_drop]
  simp [Instr.slice, run_underlying ht, Instr.sliceBounds, run_sliceBound, h1, h3, e]
theorem off_of_r {w w' : World} {base : Nat} {v : Value} {ps : List (List Int)} (h : OwnP 44 w base v ps) (hb : base ≤ w.heap.size) (hg : w.grownBy w' v.ownBlock) : Below base w w' :=
  (Below.refl _ _).grown hg hb fun k hk => (h.lt hk).1
def RMkParse (base : Nat) (e : Ending) (w' : World) : Option (List (List Int)) → Prop
  | none => e = .returned (.tuple #[.slice none 0 0, .int .i64 4])
  | some ps => if rightP ps = true then ∃ a c, e = .returned (.tuple #[.slice a ps.length c, .int .i64 0]) ∧ OwnP 44 w' base (.slice a ps.length c) ps
    else e = .returned (.tuple #[.slice none 0 0, .int .i64 9])
theorem RMkParse.clash {base : Nat} {w' : World} {ps : List (List Int)} (h : rightP ps = false) : RMkParse base (.returned (.tuple #[.slice none 0 0, .int .i64 9])) w' (some ps) := by
  show if rightP ps = true then _ else _
  rw [if_neg (by rw [h]; decide)]
theorem RMkParse.good {base m : Nat} {w' : World} {ps : List (List Int)} {a : Option Addr} {c : Nat} (h : rightP ps = true) (hm : ps.length = m) (ho : OwnP 44 w' base (.slice a ps.length c) ps) : RMkParse base (.returned (.tuple #[.slice a m c, .int .i64 0])) w' (some ps) := by
  subst hm
  show if rightP ps = true then _ else _
  rw [if_pos h]
  exact ⟨a, c, rfl, ho⟩
theorem at8_is (l : List UInt8) (i : Nat) (c : UInt8) (h : i < l.length) : (l[i]? == some c) = decide (at8 (txt l) i = c.toNat) := by
  rw [at8_txt, List.getElem?_eq_getElem h, Option.getD_some]
  by_cases e : l[i] = c
  · rw [e]; simp
  · rw [decide_eq_false (fun h2 => e (UInt8.toNat_inj.1 h2))]
    simp [e]
set_option maxRecDepth 100000 in
set_option maxHeartbeats 32000000 in
theorem rparse_any (L0 : List UInt8) (w : World) (hn : L0.length ≤ 10000000) :
    Calls Try.prog 12 #[.string (txt L0)] w fun e w' => RMkParse w.heap.size e w' (pairsL L0) ∧ Below w.heap.size w w' := by
  have HL0 := Lib.hid hn
  have hz24 := zero_24
  obtain ⟨nl, hnl⟩ : ∃ n, L0.length = n := ⟨_, rfl⟩
  have HNL := Lib.hid hnl
  have hts : (txt L0).size = nl := by rw [txt_size, hnl]
  have hnb : nl ≤ 10000000 := by omega
  have HNB := Lib.hid hnb
  clear hn hnl hnb
  go_enter Try.func12, Try.ntmps12
  go_wp2_with fail
  go_loopw [4, 5] (fun l r wr => ∃ (acc : List (List Int)) (k : Nat), OwnP 44 wr w.heap.size l acc ∧ r = .int .i64 (k : Int) ∧ k = 82 * acc.length ∧ k ≤ nl ∧ pairsL L0 = (pairsL (L0.drop k)).map (acc ++ ·) ∧ Below w.heap.size w wr) (fun _ r _ => nl - (intOf r).toNat)
  case atStart => exact ⟨[], 0, OwnP.nil _ _ _, rfl, rfl, by omega, by (show pairsL L0 = (pairsL L0).map _; cases pairsL L0 with | none => rfl | some x => rfl), Below.refl _ _⟩
  case round =>
    obtain ⟨acc, k, hown, rfl, hka, hkn, hpr, hb⟩ := hrel
    obtain ⟨la, lc, rfl⟩ := own_shape hown
    have HO := Lib.hid hown
    have HPR := Lib.hid hpr
    have HKA := Lib.hid hka
    have HBW := Lib.hid hb
    have HAL : Hid (acc.length ≤ 1000000) := by show _ ≤ _; have := HNB.out; omega
    clear hown hpr hka hb
    by_cases hL : k = nl
    · subst hL
      have hki : ¬ (k : Int) < (k : Int) := by omega
      have hdr : L0.drop k = [] := List.drop_of_length_le (by rw [HNL.out]; omega)
      have hpr := HPR.out
      rw [hdr, pairs_nil, Option.map_some, List.append_nil] at hpr
      have HPR2 := Lib.hid hpr
      clear hpr HPR hdr
      obtain ⟨a9, c9, e9, hat, -, -⟩ := HO.out.at
      simp only [Value.slice.injEq] at e9
      obtain ⟨rfl, -, rfl⟩ := e9
      have HRT := Lib.hid (rright_any la lc acc wr hat HAL.out)
      obtain ⟨m, hm⟩ : ∃ m, acc.length = m := ⟨_, rfl⟩
      rw [hm] at HRT HO ⊢
      have HM := Lib.hid hm
      clear hat hm HKA HAL
      go_wp2_with fail
      refine HRT.out.mono ?_
      rintro e w3 ⟨rfl, hb⟩
      have HB3 := Lib.hid (HBW.out.trans (hb.mono HBW.out.size))
      have HO3 := Lib.hid (OwnP.below (ps := acc) (by have := HO.out; rw [← HM.out] at this; exact this) hb)
      clear hb HRT HO
      cases hrp : rightP acc
      · have HP : Hid (RMkParse w.heap.size (.returned (.tuple #[.slice none 0 0, .int .i64 9])) w3 (pairsL L0)) := by
          show RMkParse _ _ _ _
          rw [HPR2.out]
          exact RMkParse.clash hrp
        clear hrp
        go_wp2_with fail
        (try simp only [Exit.inBlock, Exit.then])
        go_ret2
        exact ⟨HP.out, HB3.out⟩
      · have HP : Hid (RMkParse w.heap.size (.returned (.tuple #[.slice la m lc, .int .i64 0])) w3 (pairsL L0)) := by
          show RMkParse _ _ _ _
          rw [HPR2.out]
          exact RMkParse.good hrp HM.out HO3.out
        clear hrp
        go_wp2_with fail
        (try simp only [Exit.inBlock, Exit.then])
        go_ret2
        exact ⟨HP.out, HB3.out⟩
    · have hlt : k < nl := by omega
      have hki : (k : Int) < (nl : Int) := by omega
      have wd : wrap64 ((nl : Int) - (k : Int)) = ((nl - k : Nat) : Int) := by
        rw [show (nl : Int) - (k : Int) = ((nl - k : Nat) : Int) by omega]
        exact IntWalk.wrap64_in _ (by have := HNB.out; omega)
      have hne : L0.drop k ≠ [] := fun e => by
        have := congrArg List.length e
        rw [List.length_drop, HNL.out] at this
        simp at this; omega
      have hdl : (L0.drop k).length = nl - k := by rw [List.length_drop, HNL.out]
      have HBADF : Hid (lineOk (L0.drop k) = false → ∀ W, RMkParse w.heap.size (.returned (.tuple #[.slice none 0 0, .int .i64 4])) W (pairsL L0)) := fun h W => by
        rw [HPR.out, pairs_bad hne h]
        exact rfl
      have HLK : Hid (lineOk (L0.drop k) = (decide (82 ≤ nl - k) && (L0.drop k)[40]? == some 32 && (L0.drop k)[81]? == some 10 && isHex (txt (gitL (L0.drop k))) && isHex (txt (hgL (L0.drop k))))) := by
        show _ = _
        rw [← hdl]; rfl
      have HKL := Lib.hid hlt
      clear hne hdl hL hlt
      by_cases hd : 82 ≤ nl - k
      · have hdi : ¬ ((nl - k : Nat) : Int) < 82 := by omega
        have h40n : k + 40 < nl := by omega
        have h81n : k + 81 < nl := by omega
        have w40 : wrap64 ((k : Int) + 40) = ((k + 40 : Nat) : Int) := by
          rw [show (k : Int) + 40 = ((k + 40 : Nat) : Int) by omega]
          exact IntWalk.wrap64_in _ (by have := HNB.out; omega)
        have w81 : wrap64 ((k : Int) + 81) = ((k + 81 : Nat) : Int) := by
          rw [show (k : Int) + 81 = ((k + 81 : Nat) : Int) by omega]
          exact IntWalk.wrap64_in _ (by have := HNB.out; omega)
        have w41 : wrap64 ((k : Int) + 41) = ((k + 41 : Nat) : Int) := by
          rw [show (k : Int) + 41 = ((k + 41 : Nat) : Int) by omega]
          exact IntWalk.wrap64_in _ (by have := HNB.out; omega)
        have WK := Lib.hid (by
          rw [show (k : Int) + 82 = ((k + 82 : Nat) : Int) by omega]
          exact IntWalk.wrap64_in _ (by have := HNB.out; omega) : wrap64 ((k : Int) + 82) = ((k + 82 : Nat) : Int))
        have hi40 := fun W => index_text (txt L0) (k + 40) (by rw [hts]; omega) _ rfl W
        have hi81 := fun W => index_text (txt L0) (k + 81) (by rw [hts]; omega) _ rfl W
        have hg : (L0.drop k)[40]? = L0[k + 40]? := List.getElem?_drop
        have hh : (L0.drop k)[81]? = L0[k + 81]? := List.getElem?_drop
        have HLK2 : Hid (lineOk (L0.drop k) = (decide (at8 (txt L0) (k + 40) = 32) && decide (at8 (txt L0) (k + 81) = 10) && isHex (txt (gitL (L0.drop k))) && isHex (txt (hgL (L0.drop k))))) := by
          show _ = _
          rw [HLK.out, hg, hh, decide_eq_true hd, at8_is L0 (k + 40) 32 (by rw [HNL.out]; omega), at8_is L0 (k + 81) 10 (by rw [HNL.out]; omega)]
          rfl
        have hsg := fun W => slice_txt L0 k (k + 40) (by omega) (by rw [HNL.out]; omega) (k : Int) _ rfl rfl W
        have hsh := fun W => slice_txt L0 (k + 41) (k + 81) (by omega) (by rw [HNL.out]; omega) _ _ rfl rfl W
        rw [show k + 40 - k = 40 by omega] at hsg
        rw [show k + 81 - (k + 41) = 40 by omega, ← List.drop_drop] at hsh
        have HGS : Hid ((txt ((L0.drop k).take 40)).size ≤ 9223372036854775807) := Nat.le_trans (Nat.le_of_eq (txt_size _)) (Nat.le_trans (List.length_take_le _ _) (by decide))
        have HHS : Hid ((txt (((L0.drop k).drop 41).take 40)).size ≤ 9223372036854775807) := Nat.le_trans (Nat.le_of_eq (txt_size _)) (Nat.le_trans (List.length_take_le _ _) (by decide))
        clear HLK hg hh
        have HGL : Hid (gitL (L0.drop k) = (L0.drop k).take 40) := rfl
        have HHL : Hid (hgL (L0.drop k) = ((L0.drop k).drop 41).take 40) := rfl
        have HLP : Hid (lineP (L0.drop k) = parsed (txt ((L0.drop k).take 40)) ++ parsed (txt (((L0.drop k).drop 41).take 40))) := rfl
        have HLI : Hid (isHex (txt (gitL (L0.drop k))) = isHex (txt ((L0.drop k).take 40)) ∧ isHex (txt (hgL (L0.drop k))) = isHex (txt (((L0.drop k).drop 41).take 40))) := ⟨rfl, rfl⟩
        have HDD : Hid (82 ≤ nl - k) := hd
        obtain ⟨n40, hn40⟩ : ∃ n, k + 40 = n := ⟨_, rfl⟩
        obtain ⟨n41, hn41⟩ : ∃ n, k + 41 = n := ⟨_, rfl⟩
        obtain ⟨n81, hn81⟩ : ∃ n, k + 81 = n := ⟨_, rfl⟩
        simp only [hn40] at w40 hi40 hsg HLK2
        simp only [hn41] at w41 hsh
        simp only [hn81] at w81 hi81 hsh HLK2
        have h40i : (n40 : Int) < (nl : Int) := Int.ofNat_lt.2 (hn40 ▸ h40n)
        have h81i : (n81 : Int) < (nl : Int) := Int.ofNat_lt.2 (hn81 ▸ h81n)
        clear hd hn40 hn41 hn81 h40n h81n
        generalize at8 (txt L0) n40 = c1 at *
        generalize at8 (txt L0) n81 = c2 at *
        generalize nl - k = dd at *
        by_cases e1 : c1 = 32
        · subst e1
          by_cases e2 : c2 = 10
          · subst e2
            have hlk := HLK2.out
            rw [HLI.out.1, HLI.out.2] at hlk
            have HLK3 := Lib.hid hlk
            clear hlk HLK2 HLI HGL HHL
            generalize (L0.drop k).take 40 = G at *
            generalize ((L0.drop k).drop 41).take 40 = H at *
            go_wp2_with fail
            refine (refParse_any (txt G) wr HGS.out).mono ?_
            rintro e w3 ⟨rfl, hb⟩
            have HB3 := Lib.hid (HBW.out.trans (hb.mono HBW.out.size))
            have HO3 := Lib.hid (HO.out.below hb)
            have HPG : Hid ((parsed (txt G)).length = 20) := parsed_length _
            have HPH : Hid ((parsed (txt H)).length = 20) := parsed_length _
            clear hb hsg HGS
            generalize parsed (txt G) = pg at *
            generalize isHex (txt G) = kg at *
            have HIG : Hid ((Try.prog.info? 41).map (·.size) = some (V8 pg).size) := info24 _ HPG.out
            have HSG : Hid ((V8 zeros20).size = (V8 pg).size) := by show _ = _; rw [V8_size, V8_size, HPG.out]; rfl
            have HZG : Hid ((w3.alloc (.cells (V8 zeros20) 41)).heap[w3.heap.size]? = some (.cells (V8 zeros20) 41 (0, 0))) := heap_alloc_new _ _
            have hb4 : Below w3.heap.size w3 ((w3.alloc (.cells (V8 zeros20) 41)).setRow w3.heap.size (V8 pg)) := below_setRow ((Below.refl _ _).alloc (Nat.le_refl _) _) (Nat.le_refl _) _
            have HB4 := Lib.hid (HB3.out.trans (hb4.mono HB3.out.size))
            have HO4 := Lib.hid (HO3.out.below hb4)
            have HG4 := Lib.hid (setRow_heap _ _ _ (V8 pg) _ _ HZG.out)
            clear hb4 HO3 HB3
            go_wp2_with (first
              | refine wpList_store_row rfl 41 _ _ rfl w3.heap.size (V8 pg) rfl rfl 41 (V8 zeros20) HZG.out HIG.out HSG.out (V8_one _) ?_)
            clear HZG
            generalize (w3.alloc (.cells (V8 zeros20) 41)).setRow w3.heap.size (V8 pg) = w4 at *
            generalize w3.heap.size = bg at *
            refine (refParse_any (txt H) w4 HHS.out).mono ?_
            rintro e w5 ⟨rfl, hb⟩
            have HB5 := Lib.hid (HB4.out.trans (hb.mono HB4.out.size))
            have HO5 := Lib.hid (HO4.out.below hb)
            have HG5 : Hid (w5.heap[bg]? = some (.cells (V8 pg) 41 (0, 0))) := (hb.block bg (Array.getElem?_eq_some_iff.1 HG4.out).1).trans HG4.out
            clear hb HO4 HB4 HG4 HHS hsh
            generalize parsed (txt H) = ph at *
            generalize isHex (txt H) = kh at *
            have HIH : Hid ((Try.prog.info? 41).map (·.size) = some (V8 ph).size) := info24 _ HPH.out
            have HSH : Hid ((V8 zeros20).size = (V8 ph).size) := by show _ = _; rw [V8_size, V8_size, HPH.out]; rfl
            have HZH : Hid ((w5.alloc (.cells (V8 zeros20) 41)).heap[w5.heap.size]? = some (.cells (V8 zeros20) 41 (0, 0))) := heap_alloc_new _ _
            have hb6 : Below w5.heap.size w5 ((w5.alloc (.cells (V8 zeros20) 41)).setRow w5.heap.size (V8 ph)) := below_setRow ((Below.refl _ _).alloc (Nat.le_refl _) _) (Nat.le_refl _) _
            have HBX := Lib.hid (HB5.out.trans (hb6.mono HB5.out.size))
            have HO6 := Lib.hid (HO5.out.below hb6)
            have HG6 : Hid (((w5.alloc (.cells (V8 zeros20) 41)).setRow w5.heap.size (V8 ph)).heap[bg]? = some (.cells (V8 pg) 41 (0, 0))) := (hb6.block bg (Array.getElem?_eq_some_iff.1 HG5.out).1).trans HG5.out
            have HH6 := Lib.hid (setRow_heap _ _ _ (V8 ph) _ _ HZH.out)
            clear hb6 HO5 HB5 HG5
            have HBADG : Hid (lineOk (L0.drop k) = false → RMkParse w.heap.size (.returned (.tuple #[.slice none 0 0, .int .i64 4])) ((w5.alloc (.cells (V8 zeros20) 41)).setRow w5.heap.size (V8 ph)) (pairsL L0)) := fun h => HBADF.out h _
            cases kg
            · have HBAD := Lib.hid (HBADG.out (by rw [HLK3.out]; rfl))
              go_wp2_with (first
                | refine wpList_store_row rfl 41 _ _ rfl w5.heap.size (V8 ph) rfl rfl 41 (V8 zeros20) HZH.out HIH.out HSH.out (V8_one _) ?_)
              (try simp only [Exit.inBlock, Exit.then])
              go_ret2
              exact ⟨HBAD.out, HBX.out⟩
            cases kh
            · have HBAD := Lib.hid (HBADG.out (by rw [HLK3.out]; rfl))
              go_wp2_with (first
                | refine wpList_store_row rfl 41 _ _ rfl w5.heap.size (V8 ph) rfl rfl 41 (V8 zeros20) HZH.out HIH.out HSH.out (V8_one _) ?_)
              (try simp only [Exit.inBlock, Exit.then])
              go_ret2
              exact ⟨HBAD.out, HBX.out⟩
            have hok : lineOk (L0.drop k) = true := by rw [HLK3.out]; rfl
            have HPB := Lib.hid (build_rpair pg ph HPG.out HPH.out)
            have HPL : Hid ((pg ++ ph).length = 40) := by show _ = _; rw [List.length_append, HPG.out, HPH.out]
            have HQ : Hid (pairsL L0 = (pairsL (L0.drop (k + 82))).map ((acc ++ [pg ++ ph]) ++ ·)) := by
              show _ = _
              rw [HPR.out, pairs_step hok, HLP.out, Option.map_map, List.drop_drop]
              congr 1
              funext x
              simp
            have HKA2 : Hid (k + 82 = 82 * (acc ++ [pg ++ ph]).length) := by
              show _ = _
              rw [List.length_append, List.length_singleton, HKA.out]; omega
            have HK82 : Hid (k + 82 ≤ nl) := by
              show _ ≤ _
              have h2 := hok
              unfold lineOk at h2
              simp only [Bool.and_eq_true, decide_eq_true_eq] at h2
              have h3 := h2.1.1.1.1
              rw [List.length_drop, HNL.out] at h3
              omega
            have HLG := Lib.hid (id24_infoL pg HPG.out)
            have HLH := Lib.hid (id24_infoL ph HPH.out)
            have HBC := Lib.hid ((HBX.out.alloc HBX.out.size (.cells (V8 (pg ++ ph)) 44)))
            have HOC : Hid (OwnP 44 (((w5.alloc (.cells (V8 zeros20) 41)).setRow w5.heap.size (V8 ph)).alloc (.cells (V8 (pg ++ ph)) 44)) w.heap.size (.slice la acc.length lc) acc) := HO6.out.below ((Below.refl _ _).alloc (Nat.le_refl _) _)
            have HQC := Lib.hid (one_rpair ((w5.alloc (.cells (V8 zeros20) 41)).setRow w5.heap.size (V8 ph)) (pg ++ ph) HPL.out)
            have tok : True := trivial
            clear hok HBADF HBADG HPR HLK3 HLP HO6
            obtain ⟨w6, hw6⟩ : ∃ W, ((w5.alloc (.cells (V8 zeros20) 41)).setRow w5.heap.size (V8 ph)) = W := ⟨_, rfl⟩
            rw [hw6] at HG6 HH6 HBC HOC HQC HBX
            have HW6 := Lib.hid hw6
            go_wp2_with (first
              | (refine wpList_store_row rfl 41 _ _ rfl w5.heap.size (V8 ph) rfl rfl 41 (V8 zeros20) HZH.out HIH.out HSH.out (V8_one _) ?_; rw [HW6.out])
              | refine wpList_load_v8 rfl 41 _ rfl bg 0 rfl pg _ (row_boxed HG6.out).2 Try.underlying41 rfl HLG.out ?_
              | refine wpList_load_v8 rfl 41 _ rfl w5.heap.size 0 rfl ph _ (row_boxed HH6.out).2 Try.underlying41 rfl HLH.out ?_
              | refine wpList_build_2 rfl 44 _ _ rfl (.agg (V8 pg)) (.agg (V8 ph)) rfl rfl (.agg (V8 (pg ++ ph))) HPB.out ?_
              | refine wpList_slice rfl 22 1 #[(0, _)] rfl #[(0, .agg (V8 (pg ++ ph)))] (map_one _ _ _ rfl) (.slice (some ⟨w6.heap.size, 0, none⟩) 1 1) (w6.alloc (.cells (V8 (pg ++ ph)) 44)) (slice_rone _ HPL.out w6) ?_
              | (have _t := tok; refine wpList_append_rpairs rfl _ _ rfl w.heap.size _ acc rfl HOC.out (some ⟨w6.heap.size, 0, none⟩) 1 1 [pg ++ ph] rfl rfl HQC.out (fun e => by cases e) (by have := HAL.out; simp; omega) HBC.out.size ?_; clear tok; refine Hid.out ?_))
            refine unhid ?_
            intro v7 w7 ho7 hg7
            have HO7 := Lib.hid ho7
            have HB7 := Lib.hid (HBC.out.trans (off_of_r HOC.out HBC.out.size hg7))
            clear ho7 hg7 HOC HQC HBC
            go_wp2_with fail
            exact ⟨⟨acc ++ [pg ++ ph], k + 82, HO7.out, by first | rfl | rw [WK.out], HKA2.out, HK82.out, HQ.out, HB7.out⟩, by have := HKL.out; (first | rw [WK.out] | skip); simp [intOf]; omega⟩
          · have HBAD := Lib.hid (HBADF.out (by rw [HLK2.out, decide_eq_false e2]; simp) wr)
            have e2b : ((c2 : Int) != 10) = true := by simp; omega
            clear HLK2 HLI HLP e2
            go_wp2_with fail
            (try simp only [Exit.inBlock, Exit.then])
            go_ret2
            exact ⟨HBAD.out, HBW.out⟩
        · have HBAD := Lib.hid (HBADF.out (by rw [HLK2.out, decide_eq_false e1]; simp) wr)
          have e1b : ((c1 : Int) != 32) = true := by simp; omega
          clear HLK2 HLI HLP e1
          go_wp2_with fail
          (try simp only [Exit.inBlock, Exit.then])
          go_ret2
          exact ⟨HBAD.out, HBW.out⟩
      · have hdi : ((nl - k : Nat) : Int) < 82 := by omega
        have HBAD := Lib.hid (HBADF.out (by rw [HLK.out, decide_eq_false hd]; rfl) wr)
        clear HLK hd
        generalize nl - k = dd at *
        go_wp2_with fail
        (try simp only [Exit.inBlock, Exit.then])
        go_ret2
        exact ⟨HBAD.out, HBW.out⟩
end Go.Proofs.Ytlhdjbnilfbaoaa
