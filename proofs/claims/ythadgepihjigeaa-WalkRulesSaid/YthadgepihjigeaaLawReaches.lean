/- What is come to and heads, of any graph: the walk. -/
import Derived.Test.YthadgepihjigeaaReach
namespace Go.Proofs.Ythadgepihjigeaa
open Go.RowKit Plain
set_option linter.unusedVariables false
theorem heads_got (G : List (List Int)) (a : Option Addr) (c : Nat) (qs : List Rw) (w : World) (h : GraphIn w a G.length qs) (hG : gr qs = G) (hs : Small G) :
    Calls Try.prog 14 #[.slice a G.length c] w fun e w' => HeadsQ w G (fun x => usedN G x == false) e w' ∧ Below w.heap.size w w' := by
  have h1 := heads_any a G.length c qs w h.graph (by have := hs.len; omega) (small_rows hs hG)
  rwa [hG] at h1
theorem refHeads_got (G : List (List Int)) (a : Option Addr) (c : Nat) (qs : List Rw) (w : World) (h : GraphIn w a G.length qs) (hG : gr qs = G) (hs : Small G) :
    Calls Try.prog 16 #[.slice a G.length c] w fun e w' => (∃ a l c, e = .returned (.slice a l c) ∧ w'.ownsRow w.heap.size 3 1 (.slice a l c) l (I64 (whereN (fun x => usedN G x == false) G.length)) ∧ l = (whereN (fun x => usedN G x == false) G.length).length) ∧ Below w.heap.size w w' := by
  have h1 := refHeads_any a G.length c qs w h.graph (by have := hs.len; omega) (small_rows hs hG)
  rwa [hG] at h1
theorem reach_got (G : List (List Int)) (a : Option Addr) (c : Nat) (qs : List Rw) (a2 : Option Addr) (m c2 : Nat) (F : List Int) (w : World) (h : GraphIn w a G.length qs) (hG : gr qs = G) (hs : Small G) (hi : IntsAt w a2 F) (hm : F.length = m) (hm9 : m ≤ 1000) :
    Calls Try.prog 15 #[.slice a G.length c, .slice a2 m c2] w fun e w' => ReachQ G F e w' ∧ Below w.heap.size w w' := by
  have h1 := reach_any a G.length c qs a2 m c2 F w h.graph (by have := hs.len; omega) (small_rows hs hG) hi hm hm9
  rwa [hG] at h1
theorem refReach_got (G : List (List Int)) (a : Option Addr) (c : Nat) (qs : List Rw) (a2 : Option Addr) (m c2 : Nat) (F : List Int) (w : World) (h : GraphIn w a G.length qs) (hG : gr qs = G) (hs : Small G) (hi : IntsAt w a2 F) (hm : F.length = m) (hm9 : m ≤ 1000) (hnil : a2 = none → c2 = 0)
    (ho : orderN G ≠ none) (hF : F.all (inG G.length) = true) :
    Calls Try.prog 17 #[.slice a G.length c, .slice a2 m c2] w fun e w' => (∃ a l c, e = .returned (.slice a l c) ∧ w'.ownsRow w.heap.size 3 1 (.slice a l c) l (I64 (whereN (rchB G F) G.length)) ∧ l = (whereN (rchB G F) G.length).length) ∧ Below w.heap.size w w' := by
  obtain ⟨o, hoo⟩ := Option.ne_none_iff_exists'.1 ho
  have h1 := refReach_any a G.length c qs a2 m c2 F w h.graph (by have := hs.len; omega) (small_rows hs hG) hi hm hm9 hnil (by rw [hG]; exact order_right (order_some hoo).1 (order_some hoo).2) (fun v hv => (inG_iff _ v).1 (List.all_eq_true.1 hF v hv))
  rwa [hG] at h1
/-- What is come to is closed. -/
theorem reach_closed (G : List (List Int)) (F : List Int) : ClosedP G.length G (whereN (rchB G F) G.length) := fun x hx hm p hp hg => by
  obtain ⟨y, h1, h2, h3⟩ := (where_mem _ _ _).1 hm
  have : x = y := by omega
  subst this
  obtain ⟨z, h4, rfl⟩ := (inG_iff _ p).1 hg
  exact (where_mem _ _ _).2 ⟨z, h4, rfl, (rchB_iff G F z).2 (.step ((rchB_iff G F x).1 h3) hp)⟩
set_option maxRecDepth 100000 in
set_option maxHeartbeats 8000000 in
theorem reaches_any (a : Option Addr) (n c : Nat) (ps : List Rw) (a2 : Option Addr) (m c2 : Nat) (xs : List Int) (w : World) (h : GraphIn w a n ps) (hn : n ≤ 9223372036854775807) (hi : RwIn w ⟨a2, c2, xs⟩) (hm : xs.length = m) :
    Calls Try.prog 4 #[.slice a n c, .slice a2 m c2] w fun e w' => e = .returned (.bool true) ∧ Below w.heap.size w w' := by
  obtain ⟨q, hq⟩ : ∃ q, min m 10 = q := ⟨_, rfl⟩
  have hmn : ∀ (ts : Array TypeId) (t : TypeId) (W : World), (Builtin.min_ ts t #[.int .i64 (m : Int), .int .i64 10]).run Try.prog W = .ok (.int .i64 (q : Int)) W := fun ts t W => by
    rw [show (q : Int) = min (m : Int) 10 by omega]; exact run_min2 ts t .i64 .i64 m 10 W
  have hqc : q ≤ c2 := by
    have := hi.le
    simp only at this
    omega
  have sl := fun W => slice_ints a2 m c2 q hqc W
  have HI := Lib.hid (hi.first 10)
  have HIL : Hid ((xs.take 10).length = q) := by show _ = _; rw [List.length_take]; omega
  have HG := Lib.hid h
  have hq30 : q ≤ 10 := by omega
  have HS1 := few_small ps
  have HS2 := ahead_small HS1
  clear h hi hm hq
  generalize xs.take 10 = F at *
  go_enter Try.func4, Try.ntmps4
  go_wp2_with fail
  refine (few_got a n c ps w HG.out hn).mono ?_
  rintro e w1 ⟨⟨ga, gc, qs, rfl, hg, hG⟩, hb⟩
  have HB1 := Lib.hid hb
  have HGA := Lib.hid hg
  have HQA := Lib.hid hG
  clear hb hg hG
  go_wp2_with fail
  refine (ahead_got a n c ps w1 (HG.out.below HB1.out) hn).mono ?_
  rintro e w2 ⟨⟨gb, gd, rs, rfl, hg, hG⟩, hb⟩
  have HB2 := Lib.hid (HB1.out.trans (hb.mono HB1.out.size))
  have HGA2 := Lib.hid (HGA.out.below hb)
  have HGB := Lib.hid hg
  have HQB := Lib.hid hG
  clear hb hg hG HB1 HGA
  have HLA := Lib.hid (fun t => (alloc_cell w2 #[.slice ga (gr (fewR ps)).length gc, .slice gb (aheadN (gr (fewR ps))).length gd] t 0).trans rfl)
  have HLB := Lib.hid (fun t => (alloc_cell w2 #[.slice ga (gr (fewR ps)).length gc, .slice gb (aheadN (gr (fewR ps))).length gd] t 1).trans rfl)
  have HA0 := Lib.hid (fun o => HGA2.out.below ((Below.refl w2.heap.size w2).alloc (Nat.le_refl _) o))
  have HA1 := Lib.hid (fun o => HGB.out.below ((Below.refl w2.heap.size w2).alloc (Nat.le_refl _) o))
  have HBT := Lib.hid (fun o => HB2.out.alloc HB2.out.size o)
  go_wp2_with fail
  have HBT := Lib.hid (HBT.out (.cells #[.slice ga (gr (fewR ps)).length gc, .slice gb (aheadN (gr (fewR ps))).length gd] 22))
  have HLA := Lib.hid (HLA.out 22)
  have HLB := Lib.hid (HLB.out 22)
  have HA0 := Lib.hid (HA0.out (.cells #[.slice ga (gr (fewR ps)).length gc, .slice gb (aheadN (gr (fewR ps))).length gd] 22))
  have HA1 := Lib.hid (HA1.out (.cells #[.slice ga (gr (fewR ps)).length gc, .slice gb (aheadN (gr (fewR ps))).length gd] 22))
  generalize w2.alloc (.cells #[.slice ga (gr (fewR ps)).length gc, .slice gb (aheadN (gr (fewR ps))).length gd] 22) = W2 at *
  have HGEN : Hid (∀ j : Nat, j < 2 → ∃ a c qs G, W2.cell? ⟨w2.heap.size, j, none⟩ = some (.slice a G.length c) ∧ GraphIn W2 a G.length qs ∧ gr qs = G ∧ Small G) := fun j hj => by
    obtain rfl | rfl : j = 0 ∨ j = 1 := by omega
    · exact ⟨ga, gc, qs, _, HLA.out, HA0.out, HQA.out, HS1⟩
    · exact ⟨gb, gd, rs, _, HLB.out, HA1.out, HQB.out, HS2⟩
  clear HLA HLB HA0 HA1 HGA2 HGB HQA HQB HB2 HS1 HS2 hmn sl
  go_loopw [26] (fun i wr => ∃ j : Nat, j ≤ 2 ∧ i = .int .i64 (j : Int) ∧ Below W2.heap.size W2 wr) (fun i _ => 2 - (intOf i).toNat)
  case atStart => exact ⟨0, by omega, rfl, Below.refl _ _⟩
  case round =>
    obtain ⟨j, hj, rfl, hv⟩ := hrel
    have HV := Lib.hid hv
    clear hv
    have wj0 := next_int j (by omega)
    by_cases hj2 : j = 2
    · subst hj2
      go_wp2_with fail
      refine (known_any wr).mono ?_
      rintro e w6 ⟨rfl, hb⟩
      have HB6 := Lib.hid ((HBT.out.trans (HV.out.mono HBT.out.size)).trans (hb.mono (HBT.out.trans (HV.out.mono HBT.out.size)).size))
      clear hb
      go_wp2_with fail
      go_ret
      exact ⟨rfl, HB6.out⟩
    · have hjl : j < 2 := by omega
      have hji : (j : Int) < 2 := by omega
      obtain ⟨ga, gc, qs, G, hc0, hg, hG, HSG⟩ := HGEN.out j hjl
      have hcj := (HV.out.cell (p := ⟨w2.heap.size, j, none⟩) (cell_lt hc0)).trans hc0
      have HGR := Lib.hid hg
      have HQR := Lib.hid hG
      clear hc0 hg hG HGEN
      cases ho : orderN G with
      | none =>
        have HOO := Lib.hid ho
        clear ho
        go_wp2_with fail
        refine (refOrder_got G ga gc qs wr (HGR.out.below HV.out) HQR.out HSG).mono ?_
        rintro e w3 ⟨hq, hb⟩
        obtain rfl := ref_no hq HOO.out
        have HV3 := Lib.hid (HV.out.trans (hb.mono HV.out.size))
        clear hb hq
        go_wp2_with fail
        refine (heads_got G ga gc qs w3 (HGR.out.below HV3.out) HQR.out HSG).mono ?_
        rintro e w4 ⟨hq, hb⟩
        have HV4 := Lib.hid (HV3.out.trans (hb.mono HV3.out.size))
        obtain rfl : e = .returned (.tuple #[.slice none 0 0, .int .i64 4]) := by
          rcases hq with ⟨-, h⟩ | ⟨h, -⟩
          · exact h
          · exact absurd HOO.out h
        clear hb hq
        have HW4 := Lib.hid (HBT.out.trans (HV4.out.mono HBT.out.size))
        go_wp2_with fail
        refine (reach_got G ga gc qs a2 q c2 F w4 (HGR.out.below HV4.out) HQR.out HSG (HI.out.ints.below HW4.out) HIL.out (by omega)).mono ?_
        rintro e w5 ⟨hq, hb⟩
        have HV5 := Lib.hid (HV4.out.trans (hb.mono HV4.out.size))
        have HG5 := Lib.hid (HGR.out.below HV5.out)
        have HW5 := Lib.hid (HBT.out.trans (HV5.out.mono HBT.out.size))
        obtain rfl : e = .returned (.tuple #[.slice none 0 0, .int .i64 4]) := by
          rcases hq with ⟨-, h⟩ | ⟨h, -⟩
          · exact h
          · exact absurd HOO.out h
        clear hb hq
        go_wp2_with fail
        go_loop [13, 14] (fun u v => ∃ k : Nat, k ≤ q ∧ v = .int .i64 (k : Int) ∧ u = .bool ((F.take k).all (inG G.length))) (fun _ v => q - (intOf v).toNat)
        case atStart => exact ⟨0, by omega, rfl, rfl⟩
        case round =>
          obtain ⟨k, hk, rfl, rfl⟩ := hrel
          by_cases hkq : k = q
          · subst hkq
            have HFA : Hid ((F.take k).all (inG G.length) = F.all (inG G.length)) := by
              rw [List.take_of_length_le (by rw [HIL.out]; exact Nat.le_refl _)]
              rfl
            rw [HFA.out]
            go_wp2_with fail
            exact ⟨⟨j + 1, by omega, by first | rfl | exact congrArg (Value.int .i64) (wj0 _ rfl), HV5.out⟩, by simp [intOf] <;> omega⟩
          · have hkl : k < q := by omega
            have hki : (k : Int) < (q : Int) := by omega
            obtain ⟨b3, off3, e3, hc30⟩ := ints_at HI.out.ints (j := k) (by show k < F.length; rw [HIL.out]; exact hkl)
            have e4 : a2 = some ⟨b3, off3, none⟩ := e3
            subst e4
            have hc3 := (HW5.out.cell (p := ⟨b3, off3 + k, none⟩) (cell_lt hc30)).trans hc30
            have HA3 := Lib.hid (at_some (xs := F) (j := k) (by rw [HIL.out]; exact hkl))
            have wj := next_int k (by omega)
            simp only at hc3
            clear hc30 e3
            generalize at0 F k = r at *
            have HT : Hid ((F.take (k + 1)).all (inG G.length) = ((F.take k).all (inG G.length) && inG G.length r)) := all_take_succ _ _ _ _ HA3.out
            cases hu : (F.take k).all (inG G.length) with
            | false =>
              have HT1 : Hid ((F.take (k + 1)).all (inG G.length) = false) := by rw [HT.out, hu]; rfl
              clear hu HT
              go_wp2_with fail
              exact ⟨⟨k + 1, by omega, by first | rfl | exact congrArg (Value.int .i64) (wj _ rfl), by rw [HT1.out]⟩, by simp [intOf] <;> omega⟩
            | true =>
              by_cases g1 : r < 0
              · have HT1 : Hid ((F.take (k + 1)).all (inG G.length) = false) := by rw [HT.out, hu, inG_no _ (.inl g1)]; rfl
                have g1' : ¬ (0 : Int) ≤ r := by omega
                clear hu HT
                go_wp2_with fail
                exact ⟨⟨k + 1, by omega, by first | rfl | exact congrArg (Value.int .i64) (wj _ rfl), by rw [HT1.out]⟩, by simp [intOf] <;> omega⟩
              · have g1' : (0 : Int) ≤ r := by omega
                by_cases g2 : (G.length : Int) ≤ r
                · have HT1 : Hid ((F.take (k + 1)).all (inG G.length) = false) := by rw [HT.out, hu, inG_no _ (.inr g2)]; rfl
                  have g2' : ¬ r < (G.length : Int) := by omega
                  clear hu HT
                  go_wp2_with fail
                  exact ⟨⟨k + 1, by omega, by first | rfl | exact congrArg (Value.int .i64) (wj _ rfl), by rw [HT1.out]⟩, by simp [intOf] <;> omega⟩
                · have g2' : r < (G.length : Int) := by omega
                  have HT1 : Hid ((F.take (k + 1)).all (inG G.length) = true) := by rw [HT.out, hu, (inG_iff _ r).2 ⟨r.toNat, by omega, by omega⟩]; rfl
                  clear hu HT
                  go_wp2_with fail
                  exact ⟨⟨k + 1, by omega, by first | rfl | exact congrArg (Value.int .i64) (wj _ rfl), by rw [HT1.out]⟩, by simp [intOf] <;> omega⟩
      | some o =>
        have HOS := Lib.hid ho
        have HOO : Hid (orderN G ≠ none) := by rw [ho]; exact fun e => by cases e
        clear ho
        go_wp2_with fail
        refine (refOrder_got G ga gc qs wr (HGR.out.below HV.out) HQR.out HSG).mono ?_
        rintro e w3 ⟨hq, hb⟩
        obtain ⟨oa, oc, rfl, -⟩ := ref_yes hq HOS.out
        have HV3 := Lib.hid (HV.out.trans (hb.mono HV.out.size))
        clear hb hq
        go_wp2_with fail
        refine (heads_got G ga gc qs w3 (HGR.out.below HV3.out) HQR.out HSG).mono ?_
        rintro e w4 ⟨hq, hb⟩
        have HV4 := Lib.hid (HV3.out.trans (hb.mono HV3.out.size))
        obtain ⟨xa, xl, xc, rfl, hxl, hxi⟩ : ∃ a l c, e = .returned (.tuple #[.slice a l c, .int .i64 0]) ∧ l = (whereN (fun x => usedN G x == false) G.length).length ∧ IntsAt w4 a (whereN (fun x => usedN G x == false) G.length) := by
          rcases hq with ⟨h, -⟩ | ⟨-, h⟩
          · exact absurd h HOO.out
          · exact h
        have HXL := Lib.hid hxl
        have HX4 := Lib.hid hxi
        clear hxl hxi
        clear hb hq
        have HW4 := Lib.hid (HBT.out.trans (HV4.out.mono HBT.out.size))
        go_wp2_with fail
        refine (reach_got G ga gc qs a2 q c2 F w4 (HGR.out.below HV4.out) HQR.out HSG (HI.out.ints.below HW4.out) HIL.out (by omega)).mono ?_
        rintro e w5 ⟨hq, hb⟩
        have HV5 := Lib.hid (HV4.out.trans (hb.mono HV4.out.size))
        have HG5 := Lib.hid (HGR.out.below HV5.out)
        have HW5 := Lib.hid (HBT.out.trans (HV5.out.mono HBT.out.size))
        have HX5 := Lib.hid (HX4.out.below hb)
        cases hfa : F.all (inG G.length) with
        | false =>
          have HFX := Lib.hid hfa
          obtain rfl : e = .returned (.tuple #[.slice none 0 0, .int .i64 4]) := by
            rcases hq with ⟨-, h⟩ | ⟨-, h, -⟩
            · exact h
            · rw [hfa] at h; cases h
          clear hb hq hfa
          have HR5 : Hid (IntsAt w5 none []) := .inl rfl
          go_wp2_with fail
          go_loop [13, 14] (fun u v => ∃ k : Nat, k ≤ q ∧ v = .int .i64 (k : Int) ∧ u = .bool ((F.take k).all (inG G.length))) (fun _ v => q - (intOf v).toNat)
          case atStart => exact ⟨0, by omega, rfl, rfl⟩
          case round =>
            obtain ⟨k, hk, rfl, rfl⟩ := hrel
            by_cases hkq : k = q
            · subst hkq
              have HFA : Hid ((F.take k).all (inG G.length) = F.all (inG G.length)) := by
                rw [List.take_of_length_le (by rw [HIL.out]; exact Nat.le_refl _)]
                rfl
              rw [HFA.out]
              rw [HFX.out]
              go_wp2_with fail
              refine (refHeads_got G ga gc qs w5 HG5.out HQR.out HSG).mono ?_
              rintro e w7 ⟨⟨ya, yl, yc, rfl, hy, hyl⟩, hb⟩
              have HY := Lib.hid (ints_own hy)
              have HYL := Lib.hid hyl
              have HV7 := Lib.hid (HV5.out.trans (hb.mono HV5.out.size))
              have HX7 := Lib.hid (HX5.out.below hb)
              have HR7 := Lib.hid (HR5.out.below hb)
              clear hb hy hyl
              go_wp2_with fail
              refine (same_any xa xl xc _ ya yl yc _ w7 HX7.out HXL.out.symm (by have := HXL.out; have := where_len (fun x => usedN G x == false) G.length; have := HSG.len; omega) HY.out HYL.out.symm (by have := HYL.out; have := where_len (fun x => usedN G x == false) G.length; have := HSG.len; omega)).mono ?_
              rintro e w8 ⟨rfl, hb⟩
              have HV8 := Lib.hid (HV7.out.trans (hb.mono HV7.out.size))
              have HR8 := Lib.hid (HR7.out.below hb)
              have hd : decide (whereN (fun x => usedN G x == false) G.length = whereN (fun x => usedN G x == false) G.length) = true := decide_eq_true rfl
              rw [hd]
              clear hb hd
              go_wp2_with fail
              exact ⟨⟨j + 1, by omega, by first | rfl | exact congrArg (Value.int .i64) (wj0 _ rfl), HV8.out⟩, by simp [intOf] <;> omega⟩
            · have hkl : k < q := by omega
              have hki : (k : Int) < (q : Int) := by omega
              obtain ⟨b3, off3, e3, hc30⟩ := ints_at HI.out.ints (j := k) (by show k < F.length; rw [HIL.out]; exact hkl)
              have e4 : a2 = some ⟨b3, off3, none⟩ := e3
              subst e4
              have hc3 := (HW5.out.cell (p := ⟨b3, off3 + k, none⟩) (cell_lt hc30)).trans hc30
              have HA3 := Lib.hid (at_some (xs := F) (j := k) (by rw [HIL.out]; exact hkl))
              have wj := next_int k (by omega)
              simp only at hc3
              clear hc30 e3
              generalize at0 F k = r at *
              have HT : Hid ((F.take (k + 1)).all (inG G.length) = ((F.take k).all (inG G.length) && inG G.length r)) := all_take_succ _ _ _ _ HA3.out
              cases hu : (F.take k).all (inG G.length) with
              | false =>
                have HT1 : Hid ((F.take (k + 1)).all (inG G.length) = false) := by rw [HT.out, hu]; rfl
                clear hu HT
                go_wp2_with fail
                exact ⟨⟨k + 1, by omega, by first | rfl | exact congrArg (Value.int .i64) (wj _ rfl), by rw [HT1.out]⟩, by simp [intOf] <;> omega⟩
              | true =>
                by_cases g1 : r < 0
                · have HT1 : Hid ((F.take (k + 1)).all (inG G.length) = false) := by rw [HT.out, hu, inG_no _ (.inl g1)]; rfl
                  have g1' : ¬ (0 : Int) ≤ r := by omega
                  clear hu HT
                  go_wp2_with fail
                  exact ⟨⟨k + 1, by omega, by first | rfl | exact congrArg (Value.int .i64) (wj _ rfl), by rw [HT1.out]⟩, by simp [intOf] <;> omega⟩
                · have g1' : (0 : Int) ≤ r := by omega
                  by_cases g2 : (G.length : Int) ≤ r
                  · have HT1 : Hid ((F.take (k + 1)).all (inG G.length) = false) := by rw [HT.out, hu, inG_no _ (.inr g2)]; rfl
                    have g2' : ¬ r < (G.length : Int) := by omega
                    clear hu HT
                    go_wp2_with fail
                    exact ⟨⟨k + 1, by omega, by first | rfl | exact congrArg (Value.int .i64) (wj _ rfl), by rw [HT1.out]⟩, by simp [intOf] <;> omega⟩
                  · have g2' : r < (G.length : Int) := by omega
                    have HT1 : Hid ((F.take (k + 1)).all (inG G.length) = true) := by rw [HT.out, hu, (inG_iff _ r).2 ⟨r.toNat, by omega, by omega⟩]; rfl
                    clear hu HT
                    go_wp2_with fail
                    exact ⟨⟨k + 1, by omega, by first | rfl | exact congrArg (Value.int .i64) (wj _ rfl), by rw [HT1.out]⟩, by simp [intOf] <;> omega⟩
        | true =>
          have HFX := Lib.hid hfa
          obtain ⟨ra, rl, rc, rfl, hrl, hri⟩ : ∃ a l c, e = .returned (.tuple #[.slice a l c, .int .i64 0]) ∧ l = (whereN (rchB G F) G.length).length ∧ IntsAt w5 a (whereN (rchB G F) G.length) := by
            rcases hq with ⟨h | h, -⟩ | ⟨-, -, h⟩
            · exact absurd h HOO.out
            · rw [hfa] at h; cases h
            · exact h
          have HRL := Lib.hid hrl
          have HR5 := Lib.hid hri
          clear hb hq hfa hrl hri
          go_wp2_with fail
          go_loop [13, 14] (fun u v => ∃ k : Nat, k ≤ q ∧ v = .int .i64 (k : Int) ∧ u = .bool ((F.take k).all (inG G.length))) (fun _ v => q - (intOf v).toNat)
          case atStart => exact ⟨0, by omega, rfl, rfl⟩
          case round =>
            obtain ⟨k, hk, rfl, rfl⟩ := hrel
            by_cases hkq : k = q
            · subst hkq
              have HFA : Hid ((F.take k).all (inG G.length) = F.all (inG G.length)) := by
                rw [List.take_of_length_le (by rw [HIL.out]; exact Nat.le_refl _)]
                rfl
              rw [HFA.out]
              rw [HFX.out]
              go_wp2_with fail
              refine (refHeads_got G ga gc qs w5 HG5.out HQR.out HSG).mono ?_
              rintro e w7 ⟨⟨ya, yl, yc, rfl, hy, hyl⟩, hb⟩
              have HY := Lib.hid (ints_own hy)
              have HYL := Lib.hid hyl
              have HV7 := Lib.hid (HV5.out.trans (hb.mono HV5.out.size))
              have HX7 := Lib.hid (HX5.out.below hb)
              have HR7 := Lib.hid (HR5.out.below hb)
              clear hb hy hyl
              go_wp2_with fail
              refine (same_any xa xl xc _ ya yl yc _ w7 HX7.out HXL.out.symm (by have := HXL.out; have := where_len (fun x => usedN G x == false) G.length; have := HSG.len; omega) HY.out HYL.out.symm (by have := HYL.out; have := where_len (fun x => usedN G x == false) G.length; have := HSG.len; omega)).mono ?_
              rintro e w8 ⟨rfl, hb⟩
              have HV8 := Lib.hid (HV7.out.trans (hb.mono HV7.out.size))
              have HR8 := Lib.hid (HR7.out.below hb)
              have hd : decide (whereN (fun x => usedN G x == false) G.length = whereN (fun x => usedN G x == false) G.length) = true := decide_eq_true rfl
              rw [hd]
              clear hb hd

              go_wp2_with fail
              have HW8 := Lib.hid (HBT.out.trans (HV8.out.mono HBT.out.size))
              refine (refReach_got G ga gc qs a2 k c2 F w8 (HGR.out.below HV8.out) HQR.out HSG (HI.out.ints.below HW8.out) HIL.out (by omega) HI.out.nil HOO.out HFX.out).mono ?_
              rintro e w9 ⟨⟨za, zl, zc, rfl, hz, hzl⟩, hb⟩
              have HZ := Lib.hid (ints_own hz)
              have HZL := Lib.hid hzl
              have HV9 := Lib.hid (HV8.out.trans (hb.mono HV8.out.size))
              have HR9 := Lib.hid (HR8.out.below hb)
              clear hb hz hzl
              go_wp2_with fail
              refine (same_any ra rl rc _ za zl zc _ w9 HR9.out HRL.out.symm (by have := HRL.out; have := where_len (rchB G F) G.length; have := HSG.len; omega) HZ.out HZL.out.symm (by have := HZL.out; have := where_len (rchB G F) G.length; have := HSG.len; omega)).mono ?_
              rintro e w10 ⟨rfl, hb⟩
              have HV10 := Lib.hid (HV9.out.trans (hb.mono HV9.out.size))
              have HR10 := Lib.hid (HR9.out.below hb)
              have hd : decide (whereN (rchB G F) G.length = whereN (rchB G F) G.length) = true := decide_eq_true rfl
              rw [hd]
              clear hb hd
              go_wp2_with fail
              refine (closed_got G ga gc qs ra rl rc _ w10 (HGR.out.below HV10.out) HQR.out HSG HR10.out HRL.out.symm (by have := HRL.out; have := where_len (rchB G F) G.length; have := HSG.len; omega)).mono ?_
              rintro e w11 ⟨⟨b, rfl, hbb⟩, hb⟩
              obtain rfl : b = true := hbb.2 (reach_closed G F)
              have HV11 := Lib.hid (HV10.out.trans (hb.mono HV10.out.size))
              clear hb hbb
              go_wp2_with fail
              exact ⟨⟨j + 1, by omega, by first | rfl | exact congrArg (Value.int .i64) (wj0 _ rfl), HV11.out⟩, by simp [intOf] <;> omega⟩
            · have hkl : k < q := by omega
              have hki : (k : Int) < (q : Int) := by omega
              obtain ⟨b3, off3, e3, hc30⟩ := ints_at HI.out.ints (j := k) (by show k < F.length; rw [HIL.out]; exact hkl)
              have e4 : a2 = some ⟨b3, off3, none⟩ := e3
              subst e4
              have hc3 := (HW5.out.cell (p := ⟨b3, off3 + k, none⟩) (cell_lt hc30)).trans hc30
              have HA3 := Lib.hid (at_some (xs := F) (j := k) (by rw [HIL.out]; exact hkl))
              have wj := next_int k (by omega)
              simp only at hc3
              clear hc30 e3
              generalize at0 F k = r at *
              have HT : Hid ((F.take (k + 1)).all (inG G.length) = ((F.take k).all (inG G.length) && inG G.length r)) := all_take_succ _ _ _ _ HA3.out
              cases hu : (F.take k).all (inG G.length) with
              | false =>
                have HT1 : Hid ((F.take (k + 1)).all (inG G.length) = false) := by rw [HT.out, hu]; rfl
                clear hu HT
                go_wp2_with fail
                exact ⟨⟨k + 1, by omega, by first | rfl | exact congrArg (Value.int .i64) (wj _ rfl), by rw [HT1.out]⟩, by simp [intOf] <;> omega⟩
              | true =>
                by_cases g1 : r < 0
                · have HT1 : Hid ((F.take (k + 1)).all (inG G.length) = false) := by rw [HT.out, hu, inG_no _ (.inl g1)]; rfl
                  have g1' : ¬ (0 : Int) ≤ r := by omega
                  clear hu HT
                  go_wp2_with fail
                  exact ⟨⟨k + 1, by omega, by first | rfl | exact congrArg (Value.int .i64) (wj _ rfl), by rw [HT1.out]⟩, by simp [intOf] <;> omega⟩
                · have g1' : (0 : Int) ≤ r := by omega
                  by_cases g2 : (G.length : Int) ≤ r
                  · have HT1 : Hid ((F.take (k + 1)).all (inG G.length) = false) := by rw [HT.out, hu, inG_no _ (.inr g2)]; rfl
                    have g2' : ¬ r < (G.length : Int) := by omega
                    clear hu HT
                    go_wp2_with fail
                    exact ⟨⟨k + 1, by omega, by first | rfl | exact congrArg (Value.int .i64) (wj _ rfl), by rw [HT1.out]⟩, by simp [intOf] <;> omega⟩
                  · have g2' : r < (G.length : Int) := by omega
                    have HT1 : Hid ((F.take (k + 1)).all (inG G.length) = true) := by rw [HT.out, hu, (inG_iff _ r).2 ⟨r.toNat, by omega, by omega⟩]; rfl
                    clear hu HT
                    go_wp2_with fail
                    exact ⟨⟨k + 1, by omega, by first | rfl | exact congrArg (Value.int .i64) (wj _ rfl), by rw [HT1.out]⟩, by simp [intOf] <;> omega⟩
end Go.Proofs.Ythadgepihjigeaa
