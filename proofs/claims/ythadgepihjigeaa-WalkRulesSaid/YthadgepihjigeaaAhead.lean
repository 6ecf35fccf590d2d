/- The same rows, but parents are nodes ahead alone: the walk. -/
import Derived.Test.YthadgepihjigeaaFew
namespace Go.Proofs.Ythadgepihjigeaa
open Go.RowKit Plain
set_option linter.unusedVariables false
def modI (i : Nat) (x : Int) : Int := (x % 18446744073709551616) % (i : Int)
theorem modI_lt (i : Nat) (x : Int) (h : 0 < i) : 0 ≤ modI i x ∧ modI i x < (i : Int) := ⟨Int.emod_nonneg _ (by omega), Int.emod_lt_of_pos _ (by omega)⟩
/-- Row i of such a graph. -/
def aheadRow (i : Nat) (xs : List Int) : List Int := if i = 0 then [] else xs.map (modI i)
def aheadN (G : List (List Int)) : List (List Int) := G.mapIdx aheadRow
/-- A row that an append to v leaves alone. -/
def RwApart (w : World) (v : Value) (q : Rw) : Prop := RwIn w q ∧ ∀ ad, q.a = some ad → v.ownBlock ≠ some ad.block ∧ ad.block < w.heap.size
theorem RwIn.kept {w w' : World} {q : Rw} (h : RwIn w q) (hk : ∀ ad : Addr, q.a = some ad → ad.spot = none → ad.block < w.heap.size → w'.heap[ad.block]? = w.heap[ad.block]?) : RwIn w' q := by
  refine ⟨h.le, h.max, ?_, h.nil, h.i64⟩
  rcases h.ints with h0 | ⟨b, off, ha, hc⟩
  · exact .inl h0
  · by_cases h0 : q.xs.length = 0
    · exact .inl h0
    · have hb := cell_lt (hc 0 (by omega))
      refine .inr ⟨b, off, ha, fun j hj => ?_⟩
      rw [← hc j hj]
      unfold World.cell?
      rw [hk _ ha rfl hb]
theorem RwApart.grow {w w' : World} {v v' : Value} {q : Rw} (h : RwApart w v q) (hg : w.grownBy w' v.ownBlock) (hv : ∀ g, v'.ownBlock = some g → v.ownBlock = some g ∨ g = w.heap.size) : RwApart w' v' q := by
  refine ⟨h.1.kept fun ad ha _ hlt => hg.block _ hlt fun e => ?_, fun ad ha => ⟨fun e => ?_, Nat.lt_of_lt_of_le (h.2 ad ha).2 hg.size⟩⟩
  · exact (h.2 ad ha).1 (by first | exact e | exact e.symm)
  · have := h.2 ad ha
    rcases hv _ e with e | e
    · exact this.1 e
    · omega
theorem RwApart.below {w w' : World} {v : Value} {q : Rw} (h : RwApart w v q) (hb : Below w.heap.size w w') : RwApart w' v q := ⟨h.1.below hb, fun ad ha => ⟨(h.2 ad ha).1, Nat.lt_of_lt_of_le (h.2 ad ha).2 hb.size⟩⟩
theorem OwnG.graphIn {w : World} {base : Nat} {v : Value} {ps : List Rw} (h : OwnG w base v ps) : ∃ a c, v = .slice a ps.length c ∧ GraphIn w a ps.length ps := by
  obtain ⟨a, c, rfl⟩ := row_form h.row
  refine ⟨a, c, rfl, rfl, ?_, h.each⟩
  by_cases h0 : ps.length = 0
  · exact .inl h0
  · obtain ⟨g, cap, hf, -, -⟩ := h.row.form (by omega)
    simp only [Value.slice.injEq, true_and] at hf
    obtain ⟨rfl, rfl⟩ := hf
    refine .inr ⟨g, 0, rfl, fun j p hj => ?_⟩
    have hjl : j < ps.length := (List.getElem?_eq_some_iff.1 hj).1
    rw [Nat.zero_add, h.row.cellAt j (by omega), List.getElem?_map, hj]
    rfl
theorem fewR_len (ps : List Rw) : (fewR ps).length ≤ 30 := by unfold fewR; rw [List.length_map, List.length_take]; omega
theorem fewR_row (ps : List Rw) : ∀ p ∈ fewR ps, p.xs.length ≤ 6 := fun p hp => by
  obtain ⟨q, hq, rfl⟩ := List.mem_map.1 hp
  show (q.xs.take 6).length ≤ 6
  rw [List.length_take]; omega
/-- A row as own cells. -/
theorem own_in {w : World} {base n : Nat} {a : Option Addr} {c : Nat} {xs : List Int} (h : w.ownsRow base 3 1 (.slice a n c) n (I64 xs)) (hx : ∀ x ∈ xs, -9223372036854775808 ≤ x ∧ x ≤ 9223372036854775807) : RwIn w ⟨a, c, xs⟩ := by
  have hl := ints_len h
  have hi := ints_own h
  rcases h.2 with ⟨e, h0⟩ | ⟨g, cap, cur, e, -, -, h1, h2, -, -⟩
  · injection e with e1 e2 e3
    subst e1 e3
    exact ⟨(by show xs.length ≤ _; omega), (by show 0 ≤ _; omega), hi, (fun _ => rfl), hx⟩
  · injection e with e1 e2 e3
    subst e1 e3
    unfold maxLen at h2
    exact ⟨(by show xs.length ≤ c; omega), (by show c ≤ _; omega), hi, (fun e => by cases e), hx⟩
theorem rem_is (k : Nat) (y : Int) (h0 : 0 < k) (h1 : k ≤ 1000) : wrap64 ((IntKind.u64.wrap y).tmod (k : Int)) = modI k y := by
  have e : IntKind.u64.wrap y = y % 18446744073709551616 := by rfl
  have hl := modI_lt k y h0
  rw [e, Int.tmod_eq_emod_of_nonneg (Int.emod_nonneg _ (by omega))]
  show wrap64 (modI k y) = _
  exact IntWalk.wrap64_in _ (by omega)
theorem ahead_row_snoc {i k : Nat} {xs : List Int} {x : Int} (h : xs[k]? = some x) : (xs.take (k + 1)).map (modI i) = (xs.take k).map (modI i) ++ [modI i x] := by
  rw [List.take_add_one, h, List.map_append]
  rfl
theorem aheadN_snoc {G : List (List Int)} {k : Nat} {xs : List Int} (h : G[k]? = some xs) : aheadN (G.take (k + 1)) = aheadN (G.take k) ++ [aheadRow k xs] := by
  have hk : k < G.length := (List.getElem?_eq_some_iff.1 h).1
  unfold aheadN
  rw [List.take_add_one, h, Option.toList_some, List.mapIdx_append]
  congr 1
  rw [List.length_take, Nat.min_eq_left (by omega)]
  simp
theorem ahead_i64 (k : Nat) (xs : List Int) : k ≤ 1000 → ∀ x ∈ aheadRow k xs, -9223372036854775808 ≤ x ∧ x ≤ 9223372036854775807 := fun hk x hx => by
  unfold aheadRow at hx
  split at hx
  · simp at hx
  · obtain ⟨y, hy, rfl⟩ := List.mem_map.1 hx
    have := modI_lt k y (by omega)
    omega
/-- The own row of rows, and a row more. -/
theorem outer_grow {w ws : World} {base k : Nat} {oa : Option Addr} {oc : Nat} {us : List Value} (h : w.ownsRow base 24 1 (.slice oa k oc) k us) (hb : Below w.heap.size w ws) : ws.ownsRow base 24 1 (.slice oa k oc) k us :=
  own_block h fun g hg => hb.block _ (h.lt g hg).2
theorem own_lower {w : World} {base base' n size : Nat} {e : TypeId} {v : Value} {xs : List Value} (h : w.ownsRow base e size v n xs) (hb : base' ≤ base) : w.ownsRow base' e size v n xs :=
  ⟨h.1, h.2.imp id fun ⟨g, cap, cur, e1, h1, r⟩ => ⟨g, cap, cur, e1, Nat.le_trans hb h1, r⟩⟩
theorem apart_new {W ws : World} {base x k : Nat} {xa oa : Option Addr} {xc oc : Nat} {row : List Int} {us xs : List Value} (hp : ws.ownsRow W.heap.size 3 1 (.slice xa x xc) x xs) (ho : W.ownsRow base 24 1 (.slice oa k oc) k us) (h : RwIn ws ⟨xa, xc, row⟩) : RwApart ws (.slice oa k oc) ⟨xa, xc, row⟩ := by
  refine ⟨h, fun ad ha => ?_⟩
  have ha' : xa = some ad := ha
  subst ha'
  have h1 := hp.lt ad.block rfl
  exact ⟨fun e => by have := (ho.lt _ e).2; omega, h1.2⟩
theorem apart_more {w : World} {v : Value} {qs : List Rw} {q : Rw} (h : ∀ p ∈ qs, RwApart w v p) (hq : RwApart w v q) : ∀ p ∈ qs ++ [q], RwApart w v p := fun p hp => by
  rcases List.mem_append.1 hp with hp | hp
  · exact h p hp
  · rw [List.mem_singleton.1 hp]; exact hq
set_option maxRecDepth 100000 in
set_option maxHeartbeats 8000000 in
theorem ahead_any (a : Option Addr) (n c : Nat) (ps : List Rw) (w : World) (h : GraphIn w a n ps) (hn : n ≤ 9223372036854775807) :
    Calls Try.prog 11 #[.slice a n c] w fun e w' => (∃ v qs, e = .returned v ∧ OwnG w' w.heap.size v qs ∧ gr qs = aheadN (gr (fewR ps))) ∧ Below w.heap.size w w' := by
  have HF := Lib.hid (few_any a n c ps w h hn)
  clear h
  go_enter Try.func11, Try.ntmps11
  go_wp2_with fail
  refine HF.out.mono ?_
  rintro e w1 ⟨v, rfl, hg, hb1⟩
  obtain ⟨ga, gc, rfl, hgi⟩ := hg.graphIn
  have HG := Lib.hid hgi
  have HL := Lib.hid (fewR_row ps)
  have hm30 := fewR_len ps
  have HB1 := Lib.hid hb1
  clear HF hg hgi hb1
  have HGS : Hid (gr (fewR ps) = gr (fewR ps)) := rfl
  have HGQ : ∃ gs, fewR ps = gs := ⟨_, rfl⟩
  obtain ⟨gs, hgs⟩ := HGQ
  rw [hgs] at HG HL hm30 HGS
  have HGE := Lib.hid hgs
  obtain ⟨m, hm⟩ : ∃ m, gs.length = m := ⟨_, rfl⟩
  rw [hm] at HG hm30
  have HM := Lib.hid hm
  rw [hgs, hm]
  clear hm hgs HGS
  go_wp2_with fail
  go_loopw [3, 5] (fun o i wr => ∃ (k : Nat) (oa : Option Addr) (oc : Nat) (qs : List Rw), k ≤ m ∧ i = .int .i64 (k : Int) ∧ o = .slice oa k oc ∧ wr.ownsRow w1.heap.size 24 1 (.slice oa k oc) k (qs.map hdr) ∧ (∀ q ∈ qs, RwApart wr (.slice oa k oc) q) ∧ gr qs = aheadN ((gr gs).take k) ∧ Below w1.heap.size w1 wr ∧ Below w.heap.size w wr) (fun o i _ => m - (intOf i).toNat)
  case atStart => exact ⟨0, none, 0, [], by omega, rfl, rfl, World.ownsRow_nil _ _ _ _, by simp, rfl, Below.refl _ _, HB1.out⟩
  case round =>
    obtain ⟨k, oa, oc, qs, hk, rfl, rfl, ho, hap, hgr, hb, hbw⟩ := hrel
    have HO := Lib.hid ho
    have HAP := Lib.hid hap
    have HGR := Lib.hid hgr
    have HB := Lib.hid hb
    have HBW := Lib.hid hbw
    clear ho hap hgr hb hbw
    have wk := next_int k (by omega)
    by_cases h1 : k = m
    · subst h1
      have HE : Hid (gr qs = aheadN (gr gs)) := by
        have := HGR.out
        rw [List.take_of_length_le (by rw [gr_len, HM.out]; exact Nat.le_refl _)] at this
        exact this
      have HQL : Hid (qs.length = k) := by have := HO.out.1; rw [List.length_map] at this; show _ = _; omega
      go_wp2_with fail
      go_ret
      exact ⟨⟨_, qs, rfl, ⟨by rw [HQL.out]; exact own_lower HO.out HB1.out.size, fun q hq => (HAP.out q hq).1⟩, by rw [HGE.out]; exact HE.out⟩, HBW.out⟩
    · have hkl : k < m := by omega
      have hki : (k : Int) < (m : Int) := by omega
      obtain ⟨b, off, pa, pc, px, rfl, hp1, hcell0, hpi⟩ := graphAt HG.out hkl
      have hcell := (HB.out.cell (p := ⟨b, off + k, none⟩) (cell_lt hcell0)).trans hcell0
      have HPI := Lib.hid (hpi.below HB.out)
      have hpl : px.length ≤ 6 := HL.out _ (List.mem_of_getElem? hp1)
      have HS : Hid (aheadN ((gr gs).take (k + 1)) = aheadN ((gr gs).take k) ++ [aheadRow k px]) := aheadN_snoc (by unfold gr; rw [List.getElem?_map, hp1]; rfl)
      obtain ⟨q, hq⟩ : ∃ q, px.length = q := ⟨_, rfl⟩
      rw [hq] at hcell hpl
      have HQ := Lib.hid hq
      clear hpi hcell0 hp1 hq
      go_wp2_with fail
      go_loopw [6, 7] (fun p j ws => ∃ (x : Nat) (xa : Option Addr) (xc : Nat), x ≤ q ∧ (k = 0 → x = 0) ∧ j = .int .i64 (x : Int) ∧ p = .slice xa x xc ∧ ws.ownsRow wr.heap.size 3 1 (.slice xa x xc) x (I64 ((px.take x).map (modI k))) ∧ Below wr.heap.size wr ws) (fun p j _ => q - (intOf j).toNat)
      case atStart => exact ⟨0, none, 0, by omega, by omega, rfl, rfl, World.ownsRow_nil _ _ _ _, Below.refl _ _⟩
      case round =>
        obtain ⟨x, xa, xc, hx, hx0, rfl, rfl, hp, hbs⟩ := hrel
        have HP := Lib.hid hp
        have HBS := Lib.hid hbs
        have HC := Lib.hid ((hbs.cell (p := ⟨b, off + k, none⟩) (cell_lt hcell)).trans hcell)
        clear hp hbs
        have hcx := HC.out
        by_cases hxe : x < q ∧ 0 < k
        · obtain ⟨hxq, hk0⟩ := hxe
          have hxi : (x : Int) < (q : Int) := by omega
          have hki0 : (0 : Int) < (k : Int) := by omega
          obtain ⟨b3, off3, rfl, hc3⟩ := ints_at HPI.out.ints (j := x) (by show x < px.length; rw [HQ.out]; exact hxq)
          have hc4 := (HBS.out.cell (p := ⟨b3, off3 + x, none⟩) (cell_lt hc3)).trans hc3
          have HA := Lib.hid (at_some (xs := px) (j := x) (by rw [HQ.out]; exact hxq))
          have hci : px.length = px.length := rfl
          have wx := next_int x (by omega)
          have hy9 := HPI.out.i64 _ (List.mem_of_getElem? HA.out)
          clear hc3 hci
          simp only at hc4
          generalize at0 px x = y at *
          have HU : Hid (∀ z : Int, z = wrap64 ((IntKind.u64.wrap y).tmod (k : Int)) → z = modI k y) := fun z hz => hz.trans (rem_is k y hk0 (by omega))
          have HS1 : Hid ((px.take (x + 1)).map (modI k) = (px.take x).map (modI k) ++ [modI k y]) := ahead_row_snoc HA.out
          have HLI : Hid (∀ y t, (wr.alloc (.cells #[.int .i64 y] t)).cell? ⟨wr.heap.size, 0, none⟩ = some (.int .i64 y)) := fun y t => lit_one wr y t
          have HBA := Lib.hid (fun o1 => HBS.out.alloc HBS.out.size o1)
          have tok : True := trivial
          go_wp2_with (have _t := tok; at_builtin; clear tok; refine Hid.out ?_)
          refine unhid ?_
          refine wpList_append_one rfl _ _ rfl _ (.slice xa x xc) x _ rfl (HP.out.alloc _) wr.heap.size _ rfl (HLI.out _ _) (by omega) (HBA.out _).size (fun g2 gc2 w7 ho1 hg1 hgg hgl => ?_)
          rw [HU.out _ rfl, ← HS1.out] at ho1
          have HO1 := Lib.hid ho1
          have HB7 := Lib.hid ((HBA.out _).grown hg1 (HBA.out _).size (fun g hg => (HP.out.lt g hg).1))
          clear ho1 hg1 hgg HP HBA HLI
          go_wp2_with fail
          exact ⟨⟨x + 1, some ⟨g2, 0, none⟩, gc2, by omega, by omega, by first | rfl | exact congrArg (Value.int .i64) (wx _ rfl), rfl, HO1.out, HB7.out⟩, by simp [intOf]; omega⟩
        · have HXS : Hid ((px.take x).map (modI k) = aheadRow k px) := by
            unfold aheadRow
            by_cases h0 : k = 0
            · rw [if_pos h0, hx0 h0]
              rfl
            · rw [if_neg h0, List.take_of_length_le (by rw [HQ.out]; omega)]
              rfl
          have HPX := Lib.hid (own_in HP.out (by rw [HXS.out]; exact ahead_i64 k px (by omega)))
          have HO2 := Lib.hid (outer_grow HO.out HBS.out)
          have HAN := Lib.hid (apart_more (fun q hq => (HAP.out q hq).below HBS.out) (apart_new HP.out HO.out HPX.out))
          rw [HXS.out] at HAN
          have HXL : Hid ((aheadRow k px).length = x) := by
            have := ints_len HP.out
            rwa [HXS.out] at this
          have HLI := Lib.hid (fun t => lit_val wr (.slice xa x xc) t)
          have HBW2 := Lib.hid (HBW.out.trans (HBS.out.mono HBW.out.size))
          have HBV2 := Lib.hid (HB.out.trans (HBS.out.mono HB.out.size))
          have HBA := Lib.hid (fun o1 => HBW2.out.alloc HBW2.out.size o1)
          have HBB := Lib.hid (fun o1 => HBV2.out.alloc HBV2.out.size o1)
          have HGL : Hid (∀ g, (Value.slice oa k oc).ownBlock = some g → w1.heap.size ≤ g) := fun g hg => (HO.out.lt g hg).1
          have hex : ¬ (x : Int) < (q : Int) ∨ ((x : Int) < (q : Int) ∧ ¬ (0 : Int) < (k : Int)) := by omega
          clear hxe
          rcases hex with h2 | ⟨h2, h3⟩
          all_goals
            have tok : True := trivial
            go_wp2_with (have _t := tok; at_builtin; clear tok; refine Hid.out ?_)
            refine unhid ?_
            refine wpList_append_row rfl _ _ rfl w1.heap.size (.slice oa k oc) k _ rfl (HO2.out.alloc _) wr.heap.size (.slice xa x xc) rfl rfl (HLI.out _) (by omega) (HBB.out _).size (fun g2 gc2 w7 ho1 hg1 hgg hgl => ?_)
            have HO1 := Lib.hid ho1
            have HB7 := Lib.hid ((HBA.out _).grown hg1 (HBA.out _).size (fun g hg => Nat.le_trans HB1.out.size (HO.out.lt g hg).1))
            have HB8 := Lib.hid ((HBB.out _).grown hg1 (HBB.out _).size HGL.out)
            have HN7 := Lib.hid (fun q hq => ((HAN.out q hq).below ((Below.refl _ _).alloc (Nat.le_refl _) _)).grow (v' := .slice (some ⟨g2, 0, none⟩) (k + 1) gc2) hg1 (fun g hg => by injection hg with hg; subst hg; exact hgg))
            clear ho1 hg1 hgg
            go_wp2_with fail
            refine ⟨⟨k + 1, some ⟨g2, 0, none⟩, gc2, qs ++ [⟨xa, xc, aheadRow k px⟩], by omega, by first | rfl | exact congrArg (Value.int .i64) (wk _ rfl), rfl, ?_, HN7.out, ?_, HB8.out, HB7.out⟩, by simp [intOf]; omega⟩
            · rw [List.map_append]
              show World.ownsRow _ _ _ _ _ _ (_ ++ [Value.slice xa (aheadRow k px).length xc])
              rw [HXL.out]
              exact HO1.out
            · rw [HS.out, ← HGR.out]
              unfold gr
              rw [List.map_append]
              rfl
end Go.Proofs.Ythadgepihjigeaa
