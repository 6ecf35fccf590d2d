/- Rules of an order, of any graph whose parents are ahead: the walk. -/
import Derived.Test.YthadgepihjigeaaRulesApp
namespace Go.Proofs.Ythadgepihjigeaa
open Go.RowKit Plain
set_option linter.unusedVariables false
/-- The places of the first k of an order. -/
def PlaceTo (o : List Int) (k : Nat) (ps : List Int) : Prop := ∀ (t y : Nat), t < k → o[t]? = some (y : Int) → ps[y]? = some (t : Int)
theorem PlaceTo.step {o ps : List Int} {k y : Nat} (h : PlaceTo o k ps) (hn : o.Nodup) (hy : o[k]? = some (y : Int)) (hl : y < ps.length) : PlaceTo o (k + 1) (ps.set y (k : Int)) := fun t z ht hz => by
  by_cases e : z = y
  · subst e
    have : t = k := by
      have h1 := (List.getElem?_eq_some_iff.1 hz).1
      have h2 := (List.getElem?_eq_some_iff.1 hy).1
      have e3 : o[t] = o[k] := by
        rw [List.getElem?_eq_getElem h1] at hz
        rw [List.getElem?_eq_getElem h2] at hy
        injection hz with hz
        injection hy with hy
        rw [hz, hy]
      have hnd := List.pairwise_iff_getElem.1 hn
      rcases Nat.lt_trichotomy t k with hc | hc | hc
      · exact absurd e3 (hnd t k h1 h2 hc)
      · exact hc
      · exact absurd e3.symm (hnd k t h2 h1 hc)
    subst this
    rw [List.getElem?_set_self hl]
  · rw [List.getElem?_set_ne (Ne.symm e)]
    by_cases e2 : t = k
    · subst e2
      rw [hy] at hz
      injection hz with hz
      omega
    · exact h t z (by omega) hz
theorem where_all {f : Nat → Bool} : ∀ {n : Nat}, (∀ x, x < n → f x = true) → (whereN f n).length = n
  | 0, _ => rfl
  | n + 1, h => by rw [whereN, if_pos (h n (by omega)), List.length_append, List.length_singleton, where_all fun x hx => h x (by omega)]
set_option maxRecDepth 100000 in
set_option maxHeartbeats 8000000 in
theorem rules_any (a : Option Addr) (n c : Nat) (ps : List Rw) (z : Int) (w : World) (h : GraphIn w a n ps) (hn : n ≤ 9223372036854775807) :
    Calls Try.prog 6 #[.slice a n c, .int .i64 z] w fun e w' => e = .returned (.bool true) ∧ Below w.heap.size w w' := by
  have HG := Lib.hid h
  clear h
  have HS1 := few_small ps
  have HS2 := ahead_small HS1
  have HA := ahead_is (gr (fewR ps))
  have HF := Lib.hid (ahead_any a n c ps w HG.out hn)
  generalize aheadN (gr (fewR ps)) = G at *
  obtain ⟨o, ho⟩ := HA.order
  obtain ⟨hpre, hol⟩ := order_some ho
  obtain ⟨g, hg⟩ : ∃ g, G.length = g := ⟨_, rfl⟩
  have hg30 : g ≤ 30 := by rw [← hg]; exact HS2.len
  rw [hg] at hol
  have HO := Lib.hid ho
  have HPR := Lib.hid hpre
  have HOL := Lib.hid hol
  have HGL := Lib.hid hg
  obtain ⟨ib, hib, hb0, hb1, hb8⟩ := int_parts
  clear ho hpre hg
  go_enter Try.func6, Try.ntmps6
  go_wp2_with fail
  refine HF.out.mono ?_
  rintro e w1 ⟨⟨v, qs, rfl, hoG, hgr⟩, hb⟩
  obtain ⟨ga, gc, rfl, hgi⟩ := hoG.graphIn
  have hql : qs.length = g := by rw [← gr_len, hgr]; exact HGL.out
  rw [hql] at hgi
  rw [hql]
  have HB1 := Lib.hid hb
  have HG1 := Lib.hid hgi
  have HQ1 := Lib.hid hgr
  have HGNIL : Hid (ga = none → gc = 0) := fun e => by
    subst e
    rcases hoG.row.2 with ⟨e, -⟩ | ⟨g9, cap, cur, e, -⟩
    · injection e
    · cases e
  clear hb hoG hgi hgr hql HF
  go_wp2_with fail
  have h1 := order_got G ga gc qs w1 (by rw [HGL.out]; exact HG1.out) HQ1.out HS2
  rw [HGL.out] at h1
  refine h1.mono ?_
  clear h1
  rintro e w2 ⟨hq, hb⟩
  obtain ⟨xa, xc, rfl, hx⟩ := ord_yes hq HO.out
  have HX2 := Lib.hid (ints_own hx)
  have HG2 := Lib.hid (HG1.out.below hb)
  have HB2 := Lib.hid (HB1.out.trans (hb.mono HB1.out.size))
  rw [hol] at hx ⊢
  have hxcap := own_cap hx
  have HXN : Hid (xa = none → xc = 0) := fun e => by
    subst e
    rcases hx.2 with ⟨e, -⟩ | ⟨g9, cap, cur, e, -⟩
    · injection e
    · cases e
  clear hb hq hx HG1 HB1 HG
  go_wp2_with fail
  refine (known_any w2).mono ?_
  rintro e w3 ⟨rfl, hb⟩
  have HX3 := Lib.hid (HX2.out.below hb)
  have HG3 := Lib.hid (HG2.out.below hb)
  have HB3 := Lib.hid (HB2.out.trans (hb.mono HB2.out.size))
  clear hb HX2 HG2 HB2
  go_wp2_with (at_make; go_loud (refine wpList_make_full _ rfl _ _ 24 rfl w3.heap.size 3 ib (.int .i64 0) 1 Try.underlying24 hib hb0 hb1 .i64 .i64 _ _ g rfl rfl rfl rfl (by rw [hb8]; omega) (by unfold maxLen; omega) (Nat.le_refl _) ?_); intro w4 hown1 hg1; refine Hid.out ?_)
  refine unhid ?_
  rw [made_ints] at hown1
  have HO4 := Lib.hid hown1
  have HB4 := Lib.hid ((Below.refl w3.heap.size w3).grown hg1 (Nat.le_refl _) (fun k e => by cases e))
  clear hown1 hg1 hib hb0 hb1 hb8
  go_wp2_with fail
  go_loopw [9] (fun i wr => ∃ (k : Nat) (ps : List Int), k ≤ g ∧ i = .int .i64 (k : Int) ∧ ps.length = g ∧ wr.ownsRow w3.heap.size 3 1 (.slice (some ⟨w3.heap.size, 0, none⟩) g g) g (I64 ps) ∧ PlaceTo o k ps ∧ Below w3.heap.size w3 wr) (fun i _ => g - (intOf i).toNat)
  case atStart => exact ⟨0, _, by omega, rfl, by simp, HO4.out, fun t y ht => by omega, HB4.out⟩
  case round =>
    clear HO4 HB4
    obtain ⟨k, ps, hk, rfl, hpl, hw, hpt, hb⟩ := hrel
    have HW := Lib.hid hw
    have HPT := Lib.hid hpt
    have HPL := Lib.hid hpl
    have HB := Lib.hid hb
    clear hw hpt hpl hb
    have wk := next_int k (by omega)
    by_cases hkg : k = g
    · subst hkg
      have hcell9 : ∀ (y t : Nat), ps[y]? = some (t : Int) → y < k → wr.cell? ⟨w3.heap.size, y, none⟩ = some (.int .i64 (t : Int)) := fun y t h1 h2 => by
        rw [HW.out.cellAt y (by omega), I64_at ps y (by rw [HPL.out]; exact h2)]
        unfold at0
        rw [h1]
        rfl
      have HC9 := Lib.hid hcell9
      clear hcell9
      go_wp2_with fail
      rename World => wa
      go_loopw [10] (fun v wq => ∃ x : Nat, x ≤ k ∧ v = .int .i64 (x : Int) ∧ Below wa.heap.size wa wq) (fun v _ => k - (intOf v).toNat)
      case atStart => exact ⟨0, by omega, rfl, Below.refl _ _⟩
      case round =>
        obtain ⟨x, hx, rfl, hbq⟩ := hrel
        rename World => wq
        have HBQ := Lib.hid hbq
        have HBX := Lib.hid (HB.out.trans (hbq.mono HB.out.size))
        clear hbq
        have wx := next_int x (by omega)
        by_cases hxg : x = k
        · subst hxg
          go_wp2_with fail
          have h1 := heads_got G ga gc qs wq (by rw [HGL.out]; exact HG3.out.below HBX.out) HQ1.out HS2
          rw [HGL.out] at h1
          refine h1.mono ?_
          clear h1
          rintro e w5 ⟨hq, hb⟩
          obtain ⟨ha, hl, hc, rfl, hhl, hhi⟩ : ∃ a l c, e = .returned (.tuple #[.slice a l c, .int .i64 0]) ∧ l = (whereN (fun x => usedN G x == false) G.length).length ∧ IntsAt w5 a (whereN (fun x => usedN G x == false) G.length) := by
            rcases hq with ⟨h, -⟩ | ⟨-, h⟩
            · rw [HO.out] at h; cases h
            · exact h
          have HHA := Lib.hid (heads_all (F := whereN (fun x => usedN G x == false) G.length) HPR.out (by rw [HOL.out, HGL.out]) fun y hy hu => (where_mem _ _ _).2 ⟨y, hy, rfl, by
            rw [beq_iff_eq]
            unfold usedN
            rw [List.any_eq_false]
            intro l hl9 hh
            exact hu l hl9 ((hasN_iff l _).1 hh)⟩)
          have HFI : Hid ((whereN (fun x => usedN G x == false) G.length).all (inG G.length) = true) := List.all_eq_true.2 fun v hv => by
            obtain ⟨y, h1, h2, -⟩ := (where_mem _ _ _).1 hv
            exact (inG_iff _ v).2 ⟨y, h1, h2⟩
          have hfl := where_len (fun x => usedN G x == false) G.length
          generalize whereN (fun x => usedN G x == false) G.length = F at *
          rw [HGL.out] at hfl
          have HV5 := Lib.hid (HBX.out.trans (hb.mono HBX.out.size))
          have HHI := Lib.hid hhi
          have HHL := Lib.hid hhl
          have HFL := Lib.hid hfl
          clear hb hq hhi hhl hfl
          go_wp2_with fail
          have h1 := reach_got G ga gc qs ha hl hc F w5 (by rw [HGL.out]; exact HG3.out.below HV5.out) HQ1.out HS2 HHI.out HHL.out.symm (by have := HHL.out; have := HFL.out; omega)
          rw [HGL.out] at h1
          refine h1.mono ?_
          clear h1
          rintro e w6 ⟨hq, hb⟩
          obtain ⟨ra, rl, rc, rfl, hrl⟩ : ∃ a l c, e = .returned (.tuple #[.slice a l c, .int .i64 0]) ∧ l = (whereN (rchB G F) G.length).length := by
            rcases hq with ⟨h | h, -⟩ | ⟨-, -, a, l, c, h1, h2, -⟩
            · rw [HO.out] at h; cases h
            · rw [HFI.out] at h; cases h
            · exact ⟨a, l, c, h1, h2⟩
          have hrl2 : rl = x := by
            rw [hrl, where_all fun y hy => (rchB_iff G F y).2 (HHA.out y hy)]
            exact HGL.out
          subst hrl2
          have HV6 := Lib.hid (HV5.out.trans (hb.mono HV5.out.size))
          clear hb hq hrl
          obtain ⟨kk, hkk⟩ : ∃ kk : Nat, modI (rl + 1) z = (kk : Int) := ⟨(modI (rl + 1) z).toNat, by have := modI_lt (rl + 1) z (by omega); omega⟩
          have hkkx : kk ≤ rl := by have := modI_lt (rl + 1) z (by omega); omega
          have HKE : Hid (wrap64 ((IntKind.u64.wrap z).tmod ((rl : Int) + 1)) = (kk : Int)) := (rem_is (rl + 1) z (by omega) (by omega)).trans hkk
          have HW6 := Lib.hid (HB3.out.trans (HV6.out.mono HB3.out.size))
          have HBA6 := Lib.hid (fun o1 => (Below.refl w6.heap.size w6).alloc (Nat.le_refl _) o1)
          have HE6 : Hid ((w6.alloc (.cells #[] 24)).ownsRow w6.heap.size 24 1 (.slice (some ⟨w6.heap.size, 0, none⟩) 0 0) 0 []) := World.ownsRow_lit (base := w6.heap.size) (e := 24) (size := 1) w6 #[] 0 (Nat.le_refl _) (Nat.zero_le _) rfl
          have HG6 := Lib.hid (HG3.out.below HV6.out)
          have HGN : Hid (ga = none → gc = 0) := HGNIL.out
          clear hkk
          have tok : True := trivial
          go_wp2_with (have _t := tok; at_builtin; clear tok; refine Hid.out ?_)
          refine unhid ?_
          rw [HKE.out]
          refine wpList_append_rows rfl _ _ rfl w6.heap.size _ 0 [] rfl HE6.out ga rl gc qs rfl (HG6.out.below (HBA6.out _)).rows HG6.out.len HGN.out (by omega) (HBA6.out _).size (fun na nc w7 ho1 hg1 => ?_)
          rw [List.nil_append, Nat.zero_add] at ho1
          rw [Nat.zero_add]
          have HO7 := Lib.hid ho1
          have HB7 := Lib.hid ((HBA6.out _).grown hg1 (HBA6.out _).size (fun g hg => (HE6.out.lt g hg).1))
          clear ho1 hg1
          have HLI := Lib.hid (fun t => lit_val w7 (.slice xa rl xc) t)
          have HBA7 := Lib.hid (fun o1 => HB7.out.alloc HB7.out.size o1)
          have tok : True := trivial
          go_wp2_with (have _t := tok; at_builtin; clear tok; refine Hid.out ?_)
          refine unhid ?_
          refine wpList_append_row rfl _ _ rfl w6.heap.size (.slice na rl nc) rl _ rfl (HO7.out.alloc _) w7.heap.size (.slice xa rl xc) rfl rfl (HLI.out _) (by omega) (HBA7.out _).size (fun g2 gc2 w8 ho1 hg1 hgg hgl => ?_)
          have HB8 := Lib.hid ((HBA7.out _).grown hg1 (HBA7.out _).size (fun g hg => (HO7.out.lt g hg).1))
          have HX8 := Lib.hid (HX3.out.below (HV6.out.trans (HB8.out.mono HV6.out.size)))
          have HMG : Hid (Graph w8 (some ⟨g2, 0, none⟩) (rl + 1) (qs ++ [⟨xa, xc, o⟩])) := own_graph (c := gc2) (by
            rw [List.map_append]
            show World.ownsRow _ _ _ _ _ _ (_ ++ [Value.slice xa o.length xc])
            rw [HOL.out]
            exact ho1) fun p hp => by
              rcases List.mem_append.1 hp with hp | hp
              · exact (((HG6.out.below HB8.out).each p hp)).ints
              · rw [List.mem_singleton.1 hp]; exact HX8.out
          have HMR : Hid (gr (qs ++ [⟨xa, xc, o⟩]) = G ++ [o]) := by
            show _ = _
            unfold gr
            rw [List.map_append]
            show gr qs ++ [o] = _
            rw [HQ1.out]
          have HML : Hid (∀ p ∈ qs ++ [(⟨xa, xc, o⟩ : Rw)], p.xs.length ≤ 1000) := fun p hp => by
            rcases List.mem_append.1 hp with hp | hp
            · exact small_rows HS2 HQ1.out p hp
            · rw [List.mem_singleton.1 hp]; show o.length ≤ 1000; rw [HOL.out]; omega
          clear ho1 hg1 hgg hgl
          go_wp2_with fail
          refine (order_any (some ⟨g2, 0, none⟩) (rl + 1) gc2 _ w8 HMG.out (by omega) HML.out).mono ?_
          rw [HMR.out]
          rintro e w9 ⟨hq, hb⟩
          obtain ⟨ya, yc, rfl, hy⟩ := ord_yes hq (order_more HO.out)
          have hyl : (o ++ [(G.length : Int)]).length = rl + 1 := by rw [List.length_append, List.length_singleton, HOL.out]
          rw [hyl] at hy ⊢
          have hycap := own_cap hy
          have HB9 := Lib.hid (HB8.out.trans (hb.mono HB8.out.size))
          have HYI : Hid (IntsAt w9 ya o) := by
            rcases ints_own hy with h | ⟨b, off, ha, hc⟩
            · rw [hyl] at h; omega
            · refine .inr ⟨b, off, ha, fun j hj => ?_⟩
              rw [hc j (by rw [hyl]; rw [HOL.out] at hj; omega)]
              unfold at0
              rw [List.getElem?_append_left hj]
          have hslx := fun W => slice_ints xa rl xc kk (by omega) W
          have hsly := fun W => slice_ints ya (rl + 1) yc rl (by omega) W
          have HX9 := Lib.hid (HX3.out.below (HV6.out.trans (HB9.out.mono HV6.out.size)))
          have HG9 := Lib.hid (HG6.out.below HB9.out)
          have HT9 : Hid (IntsAt w9 xa (o.take kk)) := by
            rcases HX9.out with h | ⟨b, off, ha, hc⟩
            · exact .inl (by rw [List.length_take]; omega)
            · refine .inr ⟨b, off, ha, fun j hj => ?_⟩
              rw [List.length_take] at hj
              rw [hc j (by omega)]
              unfold at0
              rw [List.getElem?_take_of_lt (by omega)]
          have HTL : Hid ((o.take kk).length = kk) := by show _ = _; rw [List.length_take, HOL.out]; omega
          have HW9 := Lib.hid (HW6.out.trans (HB9.out.mono HW6.out.size))
          clear hq hb hy hyl
          go_wp2_with fail
          have h1 := closed_got G ga gc qs xa kk xc (o.take kk) w9 (by rw [HGL.out]; exact HG9.out) HQ1.out HS2 HT9.out HTL.out (by omega)
          rw [HGL.out] at h1
          refine h1.mono ?_
          clear h1
          rintro e w10 ⟨⟨b, rfl, hbb⟩, hb⟩
          obtain rfl : b = true := hbb.2 fun u hu hm p hp _ => order_closed HPR.out kk u hm p hp
          have HY10 := Lib.hid (HYI.out.below hb)
          have HX10 := Lib.hid (HX9.out.below hb)
          have HW10 := Lib.hid (HW9.out.trans (hb.mono HW9.out.size))
          clear hb hbb
          go_wp2_with fail
          refine (same_any ya rl yc o xa rl xc o w10 HY10.out HOL.out (by omega) HX10.out HOL.out (by omega)).mono ?_
          rintro e w11 ⟨rfl, hb⟩
          have HW11 := Lib.hid (HW10.out.trans (hb.mono HW10.out.size))
          have hd : decide (o = o) = true := decide_eq_true rfl
          rw [hd]
          clear hb hd
          go_wp2_with fail
          go_ret
          exact ⟨rfl, HW11.out⟩
        · have hxl : x < k := by omega
          have hxi : (x : Int) < (k : Int) := by omega
          obtain ⟨b4, off4, pa, pc, px, rfl, hp1, hcell0, hpi⟩ := graphAt HG3.out hxl
          have HCELL := Lib.hid ((HBX.out.cell (p := ⟨b4, off4 + x, none⟩) (cell_lt hcell0)).trans hcell0)
          have HPI := Lib.hid (hpi.ints.below HBX.out)
          have HRW : Hid (row G x = px) := by
            show _ = _
            rw [← HQ1.out]
            exact gr_row hp1
          have hpl6 : px.length ≤ 6 := HS2.rows px (by rw [← HQ1.out]; exact List.mem_map.2 ⟨_, List.mem_of_getElem? hp1, rfl⟩)
          obtain ⟨t, ht, et⟩ := List.mem_iff_getElem.1 (order_all HPR.out (by rw [HOL.out, HGL.out]) x (by rw [HGL.out]; exact hxl))
          have hto : o[t]? = some (x : Int) := by rw [List.getElem?_eq_getElem ht, et]
          have htk : t < k := by rw [HOL.out] at ht; exact ht
          have HTO := Lib.hid hto
          have hcx := HC9.out x t (HPT.out t x htk hto) hxl
          have HCX := Lib.hid ((HBQ.out.cell (p := ⟨w3.heap.size, x, none⟩) (cell_lt hcx)).trans hcx)
          obtain ⟨q, hq⟩ : ∃ q, px.length = q := ⟨_, rfl⟩
          rw [hq] at HCELL hpl6
          have HQ := Lib.hid hq
          clear hpi hcell0 hp1 hq et hto hcx
          go_wp2_with fail
          go_loopw [11] (fun v wz => ∃ j : Nat, j ≤ q ∧ v = .int .i64 (j : Int) ∧ Below wq.heap.size wq wz) (fun v _ => q - (intOf v).toNat)
          case atStart => exact ⟨0, by omega, rfl, Below.refl _ _⟩
          case round =>
            obtain ⟨j, hj, rfl, hbz⟩ := hrel
            rename World => wz
            have HBZ := Lib.hid hbz
            have hcell := (hbz.cell (p := ⟨b4, off4 + x, none⟩) (cell_lt HCELL.out)).trans HCELL.out
            have hcx := (hbz.cell (p := ⟨w3.heap.size, x, none⟩) (cell_lt HCX.out)).trans HCX.out
            clear hbz
            have wj := next_int j (by omega)
            by_cases hjq : j = q
            · subst hjq
              go_wp2_with fail
              exact ⟨⟨x + 1, by omega, by first | rfl | exact congrArg (Value.int .i64) (wx _ rfl), HBQ.out.trans (HBZ.out.mono HBQ.out.size)⟩, by simp [intOf] <;> omega⟩
            · have hjl : j < q := by omega
              have hji : (j : Int) < (q : Int) := by omega
              obtain ⟨b5, off5, rfl, hc50⟩ := ints_at HPI.out (j := j) (by show j < px.length; rw [HQ.out]; exact hjl)
              have hc5 := (HBZ.out.cell (p := ⟨b5, off5 + j, none⟩) (cell_lt hc50)).trans hc50
              clear hc50
              have HA5 := Lib.hid (at_some (xs := px) (j := j) (by rw [HQ.out]; exact hjl))
              generalize at0 px j = r at *
              have hrr : r ∈ row G x := by rw [HRW.out]; exact List.mem_of_getElem? HA5.out
              obtain ⟨y, hyx, rfl⟩ := HA x (by rw [HGL.out]; exact hxl) r hrr
              obtain ⟨s, hst, hso⟩ := order_places HPR.out t x HTO.out (y : Int) hrr
              have hcy0 := HC9.out y s (HPT.out s y (by omega) hso) (by omega)
              have hcy1 := (HBQ.out.cell (p := ⟨w3.heap.size, y, none⟩) (cell_lt hcy0)).trans hcy0
              have hcy := (HBZ.out.cell (p := ⟨w3.heap.size, y, none⟩) (cell_lt hcy1)).trans hcy1
              clear hcy0 hcy1
              have hyi : (y : Int) < (k : Int) := by omega
              have hge : ¬ (t : Int) ≤ (s : Int) := by omega
              have hge2 : decide ((t : Int) ≤ (s : Int)) = false := decide_eq_false hge
              clear hrr hso
              go_wp2_with fail
              go_quiet (fail)
              go_wp2_with fail
              exact ⟨⟨j + 1, by omega, by first | rfl | exact congrArg (Value.int .i64) (wj _ rfl), HBZ.out.trans (Below.mono (grown_below _ _) HBZ.out.size)⟩, by simp [intOf] <;> omega⟩
    · have hkl : k < g := by omega
      have hki : (k : Int) < (g : Int) := by omega
      obtain ⟨b3, off3, rfl, hc30⟩ := ints_at HX3.out (j := k) (by rw [HOL.out]; exact hkl)
      have hc3 := (HB.out.cell (p := ⟨b3, off3 + k, none⟩) (cell_lt hc30)).trans hc30
      have HA3 := Lib.hid (at_some (xs := o) (j := k) (by rw [HOL.out]; exact hkl))
      clear hc30
      generalize at0 o k = r at *
      obtain ⟨y, hy, rfl⟩ := (HPR.out.facts).2.1 r (List.mem_of_getElem? HA3.out)
      rw [HGL.out] at hy
      have hyi : (y : Int) < (g : Int) := by omega
      have hcy : wr.cell? ⟨w3.heap.size, y, none⟩ = some (.int .i64 (at0 ps y)) := by
        rw [HW.out.cellAt y (by omega)]
        exact I64_at ps y (by rw [HPL.out]; exact hy)
      have hfy := HW.out.frozenAt y
      have HP1 := Lib.hid (HPT.out.step HPR.out.facts.1 HA3.out (by rw [HPL.out]; exact hy))
      have HW1 := Lib.hid ((HW.out.stored y (.int .i64 (k : Int))).1)
      rw [← I64_set] at HW1
      have HB1 := Lib.hid (HB.out.setCell (p := ⟨w3.heap.size, y, none⟩) (Nat.le_refl _) (.int .i64 (k : Int)))
      have HL1 : Hid ((ps.set y (k : Int)).length = g) := by show _ = _; rw [List.length_set]; exact HPL.out
      go_wp2_with fail
      exact ⟨⟨k + 1, _, by omega, by first | rfl | exact congrArg (Value.int .i64) (wk _ rfl), HL1.out, HW1.out, HP1.out, HB1.out⟩, by simp [intOf] <;> omega⟩
end Go.Proofs.Ythadgepihjigeaa
