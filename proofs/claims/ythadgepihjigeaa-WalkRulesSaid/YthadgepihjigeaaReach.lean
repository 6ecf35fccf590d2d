/- Reach: the walk. -/
import Derived.Test.YthadgepihjigeaaReachSt
namespace Go.Proofs.Ythadgepihjigeaa
open Go.RowKit Plain
set_option linter.unusedVariables false
theorem opn_start {w2 : World} {base M n : Nat} {ms : List Bool} (h : BoolRow w2 base M n ms) (t u : TypeId) (hbase : base ≤ w2.heap.size) : Opn ((w2.alloc (.cells #[.slice (some ⟨M, 0, none⟩) n n] t)).alloc (.cells #[.slice none 0 0] u)) base M w2.heap.size (w2.heap.size + 1) n ms (.slice none 0 0) [] := by
  have hM := (h.2.lt M rfl).2
  have c1 := alloc_old _ (.cells #[.slice none 0 0] u) ((alloc_cell w2 #[.slice (some ⟨M, 0, none⟩) n n] t 0).trans rfl)
  have c2 := alloc_cell (w2.alloc (.cells #[.slice (some ⟨M, 0, none⟩) n n] t)) #[.slice none 0 0] u 0
  have hal := heap_alloc_new (w2.alloc (.cells #[.slice (some ⟨M, 0, none⟩) n n] t)) (.cells #[.slice none 0 0] u)
  have f2 := frozen_of_row _ _ 0 #[.slice none 0 0] _ hal
  rw [size_al] at c2 f2
  exact ⟨c1, ⟨h.1, (h.2.alloc _).alloc _⟩, ⟨c2.trans rfl, World.ownsRow_nil _ _ _ _, by simp [Value.ownBlock], f2⟩, by omega, by omega, by omega, by simp [Value.ownBlock], by simp [Value.ownBlock], hbase, by omega⟩
theorem Opn.cut {w : World} {base M B1 B2 n g l c : Nat} {ms : List Bool} {xs : List Int} (h : Opn w base M B1 B2 n ms (.slice (some ⟨g, 0, none⟩) (l + 1) c) xs) (hl : xs.length = l + 1) :
    Opn (w.setCell ⟨B2, 0, none⟩ (.slice (some ⟨g, 0, none⟩) l c)) base M B1 B2 n ms (.slice (some ⟨g, 0, none⟩) l c) (xs.take l) := by
  have hs := set_grown w B2 0 (.slice (some ⟨g, 0, none⟩) l c)
  have hr := h.hv.row
  rw [hl] at hr
  have hln : (xs.take l).length = l := by rw [List.length_take]; omega
  refine ⟨hs.cell h.box (fun e => h.b12 (by injection e)), h.marks.kept hs (fun e => h.m2 (by injection e with e; exact e.symm)), ⟨World.cell?_setCell_same _ _ _ h.hv.cell, ?_, h.hv.ne, (World.frozen?_setCell w ⟨B2, 0, none⟩ ⟨B2, 0, none⟩ _).trans h.hv.fro⟩, h.m1, h.m2, h.b12, h.vm, h.vb, h.low1, h.low2⟩
  rw [hln]
  have h1 := ownsRow_cut hr (n := l) (by omega)
  have e : (I64 xs).take l = I64 (xs.take l) := by unfold I64; rw [List.map_take]
  rw [e] at h1
  exact h1.kept hs (.inr fun e => h.hv.ne (by first | exact e | exact e.symm))
theorem less_of (l : Nat) (h : l ≤ 1000000) : ∀ x : Int, x = ((l + 1 : Nat) : Int) - 1 → wrap64 x = (l : Int) := fun x hx => by
  rw [hx, show ((l + 1 : Nat) : Int) - 1 = (l : Int) by omega]; exact IntWalk.wrap64_in _ (by omega)
theorem wrap_id (l : Nat) (h : l ≤ 1000000) : ∀ x : Int, x = (l : Int) → wrap64 x = (l : Int) := fun x hx => by
  rw [hx]; exact IntWalk.wrap64_in _ (by omega)
/-- What Reach tells. -/
def ReachQ (G : List (List Int)) (F : List Int) (e : Ending) (w' : World) : Prop :=
  ((orderN G = none ∨ F.all (inG G.length) = false) ∧ e = .returned (.tuple #[.slice none 0 0, .int .i64 4])) ∨
  (orderN G ≠ none ∧ F.all (inG G.length) = true ∧ ∃ a l c, e = .returned (.tuple #[.slice a l c, .int .i64 0]) ∧ l = (whereN (rchB G F) G.length).length ∧ IntsAt w' a (whereN (rchB G F) G.length))
set_option maxRecDepth 100000 in
set_option maxHeartbeats 8000000 in
theorem reach_any (a : Option Addr) (n c : Nat) (ps : List Rw) (a2 : Option Addr) (m c2 : Nat) (F : List Int) (w : World) (h : Graph w a n ps) (hn : n ≤ 1000) (hl : ∀ p ∈ ps, p.xs.length ≤ 1000) (hi : IntsAt w a2 F) (hm : F.length = m) (hm9 : m ≤ 1000) :
    Calls Try.prog 15 #[.slice a n c, .slice a2 m c2] w fun e w' => ReachQ (gr ps) F e w' ∧ Below w.heap.size w w' := by
  have HG := Lib.hid h
  have HL := Lib.hid hl
  have HI := Lib.hid hi
  have HM := Lib.hid hm
  have HOR := Lib.hid (order_any a n c ps w h hn hl)
  have HN : Hid ((gr ps).length = n) := (gr_len ps).trans h.len
  obtain ⟨ib, hib, hb0, hb1, hb8⟩ := info_parts boolinfo
  clear h hl hi hm
  go_enter Try.func15, Try.ntmps15
  go_wp2_with fail
  refine HOR.out.mono ?_
  rintro e w1 ⟨hq, hb⟩
  have HB1 := Lib.hid hb
  clear hb HOR
  cases ho : orderN (gr ps) with
  | none =>
    obtain rfl := ord_no hq ho
    have HO := Lib.hid ho
    clear hq ho hib hb0 hb1 hb8
    go_wp2_with fail
    go_ret2
    exact ⟨.inl ⟨.inl HO.out, rfl⟩, HB1.out⟩
  | some o =>
    obtain ⟨xa, xc, rfl, -⟩ := ord_yes hq ho
    have HRT : Hid (∀ x, x < n → ∀ p ∈ row (gr ps) x, ∃ y : Nat, y < n ∧ p = (y : Int)) := by
      have h1 := order_right (order_some ho).1 (order_some ho).2
      rwa [HN.out] at h1
    have HO : Hid (orderN (gr ps) ≠ none) := by rw [ho]; exact fun e => by cases e
    clear hq ho
    go_wp2_with (at_make; go_loud (refine wpList_make_full _ rfl _ _ 45 rfl w1.heap.size 4 ib (.bool false) 1 Try.underlying45 hib hb0 hb1 .i64 .i64 _ _ n rfl rfl rfl rfl (by rw [hb8]; omega) (by unfold maxLen; omega) (Nat.le_refl _) ?_); intro w2 hown1 hg1; refine Hid.out ?_)
    refine unhid ?_
    rw [made_bools] at hown1
    clear hib hb0 hb1 hb8
    have HOW := Lib.hid (opn_start (w2 := w2) (base := w1.heap.size) (M := w1.heap.size) (n := n) (ms := List.replicate n false) ⟨by simp, hown1⟩ 45 24 hg1.size)
    have HBW : Hid (∀ t u, Below w.heap.size w ((w2.alloc t).alloc u)) := fun t u => by
      have h1 : Below w.heap.size w w2 := HB1.out.trans (((Below.refl w1.heap.size w1).grown hg1 (Nat.le_refl _) (fun k e => by cases e)).mono HB1.out.size)
      exact (h1.alloc h1.size t).alloc (h1.alloc h1.size t).size u
    have HSZ : Hid (∀ t u, w1.heap.size ≤ ((w2.alloc t).alloc u).heap.size) := fun t u => by
      have := hg1.size
      rw [size_al, size_al]
      omega
    have HST := Lib.hid (RS.start (gr ps) F n)
    clear hown1 hg1
    have hWM := HB1.out.size
    go_wp2_with fail
    obtain ⟨M, hM⟩ : ∃ M, w1.heap.size = M := ⟨_, rfl⟩
    obtain ⟨B, hB⟩ : ∃ B, w2.heap.size = B := ⟨_, rfl⟩
    rw [hM] at HOW HSZ hWM
    rw [hB] at HOW
    simp only [hM, hB]
    have HBA := Lib.hid (HBW.out (.cells #[.slice (some ⟨M, 0, none⟩) n n] 45) (.cells #[.slice none 0 0] 24))
    have HSA := Lib.hid (HSZ.out (.cells #[.slice (some ⟨M, 0, none⟩) n n] 45) (.cells #[.slice none 0 0] 24))
    clear HBW HSZ
    generalize (w2.alloc (.cells #[.slice (some ⟨M, 0, none⟩) n n] 45)).alloc (.cells #[.slice none 0 0] 24) = W0 at *
    go_loopw [30] (fun i wr => ∃ (k : Nat) (ms : List Bool) (v : Value) (xs : List Int), k ≤ m ∧ i = .int .i64 (k : Int) ∧ Opn wr M M B (B + 1) n ms v xs ∧ RS (gr ps) F n ms xs (fun _ => False) ∧ (∀ z : Nat, (z : Int) ∈ F.take k → mkd ms z = true) ∧ (F.take k).all (inG n) = true ∧ xs.length ≤ k ∧ M ≤ wr.heap.size ∧ Below w.heap.size w wr) (fun i _ => m - (intOf i).toNat)
    case atStart => exact ⟨0, _, _, _, by omega, rfl, HOW.out, HST.out, by simp, rfl, by simp, HSA.out, HBA.out⟩
    case round =>
      clear HOW HST HBA HSA
      obtain ⟨k, ms, v, xs, hk, rfl, hop, hrs, hz, hin, hxl, hms, hb⟩ := hrel
      have HOP := Lib.hid hop
      have HRS := Lib.hid hrs
      have HZ := Lib.hid hz
      have HIN := Lib.hid hin
      have HB := Lib.hid hb
      clear hop hrs hz hin hb
      have wk := next_int k (by omega)
      by_cases hkm : k = m
      · subst hkm
        have HZF : Hid (∀ z : Nat, (z : Int) ∈ F → mkd ms z = true) := fun z hz => HZ.out z (by rw [List.take_of_length_le (by rw [HM.out]; exact Nat.le_refl _)]; exact hz)
        have HAF : Hid (F.all (inG n) = true) := by
          have := HIN.out
          rw [List.take_of_length_le (by rw [HM.out]; exact Nat.le_refl _)] at this
          exact this
        have HCT : Hid (2 * ms.count false + xs.length ≤ 2 * n + k) := by
          have h1 := List.count_le_length (a := false) (l := ms)
          have h2 := HRS.out.len
          show _ ≤ _
          omega
        go_wp2_with fail
        go_loopw [13] (fun _ ws => ∃ (ms : List Bool) (v : Value) (xs : List Int), Opn ws M M B (B + 1) n ms v xs ∧ RS (gr ps) F n ms xs (fun _ => False) ∧ (∀ z : Nat, (z : Int) ∈ F → mkd ms z = true) ∧ 2 * ms.count false + xs.length ≤ 2 * n + k ∧ M ≤ ws.heap.size ∧ Below w.heap.size w ws) (fun _ ws => leftN ws M (B + 1))
        case atStart => exact ⟨ms, v, xs, HOP.out, HRS.out, HZF.out, HCT.out, hms, HB.out⟩
        case round =>
          clear HOP HRS HZF HCT hms HB HZ HIN hxl
          obtain ⟨ms, v, xs, hop, hrs, hz, hct, hms, hb⟩ := hrel
          have HOP := Lib.hid hop
          have HRS := Lib.hid hrs
          have HZF := Lib.hid hz
          have HB := Lib.hid hb
          have HLF := Lib.hid hop.left
          clear hrs hz hb
          cases hxs : xs.length with
          | zero =>
            obtain rfl : xs = [] := List.eq_nil_of_length_eq_zero hxs
            obtain ⟨va, vc, rfl⟩ := row_form hop.hv.row
            have hcB := hop.hv.cell
            have hbx := hop.box
            have HMF : Hid (MarkF (mkd ms) n ms) := fun y hy => mkd_some (by rw [HRS.out.len]; exact hy)
            have HFN : Hid (∀ v ∈ F, ∃ y : Nat, v = (y : Int)) := fun v hv => by
              obtain ⟨y, -, h2⟩ := (inG_iff n v).1 (List.all_eq_true.1 HAF.out v hv)
              exact ⟨y, h2⟩
            have HRR : Hid (∀ x, ∀ p ∈ row (gr ps) x, ∃ y : Nat, p = (y : Int)) := fun x p hp => by
              by_cases hx : x < n
              · obtain ⟨y, -, h2⟩ := HRT.out x hx p hp
                exact ⟨y, h2⟩
              · unfold row at hp
                rw [List.getElem?_eq_none (by rw [HN.out]; omega)] at hp
                cases hp
            have HWE : Hid (whereN (fun x => mkd ms x == true) n = whereN (rchB (gr ps) F) n) := where_congr fun x hx => by
              rw [HRS.out.all HZF.out HRR.out HFN.out x]
              simp
            have HTH := Lib.hid (those_any M n M ms (mkd ms) true wr HOP.out.marks HMF.out hn)
            clear hop hxs
            go_wp2_with fail
            refine HTH.out.mono ?_
            rw [HWE.out]
            rintro e w3 ⟨⟨ya, yl, yc, rfl, hy, hyl⟩, hb⟩
            have HB3 := Lib.hid (HB.out.trans (hb.mono HB.out.size))
            have HY := Lib.hid (ints_own hy)
            have HYL := Lib.hid hyl
            clear hb hy hyl
            go_wp2_with fail
            go_ret2
            exact ⟨.inr ⟨HO.out, by rw [HN.out]; exact HAF.out, ya, yl, yc, rfl, by rw [HN.out]; exact HYL.out, by rw [HN.out]; exact HY.out⟩, HB3.out⟩
          | succ l =>
            obtain ⟨g, c9, rfl, hAt⟩ := hop.hv.at_ (by omega)
            have hcx := (hAt.at_ l (by omega)).1
            have HA := Lib.hid (at_some (xs := xs) (j := l) (by omega))
            have hcB := hop.hv.cell
            have hfB := hop.hv.fro
            rw [hxs] at hcB hop HLF
            have hcap : l + 1 ≤ c9 := by have h := hop.hv.row; rw [hxs] at h; exact own_cap h
            have HO1 := Lib.hid (hop.cut hxs)
            generalize at0 xs l = r at *
            obtain ⟨x, hxn, rfl, hmx⟩ := HRS.out.opn r (List.mem_of_getElem? HA.out)
            have HRP := Lib.hid (HRS.out.pop hxs HA.out)
            have HRX := Lib.hid (HRS.out.rch x hmx)
            have hxi : (x : Int) < (n : Int) := by omega
            obtain ⟨b4, off4, pa, pc, px, rfl, hp1, hcell0, hpi, hrow⟩ := graph_at HG.out hxn
            have HB1 := Lib.hid (HB.out.setCell (p := ⟨B + 1, 0, none⟩) (Nat.le_trans hWM HOP.out.low2) (.slice (some ⟨g, 0, none⟩) l c9))
            have hsz1 : (wr.setCell ⟨B + 1, 0, none⟩ (.slice (some ⟨g, 0, none⟩) l c9)).heap.size = wr.heap.size := by simp
            have hms1 : M ≤ (wr.setCell ⟨B + 1, 0, none⟩ (.slice (some ⟨g, 0, none⟩) l c9)).heap.size := by rw [hsz1]; exact hms
            have hcell := (HB1.out.cell (p := ⟨b4, off4 + x, none⟩) (cell_lt hcell0)).trans hcell0
            have HPI := Lib.hid hpi
            have HRW := Lib.hid hrow
            have hpl : px.length ≤ 1000 := HL.out _ (List.mem_of_getElem? hp1)
            obtain ⟨q, hq⟩ : ∃ q, px.length = q := ⟨_, rfl⟩
            rw [hq] at hcell hpl
            have HQ := Lib.hid hq
            have hsl := fun W => slice_toI (some ⟨g, 0, none⟩) (l + 1) c9 l (by omega) W
            have hll : (l : Int) < ((l + 1 : Nat) : Int) := by omega
            have hl0 : (0 : Int) < ((l + 1 : Nat) : Int) := by omega
            have wl : ∀ x : Int, x = ((l + 1 : Nat) : Int) - 1 → wrap64 x = (l : Int) := less_of l (by omega)
            have wl2 := wrap_id l (by omega)
            have HKL : Hid (2 * ms.count false + (xs.take l).length ≤ 2 * ms.count false + l) := by
              show _ ≤ _
              rw [List.length_take]; omega
            have hkb : 2 * ms.count false + l ≤ 3 * 1000 := by omega
            have hkn : 2 * ms.count false + l + 1 ≤ 2 * n + k := by omega
            clear hpi hcell0 hp1 hq hrow hAt hop hsz1 HOP HRS hmx hct
            obtain ⟨K, hK⟩ : ∃ K, 2 * ms.count false + l = K := ⟨_, rfl⟩
            rw [hK] at HKL hkb hkn
            have HLK : Hid (leftN wr M (B + 1) = K + 1) := by show _ = _; rw [HLF.out]; omega
            clear hK HLF
            go_wp2_with fail
            (try rw [wl2 _ rfl])
            go_loopw [61] (fun i ws => ∃ (j : Nat) (ms : List Bool) (v : Value) (xs : List Int), j ≤ q ∧ i = .int .i64 (j : Int) ∧ Opn ws M M B (B + 1) n ms v xs ∧ RS (gr ps) F n ms xs (fun y => y = x) ∧ (∀ z : Nat, (z : Int) ∈ px.take j → mkd ms z = true) ∧ (∀ z : Nat, (z : Int) ∈ F → mkd ms z = true) ∧ 2 * ms.count false + xs.length ≤ K ∧ M ≤ ws.heap.size ∧ Below w.heap.size w ws) (fun i _ => q - (intOf i).toNat)
            case atStart => exact ⟨0, ms, _, _, by omega, rfl, HO1.out, HRP.out, by simp, HZF.out, HKL.out, hms1, HB1.out⟩
            case round =>
              clear HO1 HRP HZF HKL hms1 HB1 hcell
              obtain ⟨j, ms, v, xs, hj, rfl, hop, hrs, hzp, hz, hct, hms, hb⟩ := hrel
              have HOP := Lib.hid hop
              have HRS := Lib.hid hrs
              have HZF := Lib.hid hz
              have HZP := Lib.hid hzp
              have HB := Lib.hid hb
              clear hop hrs hz hb hzp
              have wj := next_int j (by omega)
              by_cases hjq : j = q
              · subst hjq
                have HR1 := Lib.hid (HRS.out.close fun z hz => HZP.out z (by
                  rw [HRW.out] at hz
                  rw [List.take_of_length_le (by rw [HQ.out]; exact Nat.le_refl _)]; exact hz))
                have HLE := Lib.hid HOP.out.left
                go_wp2_with fail
                exact ⟨⟨ms, v, xs, HOP.out, HR1.out, HZF.out, by omega, hms, HB.out⟩, by rw [HLE.out, HLK.out]; omega⟩
              · have hjl : j < q := by omega
                have hji : (j : Int) < (q : Int) := by omega
                obtain ⟨b3, off3, rfl, hc30⟩ := ints_at HPI.out (j := j) (by rw [HQ.out]; exact hjl)
                have hc3 := (HB.out.cell (p := ⟨b3, off3 + j, none⟩) (cell_lt hc30)).trans hc30
                have HA3 := Lib.hid (at_some (xs := px) (j := j) (by rw [HQ.out]; exact hjl))
                generalize at0 px j = r at *
                obtain ⟨y, hyn, rfl⟩ := HRT.out x hxn r (by rw [HRW.out]; exact List.mem_of_getElem? HA3.out)
                obtain ⟨b, hmb⟩ : ∃ b, mkd ms y = b := ⟨_, rfl⟩
                obtain ⟨r1, r2, r3, r4⟩ := HRS.out.come hyn (.step HRX.out (by rw [HRW.out]; exact List.mem_of_getElem? HA3.out)) hmb
                have HC := Lib.hid (come_any M M B (B + 1) n y ms v xs b wr HOP.out hyn (by rw [mkd_some (by rw [HRS.out.len]; exact hyn), hmb]) (by omega) hms)
                have HR1 := Lib.hid r1
                have HZ1 : Hid (∀ z : Nat, (z : Int) ∈ px.take (j + 1) → mkd (if b then ms else ms.set y true) z = true) := fun z hz => by
                  rcases (mem_take_succ HA3.out).1 hz with hz | hz
                  · exact r3 z (HZP.out z hz)
                  · have : z = y := by omega
                    subst this
                    exact r2
                have HZ2 : Hid (∀ z : Nat, (z : Int) ∈ F → mkd (if b then ms else ms.set y true) z = true) := fun z hz => r3 z (HZF.out z hz)
                have HX1 := Lib.hid (Nat.le_trans r4 hct)
                clear r1 r2 r3 r4 hmb hc30
                go_wp2_with fail
                refine HC.out.mono ?_
                rintro e w3 ⟨rfl, ⟨v', ho'⟩, hb3⟩
                have HO3 := Lib.hid ho'
                have HB3 := Lib.hid (HB.out.trans (hb3.mono hWM))
                have hs3 := hb3.size
                clear ho' hb3
                go_wp2_with fail
                exact ⟨⟨j + 1, _, v', _, by omega, by first | rfl | exact congrArg (Value.int .i64) (wj _ rfl), HO3.out, HR1.out, HZ1.out, HZ2.out, HX1.out, by omega, HB3.out⟩, by simp [intOf] <;> omega⟩
      · have hkl : k < m := by omega
        have hki : (k : Int) < (m : Int) := by omega
        obtain ⟨b2, off2, rfl, hc0⟩ := ints_at HI.out (j := k) (by rw [HM.out]; exact hkl)
        have hc2 := (HB.out.cell (p := ⟨b2, off2 + k, none⟩) (cell_lt hc0)).trans hc0
        have HA := Lib.hid (at_some (xs := F) (j := k) (by rw [HM.out]; exact hkl))
        generalize at0 F k = r at *
        have HIS := Lib.hid (isNode_any a n c r wr)
        clear hc0
        go_wp2_with fail
        refine HIS.out.mono ?_
        rintro e w' ⟨rfl, hw⟩
        have hw2 := hw.symm
        subst hw2
        clear hw
        cases hin : inG n r with
        | false =>
          have HE : Hid (F.all (inG n) = false) := all_no _ _ _ _ HA.out hin
          clear hin
          go_wp2_with fail
          go_ret2
          exact ⟨.inl ⟨.inr (by rw [HN.out]; exact HE.out), rfl⟩, HB.out⟩
        | true =>
          have HI1 : Hid ((F.take (k + 1)).all (inG n) = true) := by
            show _ = _
            rw [all_take_succ _ _ _ _ HA.out, HIN.out, hin]
            rfl
          obtain ⟨y, hyn, rfl⟩ := (inG_iff n r).1 hin
          obtain ⟨b, hmb⟩ : ∃ b, mkd ms y = b := ⟨_, rfl⟩
          obtain ⟨r1, r2, r3, r4⟩ := HRS.out.come hyn (.base (List.mem_of_getElem? HA.out)) hmb
          have HC := Lib.hid (come_any M M B (B + 1) n y ms v xs b wr HOP.out hyn (by rw [mkd_some (by rw [HRS.out.len]; exact hyn), hmb]) (by omega) hms)
          have HR1 := Lib.hid r1
          have HZ1 : Hid (∀ z : Nat, (z : Int) ∈ F.take (k + 1) → mkd (if b then ms else ms.set y true) z = true) := fun z hz => by
            rcases (mem_take_succ HA.out).1 hz with hz | hz
            · exact r3 z (HZ.out z hz)
            · have : z = y := by omega
              subst this
              exact r2
          have HX1 : Hid ((if b then xs else xs ++ [(y : Int)]).length ≤ k + 1) := by
            show _ ≤ _
            cases b
            · show (xs ++ [(y : Int)]).length ≤ _
              rw [List.length_append, List.length_singleton]; omega
            · show xs.length ≤ _; omega
          clear hin r1 r2 r3 r4 hmb
          go_wp2_with fail
          refine HC.out.mono ?_
          rintro e w3 ⟨rfl, ⟨v', ho'⟩, hb3⟩
          have HO3 := Lib.hid ho'
          have HB3 := Lib.hid (HB.out.trans (hb3.mono hWM))
          have hs3 := hb3.size
          clear ho' hb3
          go_wp2_with fail
          exact ⟨⟨k + 1, _, v', _, by omega, by first | rfl | exact congrArg (Value.int .i64) (wk _ rfl), HO3.out, HR1.out, HZ1.out, HI1.out, HX1.out, by omega, HB3.out⟩, by simp [intOf] <;> omega⟩
end Go.Proofs.Ythadgepihjigeaa
