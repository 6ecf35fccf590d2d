/- Order: the walk. -/
import Derived.Test.YthadgepihjigeaaOrderIn
namespace Go.Proofs.Ythadgepihjigeaa
open Go.RowKit Plain
set_option linter.unusedVariables false
theorem rowinfo : (Try.prog.info? 24).map (fun i => (i.zero, i.size, i.bytes)) = some (some (.slice none 0 0), 1, 24) := by kernel_rfl
theorem made_ints (n : Nat) : (madeCells (Value.int .i64 0).cells (n * 1)).toList = I64 (List.replicate n 0) := by
  rw [Nat.mul_one]
  show (madeCells #[.int .i64 0] n).toList = _
  rw [toList_madeCells_one]
  unfold I64
  rw [List.map_replicate]
theorem made_rows (n : Nat) : (madeCells (Value.slice none 0 0).cells (n * 1)).toList = List.replicate n (.slice none 0 0) := by
  rw [Nat.mul_one]
  show (madeCells #[.slice none 0 0] n).toList = _
  rw [toList_madeCells_one]
/-- What Order tells. -/
def OrdQ (w : World) (G : List (List Int)) (e : Ending) (w' : World) : Prop :=
  (∃ (o : List Int) (v : Value), orderN G = some o ∧ e = .returned (.tuple #[v, .int .i64 0]) ∧ w'.ownsRow w.heap.size 3 1 v o.length (I64 o)) ∨
  (orderN G = none ∧ e = .returned (.tuple #[.slice none 0 0, .int .i64 4]))
theorem st_start (w1 w2 : World) (base n O : Nat) (hO : w1.ownsRow base 3 1 (.slice (some ⟨O, 0, none⟩) n n) n (I64 (List.replicate n 0))) (hC : w2.ownsRow base 24 1 (.slice (some ⟨w1.heap.size, 0, none⟩) n n) n (List.replicate n (.slice none 0 0))) (hg : w1.grownBy w2 none) (hb : base ≤ w1.heap.size) :
    St (w2.alloc (.cells #[.slice none 0 0] 41)) base O w1.heap.size w2.heap.size n (List.replicate n 0) (List.replicate n (.slice none 0 0)) (List.replicate n []) (.slice none 0 0) [] (.slice none 0 0) [] := by
  have hO1 := (hO.lt O rfl).2
  have hC1 := (hC.lt w1.heap.size rfl).2
  have hal := heap_alloc_new w2 (.cells #[.slice none 0 0] 41)
  refine ⟨by simp, by simp, by simp, ?_, ?_, ?_, ⟨?_, World.ownsRow_nil _ _ _ _, by simp [Value.ownBlock], ?_⟩, World.ownsRow_nil _ _ _ _, Nat.le_trans hb hg.size, ?_⟩
  · exact (hO.kept hg (.inr (by simp [Value.ownBlock]))).alloc _
  · exact hC.alloc _
  · intro p v l h1 h2
    rw [List.getElem?_replicate] at h1 h2
    split at h1
    · rename_i hpn
      rw [if_pos hpn] at h2
      injection h1 with h1
      injection h2 with h2
      subst h1 h2
      exact World.ownsRow_nil _ _ _ _
    · cases h1
  · show (match (w2.alloc _).heap[w2.heap.size]? with | some (.cells cs _ _) => cs[0]? | _ => none) = _
    rw [hal]
    rfl
  · exact frozen_of_row _ _ 0 #[.slice none 0 0] _ hal
  · have e : blk O w1.heap.size w2.heap.size (.slice none 0 0) (.slice none 0 0) (List.replicate n (.slice none 0 0)) = some O :: some w1.heap.size :: some w2.heap.size :: none :: none :: List.replicate n none := by
      unfold blk
      rw [List.map_replicate]
      rfl
    rw [e]
    have hno : ∀ (j g : Nat), (some O :: some w1.heap.size :: some w2.heap.size :: none :: none :: List.replicate n none)[j]? = some (some g) → (j = 0 ∧ g = O) ∨ (j = 1 ∧ g = w1.heap.size) ∨ (j = 2 ∧ g = w2.heap.size) := by
      intro j g hj
      match j, hj with
      | 0, hj => injection hj with hj; injection hj with hj; exact .inl ⟨rfl, hj.symm⟩
      | 1, hj => injection hj with hj; injection hj with hj; exact .inr (.inl ⟨rfl, hj.symm⟩)
      | 2, hj => injection hj with hj; injection hj with hj; exact .inr (.inr ⟨rfl, hj.symm⟩)
      | 3, hj => injection hj with hj; cases hj
      | 4, hj => injection hj with hj; cases hj
      | j + 5, hj =>
        have hj' : (List.replicate n (none : Option Nat))[j]? = some (some g) := hj
        rw [List.getElem?_replicate] at hj'
        split at hj'
        · injection hj' with hj'; cases hj'
        · cases hj'
    intro i j g h1 h2
    have a1 := hno i g h1
    have a2 := hno j g h2
    omega
theorem row_form {w : World} {base n : Nat} {e : TypeId} {v : Value} {xs : List Value} (h : w.ownsRow base e 1 v n xs) : ∃ a c, v = .slice a n c := by
  obtain ⟨-, ⟨rfl, rfl⟩ | ⟨g, cap, cur, rfl, -⟩⟩ := h
  · exact ⟨_, _, rfl⟩
  · exact ⟨_, _, rfl⟩
theorem HeapV.at_ {w : World} {H base : Nat} {v : Value} {xs : List Int} (h : HeapV w H base v xs) (h0 : 0 < xs.length) : ∃ g c, v = .slice (some ⟨g, 0, none⟩) xs.length c ∧ HeapAt w H base g c xs := by
  obtain ⟨g, c, rfl, hb, hl⟩ := h.row.form h0
  exact ⟨g, c, rfl, h.cell, h.row, fun e => h.ne (by rw [e]; rfl), h.fro⟩
def lenV : Value → Nat
  | .slice _ n _ => n
  | _ => 0
theorem less_one (u : Int) (h0 : -100000000 ≤ u) (h1 : u ≤ 100000000) : ∀ x : Int, x = u - 1 → wrap64 x = u - 1 := fun x hx => by
  rw [hx]
  exact IntWalk.wrap64_in _ (by omega)
theorem rows_le {ps : List Rw} {m : Nat} (h : ∀ p ∈ ps, p.xs.length ≤ m) (x : Nat) : (row (gr ps) x).length ≤ m := by
  cases hx : ps[x]? with
  | none =>
    unfold row gr
    rw [List.getElem?_map, hx]
    exact Nat.zero_le _
  | some p =>
    rw [gr_row hx]
    exact h p (List.mem_of_getElem? hx)
set_option maxRecDepth 100000 in
set_option maxHeartbeats 8000000 in
theorem order_any (a : Option Addr) (n c : Nat) (ps : List Rw) (w : World) (h : Graph w a n ps) (hn : n ≤ 1000) (hl : ∀ p ∈ ps, p.xs.length ≤ 1000) :
    Calls Try.prog 9 #[.slice a n c] w fun e w' => OrdQ w (gr ps) e w' ∧ Below w.heap.size w w' := by
  have HG := Lib.hid h
  have HL := Lib.hid hl
  have HN : Hid ((gr ps).length = n) := (gr_len ps).trans h.len
  obtain ⟨ii, hii, hi0, hi1, hi8⟩ := int_parts
  obtain ⟨ir, hir, hr0, hr1, hr24⟩ := info_parts rowinfo
  have hz41 : ∀ W : World, (zeroValue 41).run Try.prog W = .ok (.agg #[.slice none 0 0]) W := fun W => by kernel_rfl
  go_enter Try.func9, Try.ntmps9
  go_wp2_with fail
  refine (right_any a n c ps w h (by omega) (fun p hp => by have := hl p hp; omega)).mono ?_
  rintro e w' ⟨rfl, hw⟩
  have hw2 := hw.symm
  subst hw2
  clear hw h hl
  cases hr : rightG n (gr ps) with
  | false =>
    have HQ : Hid (orderN (gr ps) = none) := by
      cases ho : orderN (gr ps) with
      | none => rfl
      | some o =>
        obtain ⟨hp, hlo⟩ := order_some ho
        have h1 := (right_rows HN.out).2 (by have := order_right hp hlo; rwa [HN.out] at this)
        rw [hr] at h1
        cases h1
    clear hr
    go_wp2_with fail
    go_ret2
    exact ⟨.inr ⟨HQ.out, rfl⟩, Below.refl _ _⟩
  | true =>
    have HRI := Lib.hid ((right_rows HN.out).1 hr)
    clear hr
    go_wp2_with (at_make; go_loud (refine wpList_make_full _ rfl _ _ 24 rfl w.heap.size 3 ii (.int .i64 0) 1 Try.underlying24 hii hi0 hi1 .i64 .i64 _ _ n rfl rfl rfl rfl (by rw [hi8]; omega) (by unfold maxLen; omega) (Nat.le_refl _) ?_); intro w1 hown1 hg1; refine Hid.out ?_)
    refine unhid ?_
    rw [made_ints] at hown1
    have HO1 := Lib.hid hown1
    have HG1 := Lib.hid hg1
    clear hown1 hg1
    go_wp2_with (at_make; go_loud (refine wpList_make_full _ rfl _ _ 22 rfl w.heap.size 24 ir (.slice none 0 0) 1 Try.underlying22 hir hr0 hr1 .i64 .i64 _ _ n rfl rfl rfl rfl (by rw [hr24]; omega) (by unfold maxLen; omega) HG1.out.size ?_); intro w2 hown2 hg2; refine Hid.out ?_)
    refine unhid ?_
    rw [made_rows] at hown2
    have HO2 := Lib.hid hown2
    have HG2 := Lib.hid hg2
    clear hown2 hg2
    go_wp2_with fail
    have HST : Hid (St (w2.alloc (.cells #[.slice none 0 0] 41)) w.heap.size w.heap.size w1.heap.size w2.heap.size n (List.replicate n 0) (List.replicate n (.slice none 0 0)) (List.replicate n []) (.slice none 0 0) [] (.slice none 0 0) []) :=
      st_start w1 w2 w.heap.size n w.heap.size HO1.out HO2.out HG2.out HG1.out.size
    have HBW : Hid (Below w.heap.size w (w2.alloc (.cells #[.slice none 0 0] 41))) :=
      (((Below.refl _ _).grown HG1.out (Nat.le_refl _) (fun k e => by cases e)).grown HG2.out HG1.out.size (fun k e => by cases e)).alloc (Nat.le_trans HG1.out.size HG2.out.size) _
    have HSZ : Hid (w.heap.size ≤ w1.heap.size ∧ w1.heap.size < w2.heap.size) := ⟨HG1.out.size, (HO2.out.lt w1.heap.size rfl).2⟩
    generalize w2.alloc (.cells #[.slice none 0 0] 41) = w3 at *
    generalize w2.heap.size = H at *
    generalize w1.heap.size = C at *
    clear HO1 HG1 HO2 HG2 hz41 hii hi0 hi1 hi8 hir hr0 hr1 hr24
    go_loopw [26] (fun v wr => ∃ (k : Nat) (op : List Int) (cv : List Value) (ch : List (List Int)) (hv : Value) (hp : List Int), k ≤ n ∧ v = .int .i64 (k : Int) ∧ St wr w.heap.size w.heap.size C H n op cv ch hv hp (.slice none 0 0) [] ∧ One (gr ps) n k 0 op ch hp ∧ Below w.heap.size w wr) (fun v _ => n - (intOf v).toNat)
    case atStart => exact ⟨0, _, _, _, _, _, by omega, rfl, HST.out, One.start _ _, HBW.out⟩
    case round =>
      clear HST HBW
      obtain ⟨k, op, cv, ch, hv, hp, hk, rfl, hst, hone, hb⟩ := hrel
      have HST := Lib.hid hst
      have HON := Lib.hid hone
      have HB := Lib.hid hb
      clear hst hone hb
      by_cases hkn : k = n
      · subst hkn
        have HCH : Hid (∀ p, p < k → ch[p]? = some (chTo (gr ps) (p : Int) k)) := fun p hp => by
          have := HON.out.ch p hp
          rw [this]
          simp
        have HHA : Hid (HoldsAll (gr ps) [] hp) := ⟨HON.out.nodup, fun v => by
          rw [HON.out.mem v]
          constructor
          · rintro ⟨y, h1, h2, h3⟩
            exact ⟨y, by rw [HN.out]; exact h1, h2, by simp, by rw [h3]; simp⟩
          · rintro ⟨y, h1, h2, h3, h4⟩
            refine ⟨y, by rw [HN.out] at h1; exact h1, h2, ?_⟩
            cases hr : row (gr ps) y with
            | nil => rfl
            | cons p l => exact absurd (h4 p (by rw [hr]; simp)) (by simp)⟩
        have HOP : Hid (∀ x, x < k → op[x]? = some ((cnt (gr ps) [] x : Nat) : Int)) := fun x hx => by
          rw [HON.out.op x hx, if_pos (.inl hx), cnt_nil]
        have HOK : Hid (HeapOk hp) := HON.out.ok
        obtain ⟨ii, hii, hi0, hi1, hi8⟩ := int_parts
        go_wp2_with (at_make; go_loud (refine wpList_make_own _ rfl _ _ 24 rfl w.heap.size 3 ii (.int .i64 0) 1 Try.underlying24 hii hi0 hi1 .i64 .i64 _ k rfl rfl rfl (by rw [hi8]; omega) (by unfold maxLen; omega) HB.out.size ?_); intro w5 hown5 hg5; refine Hid.out ?_)
        refine unhid ?_
        have HST5 := Lib.hid (HST.out.newOrd (v := .slice (some ⟨wr.heap.size, 0, none⟩) 0 k) (ys := []) hown5 (.inr ⟨wr.heap.size, rfl, Nat.le_refl _⟩) hg5)
        have HB5 : Hid (Below w.heap.size w w5) := HB.out.grown hg5 HB.out.size (fun g e => by cases e)
        generalize wr.heap.size = R at *
        clear hown5 hg5 HST HON HB hii hi0 hi1 hi8
        go_wp2_with fail
        go_loopw [11] (fun v wr => ∃ (o op : List Int) (hv : Value) (hp : List Int) (a : Option Addr) (c : Nat), v = .slice a o.length c ∧ St wr w.heap.size w.heap.size C H k op cv ch hv hp (.slice a o.length c) o ∧ Pre (gr ps) o ∧ (∀ x, x < k → op[x]? = some ((cnt (gr ps) o x : Nat) : Int)) ∧ HoldsAll (gr ps) o hp ∧ HeapOk hp ∧ Below w.heap.size w wr) (fun v _ => k - lenV v)
        case atStart => exact ⟨[], op, hv, hp, some ⟨R, 0, none⟩, k, rfl, HST5.out, .nil, HOP.out, HHA.out, HOK.out, HB5.out⟩
        case round =>
          clear HST5 HHA HOP HOK HB5
          obtain ⟨o, op, hv, hp, oa, oc, rfl, hst, hpre, hop, hha, hok, hb⟩ := hrel
          have HST := Lib.hid hst
          have HPR := Lib.hid hpre
          have HOP := Lib.hid hop
          have HHA := Lib.hid hha
          have HOK := Lib.hid hok
          have HB := Lib.hid hb
          clear hst hpre hop hha hok hb
          have hol := HPR.out.run.1
          rw [HN.out] at hol
          have hhl : hp.length ≤ k := nodup_len HHA.out.1 fun v hv => by
            obtain ⟨y, h1, h2, -⟩ := (HHA.out.2 v).1 hv
            exact ⟨y, by rw [← HN.out]; exact h1, h2⟩
          obtain ⟨ha, hc, hve⟩ := row_form HST.out.heap.row
          have hcH : wr.cell? ⟨H, 0, none⟩ = some (.slice ha hp.length hc) := by rw [← hve]; exact HST.out.heap.cell
          obtain ⟨hl, hhl2⟩ : ∃ hl, hp.length = hl := ⟨_, rfl⟩
          rw [hhl2] at hcH hhl
          have HHL := Lib.hid hhl2
          clear hhl2 hve
          have HEM := Lib.hid (empty_any H ha hl hc wr hcH)
          by_cases h0 : hl = 0
          · subst h0
            have hnil : hp = [] := List.eq_nil_of_length_eq_zero HHL.out
            have HNX : Hid (next (gr ps) o = none) := holds_empty (by have := HHA.out; rwa [hnil] at this)
            clear hnil
            have hem : ((0 : Nat) : Int) == 0 := rfl
            go_wp2_with fail
            refine HEM.out.mono ?_
            rintro e w' ⟨rfl, hw⟩
            have hw2 := hw.symm
            subst hw2
            clear hw
            by_cases hlt : o.length < k
            · have hlti : (o.length : Int) < (k : Int) := by omega
              have HQ : Hid (orderN (gr ps) = none) := HPR.out.none (by rw [HN.out]; exact hlt) HNX.out
              go_wp2_with fail
              go_ret2
              exact ⟨.inr ⟨HQ.out, rfl⟩, HB.out⟩
            · have hlti : ¬ (o.length : Int) < (k : Int) := by omega
              have HQ : Hid (orderN (gr ps) = some o) := HPR.out.done (by rw [HN.out]; omega)
              go_wp2_with fail
              go_ret2
              exact ⟨.inl ⟨o, _, HQ.out, rfl, HST.out.ord⟩, HB.out⟩
          · have h0i : ((hl : Int) == 0) = false := beq_eq_false_iff_ne.2 (by omega)
            obtain ⟨x, hx, hnx⟩ := holds_min HHA.out HOK.out (by rw [HHL.out]; omega)
            have HNX := Lib.hid hnx
            obtain ⟨hrd, hxk, -⟩ := next_some.1 hnx
            rw [HN.out] at hxk
            have HRD := Lib.hid hrd
            obtain ⟨g, gc, hve, hha⟩ := HST.out.heap.at_ (by rw [HHL.out]; omega)
            have HPOP := Lib.hid (pop_any H w.heap.size g gc (hl - 1) hp wr hha HOK.out (by rw [HHL.out]; omega) (by omega))
            rw [hx] at HPOP
            have HVE : Hid (hv.ownBlock = some g) := by rw [hve]; rfl
            have hog : w.heap.size ≤ g := (HST.out.heap.row.lt g HVE.out).1
            have hok9 : o.length < k := by
              have h1 : ((x : Int) :: o).length ≤ k := nodup_len (by rw [List.nodup_cons]; exact ⟨hrd.1, HPR.out.facts.1⟩) fun v hv => by
                rcases List.mem_cons.1 hv with rfl | hv
                · exact ⟨x, hxk, rfl⟩
                · obtain ⟨y, h1, h2⟩ := HPR.out.facts.2.1 v hv
                  exact ⟨y, by rw [← HN.out]; exact h1, h2⟩
              rw [List.length_cons] at h1
              omega
            clear hx hnx hrd hve hha
            go_wp2_with fail
            refine HEM.out.mono ?_
            rintro e w' ⟨rfl, hw⟩
            have hw2 := hw.symm
            subst hw2
            clear hw hcH
            go_wp2_with fail
            refine HPOP.out.mono ?_
            rintro e w6 ⟨rfl, ys, hh, hyo, hyl, hyp, hfr⟩
            have HST6 := Lib.hid (HST.out.newHeap hh (.inl HVE.out) (fun k hk h1 h2 => hfr.block k hk h1 (fun e => h2 (by rw [e]; exact HVE.out))))
            have HB6 : Hid (Below w.heap.size w w6) := below_pop HB.out hfr HB.out.size HST.out.hb hog
            have HH0 : Hid (Holds (gr ps) o x [] ys) := holds_pop HHA.out hyp
            have HYO := Lib.hid hyo
            clear hh hyo hyl hyp hfr HST HB HHA HOK HEM HPOP HVE
            generalize (Value.slice (some ⟨g, 0, none⟩) ys.length gc) = hv1 at *
            have HSA : Hid (∀ o1, St (w6.alloc o1) w.heap.size w.heap.size C H k op cv ch hv1 ys (.slice oa o.length oc) o) := fun o1 => HST6.out.grow fun g hg => Below.heap_alloc _ _ _ hg
            have HBA : Hid (∀ o1, Below w.heap.size w (w6.alloc o1)) := fun o1 => HB6.out.alloc HB6.out.size o1
            have HLI : Hid (∀ t, (w6.alloc (.cells #[.int .i64 (x : Int)] t)).cell? ⟨w6.heap.size, 0, none⟩ = some (.int .i64 (x : Int))) := lit_one w6 (x : Int)
            have tok : True := trivial
            go_wp2_with (have _t := tok; at_builtin; clear tok; refine Hid.out ?_)
            refine unhid ?_
            refine wpList_append_one rfl _ _ rfl w.heap.size (.slice oa o.length oc) o.length o rfl (HSA.out _).ord w6.heap.size (x : Int) rfl (HLI.out _) (by omega) (HBA.out _).size (fun g2 gc2 w7 ho1 hg1 hgg hgl => ?_)
            have hln : (o ++ [(x : Int)]).length = o.length + 1 := by simp
            have HST7 : Hid (St w7 w.heap.size w.heap.size C H k op cv ch hv1 ys (.slice (some ⟨g2, 0, none⟩) (o.length + 1) gc2) (o ++ [(x : Int)])) := by
              refine (HSA.out _).newOrd (by rw [hln]; exact ho1) ?_ hg1
              rcases hgg with hgg | hgg
              · exact .inl hgg.symm
              · exact .inr ⟨g2, rfl, by omega⟩
            have HB7 : Hid (Below w.heap.size w w7) := (HBA.out _).grown hg1 (HBA.out _).size (fun g hg => ((HSA.out (.cells #[] 0)).ord.lt g hg).1)
            clear ho1 hg1 hgg HSA HBA HLI HST6 HB6 hln
            obtain ⟨u, hu⟩ : ∃ u, cv[x]? = some u := ⟨_, List.getElem?_eq_getElem (by rw [HST7.out.lc]; exact hxk)⟩
            have HKX := Lib.hid (HCH.out x hxk)
            have HUU := Lib.hid hu
            obtain ⟨cs, hcs⟩ : ∃ cs, chTo (gr ps) (x : Int) k = cs := ⟨_, rfl⟩
            have HCS : Hid (chTo (gr ps) (x : Int) (gr ps).length = cs) := by show _ = _; rw [HN.out]; exact hcs
            rw [hcs] at HKX
            have hlen : cs.length ≤ 1002000 := by
              have := chTo_len (gr ps) (x : Int) 1000 (rows_le HL.out) k
              rw [← hcs]
              omega
            clear hcs
            obtain ⟨ua, uc, hue⟩ := row_form (HST7.out.kid x u cs hu HKX.out)
            have hcu : w7.cell? ⟨C, x, none⟩ = some (.slice ua cs.length uc) := by
              rw [← hue]
              exact (HST7.out.c.cellAt x (by omega)).trans hu
            obtain ⟨L, hL⟩ : ∃ L, cs.length = L := ⟨_, rfl⟩
            rw [hL] at hcu hlen hue
            have HLL := Lib.hid hL
            have HUE := Lib.hid hue
            have hxi : (x : Int) < (k : Int) := by omega
            clear hL hue hu
            go_wp2_with fail
            clear hcu
            have HOP0 : Hid (∀ y, y < k → op[y]? = some (((cnt (gr ps) o y : Nat) : Int) - (((cs.take 0).count (y : Int) : Nat) : Int))) := fun y hy => by
              rw [HOP.out y hy]
              simp
            have HH1 : Hid (Holds (gr ps) o x (cs.take 0) ys) := HH0.out
            go_loopw [74] (fun v wz => ∃ (j : Nat) (op2 : List Int) (hv2 : Value) (hp2 : List Int), j ≤ L ∧ v = .int .i64 (j : Int) ∧ St wz w.heap.size w.heap.size C H k op2 cv ch hv2 hp2 (.slice (some ⟨g2, 0, none⟩) (o.length + 1) gc2) (o ++ [(x : Int)]) ∧ (∀ y, y < k → op2[y]? = some (((cnt (gr ps) o y : Nat) : Int) - (((cs.take j).count (y : Int) : Nat) : Int))) ∧ Holds (gr ps) o x (cs.take j) hp2 ∧ HeapOk hp2 ∧ Below w.heap.size w wz) (fun v _ => L - (intOf v).toNat)
            case atStart => exact ⟨0, op, hv1, ys, by omega, rfl, HST7.out, HOP0.out, HH1.out, HYO.out, HB7.out⟩
            case round =>
              clear HST7 HOP0 HH1 HYO HB7 HH0 HOP
              obtain ⟨j, op2, hv2, hp2, hj, rfl, hst, hop, hho, hok, hb⟩ := hrel
              have HST := Lib.hid hst
              have HOP := Lib.hid hop
              have HHO := Lib.hid hho
              have HOK := Lib.hid hok
              have HB := Lib.hid hb
              clear hst hop hho hok hb
              by_cases hjL : j = L
              · subst hjL
                have hct : cs.take j = cs := List.take_of_length_le (by rw [HLL.out]; exact Nat.le_refl _)
                have HHA2 : Hid (HoldsAll (gr ps) (o ++ [(x : Int)]) hp2) := holds_end HPR.out HNX.out (by rw [HCS.out]; have := HHO.out; rwa [hct] at this)
                have HPR2 : Hid (Pre (gr ps) (o ++ [(x : Int)])) := .cons HPR.out (by rw [HN.out]; exact hok9) HNX.out
                have HOP2 : Hid (∀ y, y < k → op2[y]? = some ((cnt (gr ps) (o ++ [(x : Int)]) y : Nat) : Int)) := fun y hy => by
                  have h1 := HOP.out y hy
                  rw [hct] at h1
                  rw [h1]
                  have h2 := cnt_snoc (G := gr ps) HRD.out.1 y
                  have h3 := chTo_count (gr ps) (x : Int) (gr ps).length y
                  rw [HCS.out, if_pos (by rw [HN.out]; exact hy)] at h3
                  congr 1
                  omega
                have hln : (o ++ [(x : Int)]).length = o.length + 1 := by simp
                clear hct
                go_wp2_with fail
                exact ⟨⟨o ++ [(x : Int)], op2, hv2, hp2, some ⟨g2, 0, none⟩, gc2, by rw [hln], by rw [hln]; exact HST.out, HPR2.out, HOP2.out, HHA2.out, HOK.out, HB.out⟩, by simp [lenV]; omega⟩
              · have hjl : j < L := by omega
                have hji : (j : Int) < (L : Int) := by omega
                obtain ⟨yv, hyv⟩ : ∃ yv, cs[j]? = some yv := ⟨_, List.getElem?_eq_getElem (by rw [HLL.out]; exact hjl)⟩
                obtain ⟨y, hyn, rfl⟩ := chTo_mem (gr ps) (x : Int) (gr ps).length yv (by rw [HCS.out]; exact List.mem_of_getElem? hyv)
                rw [HN.out] at hyn
                obtain ⟨-, s2, s3, s4, s5⟩ := holds_step HRD.out (k := j) (y := y) (by rw [HCS.out, HLL.out]; exact hjl) (by rw [HCS.out]; exact hyv) (by rw [HCS.out]; exact HHO.out)
                rw [HCS.out] at s2 s3 s4 s5
                have hku := HST.out.kid x u cs HUU.out HKX.out
                obtain ⟨gk, kc, hf, -, -⟩ := hku.form (by rw [HLL.out]; omega)
                obtain rfl : ua = some ⟨gk, 0, none⟩ := by
                  have h1 := HUE.out.symm.trans hf
                  simp only [Value.slice.injEq] at h1
                  exact h1.1
                rw [hf] at hku
                have hcj : wr.cell? ⟨gk, j, none⟩ = some (.int .i64 (y : Int)) := (hku.cellAt j (by rw [HLL.out]; omega)).trans (by unfold I64; rw [List.getElem?_map, hyv]; rfl)
                have wj := next_int j (by omega)
                obtain ⟨uy, huy⟩ : ∃ uy : Int, ((cnt (gr ps) o y : Nat) : Int) - (((cs.take j).count (y : Int) : Nat) : Int) = uy := ⟨_, rfl⟩
                have hoy := HOP.out y hyn
                rw [huy] at hoy
                have hco : wr.cell? ⟨w.heap.size, y, none⟩ = some (.int .i64 uy) := (HST.out.o.cellAt y (by omega)).trans (by unfold I64; rw [List.getElem?_map, hoy]; rfl)
                have hfo : wr.frozen? ⟨w.heap.size, y, none⟩ = false := HST.out.o.frozenAt y
                have hyi : (y : Int) < (k : Int) := by omega
                have hc1 : cnt (gr ps) o y ≤ 1000 := by
                  have h1 : cnt (gr ps) o y ≤ (row (gr ps) y).length := List.countP_le_length
                  have h2 := rows_le HL.out y
                  omega
                have hc2 : (cs.take j).count (y : Int) ≤ 1002000 := by
                  have h1 : (cs.take j).count (y : Int) ≤ (cs.take j).length := List.count_le_length
                  rw [List.length_take] at h1
                  omega
                have wu := less_one uy (by omega) (by omega)
                have HST1 := Lib.hid (HST.out.setOpen y (uy - 1)).1
                have HB1 : Hid (Below w.heap.size w (wr.setCell ⟨w.heap.size, y, none⟩ (.int .i64 (uy - 1)))) := HB.out.setCell (Nat.le_refl _) _
                have hco2 : (wr.setCell ⟨w.heap.size, y, none⟩ (.int .i64 (uy - 1))).cell? ⟨w.heap.size, y, none⟩ = some (.int .i64 (uy - 1)) := World.cell?_setCell_same _ _ _ hco
                have HOP1 : Hid (∀ z, z < k → (op2.set y (uy - 1))[z]? = some (((cnt (gr ps) o z : Nat) : Int) - (((cs.take (j + 1)).count (z : Int) : Nat) : Int))) := fun z hz => by
                  by_cases hzy : z = y
                  · subst hzy
                    rw [List.getElem?_set_self (by rw [HST.out.lo]; exact hz), s2]
                    congr 1
                    omega
                  · rw [List.getElem?_set_ne (Ne.symm hzy), s3 (z : Int) (by omega)]
                    exact HOP.out z hz
                have hpl2 : hp2.length ≤ k := nodup_len HHO.out.1 fun v hv => by
                  obtain ⟨z, h1, h2, -⟩ := (HHO.out.2 v).1 hv
                  exact ⟨z, by rw [← HN.out]; exact h1, h2⟩
                have HS4 := Lib.hid s4
                have HS5 := Lib.hid s5
                have HUY : Hid (uy - 1 = 0 ↔ cnt (gr ps) o y = (cs.take (j + 1)).count (y : Int)) := by
                  show _ ↔ _
                  rw [s2]
                  omega
                clear s2 s3 s4 s5 hyv hf hku hoy huy hc1 hc2 HOP
                by_cases hz : uy - 1 = 0
                · rw [hz] at HST1 HB1 HOP1 hco2
                  have HPU := Lib.hid (push_any H w.heap.size hv2 hp2 (y : Int) _ HST1.out.heap HOK.out (by omega) HB1.out.size)
                  have HEQ := Lib.hid (HUY.out.1 hz)
                  clear HST HB HHO
                  go_wp2_with fail
                  refine HPU.out.mono ?_
                  rintro e w9 ⟨rfl, g9, c9, ys9, hh, hok, hpm, hgg, hfp⟩
                  have HST9 := Lib.hid (HST1.out.newHeap hh hgg hfp.block)
                  have HB9 : Hid (Below w.heap.size w w9) := below_push HB1.out hfp HB1.out.size HST1.out.hb (fun g hg => (HST1.out.heap.row.lt g hg).1)
                  have HH9 : Hid (Holds (gr ps) o x (cs.take (j + 1)) ys9) := HS4.out HEQ.out ys9 hpm
                  have HOK9 := Lib.hid hok
                  clear hh hok hpm hgg hfp HPU HST1 HB1 hco hco2 hfo
                  go_wp2_with fail
                  exact ⟨⟨j + 1, _, _, ys9, by omega, by first | rfl | exact congrArg (Value.int .i64) (wj _ rfl), HST9.out, HOP1.out, HH9.out, HOK9.out, HB9.out⟩, by simp [intOf]; omega⟩
                · have hz1 : ¬ uy = 1 := by omega
                  have hzb : ((uy - 1) == 0) = false := beq_eq_false_iff_ne.2 hz
                  have HH9 : Hid (Holds (gr ps) o x (cs.take (j + 1)) hp2) := HS5.out (fun e => hz (HUY.out.2 e))
                  clear HST HB HHO
                  go_wp2_with fail
                  exact ⟨⟨j + 1, _, hv2, hp2, by omega, by first | rfl | exact congrArg (Value.int .i64) (wj _ rfl), HST1.out, HOP1.out, HH9.out, HOK.out, HB1.out⟩, by simp [intOf]; omega⟩
      · have hkl : k < n := by omega
        have hki : (k : Int) < (n : Int) := by omega
        obtain ⟨b, off, pa, pc, px, rfl, hp1, hcell0, hi, hrow⟩ := graph_at HG.out hkl
        have hcell := (HB.out.cell (p := ⟨b, off + k, none⟩) (cell_lt hcell0)).trans hcell0
        clear hcell0
        have HI := Lib.hid hi
        have HRW := Lib.hid hrow
        have hpl : px.length ≤ 1000 := HL.out _ (List.mem_of_getElem? hp1)
        have wk := next_int k (by omega)
        obtain ⟨ok, hok⟩ : ∃ u, op[k]? = some u := ⟨_, List.getElem?_eq_getElem (by rw [HST.out.lo]; exact hkl)⟩
        have hco : wr.cell? ⟨w.heap.size, k, none⟩ = some (.int .i64 ok) := (HST.out.o.cellAt k (by omega)).trans (by unfold I64; rw [List.getElem?_map, hok]; rfl)
        have hfo : wr.frozen? ⟨w.heap.size, k, none⟩ = false := HST.out.o.frozenAt k
        have HST1 := Lib.hid (HST.out.setOpen k (px.length : Int))
        have HON1 : Hid (One (gr ps) n k 1 (op.set k (px.length : Int)) ch hp) := by
          have := HON.out.open_ hkl HST.out.lo
          rwa [hrow] at this
        have HB1 : Hid (Below w.heap.size w (wr.setCell ⟨w.heap.size, k, none⟩ (.int .i64 (px.length : Int)))) := HB.out.setCell (Nat.le_refl _) _
        clear hi hp1 hrow
        obtain ⟨m, hm⟩ : ∃ m, px.length = m := ⟨_, rfl⟩
        rw [hm] at hcell hpl HST1 HON1 HB1
        have HM := Lib.hid hm
        clear hm
        go_wp2_with fail
        generalize wr.setCell ⟨w.heap.size, k, none⟩ (.int .i64 (m : Int)) = w4 at *
        generalize op.set k (m : Int) = op1 at *
        clear hco hfo hcell hok HST HON HB
        go_loopw [38] (fun v wz => ∃ (j : Nat) (op2 : List Int) (cv2 : List Value) (ch2 : List (List Int)), j ≤ m ∧ v = .int .i64 (j : Int) ∧ St wz w.heap.size w.heap.size C H n op2 cv2 ch2 hv hp (.slice none 0 0) [] ∧ One (gr ps) n k (j + 1) op2 ch2 hp ∧ Below w.heap.size w wz) (fun v _ => m - (intOf v).toNat)
        case atStart => exact ⟨0, op1, cv, ch, by omega, rfl, HST1.out.1, HON1.out, HB1.out⟩
        case round =>
          clear HST1 HON1 HB1
          obtain ⟨j, op2, cv2, ch2, hj, rfl, hst, hone, hb⟩ := hrel
          have HST := Lib.hid hst
          have HON := Lib.hid hone
          have HB := Lib.hid hb
          clear hst hone hb
          by_cases hjm : j = m
          · subst hjm
            have HON2 : Hid (One (gr ps) n k ((row (gr ps) k).length + 1) op2 ch2 hp) := by show One _ _ _ _ _ _ _; rw [HRW.out, HM.out]; exact HON.out
            by_cases hm0 : j = 0
            · subst hm0
              have HPU := Lib.hid (push_any H w.heap.size hv hp (k : Int) wr HST.out.heap HON.out.ok (by
                have := nodup_len (n := k) HON.out.nodup (fun v hv => by obtain ⟨y, h1, h2, -⟩ := (HON.out.mem v).1 hv; exact ⟨y, h1, h2⟩)
                omega) HB.out.size)
              go_wp2_with fail
              refine HPU.out.mono ?_
              rintro e w5 ⟨rfl, g, gc, ys, hh, hok, hpm, hgg, hfp⟩
              have HST5 := Lib.hid (HST.out.newHeap hh hgg hfp.block)
              have HON5 : Hid (One (gr ps) n (k + 1) 0 op2 ch2 ys) := HON2.out.close.2 (by rw [HRW.out, HM.out]) ys hpm hok
              have HB5 : Hid (Below w.heap.size w w5) := below_push HB.out hfp HB.out.size HST.out.hb (fun g hg => (HST.out.heap.row.lt g hg).1)
              clear hh hok hpm hgg hfp HPU
              go_wp2_with fail
              exact ⟨⟨k + 1, op2, cv2, ch2, _, ys, by omega, by first | rfl | exact congrArg (Value.int .i64) (wk _ rfl), HST5.out, HON5.out, HB5.out⟩, by simp [intOf]; omega⟩
            · have HON5 : Hid (One (gr ps) n (k + 1) 0 op2 ch2 hp) := HON2.out.close.1 (by rw [HRW.out, HM.out]; exact hm0)
              have e1 : ¬ (j : Int) = 0 := by omega
              have e2 : ((j : Int) == 0) = false := beq_eq_false_iff_ne.2 e1
              go_wp2_with fail
              exact ⟨⟨k + 1, op2, cv2, ch2, hv, hp, by omega, by first | rfl | exact congrArg (Value.int .i64) (wk _ rfl), HST.out, HON5.out, HB.out⟩, by simp [intOf]; omega⟩
          · have hjl : j < m := by omega
            have hji : (j : Int) < (m : Int) := by omega
            obtain ⟨b2, off2, rfl, hc0⟩ := ints_at HI.out (j := j) (by rw [HM.out]; exact hjl)
            have hc2 := (HB.out.cell (p := ⟨b2, off2 + j, none⟩) (cell_lt hc0)).trans hc0
            have wj := next_int j (by omega)
            have hpx : px[j]? = some (at0 px j) := by
              show px[j]? = some (px[j]?.getD 0)
              rw [List.getElem?_eq_getElem (by rw [HM.out]; exact hjl)]
              rfl
            obtain ⟨q, hqn, hq⟩ := HRI.out k hkl (at0 px j) (by rw [HRW.out]; exact List.mem_of_getElem? hpx)
            rw [hq] at hc2 hpx
            obtain ⟨v, hv2⟩ : ∃ v, cv2[q]? = some v := ⟨_, List.getElem?_eq_getElem (by rw [HST.out.lc]; exact hqn)⟩
            obtain ⟨l, hl2⟩ : ∃ l, ch2[q]? = some l := ⟨_, List.getElem?_eq_getElem (by rw [HST.out.lh]; exact hqn)⟩
            have hcq : wr.cell? ⟨C, q, none⟩ = some v := (HST.out.c.cellAt q (by omega)).trans hv2
            have hqi : (q : Int) < (n : Int) := by omega
            have HV2 := Lib.hid hv2
            have HL2 := Lib.hid hl2
            have HLL : Hid (l.length ≤ 1002000) := by
              have h1 := HON.out.ch q hqn
              rw [hl2] at h1
              injection h1 with h1
              show l.length ≤ _
              rw [h1, List.length_append, List.length_replicate]
              have h2 := chTo_len (gr ps) (q : Int) 1000 (rows_le HL.out) k
              have h3 : ((row (gr ps) k).take (j + 1 - 1)).count (q : Int) ≤ ((row (gr ps) k).take (j + 1 - 1)).length := List.count_le_length
              have h4 := rows_le HL.out k
              rw [List.length_take] at h3
              omega
            have HON3 : Hid (One (gr ps) n k (j + 2) op2 (ch2.set q (l ++ [(k : Int)])) hp) := HON.out.parent (by rw [HRW.out]; exact hpx) hqn hl2 HST.out.lh
            have hal : ∀ o, (wr.alloc o).cell? ⟨C, q, none⟩ = some v := fun o => (((Below.refl _ _ : Below wr.heap.size wr wr).alloc (Nat.le_refl _) o).cell (p := ⟨C, q, none⟩) (cell_lt hcq)).trans hcq
            have HSA : Hid (∀ o, St (wr.alloc o) w.heap.size w.heap.size C H n op2 cv2 ch2 hv hp (.slice none 0 0) []) := fun o => HST.out.grow fun g hg => Below.heap_alloc _ _ _ hg
            have HBA : Hid (∀ o, Below w.heap.size w (wr.alloc o)) := fun o => HB.out.alloc HB.out.size o
            have HLI : Hid (∀ t, (wr.alloc (.cells #[.int .i64 (k : Int)] t)).cell? ⟨wr.heap.size, 0, none⟩ = some (.int .i64 (k : Int))) := lit_one wr (k : Int)
            clear hv2 hl2 hpx hq hc0 HST HON
            have tok : True := trivial
            go_wp2_with (have _t := tok; at_builtin; clear tok; refine Hid.out ?_)
            refine unhid ?_
            refine wpList_append_one rfl _ _ rfl w.heap.size v l.length l rfl ((HSA.out _).kid q v l HV2.out HL2.out) wr.heap.size (k : Int) rfl (HLI.out _) (by have := HLL.out; omega) (HBA.out _).size (fun g gc w5 ho1 hg1 hgg hgl => ?_)
            obtain ⟨s1, s2, s3, s4⟩ := (HSA.out _).addKid HV2.out HL2.out hg1 ho1 (hgg.elim .inl fun e => .inr (by omega))
            have HST5 := Lib.hid s1
            have HB5 : Hid (Below w.heap.size w (w5.setCell ⟨C, q, none⟩ (.slice (some ⟨g, 0, none⟩) (l.length + 1) gc))) := ((HBA.out _).grown hg1 (HBA.out _).size (fun g hg => (((HSA.out (.cells #[] 0)).kid q v l HV2.out HL2.out).lt g hg).1)).setCell (HSA.out (.cells #[] 0)).low.2 _
            have hc5 := s3
            have hf5 := s4
            clear ho1 hg1 hgg s1 s2 s3 s4
            clear hal HSA HBA HLI hcq
            go_wp2_with fail
            exact ⟨⟨j + 1, op2, _, _, by omega, by first | rfl | exact congrArg (Value.int .i64) (wj _ rfl), HST5.out, HON3.out, HB5.out⟩, by simp [intOf]; omega⟩
end Go.Proofs.Ythadgepihjigeaa
