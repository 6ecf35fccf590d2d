/- Whether a list is closed: the walks. -/
import Derived.Test.YthadgepihjigeaaRefOrder
namespace Go.Proofs.Ythadgepihjigeaa
open Go.RowKit Plain
set_option linter.unusedVariables false
theorem boolinfo : (Try.prog.info? 4).map (fun i => (i.zero, i.size, i.bytes)) = some (some (.bool false), 1, 1) := by kernel_rfl
def B1 (ms : List Bool) : List Value := ms.map Value.bool
theorem made_bools (n : Nat) : (madeCells (Value.bool false).cells (n * 1)).toList = B1 (List.replicate n false) := by
  rw [Nat.mul_one]
  show (madeCells #[.bool false] n).toList = _
  rw [toList_madeCells_one]
  unfold B1
  rw [List.map_replicate]
/-- A row of bools of the call's own. -/
def BoolRow (w : World) (base M n : Nat) (ms : List Bool) : Prop := ms.length = n ∧ w.ownsRow base 4 1 (.slice (some ⟨M, 0, none⟩) n n) n (B1 ms)
theorem BoolRow.at_ {w : World} {base M n : Nat} {ms : List Bool} (h : BoolRow w base M n ms) {x : Nat} {b : Bool} (hx : ms[x]? = some b) (hn : x < n) : w.cell? ⟨M, x, none⟩ = some (.bool b) ∧ w.frozen? ⟨M, x, none⟩ = false := by
  refine ⟨(h.2.cellAt x (by omega)).trans ?_, h.2.frozenAt x⟩
  unfold B1
  rw [List.getElem?_map, hx]
  rfl
theorem BoolRow.set {w : World} {base M n : Nat} {ms : List Bool} (h : BoolRow w base M n ms) (x : Nat) (b : Bool) : BoolRow (w.setCell ⟨M, x, none⟩ (.bool b)) base M n (ms.set x b) := by
  refine ⟨by rw [List.length_set]; exact h.1, ?_⟩
  have h1 := (h.2.stored x (.bool b)).1
  unfold B1 at h1 ⊢
  rwa [List.map_set]
theorem BoolRow.low {w : World} {base M n : Nat} {ms : List Bool} (h : BoolRow w base M n ms) : base ≤ M := (h.2.lt M rfl).1
/-- All parents of l's nodes that are nodes are in l. -/
def ClosedP (n : Nat) (G : List (List Int)) (l : List Int) : Prop := ∀ x : Nat, x < n → (x : Int) ∈ l → ∀ p ∈ row G x, inG n p = true → p ∈ l
/-- The call answers a bool that says P. -/
def SaysB (P : Prop) (e : Ending) : Prop := ∃ b : Bool, e = .returned (.bool b) ∧ (b = true ↔ P)
theorem inG_iff (n : Nat) (p : Int) : inG n p = true ↔ ∃ y : Nat, y < n ∧ p = (y : Int) := by
  unfold inG
  rw [Bool.and_eq_true, decide_eq_true_eq, decide_eq_true_eq]
  constructor
  · rintro ⟨h1, h2⟩
    exact ⟨p.toNat, by omega, by omega⟩
  · rintro ⟨y, h1, rfl⟩
    omega
/-- Those of l's first k are marked. -/
def MarkP (l : List Int) (n k : Nat) (ms : List Bool) : Prop := ∀ y, y < n → ms[y]? = some (hasN (l.take k) (y : Int))
theorem MarkP.start (l : List Int) (n : Nat) : MarkP l n 0 (List.replicate n false) := fun y hy => by
  rw [List.getElem?_replicate, if_pos hy]
  rfl
theorem hasN_succ {l : List Int} {k : Nat} {q : Int} (h : l[k]? = some q) (y : Int) : hasN (l.take (k + 1)) y = (hasN (l.take k) y || q == y) := any_take_succ _ _ _ _ h
theorem MarkP.skip {l : List Int} {n k : Nat} {ms : List Bool} {q : Int} (h : MarkP l n k ms) (hq : l[k]? = some q) (hn : inG n q = false) : MarkP l n (k + 1) ms := fun y hy => by
  rw [h y hy, hasN_succ hq]
  have : (q == (y : Int)) = false := beq_eq_false_iff_ne.2 fun e => by
    rw [e, (inG_iff n (y : Int)).2 ⟨y, hy, rfl⟩] at hn
    cases hn
  rw [this, Bool.or_false]
theorem MarkP.mark {l : List Int} {n k x : Nat} {ms : List Bool} (h : MarkP l n k ms) (hq : l[k]? = some (x : Int)) (hx : x < n) (hl : ms.length = n) : MarkP l n (k + 1) (ms.set x true) := fun y hy => by
  rw [hasN_succ hq]
  by_cases e : y = x
  · subst e
    rw [List.getElem?_set_self (by omega)]
    simp
  · rw [List.getElem?_set_ne (Ne.symm e), h y hy]
    have : ((x : Int) == (y : Int)) = false := beq_eq_false_iff_ne.2 (by omega)
    rw [this, Bool.or_false]
set_option maxRecDepth 100000 in
set_option maxHeartbeats 8000000 in
theorem closed_any (a : Option Addr) (n c : Nat) (ps : List Rw) (a2 : Option Addr) (m c2 : Nat) (l : List Int) (w : World) (h : Graph w a n ps) (hn : n ≤ 1000) (hl : ∀ p ∈ ps, p.xs.length ≤ 1000) (hi : IntsAt w a2 l) (hm : l.length = m) (hm9 : m ≤ 1000000) :
    Calls Try.prog 18 #[.slice a n c, .slice a2 m c2] w fun e w' => SaysB (ClosedP n (gr ps) l) e ∧ Below w.heap.size w w' := by
  have HG := Lib.hid h
  have HL := Lib.hid hl
  have HI := Lib.hid hi
  have HM := Lib.hid hm
  obtain ⟨ib, hib, hb0, hb1, hb8⟩ := info_parts boolinfo
  clear h hl hi hm
  go_enter Try.func18, Try.ntmps18
  go_wp2_with (at_make; go_loud (refine wpList_make_full _ rfl _ _ 45 rfl w.heap.size 4 ib (.bool false) 1 Try.underlying45 hib hb0 hb1 .i64 .i64 _ _ n rfl rfl rfl rfl (by rw [hb8]; omega) (by unfold maxLen; omega) (Nat.le_refl _) ?_); intro w1 hown1 hg1; refine Hid.out ?_)
  refine unhid ?_
  rw [made_bools] at hown1
  have HR0 : Hid (BoolRow w1 w.heap.size w.heap.size n (List.replicate n false)) := ⟨by simp, hown1⟩
  have HB0 : Hid (Below w.heap.size w w1) := (Below.refl _ _).grown hg1 (Nat.le_refl _) (fun k e => by cases e)
  clear hown1 hg1 hib hb0 hb1 hb8
  go_wp2_with fail
  go_loopw [17] (fun v wr => ∃ (k : Nat) (ms : List Bool), k ≤ m ∧ v = .int .i64 (k : Int) ∧ BoolRow wr w.heap.size w.heap.size n ms ∧ MarkP l n k ms ∧ Below w.heap.size w wr) (fun v _ => m - (intOf v).toNat)
  case atStart => exact ⟨0, _, by omega, rfl, HR0.out, MarkP.start _ _, HB0.out⟩
  case round =>
    clear HR0 HB0
    obtain ⟨k, ms, hk, rfl, hr, hmk, hb⟩ := hrel
    have HR := Lib.hid hr
    have HK := Lib.hid hmk
    have HB := Lib.hid hb
    clear hr hmk hb
    by_cases hkm : k = m
    · subst hkm
      have HK2 : Hid (∀ y, y < n → ms[y]? = some (hasN l (y : Int))) := fun y hy => by
        have := HK.out y hy
        rwa [List.take_of_length_le (by rw [HM.out]; exact Nat.le_refl _)] at this
      clear HK
      go_wp2_with fail
      go_loop [30] (fun v => ∃ x : Nat, x ≤ n ∧ v = .int .i64 (x : Int) ∧ ∀ y : Nat, y < x → (y : Int) ∈ l → ∀ p ∈ row (gr ps) y, inG n p = true → p ∈ l) (fun v => n - (intOf v).toNat)
      case atStart => exact ⟨0, by omega, rfl, fun y hy => by omega⟩
      case round =>
        obtain ⟨x, hx, rfl, hcl⟩ := hrel
        have HC := Lib.hid hcl
        clear hcl
        by_cases hxn : x = n
        · subst hxn
          go_wp2_with fail
          go_ret
          exact ⟨⟨true, rfl, Iff.intro (fun _ => HC.out) (fun _ => rfl)⟩, HB.out⟩
        · have hxl : x < n := by omega
          have hxi : (x : Int) < (n : Int) := by omega
          obtain ⟨hcx, -⟩ := HR.out.at_ (HK2.out x hxl) hxl
          have wx := next_int x (by omega)
          cases hmx : hasN l (x : Int) with
          | false =>
            rw [hmx] at hcx
            have HC1 : Hid (∀ y : Nat, y < x + 1 → (y : Int) ∈ l → ∀ p ∈ row (gr ps) y, inG n p = true → p ∈ l) := fun y hy hyl => by
              by_cases e : y = x
              · subst e
                rw [(hasN_iff _ _).2 hyl] at hmx
                cases hmx
              · exact HC.out y (by omega) hyl
            clear hmx
            go_wp2_with fail
            exact ⟨⟨x + 1, by omega, by first | rfl | exact congrArg (Value.int .i64) (wx _ rfl), HC1.out⟩, by simp [intOf] <;> omega⟩
          | true =>
            rw [hmx] at hcx
            have HXL : Hid ((x : Int) ∈ l) := (hasN_iff _ _).1 hmx
            obtain ⟨b, off, pa, pc, px, rfl, hp1, hcell0, hpi, hrow⟩ := graph_at HG.out hxl
            have hcell := (HB.out.cell (p := ⟨b, off + x, none⟩) (cell_lt hcell0)).trans hcell0
            have HPI := Lib.hid (hpi.below HB.out)
            have HRW := Lib.hid hrow
            have hpl : px.length ≤ 1000 := HL.out _ (List.mem_of_getElem? hp1)
            obtain ⟨q, hq⟩ : ∃ q, px.length = q := ⟨_, rfl⟩
            rw [hq] at hcell hpl
            have HQ := Lib.hid hq
            clear hmx hcell0 hpi hrow hp1 hq
            go_wp2_with fail
            clear hcx hcell
            go_loop [42] (fun v => ∃ j : Nat, j ≤ q ∧ v = .int .i64 (j : Int) ∧ ∀ p ∈ px.take j, inG n p = true → p ∈ l) (fun v => q - (intOf v).toNat)
            case atStart => exact ⟨0, by omega, rfl, fun p hp => by simp at hp⟩
            case round =>
              obtain ⟨j, hj, rfl, hpj⟩ := hrel
              have HPJ := Lib.hid hpj
              clear hpj
              by_cases hjq : j = q
              · subst hjq
                have HC1 : Hid (∀ y : Nat, y < x + 1 → (y : Int) ∈ l → ∀ p ∈ row (gr ps) y, inG n p = true → p ∈ l) := fun y hy hyl p hp => by
                  by_cases e : y = x
                  · subst e
                    rw [HRW.out] at hp
                    exact HPJ.out p (by rw [List.take_of_length_le (by rw [HQ.out]; exact Nat.le_refl _)]; exact hp)
                  · exact HC.out y (by omega) hyl p hp
                go_wp2_with fail
                exact ⟨⟨x + 1, by omega, by first | rfl | exact congrArg (Value.int .i64) (wx _ rfl), HC1.out⟩, by simp [intOf] <;> omega⟩
              · have hjl : j < q := by omega
                have hji : (j : Int) < (q : Int) := by omega
                obtain ⟨b2, off2, rfl, hc2⟩ := ints_at HPI.out (j := j) (by rw [HQ.out]; exact hjl)
                have HA := Lib.hid (at_some (xs := px) (j := j) (by rw [HQ.out]; exact hjl))
                have wj := next_int j (by omega)
                generalize at0 px j = r at *
                have HIN := Lib.hid (isNode_any (some ⟨b, off, none⟩) n c r wr)
                go_wp2_with fail
                refine HIN.out.mono ?_
                rintro e w' ⟨rfl, hw⟩
                have hw2 := hw.symm
                subst hw2
                clear hw
                have HTS : Hid (∀ p, p ∈ px.take (j + 1) → p ∈ px.take j ∨ p = r) := fun p hp => by
                  rw [List.take_add_one, HA.out] at hp
                  simpa using hp
                cases hin : inG n r with
                | false =>
                  have HP1 : Hid (∀ p ∈ px.take (j + 1), inG n p = true → p ∈ l) := fun p hp hg => by
                    rcases HTS.out p hp with hp | rfl
                    · exact HPJ.out p hp hg
                    · rw [hin] at hg; cases hg
                  clear hin
                  go_wp2_with fail
                  exact ⟨⟨j + 1, by omega, by first | rfl | exact congrArg (Value.int .i64) (wj _ rfl), HP1.out⟩, by simp [intOf] <;> omega⟩
                | true =>
                  obtain ⟨y, hyn, rfl⟩ := (inG_iff n r).1 hin
                  obtain ⟨hcy, -⟩ := HR.out.at_ (HK2.out y hyn) hyn
                  have hyi : (y : Int) < (n : Int) := by omega
                  cases hhy : hasN l (y : Int) with
                  | true =>
                    rw [hhy] at hcy
                    have HP1 : Hid (∀ p ∈ px.take (j + 1), inG n p = true → p ∈ l) := fun p hp hg => by
                      rcases HTS.out p hp with hp | rfl
                      · exact HPJ.out p hp hg
                      · exact (hasN_iff _ _).1 hhy
                    clear hin hhy
                    go_wp2_with fail
                    exact ⟨⟨j + 1, by omega, by first | rfl | exact congrArg (Value.int .i64) (wj _ rfl), HP1.out⟩, by simp [intOf] <;> omega⟩
                  | false =>
                    rw [hhy] at hcy
                    have HNO : Hid (¬ ClosedP n (gr ps) l) := fun hcp => by
                      have h1 := hcp x hxl HXL.out (y : Int) (by rw [HRW.out]; exact List.mem_of_getElem? HA.out) hin
                      rw [(hasN_iff _ _).2 h1] at hhy
                      cases hhy
                    clear hin hhy
                    go_wp2_with fail
                    go_ret
                    exact ⟨⟨false, rfl, Iff.intro (fun e => by cases e) (fun e => absurd e HNO.out)⟩, HB.out⟩
    · have hkl : k < m := by omega
      have hki : (k : Int) < (m : Int) := by omega
      obtain ⟨b2, off2, rfl, hc0⟩ := ints_at HI.out (j := k) (by rw [HM.out]; exact hkl)
      have hc2 := (HB.out.cell (p := ⟨b2, off2 + k, none⟩) (cell_lt hc0)).trans hc0
      have HA := Lib.hid (at_some (xs := l) (j := k) (by rw [HM.out]; exact hkl))
      have wk := next_int k (by omega)
      generalize at0 l k = r at *
      have HIN := Lib.hid (isNode_any a n c r wr)
      clear hc0
      go_wp2_with fail
      refine HIN.out.mono ?_
      rintro e w' ⟨rfl, hw⟩
      have hw2 := hw.symm
      subst hw2
      clear hw
      cases hin : inG n r with
      | false =>
        have HK1 : Hid (MarkP l n (k + 1) ms) := HK.out.skip HA.out hin
        clear hin
        go_wp2_with fail
        exact ⟨⟨k + 1, ms, by omega, by first | rfl | exact congrArg (Value.int .i64) (wk _ rfl), HR.out, HK1.out, HB.out⟩, by simp [intOf] <;> omega⟩
      | true =>
        obtain ⟨y, hyn, rfl⟩ := (inG_iff n r).1 hin
        obtain ⟨hcy, hfy⟩ := HR.out.at_ (HK.out y hyn) hyn
        have hyi : (y : Int) < (n : Int) := by omega
        have HK1 : Hid (MarkP l n (k + 1) (ms.set y true)) := HK.out.mark HA.out hyn HR.out.1
        have HR1 := Lib.hid (HR.out.set y true)
        have HB1 : Hid (Below w.heap.size w (wr.setCell ⟨w.heap.size, y, none⟩ (.bool true))) := HB.out.setCell (Nat.le_refl _) _
        clear hin
        go_wp2_with fail
        exact ⟨⟨k + 1, _, by omega, by first | rfl | exact congrArg (Value.int .i64) (wk _ rfl), HR1.out, HK1.out, HB1.out⟩, by simp [intOf] <;> omega⟩
end Go.Proofs.Ythadgepihjigeaa
