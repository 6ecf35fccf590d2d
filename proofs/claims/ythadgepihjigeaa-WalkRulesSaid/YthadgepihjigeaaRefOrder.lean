/- The document's Order: the walk. -/
import Derived.Test.YthadgepihjigeaaHas
namespace Go.Proofs.Ythadgepihjigeaa
open Go.RowKit Plain
set_option linter.unusedVariables false
theorem ready_iff (G : List (List Int)) (o : List Int) (x : Nat) : ready G o x ↔ hasN o (x : Int) = false ∧ allN (row G x) o = true := by
  unfold ready allN
  rw [List.all_eq_true, ← Bool.not_eq_true, hasN_iff]
  constructor
  · rintro ⟨h1, h2⟩
    exact ⟨h1, fun p hp => (hasN_iff _ _).2 (h2 p hp)⟩
  · rintro ⟨h1, h2⟩
    exact ⟨h1, fun p hp => (hasN_iff _ _).1 (h2 p hp)⟩
/-- The least ready one of those from k on; -1: none. -/
def Least (G : List (List Int)) (o : List Int) (n k : Nat) (nx : Int) : Prop :=
  (nx = -1 ∧ ∀ y, k ≤ y → y < n → ¬ ready G o y) ∨ ∃ x : Nat, nx = (x : Int) ∧ x < n ∧ k ≤ x ∧ ready G o x ∧ ∀ y, k ≤ y → y < x → ¬ ready G o y
theorem Least.no {G : List (List Int)} {o : List Int} {n k : Nat} {nx : Int} (h : Least G o n (k + 1) nx) (hn : ¬ ready G o k) : Least G o n k nx := by
  rcases h with ⟨h1, h2⟩ | ⟨x, h1, h2, h3, h4, h5⟩
  · refine .inl ⟨h1, fun y hy hyn => ?_⟩
    by_cases e : y = k
    · subst e; exact hn
    · exact h2 y (by omega) hyn
  · refine .inr ⟨x, h1, h2, by omega, h4, fun y hy hyx => ?_⟩
    by_cases e : y = k
    · subst e; exact hn
    · exact h5 y (by omega) hyx
theorem Least.yes {G : List (List Int)} {o : List Int} {n k : Nat} (hk : k < n) (hr : ready G o k) : Least G o n k (k : Int) := .inr ⟨k, rfl, hk, Nat.le_refl _, hr, fun y h1 h2 => by omega⟩
/-- What the document's Order tells. -/
def RefOrdQ (w : World) (G : List (List Int)) (e : Ending) (w' : World) : Prop :=
  (∃ (o : List Int) (v : Value), orderN G = some o ∧ e = .returned (.tuple #[v, .bool true]) ∧ w'.ownsRow w.heap.size 3 1 v o.length (I64 o)) ∨
  (orderN G = none ∧ e = .returned (.tuple #[.slice none 0 0, .bool false]))
set_option maxRecDepth 100000 in
set_option maxHeartbeats 8000000 in
theorem refOrder_any (a : Option Addr) (n c : Nat) (ps : List Rw) (w : World) (h : Graph w a n ps) (hn : n ≤ 1000) (hl : ∀ p ∈ ps, p.xs.length ≤ 1000) :
    Calls Try.prog 10 #[.slice a n c] w fun e w' => RefOrdQ w (gr ps) e w' ∧ Below w.heap.size w w' := by
  have HG := Lib.hid h
  have HL := Lib.hid hl
  have HN : Hid ((gr ps).length = n) := (gr_len ps).trans h.len
  clear h hl
  have wn := less_one (n : Int) (by omega) (by omega)
  go_enter Try.func10, Try.ntmps10
  go_wp2_with fail
  go_loopw [4] (fun v wr => ∃ (o : List Int) (oa : Option Addr) (oc : Nat), v = .slice oa o.length oc ∧ wr.ownsRow w.heap.size 3 1 (.slice oa o.length oc) o.length (I64 o) ∧ Pre (gr ps) o ∧ Below w.heap.size w wr) (fun v _ => n - lenV v)
  case atStart => exact ⟨[], none, 0, rfl, World.ownsRow_nil _ _ _ _, .nil, Below.refl _ _⟩
  case round =>
    obtain ⟨o, oa, oc, rfl, ho, hp, hb⟩ := hrel
    have HO := Lib.hid ho
    have HP := Lib.hid hp
    have HB := Lib.hid hb
    clear ho hp hb
    have hol := HP.out.run.1
    rw [HN.out] at hol
    by_cases hlt : o.length < n
    · have hlti : (o.length : Int) < (n : Int) := by omega
      go_wp2_with fail
      go_loop [5, 6] (fun nx v => ∃ (k : Nat) (x : Int), k ≤ n ∧ v = .int .i64 ((k : Int) - 1) ∧ nx = .int .i64 x ∧ Least (gr ps) o n k x) (fun _ v => (intOf v + 1).toNat)
      case atStart => exact ⟨n, -1, by omega, by first | rfl | exact congrArg (Value.int .i64) (wn _ rfl), rfl, .inl ⟨rfl, fun y h1 h2 => by omega⟩⟩
      case round =>
        obtain ⟨k, x, hk, rfl, rfl, hls⟩ := hrel
        have HLS := Lib.hid hls
        clear hls
        cases k with
        | zero =>
          have hk0 : ¬ (0 : Int) ≤ ((0 : Nat) : Int) - 1 := by omega
          rcases HLS.out with ⟨rfl, hno⟩ | ⟨y, rfl, hyn, -, hyr, hyl⟩
          · have HQ : Hid (orderN (gr ps) = none) := HP.out.none (by rw [HN.out]; exact hlt) (next_none.2 fun y hy => hno y (by omega) (by rw [← HN.out]; exact hy))
            clear hno
            go_wp2_with fail
            go_ret2
            exact ⟨.inr ⟨HQ.out, rfl⟩, HB.out⟩
          · have HP1 : Hid (Pre (gr ps) (o ++ [(y : Int)])) := .cons HP.out (by rw [HN.out]; exact hlt) (next_some.2 ⟨hyr, by rw [HN.out]; exact hyn, fun z hz => hyl z (by omega) hz⟩)
            have hy0 : ¬ (y : Int) < 0 := by omega
            have HLI : Hid (∀ t, (wr.alloc (.cells #[.int .i64 (y : Int)] t)).cell? ⟨wr.heap.size, 0, none⟩ = some (.int .i64 (y : Int))) := lit_one wr (y : Int)
            have HBA : Hid (∀ o1, Below w.heap.size w (wr.alloc o1)) := fun o1 => HB.out.alloc HB.out.size o1
            clear hyr hyl HLS
            have tok : True := trivial
            go_wp2_with (have _t := tok; at_builtin; clear tok; refine Hid.out ?_)
            refine unhid ?_
            refine wpList_append_one rfl _ _ rfl w.heap.size (.slice oa o.length oc) o.length o rfl (HO.out.alloc _) wr.heap.size (y : Int) rfl (HLI.out _) (by omega) (HBA.out _).size (fun g2 gc2 w7 ho1 hg1 hgg hgl => ?_)
            have HO1 := Lib.hid ho1
            have HB7 : Hid (Below w.heap.size w w7) := (HBA.out _).grown hg1 (HBA.out _).size (fun g hg => (HO.out.lt g hg).1)
            have hln : (o ++ [(y : Int)]).length = o.length + 1 := by simp
            clear ho1 hg1 hgg HO HBA HLI
            go_wp2_with fail
            exact ⟨⟨o ++ [(y : Int)], some ⟨g2, 0, none⟩, gc2, by rw [hln], by rw [hln]; exact HO1.out, HP1.out, HB7.out⟩, by simp [lenV]; omega⟩
        | succ i =>
          have hil : i < n := by omega
          have hii : (i : Int) < (n : Int) := by omega
          have e1 : ((i + 1 : Nat) : Int) - 1 = (i : Int) := by omega
          have wi := less_one (i : Int) (by omega) (by omega)
          obtain ⟨b, off, pa, pc, px, rfl, hp1, hcell0, hpi, hrow⟩ := graph_at HG.out hil
          have hcell := (HB.out.cell (p := ⟨b, off + i, none⟩) (cell_lt hcell0)).trans hcell0
          have HPI := Lib.hid (hpi.below HB.out)
          have HRI := Lib.hid hrow
          have hpl : px.length ≤ 1000 := HL.out _ (List.mem_of_getElem? hp1)
          have HRE := Lib.hid (ready_iff (gr ps) o i)
          rw [hrow] at HRE
          have HHS := Lib.hid (has_any oa o.length oc o (i : Int) wr (ints_own HO.out) rfl (by omega))
          have HAL := Lib.hid (allIn_any pa px.length pc px oa o.length oc o wr HPI.out rfl (by omega) (ints_own HO.out) rfl (by omega))
          clear hcell0 hpi hrow hp1
          rw [e1]
          go_wp2_with fail
          refine HHS.out.mono ?_
          rintro e w' ⟨rfl, hw⟩
          have hw2 := hw.symm
          subst hw2
          clear hw
          cases hh : hasN o (i : Int) with
          | true =>
            have HLS1 : Hid (Least (gr ps) o n i x) := HLS.out.no fun hr => by have := (HRE.out.1 hr).1; rw [hh] at this; cases this
            clear hh
            go_wp2_with fail
            exact ⟨⟨i, x, by omega, by first | rfl | exact congrArg (Value.int .i64) (wi _ rfl), rfl, HLS1.out⟩, by simp [intOf] <;> omega⟩
          | false =>
            have HHF := Lib.hid hh
            clear hh
            go_wp2_with fail
            refine HAL.out.mono ?_
            rintro e w' ⟨rfl, hw⟩
            have hw2 := hw.symm
            subst hw2
            clear hw
            cases ha : allN px o with
            | true =>
              have HLS1 : Hid (Least (gr ps) o n i (i : Int)) := Least.yes hil (HRE.out.2 ⟨HHF.out, ha⟩)
              clear ha
              go_wp2_with fail
              exact ⟨⟨i, (i : Int), by omega, by first | rfl | exact congrArg (Value.int .i64) (wi _ rfl), rfl, HLS1.out⟩, by simp [intOf] <;> omega⟩
            | false =>
              have HLS1 : Hid (Least (gr ps) o n i x) := HLS.out.no fun hr => by have := (HRE.out.1 hr).2; rw [ha] at this; cases this
              clear ha
              go_wp2_with fail
              exact ⟨⟨i, x, by omega, by first | rfl | exact congrArg (Value.int .i64) (wi _ rfl), rfl, HLS1.out⟩, by simp [intOf] <;> omega⟩
    · have hlti : ¬ (o.length : Int) < (n : Int) := by omega
      have HQ : Hid (orderN (gr ps) = some o) := HP.out.done (by rw [HN.out]; omega)
      go_wp2_with fail
      go_ret2
      exact ⟨.inl ⟨o, _, HQ.out, rfl, HO.out⟩, HB.out⟩
end Go.Proofs.Ythadgepihjigeaa
