/- Whether a list is closed, the document's: the walk. -/
import Derived.Test.YthadgepihjigeaaClosed
namespace Go.Proofs.Ythadgepihjigeaa
open Go.RowKit Plain
set_option linter.unusedVariables false
/-- Of l's first k. -/
def ClosedTo (n : Nat) (G : List (List Int)) (l : List Int) (k : Nat) : Prop := ∀ x : Nat, x < n → (x : Int) ∈ l.take k → ∀ p ∈ row G x, inG n p = true → p ∈ l
theorem mem_take_succ {l : List Int} {k : Nat} {q p : Int} (h : l[k]? = some q) : p ∈ l.take (k + 1) ↔ p ∈ l.take k ∨ p = q := by
  rw [List.take_add_one, h]
  simp
theorem ClosedTo.skip {n : Nat} {G : List (List Int)} {l : List Int} {k : Nat} {q : Int} (h : ClosedTo n G l k) (hq : l[k]? = some q) (hn : inG n q = false) : ClosedTo n G l (k + 1) := fun x hx hm => by
  rcases (mem_take_succ hq).1 hm with hm | e
  · exact h x hx hm
  · rw [← e, (inG_iff n (x : Int)).2 ⟨x, hx, rfl⟩] at hn
    cases hn
theorem ClosedTo.step {n : Nat} {G : List (List Int)} {l : List Int} {k x : Nat} (h : ClosedTo n G l k) (hq : l[k]? = some (x : Int)) (hr : ∀ p ∈ row G x, inG n p = true → p ∈ l) : ClosedTo n G l (k + 1) := fun y hy hm => by
  rcases (mem_take_succ hq).1 hm with hm | e
  · exact h y hy hm
  · have : y = x := by omega
    subst this
    exact hr
theorem inG_no (n : Nat) {p : Int} (h : p < 0 ∨ (n : Int) ≤ p) : inG n p = false := by
  unfold inG
  rcases h with h | h
  · rw [decide_eq_false (by omega), Bool.false_and]
  · rw [decide_eq_false (p := p < (n : Int)) (by omega), Bool.and_false]
set_option maxRecDepth 100000 in
set_option maxHeartbeats 8000000 in
theorem refClosed_any (a : Option Addr) (n c : Nat) (ps : List Rw) (a2 : Option Addr) (m c2 : Nat) (l : List Int) (w : World) (h : Graph w a n ps) (hn : n ≤ 1000) (hl : ∀ p ∈ ps, p.xs.length ≤ 1000) (hi : IntsAt w a2 l) (hm : l.length = m) (hm9 : m ≤ 1000000) :
    Calls Try.prog 19 #[.slice a n c, .slice a2 m c2] w fun e w' => SaysB (ClosedP n (gr ps) l) e ∧ w' = w := by
  have HG := Lib.hid h
  have HL := Lib.hid hl
  have HI := Lib.hid hi
  have HM := Lib.hid hm
  have HH := Lib.hid (fun p => has_any a2 m c2 l p w hi hm (by omega))
  clear h hl hi hm
  go_enter Try.func19, Try.ntmps19
  go_wp2_with fail
  go_loop [5] (fun v => ∃ k : Nat, k ≤ m ∧ v = .int .i64 (k : Int) ∧ ClosedTo n (gr ps) l k) (fun v => m - (intOf v).toNat)
  case atStart => exact ⟨0, by omega, rfl, fun x hx hm => by simp at hm⟩
  case round =>
    obtain ⟨k, hk, rfl, hct⟩ := hrel
    have HCT := Lib.hid hct
    clear hct
    by_cases hkm : k = m
    · subst hkm
      have HC : Hid (ClosedP n (gr ps) l) := fun x hx hm => HCT.out x hx (by rw [List.take_of_length_le (by rw [HM.out]; exact Nat.le_refl _)]; exact hm)
      go_wp2_with fail
      go_ret
      exact ⟨⟨true, rfl, Iff.intro (fun _ => HC.out) (fun _ => rfl)⟩, rfl⟩
    · have hkl : k < m := by omega
      have hki : (k : Int) < (m : Int) := by omega
      obtain ⟨b2, off2, rfl, hc2⟩ := ints_at HI.out (j := k) (by rw [HM.out]; exact hkl)
      have HA := Lib.hid (at_some (xs := l) (j := k) (by rw [HM.out]; exact hkl))
      have wk := next_int k (by omega)
      generalize at0 l k = r at *
      by_cases h1 : r < 0
      · have HK1 : Hid (ClosedTo n (gr ps) l (k + 1)) := HCT.out.skip HA.out (inG_no n (.inl h1))
        go_wp2_with fail
        exact ⟨⟨k + 1, by omega, by first | rfl | exact congrArg (Value.int .i64) (wk _ rfl), HK1.out⟩, by simp [intOf] <;> omega⟩
      · by_cases h2 : (n : Int) ≤ r
        · have HK1 : Hid (ClosedTo n (gr ps) l (k + 1)) := HCT.out.skip HA.out (inG_no n (.inr h2))
          go_wp2_with fail
          exact ⟨⟨k + 1, by omega, by first | rfl | exact congrArg (Value.int .i64) (wk _ rfl), HK1.out⟩, by simp [intOf] <;> omega⟩
        · obtain ⟨x, rfl⟩ : ∃ x : Nat, r = (x : Int) := ⟨r.toNat, by omega⟩
          have hxl : x < n := by omega
          have hxi : (x : Int) < (n : Int) := by omega
          obtain ⟨b, off, pa, pc, px, rfl, hp1, hcell, hpi, hrow⟩ := graph_at HG.out hxl
          have HPI := Lib.hid hpi
          have HRW := Lib.hid hrow
          have hpl : px.length ≤ 1000 := HL.out _ (List.mem_of_getElem? hp1)
          obtain ⟨q, hq⟩ : ∃ q, px.length = q := ⟨_, rfl⟩
          rw [hq] at hcell hpl
          have HQ := Lib.hid hq
          clear hpi hrow hp1 hq
          go_wp2_with fail
          go_loop [6] (fun v => ∃ j : Nat, j ≤ q ∧ v = .int .i64 (j : Int) ∧ ∀ p ∈ px.take j, inG n p = true → p ∈ l) (fun v => q - (intOf v).toNat)
          case atStart => exact ⟨0, by omega, rfl, fun p hp => by simp at hp⟩
          case round =>
            obtain ⟨j, hj, rfl, hpj⟩ := hrel
            have HPJ := Lib.hid hpj
            clear hpj
            by_cases hjq : j = q
            · subst hjq
              have HK1 : Hid (ClosedTo n (gr ps) l (k + 1)) := HCT.out.step HA.out fun p hp => by
                rw [HRW.out] at hp
                exact HPJ.out p (by rw [List.take_of_length_le (by rw [HQ.out]; exact Nat.le_refl _)]; exact hp)
              go_wp2_with fail
              exact ⟨⟨k + 1, by omega, by first | rfl | exact congrArg (Value.int .i64) (wk _ rfl), HK1.out⟩, by simp [intOf] <;> omega⟩
            · have hjl : j < q := by omega
              have hji : (j : Int) < (q : Int) := by omega
              obtain ⟨b3, off3, rfl, hc3⟩ := ints_at HPI.out (j := j) (by rw [HQ.out]; exact hjl)
              have HA3 := Lib.hid (at_some (xs := px) (j := j) (by rw [HQ.out]; exact hjl))
              have wj := next_int j (by omega)
              generalize at0 px j = r at *
              have HTS : Hid (∀ p, p ∈ px.take (j + 1) → p ∈ px.take j ∨ p = r) := fun p hp => (mem_take_succ HA3.out).1 hp
              by_cases g1 : r < 0
              · have HP1 : Hid (∀ p ∈ px.take (j + 1), inG n p = true → p ∈ l) := fun p hp hg => by
                  rcases HTS.out p hp with hp | rfl
                  · exact HPJ.out p hp hg
                  · rw [inG_no n (.inl g1)] at hg; cases hg
                have g1' : ¬ (0 : Int) ≤ r := by omega
                go_wp2_with fail
                exact ⟨⟨j + 1, by omega, by first | rfl | exact congrArg (Value.int .i64) (wj _ rfl), HP1.out⟩, by simp [intOf] <;> omega⟩
              · have g1' : (0 : Int) ≤ r := by omega
                by_cases g2 : (n : Int) ≤ r
                · have HP1 : Hid (∀ p ∈ px.take (j + 1), inG n p = true → p ∈ l) := fun p hp hg => by
                    rcases HTS.out p hp with hp | rfl
                    · exact HPJ.out p hp hg
                    · rw [inG_no n (.inr g2)] at hg; cases hg
                  have g2' : ¬ r < (n : Int) := by omega
                  go_wp2_with fail
                  exact ⟨⟨j + 1, by omega, by first | rfl | exact congrArg (Value.int .i64) (wj _ rfl), HP1.out⟩, by simp [intOf] <;> omega⟩
                · have g2' : r < (n : Int) := by omega
                  go_wp2_with fail
                  refine (HH.out r).mono ?_
                  rintro e w' ⟨rfl, hw⟩
                  have hw2 := hw.symm
                  subst hw2
                  clear hw
                  cases hhy : hasN l r with
                  | true =>
                    have HP1 : Hid (∀ p ∈ px.take (j + 1), inG n p = true → p ∈ l) := fun p hp hg => by
                      rcases HTS.out p hp with hp | rfl
                      · exact HPJ.out p hp hg
                      · exact (hasN_iff _ _).1 hhy
                    clear hhy
                    go_wp2_with fail
                    exact ⟨⟨j + 1, by omega, by first | rfl | exact congrArg (Value.int .i64) (wj _ rfl), HP1.out⟩, by simp [intOf] <;> omega⟩
                  | false =>
                    have HNO : Hid (¬ ClosedP n (gr ps) l) := fun hcp => by
                      have h1 := hcp x hxl (List.mem_of_getElem? HA.out) r (by rw [HRW.out]; exact List.mem_of_getElem? HA3.out) ((inG_iff n r).2 ⟨r.toNat, by omega, by omega⟩)
                      rw [(hasN_iff _ _).2 h1] at hhy
                      cases hhy
                    clear hhy
                    go_wp2_with fail
                    go_ret
                    exact ⟨⟨false, rfl, Iff.intro (fun e => by cases e) (fun e => absurd e HNO.out)⟩, rfl⟩
end Go.Proofs.Ythadgepihjigeaa
