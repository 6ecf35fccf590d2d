/- Whether all parents are nodes: the walk. -/
import Derived.Test.YthadgepihjigeaaOrderSt
namespace Go.Proofs.Ythadgepihjigeaa
open Go.RowKit Plain
set_option linter.unusedVariables false
def inG (n : Nat) (p : Int) : Bool := decide (0 ≤ p) && decide (p < (n : Int))
def rightG (n : Nat) (G : List (List Int)) : Bool := G.all fun l => l.all (inG n)
theorem isNode_any (a : Option Addr) (n c : Nat) (p : Int) (w : World) : Calls Try.prog 28 #[.slice a n c, .int .i64 p] w fun e w' => e = .returned (.bool (inG n p)) ∧ w' = w := by
  by_cases h0 : 0 ≤ p
  · by_cases h1 : p < (n : Int)
    · have HE : Hid (inG n p = true) := by show _ = _; unfold inG; simp [h0, h1]
      go_enter Try.func28, Try.ntmps28
      go_wp2_with fail
      go_ret
      rw [HE.out]
      exact ⟨rfl, rfl⟩
    · have HE : Hid (inG n p = false) := by show _ = _; unfold inG; simp [h1]
      go_enter Try.func28, Try.ntmps28
      go_wp2_with fail
      go_ret
      rw [HE.out]
      exact ⟨rfl, rfl⟩
  · have HE : Hid (inG n p = false) := by show _ = _; unfold inG; simp [h0]
    go_enter Try.func28, Try.ntmps28
    go_wp2_with fail
    go_ret
    rw [HE.out]
    exact ⟨rfl, rfl⟩
theorem graph_at {w : World} {a : Option Addr} {n : Nat} {ps : List Rw} (h : Graph w a n ps) {k : Nat} (hk : k < n) : ∃ b off pa pc px, a = some ⟨b, off, none⟩ ∧ ps[k]? = some ⟨pa, pc, px⟩ ∧ w.cell? ⟨b, off + k, none⟩ = some (.slice pa px.length pc) ∧ IntsAt w pa px ∧ row (gr ps) k = px := by
  rcases h.rows with h0 | ⟨b, off, rfl, hc⟩
  · omega
  · have hlt : k < ps.length := by rw [h.len]; exact hk
    obtain ⟨⟨pa, pc, px⟩, hp⟩ : ∃ q : Rw, ps[k]? = some q := ⟨_, List.getElem?_eq_getElem hlt⟩
    exact ⟨b, off, pa, pc, px, rfl, hp, hc k _ hp, h.ints _ (List.mem_of_getElem? hp), gr_row hp⟩
theorem ints_at {w : World} {a : Option Addr} {xs : List Int} (h : IntsAt w a xs) {j : Nat} (hj : j < xs.length) : ∃ b off, a = some ⟨b, off, none⟩ ∧ w.cell? ⟨b, off + j, none⟩ = some (.int .i64 (at0 xs j)) := by
  rcases h with h | ⟨b, off, e, hc⟩
  · omega
  · exact ⟨b, off, e, hc j hj⟩
theorem next_int (i : Nat) (hi : i ≤ 1000000000) : ∀ x : Int, x = (i : Int) + 1 → wrap64 x = ((i + 1 : Nat) : Int) := fun x hx => by
  rw [hx, show (i : Int) + 1 = ((i + 1 : Nat) : Int) by omega]
  exact IntWalk.wrap64_in _ (by omega)
theorem all_take_succ {α : Type} (f : α → Bool) (l : List α) (k : Nat) (x : α) (h : l[k]? = some x) : (l.take (k + 1)).all f = ((l.take k).all f && f x) := by
  rw [List.take_add_one, h, List.all_append]
  simp
theorem all_no {α : Type} (f : α → Bool) (l : List α) (k : Nat) (x : α) (h : l[k]? = some x) (hf : f x = false) : l.all f = false := by
  cases ha : l.all f with
  | false => rfl
  | true =>
    have := List.all_eq_true.1 ha x (List.mem_of_getElem? h)
    rw [hf] at this
    cases this
set_option maxRecDepth 100000 in
set_option maxHeartbeats 4000000 in
theorem right_any (a : Option Addr) (n c : Nat) (ps : List Rw) (w : World) (h : Graph w a n ps) (hn : n ≤ 1000000) (hl : ∀ p ∈ ps, p.xs.length ≤ 1000000) :
    Calls Try.prog 20 #[.slice a n c] w fun e w' => e = .returned (.bool (rightG n (gr ps))) ∧ w' = w := by
  have HG := Lib.hid h
  have HL := Lib.hid hl
  have HN : Hid ((gr ps).length = n) := (gr_len ps).trans h.len
  clear h hl
  go_enter Try.func20, Try.ntmps20
  go_wp2_with fail
  go_loop [9] (fun v => ∃ k : Nat, k ≤ n ∧ v = .int .i64 (k : Int) ∧ rightG n ((gr ps).take k) = true) (fun v => n - (intOf v).toNat)
  case atStart => exact ⟨0, by omega, rfl, rfl⟩
  case round =>
    obtain ⟨k, hk, rfl, hr⟩ := hrel
    have HR := Lib.hid hr
    clear hr
    by_cases hkn : k = n
    · subst hkn
      have HE : Hid (rightG k (gr ps) = true) := by
        have := HR.out
        rw [List.take_of_length_le (by rw [HN.out]; exact Nat.le_refl _)] at this
        exact this
      go_wp2_with fail
      go_ret
      rw [HE.out]
      exact ⟨rfl, rfl⟩
    · have hkl : k < n := by omega
      have hki : (k : Int) < (n : Int) := by omega
      obtain ⟨b, off, pa, pc, px, rfl, hp, hcell, hi, hrow⟩ := graph_at HG.out hkl
      have HI := Lib.hid hi
      have hpl : px.length ≤ 1000000 := HL.out _ (List.mem_of_getElem? hp)
      have HP : Hid ((gr ps)[k]? = some px) := by
        show (ps.map (·.xs))[k]? = _
        rw [List.getElem?_map, hp]
        rfl
      have wk := next_int k (by omega)
      clear hi hp hrow
      obtain ⟨m, hm⟩ : ∃ m, px.length = m := ⟨_, rfl⟩
      rw [hm] at hcell hpl
      have HM := Lib.hid hm
      clear hm
      go_wp2_with fail
      go_loop [15] (fun v => ∃ j : Nat, j ≤ m ∧ v = .int .i64 (j : Int) ∧ (px.take j).all (inG n) = true) (fun v => m - (intOf v).toNat)
      case atStart => exact ⟨0, by omega, rfl, rfl⟩
      case round =>
        obtain ⟨j, hj, rfl, hrj⟩ := hrel
        have HRJ := Lib.hid hrj
        clear hrj
        by_cases hjm : j = m
        · subst hjm
          have HN1 : Hid (rightG n ((gr ps).take (k + 1)) = true) := by
            have h1 := HRJ.out
            rw [List.take_of_length_le (by rw [HM.out]; exact Nat.le_refl _)] at h1
            show _ = _
            unfold rightG
            rw [all_take_succ _ _ _ _ HP.out, h1, Bool.and_true]
            exact HR.out
          go_wp2_with fail
          exact ⟨⟨k + 1, by omega, by first | rfl | exact congrArg (Value.int .i64) (wk _ rfl), HN1.out⟩, by simp [intOf]; omega⟩
        · have hjl : j < m := by omega
          have hji : (j : Int) < (m : Int) := by omega
          obtain ⟨b2, off2, rfl, hc2⟩ := ints_at HI.out (j := j) (by rw [HM.out]; exact hjl)
          have wj := next_int j (by omega)
          have HJ : Hid (px[j]? = some (at0 px j)) := by
            show px[j]? = some (px[j]?.getD 0)
            rw [List.getElem?_eq_getElem (by rw [HM.out]; exact hjl)]
            rfl
          generalize at0 px j = q at *
          go_wp2_with fail
          refine (isNode_any _ n c q w).mono ?_
          rintro e w' ⟨rfl, hw⟩
          have hw2 := hw.symm
          subst hw2
          clear hw
          cases hq : inG n q with
          | true =>
            have HN1 : Hid ((px.take (j + 1)).all (inG n) = true) := by
              show _ = _
              rw [all_take_succ _ _ _ _ HJ.out, hq, Bool.and_true]
              exact HRJ.out
            clear hq
            go_wp2_with fail
            exact ⟨⟨j + 1, by omega, by first | rfl | exact congrArg (Value.int .i64) (wj _ rfl), HN1.out⟩, by simp [intOf]; omega⟩
          | false =>
            have HE : Hid (rightG n (gr ps) = false) := by
              show (gr ps).all _ = false
              exact all_no _ _ _ _ HP.out (all_no _ _ _ _ HJ.out hq)
            clear hq
            go_wp2_with fail
            go_ret
            rw [HE.out]
            exact ⟨rfl, rfl⟩
end Go.Proofs.Ythadgepihjigeaa
