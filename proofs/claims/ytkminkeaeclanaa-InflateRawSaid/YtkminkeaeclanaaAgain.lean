/- Bytes again: the walk. -/
import Derived.Test.YtkminkeaeclanaaLength
namespace Go.Proofs.Ytkminkeaeclanaa
open Go.RowKit Plain
set_option linter.unusedVariables false
/-- What a call that makes tells. -/
def Mad (w0 : World) (Ob : Nat) (ba : Option Addr) (bn bc N most : Nat) (w : World) (mv : Value) (r : Except Nat (Nat × List Int)) (e : Ending) (w' : World) : Prop :=
  (∃ q m mv', r = .ok (q, m) ∧ e = .returned (.tuple #[]) ∧ Turn Ob mv mv' w w' ∧ OutL 8 w0 Ob ba bn bc N most w' q mv' m) ∨ ∃ n, r = .error n ∧ e = .panicked [{ v := .iface 55 (.agg #[.int .i64 (n : Int)]), recovered := false }] ∧ ∃ mv', Turn Ob mv mv' w w'
def atP (p : Nat) : Except Nat (List Int) → Except Nat (Nat × List Int)
  | .ok m => .ok (p, m)
  | .error e => .error e
theorem againGo_ok (most d k : Nat) (m : List Int) (h : m.length < most) : againGo most d (k + 1) m = againGo most d k (m ++ [m[m.length - d]?.getD 0]) := by
  rw [againGo, giveN, if_neg (by omega)]
theorem againGo_err (most d k : Nat) (m : List Int) (h : most ≤ m.length) : againGo most d (k + 1) m = .error 2 := by
  rw [againGo, giveN, if_pos h]
theorem mid_row {w : World} {base : Nat} {a : Option Addr} {n c : Nat} {xs : List Int} (h : Mid w base (.slice a n c) n xs) (j : Nat) (hj : j < n) : ∃ g o, a = some ⟨g, o, none⟩ ∧ w.cell? ⟨g, o + j, none⟩ = some (.int .u8 (xs[j]?.getD 0)) := by
  obtain ⟨g, o, ha, hc⟩ := h.at (by omega)
  exact ⟨g, o, ha, hc j hj⟩
set_option maxRecDepth 100000 in
set_option maxHeartbeats 8000000 in
theorem again_any {w0 : World} {Ob : Nat} {ba : Option Addr} {bn bc N most : Nat} (hmost : most ≤ 1000000000) (w : World) (p : Nat) (mv : Value) (made : List Int) (H : OutL 8 w0 Ob ba bn bc N most w p mv made) (len d : Nat) (hlen : len ≤ 100000) (hd : d ≤ 100000) (hd0 : 0 < d) :
    Calls Try.prog 43 #[.pointer (some ⟨Ob, 0, none⟩), .int .i64 (len : Int), .int .i64 (d : Int)] w (Mad w0 Ob ba bn bc N most w mv (atP p (againN most made len d))) := by
  have HO := Lib.hid H
  obtain ⟨a, hd', l, hh, h1, h2, h3, h4, hmid, hO, hbel, hge, hlm, hr⟩ := H
  obtain ⟨va, vc, rfl, -, -, -⟩ := hmid.shape
  obtain ⟨c0, c1, c2, c3, c4, c5⟩ := raw_cells hh
  have hnl : made.length ≤ 1000000000 := by omega
  clear hh h4 hmid hbel hr h1 h2 h3 hO c0 c1 c2 c3 c5
  go_enter Try.func43, Try.ntmps43
  by_cases hbig : made.length < d
  · have hbi : (made.length : Int) < (d : Int) := by omega
    go_wp2_with fail
    refine (with_any 4 w).mono ?_
    rintro e w2 ⟨rfl, rfl⟩
    dsimp only [thrown]
    go_wp2_with fail
    exact ⟨rfl, .inr ⟨4, by unfold againN; rw [if_pos hbig]; rfl, rfl, _, Turn.refl _ _ _⟩⟩
  · have hbi : ¬ (made.length : Int) < (d : Int) := by omega
    have HSP : Hid (againN most made len d = againGo most d len made) := by show _ = _; unfold againN; rw [if_neg hbig]
    go_wp2_with fail
    go_loopw [15] (fun v wr => ∃ (k : Nat) (m : List Int) (mv' : Value), v = .int .i64 (k : Int) ∧ k ≤ len ∧ OutL 8 w0 Ob ba bn bc N most wr p mv' m ∧ Turn Ob (.slice va made.length vc) mv' w wr ∧ againN most made len d = againGo most d (len - k) m ∧ d ≤ m.length) (fun v _ => len - (intOf v).toNat)
    case atStart => exact ⟨0, made, _, rfl, by omega, HO.out, Turn.refl _ _ _, HSP.out, by omega⟩
    case round =>
      obtain ⟨k, m, mv', rfl, hk, ho, ht, hs, hdm⟩ := hrel
      have HO1 := Lib.hid ho
      have HT1 := Lib.hid ht
      have HS1 := Lib.hid hs
      obtain ⟨a, hd', l, hh, -, -, -, -, hmid, -, -, -, hlm2, hr⟩ := ho
      obtain ⟨va2, vc2, rfl, -, -, -⟩ := hmid.shape
      obtain ⟨c0, c1, c2, c3, c4, c5⟩ := raw_cells hh
      clear ht hs HO HSP
      by_cases hlt : k < len
      · have hlti : (k : Int) < (len : Int) := by omega
        obtain ⟨j, hj⟩ : ∃ j, m.length - d = j := ⟨_, rfl⟩
        obtain ⟨g, o, hva, hcell⟩ := mid_row hmid j (by omega)
        subst hva
        have hj0 := range_of_mem0 hr j
        obtain ⟨x, hx⟩ : ∃ x : Nat, m[j]?.getD 0 = (x : Int) := Int.eq_ofNat_of_zero_le hj0.1
        rw [hx] at hcell
        have hx8 : x ≤ 255 := by omega
        have hji : (m.length : Int) - (d : Int) = (j : Int) := by omega
        have hjw : IntKind.i64.wrap (j : Int) = (j : Int) := IntWalk.i64_in _ (by omega)
        have hjl : (j : Int) < (m.length : Int) := by omega
        have HG1 : Hid (m.length < most → againGo most d (len - k) m = againGo most d (len - (k + 1)) (m ++ [(x : Int)])) := fun h => by
          rw [show len - k = (len - (k + 1)) + 1 by omega, againGo_ok _ _ _ _ h, hj, hx]
        have HG2 : Hid (most ≤ m.length → againGo most d (len - k) m = .error 2) := fun h => by
          rw [show len - k = (len - (k + 1)) + 1 by omega, againGo_err _ _ _ _ h]
        have HGIVE : Hid (∀ W, Below wr.heap.size wr W → _) := fun W hW => give_any hmost W p _ m (HO1.out.below hW) x hx8
        clear hh hmid hr hj0 hx hj c0 c1 c2 c3 c5
        go_wp2_with fail
        go_still_tail 14, (by kernel_rfl)
        change wpList _ _ _ _ _ wr.drew
        have HBD : Hid (Below wr.heap.size wr wr.drew) := (Below.refl _ _).drew
        have hcall := HGIVE.out _ HBD.out
        clear hcell c4 hji hjw
        generalize wr.drew = wz at *
        go_wp2_with fail
        refine hcall.mono ?_
        rintro e w2 (⟨hroom, rfl, mv2, ho2, ht2⟩ | ⟨hroom, rfl, ht2⟩)
        · have HO2 := Lib.hid ho2
          have HT2 := Lib.hid (HT1.out.trans (ht2.after HBD.out))
          have HS2 : Hid (againN most made len d = againGo most d (len - (k + 1)) (m ++ [(x : Int)])) := HS1.out.trans (HG1.out hroom)
          clear hcall ho2 ht2
          go_wp2_with fail
          exact ⟨⟨k + 1, m ++ [(x : Int)], mv2, by go_num, by omega, HO2.out, HT2.out, HS2.out, by rw [List.length_append]; omega⟩, by simp [intOf]; omega⟩
        · have HT2 := Lib.hid (HT1.out.trans (ht2.after HBD.out))
          have HS2 : Hid (againN most made len d = .error 2) := HS1.out.trans (HG2.out hroom)
          clear hcall ht2
          dsimp only [thrown]
          go_wp2_with fail
          exact ⟨rfl, .inr ⟨2, by rw [HS2.out]; rfl, rfl, _, HT2.out⟩⟩
      · have hlti : ¬ (k : Int) < (len : Int) := by omega
        obtain rfl : k = len := by omega
        have HS2 : Hid (againN most made k d = .ok m) := by
          have := HS1.out
          rw [Nat.sub_self, againGo] at this
          exact this
        go_wp2_with fail
        go_end0
        exact .inl ⟨p, m, _, by rw [HS2.out]; rfl, rfl, HT1.out, HO1.out⟩
end Go.Proofs.Ytkminkeaeclanaa
