/- A mode's digits, and back: the walks. -/
import Derived.Test.YtnbkjdakofeeaaaDoorTrStr
namespace Go.Proofs.YtnbkjdakofeeaaaDoor
open Go.RowKit Plain
set_option linter.unusedVariables false
set_option linter.unusedSimpArgs false
set_option maxRecDepth 100000 in
theorem formatIn8 (U : Nat) (hU : U < 262144) (w : World) (hE : Env w) :
    Calls Tryd.prog 33 #[.int .i64 (U : Int), .int .i64 8] w fun e w' => e = .returned (.string (strOfNums (oct 6 U []))) ∧ Below w.heap.size w w' := by
  have HC := Lib.hid (format8 U hU w hE)
  have hcu : IntKind.u64.wrap (U : Int) = (U : Int) := by
    show (U : Int) % 18446744073709551616 = _
    omega
  have hn0 : ¬ (U : Int) < 0 := by omega
  clear hU hE
  go_enter Tryd.func33, Tryd.ntmps33
  go_wp2_with fail
  refine HC.out.mono ?_
  rintro e w' ⟨rfl, hb⟩
  go_wp2_with fail
  go_ret
  exact ⟨rfl, hb⟩
set_option maxRecDepth 100000 in
theorem formatOut8 (U : Nat) (hU : U < 262144) (w : World) (hE : Env w) :
    Calls Tryd.prog 26 #[.int .i64 (U : Int), .int .i64 8] w fun e w' => e = .returned (.string (strOfNums (oct 6 U []))) ∧ Below w.heap.size w w' := by
  have HC := Lib.hid (formatIn8 U hU w hE)
  clear hU hE
  go_enter Tryd.func26, Tryd.ntmps26
  go_wp2_with fail
  refine HC.out.mono ?_
  rintro e w' ⟨rfl, hb⟩
  go_wp2_with fail
  go_ret
  exact ⟨rfl, hb⟩
theorem oct_digits : ∀ k : Int, modeOk k = true → ∃ U : Nat, k = (U : Int) ∧ U < 262144 ∧ strOfNums (oct 6 U []) = txt (digitsL k) := fun k hk => by
  rcases modeOk_cases hk with rfl | rfl | rfl | rfl | rfl
  · exact ⟨16384, rfl, by decide, by decide +kernel⟩
  · exact ⟨33188, rfl, by decide, by decide +kernel⟩
  · exact ⟨33261, rfl, by decide, by decide +kernel⟩
  · exact ⟨40960, rfl, by decide, by decide +kernel⟩
  · exact ⟨57344, rfl, by decide, by decide +kernel⟩
set_option maxRecDepth 100000 in
theorem digitsOf_any (k : Int) (hk : modeOk k = true) (w : World) (hE : Env w) :
    Calls Tryd.prog 17 #[.int .i64 k] w fun e w' => e = .returned (.string (txt (digitsL k))) ∧ Below w.heap.size w w' := by
  obtain ⟨U, rfl, hU, hd⟩ := oct_digits k hk
  have HC := formatOut8 U hU w hE
  rw [hd] at HC
  have HC := Lib.hid HC
  clear hU hE hk hd
  go_enter Tryd.func17, Tryd.ntmps17
  go_wp2_with fail
  refine HC.out.mono ?_
  rintro e w' ⟨rfl, hb⟩
  go_wp2_with fail
  go_ret
  exact ⟨rfl, hb⟩
def modesA : Array Value := #[.int .i64 16384, .int .i64 33188, .int .i64 33261, .int .i64 40960, .int .i64 57344]
theorem zero_modes (w : World) : (zeroValue 55).run Tryd.prog w = .ok (.agg #[.int .i64 0, .int .i64 0, .int .i64 0, .int .i64 0, .int .i64 0]) w := by kernel_rfl
set_option maxRecDepth 100000 in
theorem modes_any (w : World) : Calls Tryd.prog 18 #[] w fun e w' => e = .returned (.agg modesA) ∧ Below w.heap.size w w' := by
  have hz := zero_modes
  have HI : Hid ((Tryd.prog.info? 55).map (·.size) = some modesA.size) := by show _ = _; kernel_rfl
  have HR : Hid ((w.alloc (.cells modesA 55)).heap[w.heap.size]? = some (.cells modesA 55 (0, 0))) := heap_alloc_new _ _
  have HB : Hid (Below w.heap.size w (w.alloc (.cells modesA 55))) := (Below.refl _ _).alloc (Nat.le_refl _) _
  go_enter Tryd.func18, Tryd.ntmps18
  go_wp2_with fail
  refine bodyPost_ret (results_cell_row Tryd.results18 _ _ w.heap.size 55 modesA (0, 0) _ rfl HR.out Tryd.underlying55 rfl HI.out) rfl ?_
  exact ⟨rfl, HB.out⟩
def modeAt (k : Nat) : Int := if k = 0 then 16384 else if k = 1 then 33188 else if k = 2 then 33261 else if k = 3 then 40960 else 57344
theorem modeAt_ok (k : Nat) : modeOk (modeAt k) = true := by
  unfold modeAt
  split
  · decide
  split
  · decide
  split
  · decide
  split
  · decide
  · decide
theorem modes_at (k : Nat) (h : k < 5) (w : World) : (Instr.index 55 (.agg modesA) (.int .i64 (k : Int))).run Tryd.prog w = .ok (.int .i64 (modeAt k)) w := by
  have : k = 0 ∨ k = 1 ∨ k = 2 ∨ k = 3 ∨ k = 4 := by omega
  rcases this with rfl | rfl | rfl | rfl | rfl <;> (show _ = _; kernel_rfl)
theorem modeOf_at {l : List UInt8} {k : Nat} (h : (digitsL (modeAt k) == l) = true) : modeOf l = modeAt k := by
  rw [← beq_iff_eq.1 h]
  exact (mode_digits (modeAt_ok k)).1
theorem modeOf_no {l : List UInt8} (h : ∀ j, j < 5 → (digitsL (modeAt j) == l) = false) : modeOf l = 0 := by
  have key : ∀ j, j < 5 → ¬ l = digitsL (modeAt j) := fun j hj e => by
    have := h j hj
    rw [e, beq_self_eq_true] at this
    cases this
  have k0 : ¬ l = [52, 48, 48, 48, 48] := key 0 (by omega)
  have k1 : ¬ l = [49, 48, 48, 54, 52, 52] := key 1 (by omega)
  have k2 : ¬ l = [49, 48, 48, 55, 53, 53] := key 2 (by omega)
  have k3 : ¬ l = [49, 50, 48, 48, 48, 48] := key 3 (by omega)
  have k4 : ¬ l = [49, 54, 48, 48, 48, 48] := key 4 (by omega)
  unfold modeOf
  rw [if_neg k0, if_neg k1, if_neg k2, if_neg k3, if_neg k4]
set_option maxRecDepth 100000 in
set_option maxHeartbeats 4000000 in
theorem mode_any (s : ByteArray) (w : World) (hE : Env w) :
    Calls Tryd.prog 32 #[.string s] w fun e w' => e = .returned (.int .i64 (modeOf s.data.toList)) ∧ Below w.heap.size w w' := by
  have HE := Lib.hid hE
  clear hE
  go_enter Tryd.func32, Tryd.ntmps32
  go_wp2_with fail
  refine (modes_any w).mono ?_
  rintro e w0 ⟨rfl, hb⟩
  have HB0 := Lib.hid hb
  clear hb
  obtain ⟨mA, hmA⟩ : ∃ a, modesA = a := ⟨_, rfl⟩
  have HIX : Hid (∀ k, k < 5 → ∀ W, (Instr.index 55 (.agg mA) (.int .i64 ((k : Nat) : Int))).run Tryd.prog W = .ok (.int .i64 (modeAt k)) W) := fun k hk W => by rw [← hmA]; exact modes_at k hk W
  rw [hmA]
  clear hmA
  go_wp2_with fail
  go_loopw [6] (fun i wr => ∃ k : Nat, k ≤ 5 ∧ i = .int .i64 (k : Int) ∧ (∀ j, j < k → (digitsL (modeAt j) == s.data.toList) = false) ∧ Below w.heap.size w wr) (fun i _ => 5 - (intOf i).toNat)
  case atStart => exact ⟨0, by omega, rfl, fun j h => by omega, HB0.out⟩
  case round =>
    obtain ⟨k, hk, rfl, hno, hb⟩ := hrel
    have HNO := Lib.hid hno
    have HBW := Lib.hid hb
    have WK := Lib.hid (next_int k (by omega))
    clear hno hb HB0
    by_cases hk5 : k = 5
    · subst hk5
      have HM := Lib.hid (modeOf_no HNO.out)
      go_wp2_with fail
      go_ret
      exact ⟨by rw [HM.out]; rfl, HBW.out⟩
    · have hkl : k < 5 := by omega
      have hki : (k : Int) < 5 := by omega
      have hix := HIX.out k hkl
      have HOK := Lib.hid (modeAt_ok k)
      have HMA := Lib.hid (modeOf_at (l := s.data.toList) (k := k))
      have HKL := Lib.hid hkl
      have HSN : Hid ((digitsL (modeAt k) == s.data.toList) = false → ∀ j, j < k + 1 → (digitsL (modeAt j) == s.data.toList) = false) := fun h j hj => by
        by_cases hjk : j = k
        · rw [hjk]; exact h
        · exact HNO.out j (by omega)
      generalize modeAt k = m at *
      clear hk5 hkl
      go_wp2_with fail
      refine (digitsOf_any m HOK.out wr (HE.out.below HBW.out)).mono ?_
      rintro e w2 ⟨rfl, hb⟩
      have HB2 := Lib.hid (HBW.out.trans (hb.mono HBW.out.size))
      have HQ := fun W => str_eql (txt (digitsL m)) s W
      rw [txt_list] at HQ
      cases he : (digitsL m == s.data.toList)
      · rw [he] at HQ HSN
        have HQ2 := Lib.hid HQ
        have HS2 := Lib.hid (HSN.out rfl)
        clear hb he HMA hix HQ
        generalize txt (digitsL m) = D at *
        go_wp2_with (first
          | refine wpList_eql (by rfl) .eql 9 _ _ _ rfl (.string D) (.string s) rfl rfl (.bool false) (guard_eq _ _ _ _) HQ2.out ?_)
        exact ⟨⟨k + 1, by have := HKL.out; omega, by first | rw [WK.out _ rfl] | rfl, HS2.out, HB2.out⟩, by have := HKL.out; (first | rw [WK.out _ rfl] | skip); simp [intOf]; omega⟩
      · rw [he] at HQ
        have HQ2 := Lib.hid HQ
        have HM := Lib.hid (HMA.out he)
        clear hb he HMA hix HSN HQ
        generalize txt (digitsL m) = D at *
        go_wp2_with (first
          | refine wpList_eql (by rfl) .eql 9 _ _ _ rfl (.string D) (.string s) rfl rfl (.bool true) (guard_eq _ _ _ _) HQ2.out ?_)
        go_ret
        exact ⟨by rw [HM.out]; rfl, HB2.out⟩
end Go.Proofs.YtnbkjdakofeeaaaDoor
