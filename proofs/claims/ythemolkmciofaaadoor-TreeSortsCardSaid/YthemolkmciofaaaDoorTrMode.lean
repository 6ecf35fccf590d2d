/- A mode's digits, and back: the walks. -/
import Derived.Test.YthemolkmciofaaaDoorTrStr
namespace Go.Proofs.YthemolkmciofaaaDoor
open Go.RowKit Plain
set_option linter.unusedVariables false
set_option linter.unusedSimpArgs false
set_option maxRecDepth 100000 in
theorem formatIn8 (U : Nat) (hU : U < 262144) (w : World) (hE : Env w) :
    Calls Tryd.prog 35 #[.int .i64 (U : Int), .int .i64 8] w fun e w' => e = .returned (.string (strOfNums (oct 6 U []))) ∧ Below w.heap.size w w' := by
  have HC := Lib.hid (format8 U hU w hE)
  have hcu : IntKind.u64.wrap (U : Int) = (U : Int) := by
    show (U : Int) % 18446744073709551616 = _
    omega
  have hn0 : ¬ (U : Int) < 0 := by omega
  clear hU hE
  go_enter Tryd.func35, Tryd.ntmps35
  go_wp2_with fail
  refine HC.out.mono ?_
  rintro e w' ⟨rfl, hb⟩
  go_wp2_with fail
  go_ret
  exact ⟨rfl, hb⟩
set_option maxRecDepth 100000 in
theorem formatOut8 (U : Nat) (hU : U < 262144) (w : World) (hE : Env w) :
    Calls Tryd.prog 30 #[.int .i64 (U : Int), .int .i64 8] w fun e w' => e = .returned (.string (strOfNums (oct 6 U []))) ∧ Below w.heap.size w w' := by
  have HC := Lib.hid (formatIn8 U hU w hE)
  clear hU hE
  go_enter Tryd.func30, Tryd.ntmps30
  go_wp2_with fail
  refine HC.out.mono ?_
  rintro e w' ⟨rfl, hb⟩
  go_wp2_with fail
  go_ret
  exact ⟨rfl, hb⟩
theorem oct_digits : ∀ k : Int, modeOk k = true → ∃ U : Nat, k = (U : Int) ∧ U < 262144 ∧ strOfNums (oct 6 U []) = txt (digitsL k) := fun k hk => by
  rcases modeOk_cases hk with rfl | rfl | rfl | rfl | rfl
  · exact ⟨16384, rfl, by decide, by decide +kernel⟩
  · exact ⟨33188, rfl, by decide, by decide +kernel⟩
  · exact ⟨33261, rfl, by decide, by decide +kernel⟩
  · exact ⟨40960, rfl, by decide, by decide +kernel⟩
  · exact ⟨57344, rfl, by decide, by decide +kernel⟩
set_option maxRecDepth 100000 in
theorem digitsOf_any (k : Int) (hk : modeOk k = true) (w : World) (hE : Env w) :
    Calls Tryd.prog 22 #[.int .i64 k] w fun e w' => e = .returned (.string (txt (digitsL k))) ∧ Below w.heap.size w w' := by
  obtain ⟨U, rfl, hU, hd⟩ := oct_digits k hk
  have HC := formatOut8 U hU w hE
  rw [hd] at HC
  have HC := Lib.hid HC
  clear hU hE hk hd
  go_enter Tryd.func22, Tryd.ntmps22
  go_wp2_with fail
  refine HC.out.mono ?_
  rintro e w' ⟨rfl, hb⟩
  go_wp2_with fail
  go_ret
  exact ⟨rfl, hb⟩
def modesA : Array Value := #[.int .i64 16384, .int .i64 33188, .int .i64 33261, .int .i64 40960, .int .i64 57344]
theorem zero_modes (w : World) : (zeroValue 49).run Tryd.prog w = .ok (.agg #[.int .i64 0, .int .i64 0, .int .i64 0, .int .i64 0, .int .i64 0]) w := by kernel_rfl
set_option maxRecDepth 100000 in
theorem modes_any (w : World) : Calls Tryd.prog 19 #[] w fun e w' => e = .returned (.agg modesA) ∧ Below w.heap.size w w' := by
  have hz := zero_modes
  have HI : Hid ((Tryd.prog.info? 49).map (·.size) = some modesA.size) := by show _ = _; kernel_rfl
  have HR : Hid ((w.alloc (.cells modesA 49)).heap[w.heap.size]? = some (.cells modesA 49 (0, 0))) := heap_alloc_new _ _
  have HB : Hid (Below w.heap.size w (w.alloc (.cells modesA 49))) := (Below.refl _ _).alloc (Nat.le_refl _) _
  go_enter Tryd.func19, Tryd.ntmps19
  go_wp2_with fail
  refine bodyPost_ret (results_cell_row Tryd.results19 _ _ w.heap.size 49 modesA (0, 0) _ rfl HR.out Tryd.underlying49 rfl HI.out) rfl ?_
  exact ⟨rfl, HB.out⟩
def modeAt (k : Nat) : Int := if k = 0 then 16384 else if k = 1 then 33188 else if k = 2 then 33261 else if k = 3 then 40960 else 57344
theorem modeAt_ok (k : Nat) : modeOk (modeAt k) = true := by
  unfold modeAt
  split
  · decide
  split
  · decide
  split
  · decide
  split
  · decide
  · decide
theorem modes_at (k : Nat) (h : k < 5) (w : World) : (Instr.index 49 (.agg modesA) (.int .i64 (k : Int))).run Tryd.prog w = .ok (.int .i64 (modeAt k)) w := by
  have : k = 0 ∨ k = 1 ∨ k = 2 ∨ k = 3 ∨ k = 4 := by omega
  rcases this with rfl | rfl | rfl | rfl | rfl <;> (show _ = _; kernel_rfl)
theorem modeOf_at {l : List UInt8} {k : Nat} (h : (digitsL (modeAt k) == l) = true) : modeOf l = modeAt k := by
  rw [← beq_iff_eq.1 h]
  exact (mode_digits (modeAt_ok k)).1
theorem modeOf_no {l : List UInt8} (h : ∀ j, j < 5 → (digitsL (modeAt j) == l) = false) : modeOf l = 0 := by
  have key : ∀ j, j < 5 → ¬ l = digitsL (modeAt j) := fun j hj e => by
    have := h j hj
    rw [e, beq_self_eq_true] at this
    cases this
  have k0 : ¬ l = [52, 48, 48, 48, 48] := key 0 (by omega)
  have k1 : ¬ l = [49, 48, 48, 54, 52, 52] := key 1 (by omega)
  have k2 : ¬ l = [49, 48, 48, 55, 53, 53] := key 2 (by omega)
  have k3 : ¬ l = [49, 50, 48, 48, 48, 48] := key 3 (by omega)
  have k4 : ¬ l = [49, 54, 48, 48, 48, 48] := key 4 (by omega)
  unfold modeOf
  rw [if_neg k0, if_neg k1, if_neg k2, if_neg k3, if_neg k4]
end Go.Proofs.YthemolkmciofaaaDoor
