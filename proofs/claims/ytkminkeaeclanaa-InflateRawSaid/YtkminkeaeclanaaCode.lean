/- One bit; a code, the highest bit first: the walks. -/
import Derived.Test.YtkminkeaeclanaaNumber
namespace Go.Proofs.Ytkminkeaeclanaa
open Go.RowKit Plain
set_option linter.unusedVariables false
theorem Got.lift {w0 : World} {Ob : Nat} {ba : Option Addr} {bn bc N most : Nat} {w : World} {mv : Value} {made : List Int} {r : Except Nat (Nat × Nat)} {e : Ending} {w' : World} (h : Got w0 Ob ba bn bc N most w mv made r e w') :
    (∃ x q, r = .ok (x, q) ∧ e = .returned (.int .i64 (x : Int)) ∧ Turn Ob mv mv w w' ∧ OutL 8 w0 Ob ba bn bc N most w' q mv made) ∨ ∃ n, r = .error n ∧ e = .panicked [{ v := .iface 55 (.agg #[.int .i64 (n : Int)]), recovered := false }] ∧ Turn Ob mv mv w w' := by
  obtain ⟨ht, ⟨x, q, h1, h2, h3⟩ | ⟨n, h1, h2⟩⟩ := h
  · exact .inl ⟨x, q, h1, h2, ht, h3⟩
  · exact .inr ⟨n, h1, h2, ht⟩
set_option maxRecDepth 100000 in
set_option maxHeartbeats 4000000 in
theorem one_any {w0 : World} {Ob : Nat} {ba : Option Addr} {bn bc N most : Nat} {bs : List Int} (HS : SrcB w0 ba bn bc N most bs) (w : World) (p : Nat) (mv : Value) (made : List Int) (H : OutL 8 w0 Ob ba bn bc N most w p mv made) :
    Calls Try.prog 16 #[.pointer (some ⟨Ob, 0, none⟩)] w (Got w0 Ob ba bn bc N most w mv made (num N (8 * bn) p 1)) := by
  have hnum := number_any HS w p mv made H 1 (by omega)
  clear HS H
  go_enter Try.func16, Try.ntmps16
  go_wp2_with fail
  refine hnum.mono ?_
  intro e w2 hgot
  obtain ⟨x, q, hr, rfl, ht, ho⟩ | ⟨k, hr, rfl, ht⟩ := hgot.lift
  · have HG := Lib.hid hgot
    clear hnum hgot hr ht ho
    go_wp2_with fail
    go_ret
    exact HG.out
  · have HG := Lib.hid hgot
    clear hnum hgot hr ht
    go_wp2_with fail
    exact ⟨rfl, HG.out⟩
set_option maxRecDepth 100000 in
set_option maxHeartbeats 4000000 in
theorem reverse_any (x : Nat) (hx : x < 256) (w : World) : Calls Try.prog 52 #[.int .u8 (x : Int)] w fun e w' => e = .returned (.int .u8 (rev 8 x : Nat)) ∧ w = w' := by
  go_enter Try.func52, Try.ntmps52
  go_wp2_with fail
  go_ret
  refine ⟨congrArg Ending.returned (congrArg (Value.int .u8) (congrArg Int.ofNat ?_)), rfl⟩
  rename_i hxi
  clear w
  revert hxi
  revert hx
  revert x
  decide +kernel
end Go.Proofs.Ytkminkeaeclanaa
