/- TreeBack: the walk. -/
import Derived.Test.YthemolkmciofaaaDoorTrKnown
namespace Go.Proofs.YthemolkmciofaaaDoor
open Go.RowKit Plain
set_option linter.unusedVariables false
set_option linter.unusedSimpArgs false
theorem tas_n (n : Nat) (ys : List TE) (hn : ys.length = n) (hb : n ≤ 1000000) (a : Option Addr) (c : Nat) (w : World) (h : EsAt w a ys) :
    Calls Tryd.prog 9 #[.slice a n c] w fun e w' => (∃ v, e = .returned v ∧ OwnE 33 w' w.heap.size v ys) ∧ Below w.heap.size w w' := by
  subst hn; exact as_any a c ys w h hb
theorem tsame_n (n : Nat) (ys : List TE) (hn : ys.length = n) (hb : n ≤ 1000000) (a1 a2 : Option Addr) (c1 c2 : Nat) (w : World) (h1 : EsAt w a1 ys) (h2 : EsAt w a2 ys) :
    Calls Tryd.prog 11 #[.slice a1 n c1, .slice a2 n c2] w fun e w' => e = .returned (.bool true) ∧ Below w.heap.size w w' := by
  subst hn; exact same_any a1 a2 c1 c2 ys w h1 h2 hb
theorem tprint_n (n : Nat) (ys : List TE) (hn : ys.length = n) (hb : n ≤ 100000) (a : Option Addr) (c : Nat) (w : World) (h : EsAt w a ys) (hgf : ∀ x ∈ ys, GoodE x) (hps : ∀ x ∈ ys, x.p.size ≤ 100000) (hE : Env w) :
    Calls Tryd.prog 12 #[.slice a n c] w fun e w' => TrPrint e w' ys ∧ Below w.heap.size w w' := by
  subst hn; exact tprint_any a c ys w h hb hgf hps hE
theorem tright_n (n : Nat) (ys : List TE) (hn : ys.length = n) (hb : n ≤ 1000000) (a : Option Addr) (c : Nat) (w : World) (h : EsAt w a ys) (hps : ∀ x ∈ ys, x.p.size ≤ 100000) :
    Calls Tryd.prog 10 #[.slice a n c] w fun e w' => e = .returned (.bool (rightT ys)) ∧ Below w.heap.size w w' := by
  subst hn; exact tright_any a c ys w h hb hps
theorem few_small (x : TE) : (fewE x).p.size ≤ 100000 := by
  show (x.p.extract 0 (min x.p.size 300)).size ≤ _
  simp; omega
theorem EsAt.take {w : World} {a : Option Addr} {xs : List TE} (h : EsAt w a xs) (k : Nat) : EsAt w a (xs.take k) := by
  refine ⟨fun x hx => h.each x (List.mem_of_mem_take hx), ?_⟩
  rcases h.rows with h0 | ⟨b, off, rfl, hl, hc⟩
  · exact .inl (by rw [List.length_take]; omega)
  · refine .inr ⟨b, off, rfl, hl, fun j x hj => hc j x ?_⟩
    by_cases hjk : j < k
    · rwa [List.getElem?_take_of_lt hjk] at hj
    · rw [List.getElem?_eq_none (by rw [List.length_take]; omega)] at hj; cases hj
theorem slice_toE (a : Option Addr) (m cap hi : Nat) (h2 : hi ≤ cap) (w : World) :
    (Instr.sliceAt 23 (.slice a m cap) none (some (.int .i64 (hi : Int))) none).run Tryd.prog w = .ok (.slice a hi cap) w := by
  have hsz : ∀ W : World, (sizeOf (Tryd.prog.elem 23)).run Tryd.prog W = .ok 22 W := fun W => by kernel_rfl
  have h0 : ∀ x : Addr, x.add 0 = x := fun x => by unfold Addr.add; simp
  rw [run_sliceAt_slice w 23 _ _ _ _ (by kernel_rfl), run_slice_h w 23 a m cap (by kernel_rfl) .i64 (hi : Int) (by omega) (by omega), hsz]
  simp [Result.andThen_ok, sliced, h0]
theorem yieldsIf_slice_to {P : Program} {ops : Array Oper} {S : World → Prop} {op : Oper} {a : Act} (hw : Region.wanted op (yielded ops a.tmps) = true) (ty : TypeId) (x hi : Operand) (ho : op.op = .slice ty x none (some hi) none)
    (u uh : Value) (h1 : a.eval x = u) (h2 : a.eval hi = uh) (v : Value) (hr : ∀ W, (Instr.sliceAt ty u none (some uh) none).run P W = .ok v W) : YieldsIf P ops S op v a := by
  refine .inl ⟨hw, fun W hS => ?_⟩
  unfold execOp
  simp [ho, h1, h2, hr]
theorem neq_self (s : ByteArray) (W : World) : (binOp .neq 9 (.string s) (.string s)).run Tryd.prog W = .ok (.bool false) W :=
  ne_str s s true (beq_self_eq_true _) W
theorem mod_is (t : Nat) (z : Int) (ht : t ≤ 1000000) : ∃ k : Nat, (wrap64 ((IntKind.u64.wrap z).tmod ((t : Int) + 1)) = (k : Int) ∧ wrap64 ((IntKind.u64.wrap z).tmod ((t + 1 : Nat) : Int)) = (k : Int)) ∧ k ≤ t := by
  have h0 : 0 ≤ IntKind.u64.wrap z := by rw [IntKind.wrap_u64]; omega
  generalize IntKind.u64.wrap z = u at *
  have e : ((t + 1 : Nat) : Int) = (t : Int) + 1 := by omega
  rw [e, Int.tmod_eq_emod_of_nonneg h0]
  have h1 := Int.emod_nonneg u (show (t : Int) + 1 ≠ 0 by omega)
  have h2 := Int.emod_lt_of_pos u (show (0 : Int) < (t : Int) + 1 by omega)
  rw [IntWalk.wrap64_in _ (by omega)]
  exact ⟨(u % ((t : Int) + 1)).toNat, ⟨by omega, by omega⟩, by omega⟩
theorem u64_succ (t : Nat) (ht : t ≤ 1000000) : IntKind.u64.wrap ((t : Int) + 1) = (t : Int) + 1 := by rw [IntKind.wrap_u64]; omega
theorem u64_succ2 (t : Nat) (ht : t ≤ 1000000) : IntKind.u64.wrap ((t + 1 : Nat) : Int) = (t : Int) + 1 := by rw [IntKind.wrap_u64]; omega
end Go.Proofs.YthemolkmciofaaaDoor
