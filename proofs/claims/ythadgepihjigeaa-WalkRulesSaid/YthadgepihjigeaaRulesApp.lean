/- append(v, rows...), v the call's own; a graph that is the call's own and a row more. -/
import Derived.Test.YthadgepihjigeaaRulesMath
namespace Go.Proofs.Ythadgepihjigeaa
open Go.RowKit Plain
set_option linter.unusedVariables false
theorem append_rows_run (w : World) (ty : TypeId) (base : Nat) (v : Value) (n : Nat) (xs : List Value) (hown : w.ownsRow base 24 1 v n xs) (a : Option Addr) (m c : Nat) (ps : List Rw) (hi0 : m = 0 ∨ ∃ b off, a = some ⟨b, off, none⟩ ∧ ∀ j p, ps[j]? = some p → w.cell? ⟨b, off + j, none⟩ = some (hdr p)) (hm : ps.length = m) (hnil : a = none → c = 0)
    (hsum : n + m ≤ 100000000) (hbase : base ≤ w.heap.size) :
    ∃ v' w', (Builtin.append_ #[22, 22] ty #[v, .slice a m c]).run Try.prog w = .ok v' w' ∧ w'.ownsRow base 24 1 v' (n + m) (xs ++ ps.map hdr) ∧ w.grownBy w' v.ownBlock := by
  obtain ⟨i, hi, hz0, hz1, hz2⟩ := row_parts
  have key : ∀ x : Addr, (∀ j u, (ps.map hdr)[j]? = some u → w.cell? (x.add j) = some u) →
      ∃ v' w', (Builtin.append_ #[22, 22] ty #[v, .slice (some x) m c]).run Try.prog w = .ok v' w' ∧ w'.ownsRow base 24 1 v' (n + m) (xs ++ ps.map hdr) ∧ w.grownBy w' v.ownBlock := by
    intro x hx
    obtain ⟨v', w', r1, r2, r3, -⟩ := run_append_own (P := Try.prog) w base 22 ty 24 i (.slice none 0 0) 1 24 Try.underlying22 hi hz0 hz1 hz2 rfl (by decide) v n _ hown x m c (ps.map hdr) (by rw [List.length_map]; omega) hx
      (fun u hu => by obtain ⟨y, -, rfl⟩ := List.mem_map.1 hu; rfl) (by unfold maxLen; omega) (by omega) hbase
    exact ⟨v', w', r1, r2, r3⟩
  by_cases h0 : m = 0
  · subst h0
    obtain rfl : ps = [] := List.eq_nil_of_length_eq_zero hm
    cases a with
    | none =>
      obtain rfl := hnil rfl
      refine ⟨v, w, run_append_owned_none (P := Try.prog) (w := w) base 22 ty 24 i 1 Try.underlying22 hi v n _ hown, by simpa using hown, ⟨rfl, rfl, rfl, Nat.le_refl _, fun _ _ _ => rfl⟩⟩
    | some x => exact key x (by simp)
  · rcases hi0 with h | ⟨b, off, rfl, hc⟩
    · omega
    · refine key _ fun j u hu => ?_
      rw [List.getElem?_map] at hu
      cases hp : ps[j]? with
      | none => rw [hp] at hu; cases hu
      | some p =>
        rw [hp] at hu
        injection hu with hu
        subst hu
        rw [plain_add]
        exact hc j p hp
theorem wpList_append_rows {w : World} {ops : Array Oper} {rest : List Oper} {o : Oper} {ac : Act} {Q : Exit → Act → World → Prop} (hgd : o.guard = none) (s x : Operand)
    (ho : o.op = .call { callee := .builtin .append, args := #[s, x], argTypes := #[22, 22] })
    (base : Nat) (v : Value) (n : Nat) (xs : List Value) (hs : ac.eval s = v) (hown : w.ownsRow base 24 1 v n xs) (a : Option Addr) (m c : Nat) (ps : List Rw) (hx : ac.eval x = .slice a m c) (hi0 : m = 0 ∨ ∃ b off, a = some ⟨b, off, none⟩ ∧ ∀ j p, ps[j]? = some p → w.cell? ⟨b, off + j, none⟩ = some (hdr p)) (hm : ps.length = m) (hnil : a = none → c = 0)
    (hsum : n + m ≤ 100000000) (hbase : base ≤ w.heap.size)
    (h : ∀ a' c' w', w'.ownsRow base 24 1 (.slice a' (n + m) c') (n + m) (xs ++ ps.map hdr) → w.grownBy w' v.ownBlock → wpList Try.prog ops Q rest (ac.put o.dst (.slice a' (n + m) c')) w') : wpList Try.prog ops Q (o :: rest) ac w := by
  refine wpList_plain hgd fun K hK => ?_
  obtain ⟨v', w', hrun, r1, r2⟩ := append_rows_run w o.type base v n xs hown a m c ps hi0 hm hnil hsum hbase
  obtain ⟨a', c', rfl⟩ := row_form r1
  unfold Oper.wp
  simp [execOp, ho, resolve, invoke, builtin, hs, hx, hrun, Result.andThen]
  exact hK _ _ (h a' c' w' r1 r2)
/-- An own row of rows, each of which can be read, is a graph. -/
theorem own_graph {w : World} {base n c : Nat} {a : Option Addr} {ps : List Rw} (h : w.ownsRow base 24 1 (.slice a n c) n (ps.map hdr)) (hp : ∀ p ∈ ps, IntsAt w p.a p.xs) : Graph w a n ps := by
  have hl : ps.length = n := by have := h.1; rw [List.length_map] at this; omega
  refine ⟨hl, ?_, hp⟩
  by_cases h0 : n = 0
  · exact .inl h0
  · obtain ⟨g, cap, hf, -, -⟩ := h.form (by omega)
    simp only [Value.slice.injEq, true_and] at hf
    obtain ⟨rfl, rfl⟩ := hf
    refine .inr ⟨g, 0, rfl, fun j p hj => ?_⟩
    have hjl : j < ps.length := (List.getElem?_eq_some_iff.1 hj).1
    rw [Nat.zero_add, h.cellAt j (by omega), List.getElem?_map, hj]
    rfl
end Go.Proofs.Ythadgepihjigeaa
