/- Raw takes no more than there is. -/
import Derived.Test.YtkminkeaeclanaaShift
import Derived.Test.YtkminkeaeclanaaRowB
namespace Go.Proofs.Ytkminkeaeclanaa
set_option linter.unusedVariables false
namespace Plain
theorem rawGo_last {bs : List Int} {N most : Nat} : ∀ (f p : Nat) (made : List Int) (q : Nat) (m : List Int), rawGo bs N (8 * bs.length) most f p made = .ok (q, m) → p < q ∧ q ≤ 8 * bs.length
  | 0, p, made, q, m, h => by rw [rawGo] at h; cases h
  | f + 1, p, made, q, m, h => by
    rw [rawGo_step] at h
    cases hs : stepR bs N (8 * bs.length) most p made with
    | error e => rw [hs] at h; cases h
    | ok v =>
      obtain ⟨l, r, m2⟩ := v
      have h1 := stepR_adv hs
      rw [hs] at h
      simp only [contR] at h
      split at h
      · have := rawGo_last f r m2 q m h; omega
      · injection h with h; injection h with h _; omega
theorem raw_last {bs : List Int} {most q : Nat} {m : List Int} (h : rawOf bs most = .ok (q, m)) : 0 < q ∧ q ≤ 8 * bs.length := rawGo_last _ _ _ q m h
end Plain
open Go.RowKit Plain
theorem wpList_append_to {w : World} {ops : Array Oper} {rest : List Oper} {o : Oper} {ac : Act} {Q : Exit → Act → World → Prop} (hgd : o.guard = none) (s x : Operand) (tx : TypeId)
    (ho : o.op = .call { callee := .builtin .append, args := #[s, x], argTypes := #[22, tx] })
    (base : Nat) (v : Value) (n : Nat) (xs : List Int) (hs : ac.eval s = v) (hown : Mid w base v n xs) (xv : Value) (m : Nat) (ys : List Int) (hx : ac.eval x = xv) (hsrc : Src Try.prog 1 tx xv m (U8 ys) w)
    (n2 : Nat) (zs : List Int) (hn2 : n + m = n2) (hzs : xs ++ ys = zs) (hsum : n2 ≤ 70368744177664) (hbase : base ≤ w.heap.size)
    (h : ∀ a' c' w', Mid w' base (.slice a' n2 c') n2 zs → Below base w w' → wpList Try.prog ops Q rest (ac.put o.dst (.slice a' n2 c')) w') : wpList Try.prog ops Q (o :: rest) ac w := by
  subst hn2 hzs
  refine wpList_append_mid hgd s x tx ho base v n xs hs hown xv m ys hx hsrc hsum hbase fun v' w' hm hg ho => ?_
  obtain ⟨a, c, rfl, -⟩ := hm.shape
  exact h a c w' hm (hown.off hbase hg)
theorem run_min2 {P : Program} (ts : Array TypeId) (t : TypeId) (k k1 : IntKind) (x y : Int) (w : World) : (Builtin.min_ ts t #[.int k x, .int k1 y]).run P w = .ok (.int k (min x y)) w := by
  have e : ∀ p q : Int, (if q < p then q else p) = min p q := fun p q => by split <;> omega
  simp [Builtin.min_, Builtin.min2, e]
theorem RowB.mem {w : World} {a : Option Addr} {n c : Nat} {xs : List Int} (h : RowB w a n c xs) : ∀ x ∈ xs, 0 ≤ x ∧ x ≤ 255 := mem_of_getD h.range
end Go.Proofs.Ytkminkeaeclanaa
