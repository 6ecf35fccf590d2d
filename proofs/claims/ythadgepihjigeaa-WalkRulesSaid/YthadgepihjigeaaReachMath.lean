/- What is come to: maths; some numbers behind a row. -/
import Derived.Test.YthadgepihjigeaaRefHeads
namespace Go.Proofs.Ythadgepihjigeaa
open Go.RowKit Plain
set_option linter.unusedVariables false
namespace Plain
/-- Is a node come to? -/
inductive Rch (G : List (List Int)) (F : List Int) : Int → Prop
  | base {v : Int} (h : v ∈ F) : Rch G F v
  | step {x : Nat} {p : Int} (h : Rch G F (x : Int)) (hp : p ∈ row G x) : Rch G F p
/-- What the document's Reach has gathered. -/
structure RefIn (G : List (List Int)) (F : List Int) (i : Nat) (l : List Int) : Prop where
  pre : ∃ add, l = F ++ add ∧ add.Nodup ∧ ∀ v ∈ add, v ∉ F
  node : ∀ v ∈ l, ∃ y : Nat, y < G.length ∧ v = (y : Int)
  rch : ∀ v ∈ l, Rch G F v
  done : ∀ x : Nat, (x : Int) ∈ l.take i → ∀ p ∈ row G x, p ∈ l
theorem RefIn.start {G : List (List Int)} {F : List Int} (h : ∀ v ∈ F, ∃ y : Nat, y < G.length ∧ v = (y : Int)) : RefIn G F 0 F :=
  ⟨⟨[], by simp, List.nodup_nil, by simp⟩, h, fun v hv => .base hv, by simp⟩
theorem RefIn.len {G : List (List Int)} {F : List Int} {i : Nat} {l : List Int} (h : RefIn G F i l) : l.length ≤ F.length + G.length := by
  obtain ⟨add, rfl, h1, h2⟩ := h.pre
  rw [List.length_append]
  have := nodup_len h1 fun v hv => h.node v (List.mem_append_right _ hv)
  omega
theorem RefIn.more {G : List (List Int)} {F : List Int} {i x : Nat} {l : List Int} {p : Int} (h : RefIn G F i l) (hi : i < l.length) (hx : l[i]? = some (x : Int)) (hp : p ∈ row G x) (hn : ∃ y : Nat, y < G.length ∧ p = (y : Int)) (hno : p ∉ l) : RefIn G F i (l ++ [p]) := by
  obtain ⟨add, e, h1, h2⟩ := h.pre
  refine ⟨⟨add ++ [p], by rw [e, List.append_assoc], ?_, ?_⟩, ?_, ?_, ?_⟩
  · rw [List.nodup_append]
    refine ⟨h1, by simp, fun a ha b hb e2 => ?_⟩
    rw [List.mem_singleton] at hb
    subst e2 hb
    exact hno (by rw [e]; exact List.mem_append_right _ ha)
  · intro v hv hF
    rcases List.mem_append.1 hv with hv | hv
    · exact h2 v hv hF
    · rw [List.mem_singleton] at hv
      subst hv
      exact hno (by rw [e]; exact List.mem_append_left _ hF)
  · intro v hv
    rcases List.mem_append.1 hv with hv | hv
    · exact h.node v hv
    · rw [List.mem_singleton.1 hv]; exact hn
  · intro v hv
    rcases List.mem_append.1 hv with hv | hv
    · exact h.rch v hv
    · rw [List.mem_singleton.1 hv]; exact .step (h.rch _ (List.mem_of_getElem? hx)) hp
  · intro y hy q hq
    rw [List.take_append_of_le_length (by omega)] at hy
    exact List.mem_append_left _ (h.done y hy q hq)
theorem RefIn.next {G : List (List Int)} {F : List Int} {i x : Nat} {l : List Int} (h : RefIn G F i l) (hx : l[i]? = some (x : Int)) (hr : ∀ p ∈ row G x, p ∈ l) : RefIn G F (i + 1) l :=
  ⟨h.pre, h.node, h.rch, fun y hy p hp => by
    rw [List.take_add_one, hx] at hy
    rcases List.mem_append.1 hy with hy | hy
    · exact h.done y hy p hp
    · have : y = x := by have := List.mem_singleton.1 hy; omega
      subst this
      exact hr p hp⟩
theorem RefIn.all {G : List (List Int)} {F l : List Int} (h : RefIn G F l.length l) (v : Int) : v ∈ l ↔ Rch G F v := by
  refine ⟨h.rch v, fun hr => ?_⟩
  induction hr with
  | base hv =>
    obtain ⟨add, e, -⟩ := h.pre
    rw [e]; exact List.mem_append_left _ hv
  | @step x p _ hp ih => exact h.done x (by rw [List.take_length]; exact ih) p hp
open Classical in
noncomputable def rchB (G : List (List Int)) (F : List Int) (x : Nat) : Bool := decide (Rch G F (x : Int))
theorem rchB_iff (G : List (List Int)) (F : List Int) (x : Nat) : rchB G F x = true ↔ Rch G F (x : Int) := by
  unfold rchB
  exact @decide_eq_true_iff _ (Classical.propDecidable _)
theorem RefIn.has {G : List (List Int)} {F l : List Int} (h : RefIn G F l.length l) (x : Nat) : hasN l (x : Int) = rchB G F x := by
  rw [Bool.eq_iff_iff, hasN_iff, h.all, rchB_iff]
end Plain
/-- append(v, ys...), v the call's own. -/
theorem append_ints_run (w : World) (ty : TypeId) (base : Nat) (v : Value) (n : Nat) (xs : List Int) (hown : w.ownsRow base 3 1 v n (I64 xs)) (a : Option Addr) (m c : Nat) (ys : List Int) (hi0 : IntsAt w a ys) (hm : ys.length = m) (hnil : a = none → c = 0)
    (hsum : n + m ≤ 100000000) (hbase : base ≤ w.heap.size) :
    ∃ v' w', (Builtin.append_ #[24, 24] ty #[v, .slice a m c]).run Try.prog w = .ok v' w' ∧ w'.ownsRow base 3 1 v' (n + m) (I64 (xs ++ ys)) ∧ w.grownBy w' v.ownBlock := by
  obtain ⟨i, hi, hz0, hz1, hz2⟩ := int_parts
  have key : ∀ x : Addr, (∀ j u, (I64 ys)[j]? = some u → w.cell? (x.add j) = some u) →
      ∃ v' w', (Builtin.append_ #[24, 24] ty #[v, .slice (some x) m c]).run Try.prog w = .ok v' w' ∧ w'.ownsRow base 3 1 v' (n + m) (I64 (xs ++ ys)) ∧ w.grownBy w' v.ownBlock := by
    intro x hx
    obtain ⟨v', w', r1, r2, r3, -⟩ := run_append_own (P := Try.prog) w base 24 ty 3 i (.int .i64 0) 1 8 Try.underlying24 hi hz0 hz1 hz2 rfl (by decide) v n _ hown x m c (I64 ys) (by rw [I64_len]; omega) hx
      (fun u hu => by unfold I64 at hu; obtain ⟨y, -, rfl⟩ := List.mem_map.1 hu; rfl) (by unfold maxLen; omega) (by omega) hbase
    exact ⟨v', w', r1, by unfold I64 at r2 ⊢; rw [List.map_append]; exact r2, r3⟩
  by_cases h0 : m = 0
  · subst h0
    obtain rfl : ys = [] := List.eq_nil_of_length_eq_zero hm
    cases a with
    | none =>
      obtain rfl := hnil rfl
      refine ⟨v, w, run_append_owned_none (P := Try.prog) (w := w) base 24 ty 3 i 1 Try.underlying24 hi v n _ hown, by simpa using hown, ⟨rfl, rfl, rfl, Nat.le_refl _, fun _ _ _ => rfl⟩⟩
    | some x => exact key x (by unfold I64; simp)
  · rcases hi0 with h | ⟨b, off, rfl, hc⟩
    · omega
    · refine key _ fun j u hu => ?_
      have hj : j < ys.length := by
        rcases Nat.lt_or_ge j ys.length with h | h
        · exact h
        · rw [List.getElem?_eq_none (by rw [I64_len]; exact h)] at hu; cases hu
      rw [plain_add, hc j hj, ← I64_at ys j hj, hu]
theorem wpList_append_ints {w : World} {ops : Array Oper} {rest : List Oper} {o : Oper} {ac : Act} {Q : Exit → Act → World → Prop} (hgd : o.guard = none) (s x : Operand)
    (ho : o.op = .call { callee := .builtin .append, args := #[s, x], argTypes := #[24, 24] })
    (base : Nat) (v : Value) (n : Nat) (xs : List Int) (hs : ac.eval s = v) (hown : w.ownsRow base 3 1 v n (I64 xs)) (a : Option Addr) (m c : Nat) (ys : List Int) (hx : ac.eval x = .slice a m c) (hi0 : IntsAt w a ys) (hm : ys.length = m) (hnil : a = none → c = 0)
    (hsum : n + m ≤ 100000000) (hbase : base ≤ w.heap.size)
    (h : ∀ a' c' w', w'.ownsRow base 3 1 (.slice a' (n + m) c') (n + m) (I64 (xs ++ ys)) → w.grownBy w' v.ownBlock → wpList Try.prog ops Q rest (ac.put o.dst (.slice a' (n + m) c')) w') : wpList Try.prog ops Q (o :: rest) ac w := by
  refine wpList_plain hgd fun K hK => ?_
  obtain ⟨v', w', hrun, r1, r2⟩ := append_ints_run w o.type base v n xs hown a m c ys hi0 hm hnil hsum hbase
  obtain ⟨a', c', rfl⟩ := row_form r1
  unfold Oper.wp
  simp [execOp, ho, resolve, invoke, builtin, hs, hx, hrun, Result.andThen]
  exact hK _ _ (h a' c' w' r1 r2)
end Go.Proofs.Ythadgepihjigeaa
