/- What Order's loops keep: maths; the start. -/
import Derived.Test.YthadgepihjigeaaRight
namespace Go.Proofs.Ythadgepihjigeaa
open Go.RowKit Plain
set_option linter.unusedVariables false
namespace Plain
/-- The first loop: k nodes are seen, of the next one j parents. -/
structure One (G : List (List Int)) (n k j : Nat) (op : List Int) (ch : List (List Int)) (hp : List Int) : Prop where
  op : ∀ x, x < n → op[x]? = some (if x < k ∨ (x = k ∧ 0 < j) then ((row G x).length : Int) else 0)
  ch : ∀ p, p < n → ch[p]? = some (chTo G (p : Int) k ++ List.replicate (((row G k).take (j - 1)).count (p : Int)) (k : Int))
  nodup : hp.Nodup
  mem : ∀ v, v ∈ hp ↔ ∃ y : Nat, y < k ∧ v = (y : Int) ∧ row G y = []
  ok : HeapOk hp
theorem One.start (G : List (List Int)) (n : Nat) : One G n 0 0 (List.replicate n 0) (List.replicate n []) [] := by
  refine ⟨fun x hx => ?_, fun p hp => ?_, List.nodup_nil, fun v => ?_, fun i h0 hi => by simp at hi⟩
  · rw [List.getElem?_replicate, if_pos hx]
    simp
  · rw [List.getElem?_replicate, if_pos hp]
    simp [chTo]
  · simp
/-- The node's number of parents is laid down. -/
theorem One.open_ {G : List (List Int)} {n k : Nat} {op : List Int} {ch : List (List Int)} {hp : List Int} (h : One G n k 0 op ch hp) (hk : k < n) (hl : op.length = n) : One G n k 1 (op.set k ((row G k).length : Int)) ch hp := by
  refine ⟨fun x hx => ?_, fun p hp => h.ch p hp, h.nodup, h.mem, h.ok⟩
  by_cases hxk : x = k
  · subst hxk
    rw [List.getElem?_set_self (by omega), if_pos (.inr ⟨rfl, by omega⟩)]
  · rw [List.getElem?_set_ne (Ne.symm hxk), h.op x hx]
    by_cases hlt : x < k
    · rw [if_pos (.inl hlt), if_pos (.inl hlt)]
    · rw [if_neg (by omega), if_neg (by omega)]
/-- One parent more. -/
theorem One.parent {G : List (List Int)} {n k j q : Nat} {op : List Int} {ch : List (List Int)} {hp l : List Int} (h : One G n k (j + 1) op ch hp) (hj : (row G k)[j]? = some (q : Int)) (hq : q < n) (hl : ch[q]? = some l) (hlc : ch.length = n) :
    One G n k (j + 2) op (ch.set q (l ++ [(k : Int)])) hp := by
  refine ⟨fun x hx => ?_, fun p hp => ?_, h.nodup, h.mem, h.ok⟩
  · rw [h.op x hx]
    by_cases hlt : x < k ∨ (x = k ∧ 0 < j + 1)
    · rw [if_pos hlt, if_pos (by omega)]
    · rw [if_neg hlt, if_neg (by omega)]
  · have h1 := h.ch p hp
    have e : (row G k).take (j + 2 - 1) = (row G k).take (j + 1 - 1) ++ [(q : Int)] := by
      show (row G k).take (j + 1) = (row G k).take j ++ [(q : Int)]
      rw [List.take_add_one, hj]
      rfl
    rw [e, List.count_append, List.count_singleton]
    by_cases hpq : p = q
    · subst hpq
      rw [List.getElem?_set_self (by omega)]
      rw [hl] at h1
      injection h1 with h1
      rw [h1, List.append_assoc]
      have : ((p : Int) == (p : Int)) = true := by simp
      rw [this, if_pos rfl, ← List.replicate_succ']
    · rw [List.getElem?_set_ne (Ne.symm hpq), h1]
      have : ((q : Int) == (p : Int)) = false := beq_eq_false_iff_ne.2 (by omega)
      rw [this, if_neg Bool.false_ne_true]
      rfl
/-- All its parents seen. -/
theorem One.close {G : List (List Int)} {n k : Nat} {op : List Int} {ch : List (List Int)} {hp : List Int} (h : One G n k ((row G k).length + 1) op ch hp) :
    ((row G k).length ≠ 0 → One G n (k + 1) 0 op ch hp) ∧ ((row G k).length = 0 → ∀ ys : List Int, ys.Perm (hp ++ [(k : Int)]) → HeapOk ys → One G n (k + 1) 0 op ch ys) := by
  have hop : ∀ x, x < n → op[x]? = some (if x < k + 1 ∨ (x = k + 1 ∧ 0 < 0) then ((row G x).length : Int) else 0) := fun x hx => by
    rw [h.op x hx]
    by_cases hlt : x < k + 1
    · rw [if_pos (by omega), if_pos (.inl hlt)]
    · rw [if_neg (by omega), if_neg (by omega)]
  have hch : ∀ p, p < n → ch[p]? = some (chTo G (p : Int) (k + 1) ++ List.replicate (((row G (k + 1)).take (0 - 1)).count (p : Int)) ((k + 1 : Nat) : Int)) := fun p hp => by
    rw [h.ch p hp]
    have e : (row G k).take ((row G k).length + 1 - 1) = row G k := List.take_of_length_le (by omega)
    rw [e, chTo]
    simp
  constructor
  · intro h0
    refine ⟨hop, hch, h.nodup, fun v => ?_, h.ok⟩
    rw [h.mem v]
    constructor
    · rintro ⟨y, h1, h2, h3⟩
      exact ⟨y, by omega, h2, h3⟩
    · rintro ⟨y, h1, h2, h3⟩
      refine ⟨y, ?_, h2, h3⟩
      rcases Nat.lt_or_ge y k with h4 | h4
      · exact h4
      · have : y = k := by omega
        subst this
        rw [h3] at h0
        exact absurd rfl h0
  · intro h0 ys hp2 hok
    have hrk : row G k = [] := List.eq_nil_of_length_eq_zero h0
    refine ⟨hop, hch, ?_, fun v => ?_, hok⟩
    · refine hp2.nodup_iff.2 ?_
      rw [List.nodup_append]
      refine ⟨h.nodup, by simp, ?_⟩
      intro a ha b hb e
      rw [List.mem_singleton] at hb
      subst e hb
      obtain ⟨y, h1, h2, -⟩ := (h.mem _).1 ha
      omega
    · rw [hp2.mem_iff, List.mem_append, List.mem_singleton, h.mem v]
      constructor
      · rintro (⟨y, h1, h2, h3⟩ | rfl)
        · exact ⟨y, by omega, h2, h3⟩
        · exact ⟨k, by omega, rfl, hrk⟩
      · rintro ⟨y, h1, h2, h3⟩
        rcases Nat.lt_or_ge y k with h4 | h4
        · exact .inl ⟨y, h4, h2, h3⟩
        · have : y = k := by omega
          subst this
          exact .inr h2
theorem chTo_len (G : List (List Int)) (p : Int) (m : Nat) (hm : ∀ x, (row G x).length ≤ m) : ∀ k, (chTo G p k).length ≤ m * k
  | 0 => by simp [chTo]
  | k + 1 => by
    rw [chTo, List.length_append, List.length_replicate, Nat.mul_succ]
    have h1 := chTo_len G p m hm k
    have h2 : (row G k).count p ≤ (row G k).length := List.count_le_length
    have h3 := hm k
    omega
theorem nodup_len {hp : List Int} {n : Nat} (h : hp.Nodup) (hm : ∀ v ∈ hp, ∃ y : Nat, y < n ∧ v = (y : Int)) : hp.length ≤ n := by
  have h1 : hp ⊆ (List.range n).map (fun i : Nat => (i : Int)) := fun v hv => by
    obtain ⟨y, hy, rfl⟩ := hm v hv
    exact List.mem_map.2 ⟨y, List.mem_range.2 hy, rfl⟩
  have h2 := List.Nodup.length_le_of_subset h h1
  simpa using h2
theorem run_some {G : List (List Int)} : ∀ (f : Nat) (o r : List Int), Pre G o → run G f o = some r → Pre G r ∧ r.length = G.length
  | 0, o, r, h, hr => by
    rw [run] at hr
    split at hr
    · injection hr with hr
      subst hr
      exact ⟨h, by have := h.run.1; omega⟩
    · cases hr
  | f + 1, o, r, h, hr => by
    rw [run] at hr
    split at hr
    · injection hr with hr
      subst hr
      exact ⟨h, by have := h.run.1; omega⟩
    · cases hx : next G o with
      | none => rw [hx] at hr; cases hr
      | some x =>
        rw [hx] at hr
        exact run_some f _ r (.cons h (by omega) hx) hr
theorem order_some {G : List (List Int)} {o : List Int} (h : orderN G = some o) : Pre G o ∧ o.length = G.length := run_some _ _ _ .nil h
/-- Nodes whose parents aren't all nodes are in no order. -/
theorem order_right {G : List (List Int)} {o : List Int} (h : Pre G o) (hl : o.length = G.length) : ∀ x, x < G.length → ∀ p ∈ row G x, ∃ y : Nat, y < G.length ∧ p = (y : Int) := by
  obtain ⟨f1, f2, f3⟩ := h.facts
  have hall : ∀ x : Nat, x < G.length → (x : Int) ∈ o := fun x hx => by
    refine Classical.byContradiction fun hno => ?_
    have h1 : ((x : Int) :: o).length ≤ G.length := nodup_len (by rw [List.nodup_cons]; exact ⟨hno, f1⟩) fun v hv => by
      rcases List.mem_cons.1 hv with rfl | hv
      · exact ⟨x, hx, rfl⟩
      · exact f2 v hv
    rw [List.length_cons] at h1
    omega
  intro x hx p hp
  exact f2 p (f3 x (hall x hx) p hp)
end Plain
theorem right_rows {n : Nat} {G : List (List Int)} (hn : G.length = n) : rightG n G = true ↔ ∀ x, x < n → ∀ p ∈ row G x, ∃ y : Nat, y < n ∧ p = (y : Int) := by
  unfold rightG
  rw [List.all_eq_true]
  constructor
  · intro h x hx p hp
    have hr : G[x]? = some (row G x) := by
      unfold row
      rw [List.getElem?_eq_getElem (by omega)]
      rfl
    have h1 := List.all_eq_true.1 (h _ (List.mem_of_getElem? hr)) p hp
    unfold inG at h1
    rw [Bool.and_eq_true, decide_eq_true_eq, decide_eq_true_eq] at h1
    exact ⟨p.toNat, by omega, by omega⟩
  · intro h l hl
    obtain ⟨x, hx, rfl⟩ := List.mem_iff_getElem.1 hl
    rw [List.all_eq_true]
    intro p hp
    have hr : row G x = G[x] := by
      unfold row
      rw [List.getElem?_eq_getElem hx]
      rfl
    obtain ⟨y, hy, rfl⟩ := h x (by omega) p (by rw [hr]; exact hp)
    unfold inG
    simp
    omega
end Go.Proofs.Ythadgepihjigeaa
