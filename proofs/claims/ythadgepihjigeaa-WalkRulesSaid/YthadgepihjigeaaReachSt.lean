/- Reach: what is marked and what is open: maths. -/
import Derived.Test.YthadgepihjigeaaCome
namespace Go.Proofs.Ythadgepihjigeaa
open Go.RowKit Plain
set_option linter.unusedVariables false
namespace Plain
def mkd (ms : List Bool) (y : Nat) : Bool := ms[y]?.getD false
theorem mkd_some {ms : List Bool} {y : Nat} (h : y < ms.length) : ms[y]? = some (mkd ms y) := by
  unfold mkd
  rw [List.getElem?_eq_getElem h]
  rfl
theorem mkd_set {ms : List Bool} {x : Nat} (h : x < ms.length) (y : Nat) : mkd (ms.set x true) y = true ↔ mkd ms y = true ∨ y = x := by
  unfold mkd
  by_cases e : y = x
  · subst e
    rw [List.getElem?_set_self h]
    simp
  · rw [List.getElem?_set_ne (Ne.symm e)]
    simp [e]
theorem count_set {ms : List Bool} : ∀ {x : Nat}, ms[x]? = some false → (ms.set x true).count false + 1 = ms.count false := by
  induction ms with
  | nil => intro x h; cases h
  | cons b ms ih =>
    intro x h
    cases x with
    | zero =>
      have e : b = false := by simpa using h
      subst e
      simp
    | succ x =>
      have h' : ms[x]? = some false := by simpa using h
      have := ih h'
      rw [List.set_cons_succ, List.count_cons, List.count_cons]
      omega
/-- What is marked is come to; the open ones are marked; the others' parents are marked, but for those that are excused. -/
structure RS (G : List (List Int)) (F : List Int) (n : Nat) (ms : List Bool) (xs : List Int) (ex : Nat → Prop) : Prop where
  len : ms.length = n
  rch : ∀ y, mkd ms y = true → Rch G F (y : Int)
  opn : ∀ v ∈ xs, ∃ y : Nat, y < n ∧ v = (y : Int) ∧ mkd ms y = true
  clo : ∀ y, mkd ms y = true → (y : Int) ∈ xs ∨ ex y ∨ ∀ z : Nat, (z : Int) ∈ row G y → mkd ms z = true
theorem RS.start (G : List (List Int)) (F : List Int) (n : Nat) : RS G F n (List.replicate n false) [] (fun _ => False) := by
  have h : ∀ y, ¬ mkd (List.replicate n false) y = true := fun y => by
    unfold mkd
    rw [List.getElem?_replicate]
    split <;> simp
  exact ⟨by simp, fun y hy => absurd hy (h y), by simp, fun y hy => absurd hy (h y)⟩
theorem RS.come {G : List (List Int)} {F : List Int} {n : Nat} {ms : List Bool} {xs : List Int} {ex : Nat → Prop} (h : RS G F n ms xs ex) {x : Nat} (hx : x < n) (hr : Rch G F (x : Int)) {b : Bool} (hb : mkd ms x = b) :
    RS G F n (if b then ms else ms.set x true) (if b then xs else xs ++ [(x : Int)]) ex ∧ mkd (if b then ms else ms.set x true) x = true ∧ (∀ y, mkd ms y = true → mkd (if b then ms else ms.set x true) y = true) ∧
    2 * (if b then ms else ms.set x true).count false + (if b then xs else xs ++ [(x : Int)]).length ≤ 2 * ms.count false + xs.length := by
  have hl := h.len
  cases b with
  | true => exact ⟨h, hb, fun y hy => hy, Nat.le_refl _⟩
  | false =>
    have hs := fun y => mkd_set (ms := ms) (x := x) (by omega) y
    have hc := count_set (ms := ms) (x := x) (by rw [mkd_some (by omega), hb])
    refine ⟨⟨by show (ms.set x true).length = n; rw [List.length_set]; exact hl, fun y hy => ?_, fun v hv => ?_, fun y hy => ?_⟩, (hs x).2 (.inr rfl), fun y hy => (hs y).2 (.inl hy), ?_⟩
    · rcases (hs y).1 hy with hy | rfl
      · exact h.rch y hy
      · exact hr
    · rcases List.mem_append.1 hv with hv | hv
      · obtain ⟨y, h1, h2, h3⟩ := h.opn v hv
        exact ⟨y, h1, h2, (hs y).2 (.inl h3)⟩
      · exact ⟨x, hx, List.mem_singleton.1 hv, (hs x).2 (.inr rfl)⟩
    · rcases (hs y).1 hy with hy | rfl
      · rcases h.clo y hy with h1 | h1 | h1
        · exact .inl (List.mem_append_left _ h1)
        · exact .inr (.inl h1)
        · exact .inr (.inr fun z hz => (hs z).2 (.inl (h1 z hz)))
      · exact .inl (List.mem_append_right _ (List.mem_singleton.2 rfl))
    · show 2 * (ms.set x true).count false + (xs ++ [(x : Int)]).length ≤ _
      rw [List.length_append, List.length_singleton]
      omega
theorem RS.pop {G : List (List Int)} {F : List Int} {n : Nat} {ms : List Bool} {xs : List Int} (h : RS G F n ms xs (fun _ => False)) {l x : Nat} (hl : xs.length = l + 1) (hx : xs[l]? = some (x : Int)) : RS G F n ms (xs.take l) (fun y => y = x) := by
  have e : xs = xs.take l ++ [(x : Int)] := by
    have h1 : xs.take (l + 1) = xs.take l ++ [(x : Int)] := by rw [List.take_add_one, hx]; rfl
    rw [← h1, List.take_of_length_le (by omega)]
  refine ⟨h.len, h.rch, fun v hv => h.opn v (List.mem_of_mem_take hv), fun y hy => ?_⟩
  rcases h.clo y hy with h1 | h1 | h1
  · rw [e] at h1
    rcases List.mem_append.1 h1 with h1 | h1
    · exact .inl h1
    · exact .inr (.inl (by have := List.mem_singleton.1 h1; omega))
  · exact h1.elim
  · exact .inr (.inr h1)
theorem RS.close {G : List (List Int)} {F : List Int} {n : Nat} {ms : List Bool} {xs : List Int} {x : Nat} (h : RS G F n ms xs (fun y => y = x)) (hx : ∀ z : Nat, (z : Int) ∈ row G x → mkd ms z = true) : RS G F n ms xs (fun _ => False) :=
  ⟨h.len, h.rch, h.opn, fun y hy => by
    rcases h.clo y hy with h1 | rfl | h1
    · exact .inl h1
    · exact .inr (.inr hx)
    · exact .inr (.inr h1)⟩
theorem RS.all {G : List (List Int)} {F : List Int} {n : Nat} {ms : List Bool} (h : RS G F n ms [] (fun _ => False)) (hF : ∀ z : Nat, (z : Int) ∈ F → mkd ms z = true) (hr : ∀ x, ∀ p ∈ row G x, ∃ y : Nat, p = (y : Int)) (hN : ∀ v ∈ F, ∃ y : Nat, v = (y : Int)) (x : Nat) : mkd ms x = rchB G F x := by
  rw [Bool.eq_iff_iff, rchB_iff]
  refine ⟨h.rch x, fun hx => ?_⟩
  have key : ∀ v, Rch G F v → ∀ z : Nat, v = (z : Int) → mkd ms z = true := by
    intro v hv
    induction hv with
    | base hv => intro z hz; subst hz; exact hF z hv
    | @step x p _ hp ih =>
      intro z hz
      subst hz
      rcases h.clo x (ih x rfl) with h1 | h1 | h1
      · cases h1
      · exact h1.elim
      · exact h1 z hp
  exact key _ hx x rfl
end Plain
/-- How much is left to do. -/
def freeN (w : World) (M : Nat) : Nat := match w.heap[M]? with
  | some (.cells cs _ _) => cs.toList.countP (fun v => match v with | .bool false => true | _ => false)
  | _ => 0
def leftN (w : World) (M B2 : Nat) : Nat := 2 * freeN w M + lenV ((w.cell? ⟨B2, 0, none⟩).getD (.slice none 0 0))
theorem countP_bools (ms : List Bool) : (B1 ms).countP (fun v => match v with | .bool false => true | _ => false) = ms.count false := by
  unfold B1
  induction ms with
  | nil => rfl
  | cons b ms ih =>
    rw [List.map_cons, List.countP_cons, List.count_cons, ih]
    cases b <;> rfl
theorem Opn.left {w : World} {base M B1 B2 n : Nat} {ms : List Bool} {v : Value} {xs : List Int} (h : Opn w base M B1 B2 n ms v xs) : leftN w M B2 = 2 * ms.count false + xs.length := by
  unfold leftN
  rw [h.hv.cell, Option.getD_some]
  obtain ⟨a, c, rfl⟩ := row_form h.hv.row
  congr 1
  unfold freeN
  rcases h.marks.2.2 with ⟨e, -⟩ | ⟨g, cap, cur, e, -, h1, -, -, h2, h3⟩
  · cases e
  · simp only [Value.slice.injEq, Option.some.injEq, Addr.mk.injEq, and_true, true_and] at e
    obtain ⟨rfl, rfl⟩ := e
    rw [h1]
    rw [List.take_of_length_le (by rw [Array.length_toList]; omega)] at h3
    show 2 * cur.toList.countP _ = _
    rw [h3, countP_bools]
end Go.Proofs.Ythadgepihjigeaa
