/- Orders of graphs: maths. -/
import Derived.Test.YthadgepihjigeaaHeapMath
namespace Go.Proofs.Ythadgepihjigeaa
set_option linter.unusedVariables false
namespace Plain
/-- A node's parents. -/
def row (G : List (List Int)) (x : Nat) : List Int := G[x]?.getD []
/-- A node that isn't told yet, but its parents are. -/
def ready (G : List (List Int)) (o : List Int) (x : Nat) : Prop := (x : Int) ∉ o ∧ ∀ p ∈ row G x, p ∈ o
instance (G : List (List Int)) (o : List Int) (x : Nat) : Decidable (ready G o x) := by unfold ready; infer_instance
def next (G : List (List Int)) (o : List Int) : Option Nat := (List.range G.length).find? fun x => decide (ready G o x)
theorem next_some {G : List (List Int)} {o : List Int} {x : Nat} : next G o = some x ↔ ready G o x ∧ x < G.length ∧ ∀ y, y < x → ¬ ready G o y := by
  unfold next
  rw [List.find?_range_eq_some]
  simp
theorem next_none {G : List (List Int)} {o : List Int} : next G o = none ↔ ∀ x, x < G.length → ¬ ready G o x := by
  unfold next
  rw [List.find?_eq_none]
  simp
def run (G : List (List Int)) : Nat → List Int → Option (List Int)
  | 0, o => if G.length ≤ o.length then some o else none
  | f + 1, o => if G.length ≤ o.length then some o else match next G o with
    | none => none
    | some x => run G f (o ++ [(x : Int)])
/-- All nodes in order, or none. -/
def orderN (G : List (List Int)) : Option (List Int) := run G G.length []
inductive Pre (G : List (List Int)) : List Int → Prop
  | nil : Pre G []
  | cons {o : List Int} {x : Nat} (h : Pre G o) (hl : o.length < G.length) (hx : next G o = some x) : Pre G (o ++ [(x : Int)])
theorem Pre.run {G : List (List Int)} {o : List Int} (h : Pre G o) : o.length ≤ G.length ∧ orderN G = Plain.run G (G.length - o.length) o := by
  induction h with
  | nil => exact ⟨Nat.zero_le _, rfl⟩
  | @cons o x h hl hx ih =>
    refine ⟨by rw [List.length_append, List.length_singleton]; omega, ?_⟩
    rw [ih.2, show G.length - o.length = (G.length - (o.length + 1)) + 1 by omega, Plain.run, if_neg (by omega), hx]
    rw [List.length_append, List.length_singleton]
theorem Pre.none {G : List (List Int)} {o : List Int} (h : Pre G o) (hl : o.length < G.length) (hn : next G o = none) : orderN G = Option.none := by
  rw [h.run.2, show G.length - o.length = (G.length - o.length - 1) + 1 by omega, Plain.run, if_neg (by omega), hn]
theorem Pre.done {G : List (List Int)} {o : List Int} (h : Pre G o) (hl : G.length ≤ o.length) : orderN G = some o := by
  rw [h.run.2, show G.length - o.length = 0 by omega, Plain.run, if_pos hl]
/-- What is told are nodes, each once, and their parents are told. -/
theorem Pre.facts {G : List (List Int)} {o : List Int} (h : Pre G o) : o.Nodup ∧ (∀ v ∈ o, ∃ x : Nat, x < G.length ∧ v = (x : Int)) ∧ ∀ x : Nat, (x : Int) ∈ o → ∀ p ∈ row G x, p ∈ o := by
  induction h with
  | nil => exact ⟨List.nodup_nil, by simp, by simp⟩
  | @cons o x h hl hx ih =>
    obtain ⟨i1, i2, i3⟩ := ih
    obtain ⟨n1, n2, -⟩ := next_some.1 hx
    refine ⟨?_, ?_, ?_⟩
    · rw [List.nodup_append]
      refine ⟨i1, by simp, ?_⟩
      intro a ha b hb e
      rw [List.mem_singleton] at hb
      subst e hb
      exact n1.1 ha
    · intro v hv
      rcases List.mem_append.1 hv with hv | hv
      · exact i2 v hv
      · exact ⟨x, n2, by simpa using hv⟩
    · intro y hy p hp
      rcases List.mem_append.1 hy with hy | hy
      · exact List.mem_append_left _ (i3 y hy p hp)
      · have : y = x := by have := List.mem_singleton.1 hy; omega
        subst this
        exact List.mem_append_left _ (n1.2 p hp)
/-- How many of a node's parents aren't told. -/
def cnt (G : List (List Int)) (o : List Int) (x : Nat) : Nat := (row G x).countP fun p => decide (p ∉ o)
theorem cnt_zero {G : List (List Int)} {o : List Int} {x : Nat} : cnt G o x = 0 ↔ ∀ p ∈ row G x, p ∈ o := by
  unfold cnt
  rw [List.countP_eq_zero]
  simp
theorem cnt_nil (G : List (List Int)) (x : Nat) : cnt G [] x = (row G x).length := by
  unfold cnt
  rw [List.countP_eq_length]
  simp
theorem cnt_snoc {G : List (List Int)} {o : List Int} {v : Int} (hv : v ∉ o) (x : Nat) : cnt G (o ++ [v]) x + (row G x).count v = cnt G o x := by
  unfold cnt
  induction row G x with
  | nil => rfl
  | cons p l ih =>
    rw [List.countP_cons, List.countP_cons, List.count_cons]
    by_cases hp : p = v
    · subst hp
      have a1 : (if decide (p ∉ o ++ [p]) = true then 1 else 0 : Nat) = 0 := if_neg (by simp)
      have a2 : (if (p == p) = true then 1 else 0 : Nat) = 1 := if_pos (by simp)
      have a3 : (if decide (p ∉ o) = true then 1 else 0 : Nat) = 1 := if_pos (by simp [hv])
      rw [a1, a2, a3]
      omega
    · have a2 : (if (p == v) = true then 1 else 0 : Nat) = 0 := if_neg (by simp [hp])
      by_cases ho : p ∈ o
      · have a1 : (if decide (p ∉ o ++ [v]) = true then 1 else 0 : Nat) = 0 := if_neg (by simp [ho])
        have a3 : (if decide (p ∉ o) = true then 1 else 0 : Nat) = 0 := if_neg (by simp [ho])
        rw [a1, a2, a3]
        omega
      · have a1 : (if decide (p ∉ o ++ [v]) = true then 1 else 0 : Nat) = 1 := if_pos (by simp [ho, hp])
        have a3 : (if decide (p ∉ o) = true then 1 else 0 : Nat) = 1 := if_pos (by simp [ho])
        rw [a1, a2, a3]
        omega
/-- A node's children among the first ones, each as often as it has that parent. -/
def chTo (G : List (List Int)) (p : Int) : Nat → List Int
  | 0 => []
  | x + 1 => chTo G p x ++ List.replicate ((row G x).count p) (x : Int)
theorem chTo_count (G : List (List Int)) (p : Int) : ∀ (n y : Nat), (chTo G p n).count (y : Int) = if y < n then (row G y).count p else 0
  | 0, y => by simp [chTo]
  | n + 1, y => by
    rw [chTo, List.count_append, chTo_count G p n y, List.count_replicate]
    by_cases h : y = n
    · subst h
      simp
    · have e : ((n : Int) == (y : Int)) = false := beq_eq_false_iff_ne.2 (by omega)
      rw [e, if_neg Bool.false_ne_true, Nat.add_zero]
      by_cases h2 : y < n
      · rw [if_pos h2, if_pos (by omega)]
      · rw [if_neg h2, if_neg (by omega)]
theorem chTo_mem (G : List (List Int)) (p : Int) (n : Nat) : ∀ v ∈ chTo G p n, ∃ y : Nat, y < n ∧ v = (y : Int) := by
  induction n with
  | zero => intro v hv; simp [chTo] at hv
  | succ n ih =>
    intro v hv
    rw [chTo] at hv
    rcases List.mem_append.1 hv with hv | hv
    · obtain ⟨y, h1, h2⟩ := ih v hv
      exact ⟨y, by omega, h2⟩
    · exact ⟨n, by omega, (List.mem_replicate.1 hv).2⟩
/-- What the heap holds: when a node x0 has just been told of which k children are seen. -/
def Holds (G : List (List Int)) (o : List Int) (x0 : Nat) (seen : List Int) (hp : List Int) : Prop :=
  hp.Nodup ∧ ∀ v, v ∈ hp ↔ ∃ y : Nat, y < G.length ∧ v = (y : Int) ∧ ((ready G o y ∧ y ≠ x0) ∨ ((y : Int) ∈ seen ∧ cnt G o y = seen.count (y : Int)))
def HoldsAll (G : List (List Int)) (o : List Int) (hp : List Int) : Prop := hp.Nodup ∧ ∀ v, v ∈ hp ↔ ∃ y : Nat, y < G.length ∧ v = (y : Int) ∧ ready G o y
theorem holds_min {G : List (List Int)} {o hp : List Int} (h : HoldsAll G o hp) (hk : HeapOk hp) (h0 : 0 < hp.length) : ∃ x : Nat, at0 hp 0 = (x : Int) ∧ next G o = some x := by
  have hm : at0 hp 0 ∈ hp := by
    unfold at0
    rw [List.getElem?_eq_getElem h0]
    exact List.getElem_mem h0
  obtain ⟨x, hx, e, hr⟩ := (h.2 _).1 hm
  refine ⟨x, e, next_some.2 ⟨hr, hx, fun y hy hry => ?_⟩⟩
  have hy2 := (h.2 (y : Int)).2 ⟨y, by omega, rfl, hry⟩
  obtain ⟨j, hj, ej⟩ := List.mem_iff_getElem.1 hy2
  have h1 := heap_min hk j hj
  have h2 : at0 hp j = (y : Int) := by unfold at0; rw [List.getElem?_eq_getElem hj, ← ej]; rfl
  omega
theorem holds_empty {G : List (List Int)} {o : List Int} (h : HoldsAll G o []) : next G o = none := next_none.2 fun x hx hr => by
  have := (h.2 (x : Int)).2 ⟨x, hx, rfl, hr⟩
  simp at this
theorem holds_pop {G : List (List Int)} {o hp ys : List Int} {x : Nat} (h : HoldsAll G o hp) (hp2 : (ys ++ [(x : Int)]).Perm hp) : Holds G o x [] ys := by
  have hn : (ys ++ [(x : Int)]).Nodup := hp2.nodup_iff.2 h.1
  rw [List.nodup_append] at hn
  refine ⟨hn.1, fun v => ?_⟩
  constructor
  · intro hv
    obtain ⟨y, h1, h2, h3⟩ := (h.2 v).1 (hp2.mem_iff.1 (List.mem_append_left _ hv))
    refine ⟨y, h1, h2, .inl ⟨h3, fun e => ?_⟩⟩
    subst e
    exact hn.2.2 v hv (y : Int) (by simp) h2
  · rintro ⟨y, h1, h2, ⟨h3, h4⟩ | ⟨h3, -⟩⟩
    · have := hp2.mem_iff.2 ((h.2 v).2 ⟨y, h1, h2, h3⟩)
      rcases List.mem_append.1 this with hm | hm
      · exact hm
      · rw [List.mem_singleton] at hm
        omega
    · simp at h3
theorem count_le_cnt {G : List (List Int)} {o : List Int} {x0 : Nat} (hx : (x0 : Int) ∉ o) (y : Nat) (hy : y < G.length) (seen : List Int) (k : Nat) (hs : seen = (chTo G (x0 : Int) G.length).take k) : seen.count (y : Int) ≤ cnt G o y := by
  have h1 := cnt_snoc (G := G) hx y
  have h2 := chTo_count G (x0 : Int) G.length y
  rw [if_pos hy] at h2
  have h3 : seen.count (y : Int) ≤ (chTo G (x0 : Int) G.length).count (y : Int) := by rw [hs]; exact (List.take_sublist _ _).count_le _
  omega
/-- One child more. -/
theorem holds_step {G : List (List Int)} {o hp : List Int} {x0 k y : Nat} (hx : ready G o x0) (hk : k < (chTo G (x0 : Int) G.length).length) (hy : (chTo G (x0 : Int) G.length)[k]? = some (y : Int))
    (h : Holds G o x0 ((chTo G (x0 : Int) G.length).take k) hp) :
    y < G.length ∧ ((chTo G (x0 : Int) G.length).take (k + 1)).count (y : Int) = ((chTo G (x0 : Int) G.length).take k).count (y : Int) + 1 ∧ (∀ z : Int, z ≠ (y : Int) → ((chTo G (x0 : Int) G.length).take (k + 1)).count z = ((chTo G (x0 : Int) G.length).take k).count z) ∧
    (cnt G o y = ((chTo G (x0 : Int) G.length).take (k + 1)).count (y : Int) → ∀ ys : List Int, ys.Perm (hp ++ [(y : Int)]) → Holds G o x0 ((chTo G (x0 : Int) G.length).take (k + 1)) ys) ∧
    (cnt G o y ≠ ((chTo G (x0 : Int) G.length).take (k + 1)).count (y : Int) → Holds G o x0 ((chTo G (x0 : Int) G.length).take (k + 1)) hp) := by
  have hle : ∀ z, z < G.length → ((chTo G (x0 : Int) G.length).take (k + 1)).count (z : Int) ≤ cnt G o z := fun z hz => count_le_cnt hx.1 z hz _ (k + 1) rfl
  have hcnt := chTo_count G (x0 : Int) G.length y
  have hmem := chTo_mem G (x0 : Int) G.length (y : Int) (List.mem_of_getElem? hy)
  generalize chTo G (x0 : Int) G.length = cs at *
  obtain ⟨y', hy', e⟩ := hmem
  have : y' = y := by omega
  subst this
  rw [if_pos hy'] at hcnt
  have et : cs.take (k + 1) = cs.take k ++ [(y' : Int)] := by rw [List.take_add_one, hy]; rfl
  have hyr : (x0 : Int) ∈ row G y' := by
    have h1 : 0 < cs.count (y' : Int) := List.count_pos_iff.2 (List.mem_of_getElem? hy)
    rw [hcnt] at h1
    exact List.count_pos_iff.1 h1
  have hnr : ¬ ready G o y' := fun hr => hx.1 (hr.2 _ hyr)
  have c1 : (cs.take (k + 1)).count (y' : Int) = (cs.take k).count (y' : Int) + 1 := by rw [et, List.count_append]; simp
  have c2 : ∀ z : Int, z ≠ (y' : Int) → (cs.take (k + 1)).count z = (cs.take k).count z := fun z hz => by
    rw [et, List.count_append, List.count_singleton]
    have : ((y' : Int) == z) = false := beq_eq_false_iff_ne.2 (Ne.symm hz)
    rw [this]; rfl
  have m2 : ∀ z : Int, z ≠ (y' : Int) → (z ∈ cs.take (k + 1) ↔ z ∈ cs.take k) := fun z hz => by
    rw [et, List.mem_append, List.mem_singleton]
    exact ⟨fun h => h.elim id (fun e => absurd e hz), .inl⟩
  have hlt := hle y' hy'
  have hno : (y' : Int) ∉ hp := fun hm => by
    obtain ⟨z, h1, h2, ⟨h3, -⟩ | ⟨h3, h4⟩⟩ := (h.2 _).1 hm
    · have : z = y' := by omega
      subst this; exact hnr h3
    · have : z = y' := by omega
      subst this; omega
  refine ⟨hy', c1, c2, fun hz ys hp2 => ⟨?_, fun v => ?_⟩, fun hz => ⟨h.1, fun v => ?_⟩⟩
  · refine hp2.nodup_iff.2 ?_
    rw [List.nodup_append]
    refine ⟨h.1, by simp, ?_⟩
    intro a ha b hb e
    rw [List.mem_singleton] at hb
    subst e hb
    exact hno ha
  · rw [hp2.mem_iff, List.mem_append, List.mem_singleton, h.2 v]
    constructor
    · rintro (⟨z, h1, h2, h3⟩ | rfl)
      · refine ⟨z, h1, h2, ?_⟩
        by_cases hzy : z = y'
        · subst hzy
          rcases h3 with ⟨h3, -⟩ | ⟨h3, h4⟩
          · exact absurd h3 hnr
          · omega
        · rcases h3 with h3 | ⟨h3, h4⟩
          · exact .inl h3
          · exact .inr ⟨(m2 _ (by omega)).2 h3, by rw [c2 _ (by omega)]; exact h4⟩
      · exact ⟨y', hy', rfl, .inr ⟨by rw [et]; simp, hz⟩⟩
    · rintro ⟨z, h1, h2, h3⟩
      by_cases hzy : z = y'
      · subst hzy; exact .inr h2
      · refine .inl ⟨z, h1, h2, ?_⟩
        rcases h3 with h3 | ⟨h3, h4⟩
        · exact .inl h3
        · exact .inr ⟨(m2 _ (by omega)).1 h3, by rw [← c2 _ (by omega)]; exact h4⟩
  · rw [h.2 v]
    constructor
    · rintro ⟨z, h1, h2, h3⟩
      refine ⟨z, h1, h2, ?_⟩
      by_cases hzy : z = y'
      · subst hzy
        rcases h3 with ⟨h3, -⟩ | ⟨h3, h4⟩
        · exact absurd h3 hnr
        · omega
      · rcases h3 with h3 | ⟨h3, h4⟩
        · exact .inl h3
        · exact .inr ⟨(m2 _ (by omega)).2 h3, by rw [c2 _ (by omega)]; exact h4⟩
    · rintro ⟨z, h1, h2, h3⟩
      refine ⟨z, h1, h2, ?_⟩
      by_cases hzy : z = y'
      · subst hzy
        rcases h3 with ⟨h3, -⟩ | ⟨h3, h4⟩
        · exact absurd h3 hnr
        · exact absurd h4 hz
      · rcases h3 with h3 | ⟨h3, h4⟩
        · exact .inl h3
        · exact .inr ⟨(m2 _ (by omega)).1 h3, by rw [← c2 _ (by omega)]; exact h4⟩
/-- All children seen. -/
theorem holds_end {G : List (List Int)} {o hp : List Int} {x0 : Nat} (ho : Pre G o) (hx : next G o = some x0) (h : Holds G o x0 (chTo G (x0 : Int) G.length) hp) : HoldsAll G (o ++ [(x0 : Int)]) hp := by
  obtain ⟨hr, hx0, -⟩ := next_some.1 hx
  obtain ⟨f1, f2, f3⟩ := ho.facts
  refine ⟨h.1, fun v => ?_⟩
  rw [h.2 v]
  constructor
  · rintro ⟨y, h1, h2, ⟨h3, h4⟩ | ⟨h3, h4⟩⟩
    · refine ⟨y, h1, h2, ?_, fun p hp => List.mem_append_left _ (h3.2 p hp)⟩
      intro hm
      rcases List.mem_append.1 hm with hm | hm
      · exact h3.1 hm
      · rw [List.mem_singleton] at hm; omega
    · have hc := chTo_count G (x0 : Int) G.length y
      rw [if_pos h1] at hc
      have hs := cnt_snoc (G := G) hr.1 y
      have hz : cnt G (o ++ [(x0 : Int)]) y = 0 := by omega
      have hyr : (x0 : Int) ∈ row G y := by
        have h5 : 0 < (chTo G (x0 : Int) G.length).count (y : Int) := List.count_pos_iff.2 h3
        rw [hc] at h5
        exact List.count_pos_iff.1 h5
      refine ⟨y, h1, h2, ?_, cnt_zero.1 hz⟩
      intro hm
      rcases List.mem_append.1 hm with hm | hm
      · exact hr.1 (f3 y hm _ hyr)
      · rw [List.mem_singleton] at hm
        have : y = x0 := by omega
        subst this
        exact hr.1 (hr.2 _ hyr)
  · rintro ⟨y, h1, h2, h3, h4⟩
    refine ⟨y, h1, h2, ?_⟩
    have hyo : (y : Int) ∉ o := fun hm => h3 (List.mem_append_left _ hm)
    have hyx : y ≠ x0 := fun e => h3 (by rw [e]; simp)
    have hc := chTo_count G (x0 : Int) G.length y
    rw [if_pos h1] at hc
    have hs := cnt_snoc (G := G) hr.1 y
    have hz := cnt_zero.2 h4
    by_cases hyr : (x0 : Int) ∈ row G y
    · right
      have h5 := List.count_pos_iff.2 hyr
      exact ⟨List.count_pos_iff.1 (by omega), by omega⟩
    · left
      refine ⟨⟨hyo, fun p hp => ?_⟩, hyx⟩
      rcases List.mem_append.1 (h4 p hp) with hm | hm
      · exact hm
      · rw [List.mem_singleton] at hm
        subst hm
        exact absurd hp hyr
end Plain
end Go.Proofs.Ythadgepihjigeaa
