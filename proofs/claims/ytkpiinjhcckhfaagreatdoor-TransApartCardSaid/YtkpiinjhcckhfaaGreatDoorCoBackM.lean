/- The law's whoOf: the walk. -/
import Derived.Test.YtkpiinjhcckhfaaGreatDoorTrRwho
import Derived.Test.YtkpiinjhcckhfaaGreatDoorRight
import Derived.Lib.ReplaceLaws
import Derived.Lib.CountLaws
/-! The law's whoOf: the walk. -/
namespace Go.Proofs.YtkpiinjhcckhfaaGreatDoor
open Go.RowKit Plain
set_option linter.unusedVariables false
set_option linter.unusedSimpArgs false
set_option maxRecDepth 100000 in
set_option maxHeartbeats 8000000 in
theorem whoof_any (x : WX) (w : World) : Calls Tryz.prog 28 #[.agg (whoA x)] w fun e w' => e = .returned (.agg (whoA x)) ∧ Below w.heap.size w w' := by
  have HB : Hid (Below w.heap.size w ((w.alloc (.cells (whoA x) 31)).alloc (.cells #[.string ⟨#[]⟩, .string ⟨#[]⟩, .int .i64 0, .string ⟨#[]⟩] 25))) := ((Below.refl _ _).alloc (Nat.le_refl _) _).alloc (by simp) _
  have HR0 : Hid (((w.alloc (.cells (whoA x) 31)).alloc (.cells #[.string ⟨#[]⟩, .string ⟨#[]⟩, .int .i64 0, .string ⟨#[]⟩] 25)).heap[w.heap.size]? = some (.cells (whoA x) 31 (0, 0))) := (Below.heap_alloc _ _ _ (by simp)).trans (heap_alloc_new _ _)
  have HZ : Hid (((w.alloc (.cells (whoA x) 31)).alloc (.cells #[.string ⟨#[]⟩, .string ⟨#[]⟩, .int .i64 0, .string ⟨#[]⟩] 25)).heap[w.heap.size + 1]? = some (.cells #[.string ⟨#[]⟩, .string ⟨#[]⟩, .int .i64 0, .string ⟨#[]⟩] 25 (0, 0))) := by
    have h := heap_alloc_new (w.alloc (.cells (whoA x) 31)) (.cells #[.string ⟨#[]⟩, .string ⟨#[]⟩, .int .i64 0, .string ⟨#[]⟩] 25)
    rw [show (w.alloc (.cells (whoA x) 31)).heap.size = w.heap.size + 1 by simp] at h
    exact h
  obtain ⟨hc0, hc1, hc2, hc3⟩ := who_cell HR0.out
  go_enter Tryz.func28, Tryz.ntmps28
  go_wp2_with (first
    | refine wpList_buildQ rfl 25 _ rfl #[(0, .string x.n), (1, .string x.m), (2, .int .i64 x.t), (3, .string x.z)] (map_four _ _ _ _ _ _ _ _ _ rfl rfl rfl rfl) _ (build_rwho _ _ _ _) ?_
    | refine wpList_store_row rfl 25 _ _ rfl (w.heap.size + 1) (whoA x) rfl rfl 25 #[.string ⟨#[]⟩, .string ⟨#[]⟩, .int .i64 0, .string ⟨#[]⟩] HZ.out (info_rwho _) rfl (who_one _) ?_)
  refine bodyPost_ret (results_cell_row Tryz.results28 _ _ (w.heap.size + 1) 25 (whoA x) (0, 0) _ rfl (setRow_heap _ _ _ _ _ _ HZ.out) Tryz.underlying25 rfl (info_rwho _)) rfl ⟨rfl, below_setRow HB.out (by omega) _⟩
end Go.Proofs.YtkpiinjhcckhfaaGreatDoor
/-! What a person's text tells is printed as it was. -/
namespace Go.Proofs.YtkpiinjhcckhfaaGreatDoor
open Go.RowKit Plain
set_option linter.unusedVariables false
theorem cutL_back {l sep a b : List UInt8} (h : Lib.cut l sep = (a, b, true)) : l = a ++ sep ++ b := by
  unfold Lib.cut at h
  split at h
  · rename_i h0
    simp only [Prod.mk.injEq, and_true] at h
    obtain ⟨rfl, rfl⟩ := h
    rcases Lib.index_spec l sep with ⟨h1, -⟩ | ⟨i, h1, -, h2, -⟩
    · omega
    · rw [h1, Int.toNat_natCast]
      unfold Lib.occAt at h2
      obtain ⟨r, hr⟩ := List.isPrefixOf_iff_prefix.1 h2
      have e : l.drop (i + sep.length) = r := by rw [← List.drop_drop, ← hr, List.drop_left]
      rw [e, List.append_assoc, hr, List.take_append_drop]
  · simp at h
theorem decF_back {D : List UInt8} (h : (decF D).2 = 0) : Lib.itoa ((decF D).1 : Nat) = D := by
  unfold decF at h ⊢
  split
  · rename_i v hv
    rw [hv] at h
    dsimp only at h
    split
    · rename_i hc
      show Lib.itoa ((v.toNat : Nat) : Int) = D
      rw [Int.toNat_of_nonneg hc.1]
      exact hc.2.2
    · rename_i hc
      rw [if_neg hc] at h
      cases h
  · rename_i hv
    split at h
    · rename_i v hv2
      exact absurd hv2 (hv v)
    · cases h
/-- The text is the one that was read. -/
theorem person_back {L : List UInt8} {x : WX} (h : personR L = some x) : whoT x = L := by
  unfold personR at h
  obtain ⟨N, R, b1, h1⟩ : ∃ N R b, Lib.cut L [32, 60] = (N, R, b) := ⟨_, _, _, rfl⟩
  obtain ⟨M, R2, b2, h2⟩ : ∃ N R' b, Lib.cut R [62, 32] = (N, R', b) := ⟨_, _, _, rfl⟩
  obtain ⟨D, Z, b3, h3⟩ : ∃ N R' b, Lib.cut R2 [32] = (N, R', b) := ⟨_, _, _, rfl⟩
  simp only [h1, h2, h3] at h
  split at h
  · rename_i e1
    subst e1
    split at h
    · rename_i e2
      subst e2
      split at h
      · rename_i e3
        obtain ⟨rfl, e4⟩ := e3
        simp only [Option.some.injEq] at h
        subst h
        have k1 := cutL_back h1
        have k2 := cutL_back h2
        have k3 := cutL_back h3
        have k4 := decF_back e4
        unfold whoT
        simp only [txt_list]
        rw [k4, k1, k2, k3]
        simp
      · cases h
    · cases h
  · cases h
end Go.Proofs.YtkpiinjhcckhfaaGreatDoor
/-! Persons there and back, plainly: what is printed is read as it was, by both readings. -/
namespace Go.Proofs.YtkpiinjhcckhfaaGreatDoor
open Go.RowKit Plain
set_option linter.unusedVariables false
theorem cut2_at (A B : List UInt8) (c d : UInt8) (hA : d ∉ A) (hcd : c ≠ d) : Lib.cut (A ++ [c, d] ++ B) [c, d] = (A, B, true) := by
  have hi : Lib.index (A ++ [c, d] ++ B) [c, d] = (A.length : Int) := by
    refine Lib.index_first (by simp) ?_ ?_
    · unfold Lib.occAt
      rw [List.append_assoc, List.drop_left]
      simp
    · intro j hj
      unfold Lib.occAt
      rw [Bool.eq_false_iff]
      intro h
      obtain ⟨t, ht⟩ := List.isPrefixOf_iff_prefix.1 h
      have h3 := congrArg (·[1]?) ht
      simp only [List.cons_append, List.nil_append, List.getElem?_cons_succ, List.getElem?_cons_zero, List.getElem?_drop, List.append_assoc] at h3
      by_cases hl : j + 1 < A.length
      · rw [List.getElem?_append_left hl] at h3
        exact hA (List.mem_of_getElem? h3.symm)
      · rw [show j + 1 = A.length by omega, List.getElem?_append_right (Nat.le_refl _), Nat.sub_self] at h3
        simp only [List.getElem?_cons_zero, Option.some.injEq] at h3
        exact hcd h3.symm
  unfold Lib.cut
  rw [hi, if_pos (by omega), Int.toNat_natCast, List.append_assoc, List.take_left, ← List.drop_drop, List.drop_left]
  rfl
theorem not_any {cs l : List UInt8} (h : noAny cs l = true) {c : UInt8} (hc : c ∈ cs) : c ∉ l := fun hm => by
  unfold noAny at h
  rw [Bool.not_eq_true', List.any_eq_false] at h
  exact h c hm (by simpa using hc)
theorem whoB_parts {x : WX} (h : whoB x = true) : noAny badW x.n.data.toList = true ∧ noAny badW x.m.data.toList = true ∧ 0 ≤ x.t ∧ x.t ≤ 4611686018427387903 ∧ zoneB x.z.data.toList = true := by
  unfold whoB at h
  simp only [Bool.and_eq_true, decide_eq_true_eq] at h
  obtain ⟨⟨⟨h1, h2⟩, h3⟩, h4⟩ := h
  unfold noAny at h1 ⊢
  rw [List.any_append, Bool.not_or, Bool.and_eq_true] at h1
  exact ⟨h1.1, h1.2, h2, h3, h4⟩
theorem itoa_digit {t : Int} (h : 0 ≤ t) : ∀ c ∈ Lib.itoa t, 48 ≤ c.toNat ∧ c.toNat ≤ 57 := by
  obtain ⟨n, rfl⟩ : ∃ n : Nat, t = n := ⟨t.toNat, by omega⟩
  rw [itoa_nat]
  exact dec_digit n n (Nat.le_refl _)
theorem decF_itoa {t : Int} (h : 0 ≤ t) (h1 : t ≤ 4611686018427387903) : decF (Lib.itoa t) = (t.toNat, 0) := by
  obtain ⟨n, rfl⟩ : ∃ n : Nat, t = n := ⟨t.toNat, by omega⟩
  rw [itoa_nat, decF_dec n (by omega)]
  simp
theorem person_yes {x : WX} (h : whoB x = true) : personR (whoT x) = some x := by
  obtain ⟨hn, hm, h0, h1, hz⟩ := whoB_parts h
  have e1 : Lib.cut (whoT x) [32, 60] = (x.n.data.toList, x.m.data.toList ++ [62, 32] ++ (Lib.itoa x.t ++ 32 :: x.z.data.toList), true) := by
    rw [show whoT x = x.n.data.toList ++ [32, 60] ++ (x.m.data.toList ++ [62, 32] ++ (Lib.itoa x.t ++ 32 :: x.z.data.toList)) by unfold whoT; simp]
    exact cut2_at _ _ 32 60 (not_any hn (by decide)) (by decide)
  have e2 : Lib.cut (x.m.data.toList ++ [62, 32] ++ (Lib.itoa x.t ++ 32 :: x.z.data.toList)) [62, 32] = (x.m.data.toList, Lib.itoa x.t ++ 32 :: x.z.data.toList, true) := by
    have hi : Lib.index (x.m.data.toList ++ [62, 32] ++ (Lib.itoa x.t ++ 32 :: x.z.data.toList)) [62, 32] = (x.m.data.toList.length : Int) := by
      refine Lib.index_first (by simp) ?_ ?_
      · unfold Lib.occAt
        rw [List.append_assoc, List.drop_left]
        simp
      · intro j hj
        unfold Lib.occAt
        rw [Bool.eq_false_iff]
        intro h
        obtain ⟨t, ht⟩ := List.isPrefixOf_iff_prefix.1 h
        have h3 := congrArg (·[0]?) ht
        simp only [List.cons_append, List.nil_append, List.getElem?_cons_zero, List.getElem?_drop, List.append_assoc, Nat.add_zero] at h3
        rw [List.getElem?_append_left hj] at h3
        exact not_any hm (c := 62) (by decide) (List.mem_of_getElem? h3.symm)
    unfold Lib.cut
    rw [hi, if_pos (by omega), Int.toNat_natCast, List.append_assoc, List.take_left, ← List.drop_drop, List.drop_left]
    rfl
  have e3 : Lib.cut (Lib.itoa x.t ++ 32 :: x.z.data.toList) [32] = (Lib.itoa x.t, x.z.data.toList, true) := cut_at _ _ 32 (fun hc => by have := itoa_digit h0 32 hc; revert this; decide)
  unfold personR
  simp only [e1, e2, e3, decF_itoa h0 h1, and_self, if_true, txt_of]
  rw [Int.toNat_of_nonneg h0]
theorem personE_yes {x : WX} (h : whoB x = true) : personE (whoT x) = (x, 0) := by
  unfold personE
  rw [person_yes h]
  exact if_pos h
end Go.Proofs.YtkpiinjhcckhfaaGreatDoor
/-! Texts in which a piece is put in place of another, plainly. -/
namespace Go.Proofs.YtkpiinjhcckhfaaGreatDoor
set_option linter.unusedVariables false
theorem rep_miss {s old new : List UInt8} (h : Lib.index s old = -1) : Lib.replaceAll s old new = s := by
  unfold Lib.replaceAll Lib.replace Lib.replaceNum
  rw [Lib.count_miss h]
  simp [Lib.replaceK]
theorem rep_hit {s old new : List UInt8} (ho : old ≠ []) (hn : old ≠ new) {i : Nat} (h : Lib.index s old = i) : Lib.replaceAll s old new = s.take i ++ new ++ Lib.replaceAll (s.drop (i + old.length)) old new := by
  have e : ∀ t, Lib.replaceAll t old new = Lib.replaceK old new (Lib.count t old) t := fun t => by
    unfold Lib.replaceAll Lib.replace Lib.replaceNum
    rw [if_neg (by simpa using hn), if_pos (.inl (by decide))]
  rw [e s, e, Lib.count_hit ho h, Nat.add_comm 1, Lib.replaceK_hit _ _ _ _ _ h]
/-- A byte ahead that the sought text doesn't begin with. -/
theorem index_skip {c : UInt8} {s old : List UInt8} (h : old.isPrefixOf (c :: s) = false) : Lib.index (c :: s) old = if Lib.index s old = -1 then -1 else Lib.index s old + 1 := by
  conv => lhs; unfold Lib.index
  rw [if_neg (by rw [h]; simp)]
  simp only [beq_iff_eq]
theorem rep_skip {c : UInt8} {s old new : List UInt8} (ho : old ≠ []) (hn : old ≠ new) (h : old.isPrefixOf (c :: s) = false) : Lib.replaceAll (c :: s) old new = c :: Lib.replaceAll s old new := by
  have hi := index_skip h
  by_cases hm : Lib.index s old = -1
  · rw [if_pos hm] at hi
    rw [rep_miss hi, rep_miss hm]
  · rw [if_neg hm] at hi
    have hg := Lib.index_ge s old
    obtain ⟨i, hj⟩ : ∃ i : Nat, Lib.index s old = i := ⟨(Lib.index s old).toNat, by omega⟩
    rw [hj] at hi
    rw [rep_hit ho hn (i := i + 1) (by rw [hi]; rfl), rep_hit ho hn hj, List.take_succ_cons, show i + 1 + old.length = (i + old.length) + 1 by omega, List.drop_succ_cons]
    rfl
theorem rep_here {s old new : List UInt8} (ho : old ≠ []) (hn : old ≠ new) : Lib.replaceAll (old ++ s) old new = new ++ Lib.replaceAll s old new := by
  have : Lib.index (old ++ s) old = (0 : Nat) := Lib.index_first (Nat.zero_le _) (by unfold Lib.occAt; simp) (fun j hj => absurd hj (Nat.not_lt_zero _))
  rw [rep_hit ho hn this, List.take_zero, Nat.zero_add, List.drop_left]
  rfl
theorem rep_nil {old new : List UInt8} (ho : old ≠ []) : Lib.replaceAll [] old new = [] := rep_miss (by unfold Lib.index; cases old with | nil => exact absurd rfl ho | cons a t => rfl)
theorem pre_ne {c : UInt8} (hc : ¬ c = 10) (t l : List UInt8) : (10 :: t).isPrefixOf (c :: l) = false := by
  have h : ((10 : UInt8) == c) = false := by rw [beq_eq_false_iff_ne]; exact fun e => hc e.symm
  simp only [List.isPrefixOf, h, Bool.false_and]
/-- A blank behind each newline. -/
def nlB : List UInt8 → List UInt8
  | [] => []
  | c :: r => if c = 10 then 10 :: 32 :: nlB r else c :: nlB r
theorem rep_nlB : ∀ l : List UInt8, Lib.replaceAll l [10] [10, 32] = nlB l
  | [] => rep_nil (by simp)
  | c :: r => by
    unfold nlB
    split
    · rename_i hc
      subst hc
      have := rep_here (s := r) (old := [10]) (new := [10, 32]) (by simp) (by decide)
      rw [rep_nlB r] at this
      exact this
    · rename_i hc
      rw [rep_skip (by simp) (by decide) (pre_ne hc _ _), rep_nlB r]
theorem rep_back : ∀ l : List UInt8, Lib.replaceAll (nlB l) [10, 32] [10] = l
  | [] => rep_nil (by simp)
  | c :: r => by
    unfold nlB
    split
    · rename_i hc
      subst hc
      have := rep_here (s := nlB r) (old := [10, 32]) (new := [10]) (by simp) (by decide)
      rw [rep_back r] at this
      exact this
    · rename_i hc
      rw [rep_skip (by simp) (by decide) (pre_ne hc _ _), rep_back r]
/-- Each newline has a blank behind. -/
def allB : List UInt8 → Prop
  | [] => True
  | c :: r => (c = 10 → r.head? = some 32) ∧ allB r
theorem rep_forth : ∀ (k : Nat) (l : List UInt8), l.length ≤ k → allB l → nlB (Lib.replaceAll l [10, 32] [10]) = l
  | _, [], _, _ => by rw [rep_nil (by simp)]; rfl
  | 0, c :: r, hk, _ => by simp at hk
  | k + 1, c :: r, hk, h => by
    by_cases hc : c = 10
    · subst hc
      have h1 := h.1 rfl
      cases r with
      | nil => cases h1
      | cons d r =>
        simp only [List.head?_cons, Option.some.injEq] at h1
        subst h1
        have := rep_here (s := r) (old := [10, 32]) (new := [10]) (by simp) (by decide)
        rw [show ([10, 32] ++ r : List UInt8) = 10 :: 32 :: r from rfl] at this
        rw [this]
        show nlB (10 :: Lib.replaceAll r [10, 32] [10]) = _
        unfold nlB
        rw [if_pos rfl, rep_forth k r (by simp at hk; omega) h.2.2]
    · rw [rep_skip (by simp) (by decide) (pre_ne hc _ _)]
      unfold nlB
      rw [if_neg hc, rep_forth k r (by simpa using hk) h.2]
theorem nlB_allB : ∀ l, allB (nlB l)
  | [] => True.intro
  | c :: r => by
    unfold nlB
    split
    · exact ⟨fun _ => rfl, (fun h => absurd h (by decide)), nlB_allB r⟩
    · rename_i hc
      exact ⟨fun h => absurd h hc, nlB_allB r⟩
end Go.Proofs.YtkpiinjhcckhfaaGreatDoor
/-! Commits there and back, plainly: what is printed is parsed as it was, what is parsed is printed as it was. -/
namespace Go.Proofs.YtkpiinjhcckhfaaGreatDoor
open Go.RowKit Plain
set_option linter.unusedVariables false
theorem take_hit {l : List UInt8} {n : Nat} {c : UInt8} (h : l[n]? = some c) : l = l.take n ++ c :: l.drop (n + 1) := by
  obtain ⟨hl, he⟩ := List.getElem?_eq_some_iff.1 h
  conv => lhs; rw [← List.take_append_drop n l]
  rw [List.drop_eq_getElem_cons hl, he]
theorem valO_yes {k v r : List UInt8} (hk : (10 : UInt8) ∉ k) (hv : (10 : UInt8) ∉ v) : valO k (k ++ [32] ++ v ++ 10 :: r) = some (v, r) := by
  have hi : Lib.indexByte (k ++ [32] ++ v ++ 10 :: r) 10 = ((k ++ [32] ++ v).length : Int) := by
    rw [← Lib.index_one]
    exact index_at _ _ 10 (by simp [hk, hv])
  unfold valO
  rw [if_pos ⟨by rw [hi]; omega, by unfold Lib.hasPrefix; rw [List.isPrefixOf_iff_prefix]; exact ⟨v ++ 10 :: r, by simp⟩⟩, hi, Int.toNat_natCast, List.take_left]
  rw [List.drop_left' (by simp), show k ++ [32] ++ v ++ 10 :: r = (k ++ [32] ++ v ++ [10]) ++ r by simp, List.drop_left' (by simp; omega)]
theorem valO_back {k l v r : List UInt8} (hk : (10 : UInt8) ∉ k) (h : valO k l = some (v, r)) : l = k ++ [32] ++ v ++ 10 :: r ∧ (10 : UInt8) ∉ v := by
  unfold valO at h
  split at h
  · rename_i hc
    obtain ⟨h1, h2⟩ := nl_lt hc.1
    have hkl := key_le hk hc.1 hc.2
    have hno := (Lib.indexByte_some (l := l) (c := 10) (o := (Lib.indexByte l 10).toNat) (by have := hc.1; omega)).2
    obtain ⟨t, ht⟩ : ∃ t, k ++ [32] ++ t = l := List.isPrefixOf_iff_prefix.1 hc.2
    simp only [Option.some.injEq, Prod.mk.injEq] at h
    obtain ⟨rfl, rfl⟩ := h
    generalize (Lib.indexByte l 10).toNat = n at *
    have e2 : l.take n = k ++ [32] ++ (l.take n).drop (k.length + 1) := by
      conv => lhs; rw [← List.take_append_drop (k.length + 1) (l.take n)]
      rw [List.take_take, Nat.min_eq_left hkl, show l.take (k.length + 1) = k ++ [32] by rw [← ht, List.take_left' (by simp)]]
    refine ⟨by rw [← e2]; exact take_hit h2, fun hm => ?_⟩
    obtain ⟨j, hj⟩ := List.mem_iff_getElem?.1 (List.mem_of_mem_drop hm)
    have hjl := (List.getElem?_eq_some_iff.1 hj).1
    rw [List.length_take] at hjl
    rw [List.getElem?_take_of_lt (by omega)] at hj
    exact hno j (by omega) hj
  · cases h
theorem valS_yes {k v r : List UInt8} (b : Bool) (hk : (10 : UInt8) ∉ k) (hv : (10 : UInt8) ∉ v) : valS k (k ++ [32] ++ v ++ 10 :: r, b) = (v, (r, b)) := by
  unfold valS
  rw [show ((k ++ [32] ++ v ++ 10 :: r, b) : St).1 = k ++ [32] ++ v ++ 10 :: r from rfl, valO_yes hk hv]
theorem valS_back {k : List UInt8} {s : St} (hk : (10 : UInt8) ∉ k) (h : (valS k s).2.2 = false) : s.1 = k ++ [32] ++ (valS k s).1 ++ 10 :: (valS k s).2.1 ∧ s.2 = false ∧ (10 : UInt8) ∉ (valS k s).1 := by
  unfold valS at h ⊢
  split
  · rename_i v l hv
    rw [hv] at h
    obtain ⟨h1, h2⟩ := valO_back hk hv
    exact ⟨h1, h, h2⟩
  · rename_i hv
    rw [hv] at h
    cases h
theorem hex_noC {p : List Int} (h : p.length = 20) (hb : ∀ x ∈ p, 0 ≤ x ∧ x ≤ 255) : (10 : UInt8) ∉ hexOf p := isHex_not (hex_back h hb).1 (by decide)
theorem idS_yes {k r : List UInt8} {p : List Int} (b : Bool) (hk : (10 : UInt8) ∉ k) (h : p.length = 20) (hb : ∀ x ∈ p, 0 ≤ x ∧ x ≤ 255) : idS k (k ++ [32] ++ hexOf p ++ 10 :: r, b) = (p, (r, b)) := by
  unfold idS
  rw [valS_yes b hk (hex_noC h hb), (hex_back h hb).2]
  rw [if_pos (by unfold parsedE; rw [if_pos (hex_back h hb).1])]
theorem idS_back {k : List UInt8} {s : St} (hk : (10 : UInt8) ∉ k) (h : (idS k s).2.2 = false) : s.1 = k ++ [32] ++ hexOf (idS k s).1 ++ 10 :: (idS k s).2.1 ∧ s.2 = false := by
  unfold idS at h ⊢
  dsimp only at h ⊢
  split at h
  · rename_i hp
    rw [if_pos hp]
    obtain ⟨h1, h2, h3⟩ := valS_back hk h
    have hx : isHex (txt (valS k s).1) = true := by
      unfold parsedE at hp
      split at hp
      · assumption
      · cases hp
    have he : hexOf (parsed (txt (valS k s).1)) = (valS k s).1 := by
      have := congrArg (fun s : ByteArray => s.data.toList) (hex_parsed _ hx)
      simpa [txt_list] using this
    rw [he]
    exact ⟨h1, h2⟩
  · cases h
theorem zone_no {l : List UInt8} (h : zoneB l = true) : (10 : UInt8) ∉ l := fun hm => by
  unfold zoneB at h
  simp only [Bool.and_eq_true, decide_eq_true_eq, Bool.or_eq_true, beq_iff_eq] at h
  obtain ⟨⟨h1, h2⟩, h3⟩ := h
  cases l with
  | nil => cases hm
  | cons c r =>
    rcases List.mem_cons.1 hm with h | h
    · subst h
      simp at h2
    · rw [List.drop_succ_cons, List.drop_zero, List.all_eq_true] at h3
      have := h3 10 h
      revert this
      decide
theorem whoT_no {x : WX} (h : whoB x = true) : (10 : UInt8) ∉ whoT x := by
  obtain ⟨hn, hm, h0, h1, hz⟩ := whoB_parts h
  have a1 := not_any hn (c := 10) (by decide)
  have a2 := not_any hm (c := 10) (by decide)
  have a3 := zone_no hz
  have a4 : (10 : UInt8) ∉ Lib.itoa x.t := fun hc => by have := itoa_digit h0 10 hc; revert this; decide
  unfold whoT
  simp only [List.mem_append, not_or]
  exact ⟨⟨⟨⟨⟨⟨a1, by decide⟩, a2⟩, by decide⟩, a4⟩, by decide⟩, a3⟩
theorem whoS_yes {k r : List UInt8} {x : WX} (b : Bool) (hk : (10 : UInt8) ∉ k) (h : whoB x = true) : whoS k (k ++ [32] ++ whoT x ++ 10 :: r, b) = (x, (r, b)) := by
  unfold whoS
  rw [valS_yes b hk (whoT_no h), personE_yes h]
  rfl
theorem personE_back {V : List UInt8} (h : ((personE V).2 : Int) = 0) : whoT (personE V).1 = V ∧ whoB (personE V).1 = true := by
  unfold personE at h ⊢
  split
  · rename_i x hx
    rw [hx] at h
    dsimp only at h
    split at h
    · rename_i hw
      rw [if_pos hw]
      exact ⟨person_back hx, hw⟩
    · cases h
  · rename_i hx
    rw [hx] at h
    cases h
theorem whoS_back {k : List UInt8} {s : St} (hk : (10 : UInt8) ∉ k) (h : (whoS k s).2.2 = false) : s.1 = k ++ [32] ++ whoT (whoS k s).1 ++ 10 :: (whoS k s).2.1 ∧ s.2 = false := by
  unfold whoS at h ⊢
  dsimp only at h ⊢
  split at h
  · rename_i hp
    rw [if_pos hp]
    obtain ⟨h1, h2, h3⟩ := valS_back hk h
    rw [(personE_back hp).1]
    exact ⟨h1, h2⟩
  · cases h
theorem parT_eq (p : List Int) (R : List UInt8) : parT p ++ R = kPar ++ [32] ++ hexOf p ++ 10 :: R := by
  unfold parT kPar
  simp
theorem parG_yes {R : List UInt8} (b : Bool) (hR : Lib.hasPrefix R (kPar ++ [32]) = false) : ∀ (ps : List (List Int)) (f : Nat), ps.length < f → (∀ p ∈ ps, p.length = 20 ∧ ∀ x ∈ p, 0 ≤ x ∧ x ≤ 255) → parG f (ps.flatMap parT ++ R, b) = (ps, (R, b))
  | _, 0, hf, _ => absurd hf (Nat.not_lt_zero _)
  | [], f + 1, _, _ => by
    unfold parG
    rw [if_neg (by show ¬ Lib.hasPrefix ([] ++ R) _ = true; rw [List.nil_append, hR]; simp)]
    rfl
  | p :: ps, f + 1, hf, hp => by
    obtain ⟨h1, h2⟩ := hp p (by simp)
    have he : (p :: ps).flatMap parT ++ R = kPar ++ [32] ++ hexOf p ++ 10 :: (ps.flatMap parT ++ R) := by
      rw [List.flatMap_cons, List.append_assoc, parT_eq]
    have hs : idS kPar (kPar ++ [32] ++ hexOf p ++ 10 :: (ps.flatMap parT ++ R), b) = (p, (ps.flatMap parT ++ R, b)) := idS_yes b (by decide) h1 h2
    have ih := parG_yes b hR ps f (by simpa using hf) (fun q hq => hp q (by simp [hq]))
    unfold parG
    rw [he, if_pos (by show Lib.hasPrefix (kPar ++ [32] ++ hexOf p ++ 10 :: (ps.flatMap parT ++ R)) _ = true; unfold Lib.hasPrefix; rw [List.isPrefixOf_iff_prefix]; exact ⟨hexOf p ++ 10 :: (ps.flatMap parT ++ R), by simp⟩), hs, ih]
theorem parG_back : ∀ (f : Nat) (s : St), (parG f s).2.2 = false → s.1 = (parG f s).1.flatMap parT ++ (parG f s).2.1 ∧ s.2 = false
  | 0, s, h => by
    simp only [parG] at h ⊢
    exact ⟨by simp, h⟩
  | f + 1, s, h => by
    simp only [parG] at h ⊢
    split at h
    · rename_i hp
      rw [if_pos hp]
      obtain ⟨h1, h2⟩ := parG_back f _ h
      obtain ⟨h3, h4⟩ := idS_back (k := kPar) (by decide) h2
      refine ⟨?_, h4⟩
      rw [List.flatMap_cons, List.append_assoc, ← h1, parT_eq]
      exact h3
    · rename_i hp
      rw [if_neg hp]
      exact ⟨by simp, h⟩
theorem endX_yes {R : List UInt8} (hR : Lib.hasPrefix R [32] = false) : ∀ A : List UInt8, allB A → endX (A ++ 10 :: R) = some A.length
  | [], _ => by
    show endX (10 :: R) = some 0
    unfold endX
    rw [if_pos ⟨rfl, hR⟩]
  | c :: A, h => by
    rw [List.cons_append]
    unfold endX
    rw [if_neg, endX_yes hR A h.2]
    · rfl
    · rintro ⟨h1, h2⟩
      have h3 := h.1 h1
      cases A with
      | nil => cases h3
      | cons d A =>
        simp only [List.head?_cons, Option.some.injEq] at h3
        subst h3
        simp [Lib.hasPrefix] at h2
theorem endX_back : ∀ {l : List UInt8} {n : Nat}, endX l = some n → allB (l.take n) ∧ l = l.take n ++ 10 :: l.drop (n + 1) ∧ Lib.hasPrefix (l.drop (n + 1)) [32] = false
  | [], n, h => by cases h
  | c :: r, n, h => by
    unfold endX at h
    split at h
    · rename_i hc
      simp only [Option.some.injEq] at h
      subst h
      refine ⟨True.intro, ?_, hc.2⟩
      rw [hc.1]
      rfl
    · rename_i hc
      obtain ⟨m, hm, rfl⟩ := Option.map_eq_some_iff.1 h
      obtain ⟨h1, h2, h3⟩ := endX_back hm
      refine ⟨⟨fun h10 => ?_, h1⟩, ?_, h3⟩
      · have hp : Lib.hasPrefix r [32] = true := by
          cases hq : Lib.hasPrefix r [32]
          · exact absurd ⟨h10, hq⟩ hc
          · rfl
        obtain ⟨t, ht⟩ := List.isPrefixOf_iff_prefix.1 hp
        cases m with
        | zero =>
          rw [← ht] at h2
          simp at h2
        | succ m =>
          rw [← ht]
          rfl
      · rw [List.take_succ_cons, List.cons_append, List.drop_succ_cons, ← h2]
theorem allB_right : ∀ (a b : List UInt8), allB (a ++ b) → allB b
  | [], b, h => h
  | c :: a, b, h => allB_right a b h.2
theorem allB_app : ∀ (a b : List UInt8), (10 : UInt8) ∉ a → allB b → allB (a ++ b)
  | [], b, _, h => h
  | c :: a, b, ha, h => ⟨fun hc => absurd (by rw [hc]; simp) ha, allB_app a b (fun hm => ha (by simp [hm])) h⟩
theorem extR_parts {x : ByteArray × ByteArray} (h : extR x = true) : x.1.data.toList ≠ [] ∧ (32 : UInt8) ∉ x.1.data.toList ∧ (10 : UInt8) ∉ x.1.data.toList := by
  unfold extR at h
  rw [Bool.and_eq_true] at h
  refine ⟨fun he => ?_, not_any h.2 (by decide), not_any h.2 (by decide)⟩
  rw [he] at h
  cases h.1
theorem extT_all {x : ByteArray × ByteArray} (h : extR x = true) : allB (extT x) := by
  obtain ⟨-, -, h10⟩ := extR_parts h
  unfold extT
  rw [rep_nlB, List.append_assoc]
  exact allB_app _ _ h10 ⟨(fun h => absurd h (by decide)), nlB_allB _⟩
theorem lineX_yes {x : ByteArray × ByteArray} (h : extR x = true) : lineX (extT x) = some x := by
  obtain ⟨-, h32, -⟩ := extR_parts h
  have e : Lib.cut (extT x) [32] = (x.1.data.toList, nlB x.2.data.toList, true) := by
    unfold extT
    rw [rep_nlB, List.append_assoc]
    exact cut_at _ _ 32 h32
  unfold lineX
  rw [e]
  simp only [if_true, rep_back, txt_of]
theorem lineX_back {A : List UInt8} {x : ByteArray × ByteArray} (hA : allB A) (h : lineX A = some x) : extT x = A := by
  unfold lineX at h
  split at h
  · rename_i hc
    obtain ⟨h1, h2⟩ := cut_true hc
    simp only [Option.some.injEq] at h
    subst h
    have hV : allB (Lib.cut A [32]).2.1 := by
      rw [h1] at hA
      exact (allB_right _ _ hA).2
    unfold extT
    simp only [txt_list]
    rw [rep_nlB, rep_forth _ _ (Nat.le_refl _) hV, List.append_assoc]
    exact h1.symm
  · cases h
theorem exsT_cons (x : ByteArray × ByteArray) (xs : List (ByteArray × ByteArray)) (R : List UInt8) : exsT (x :: xs) ++ R = extT x ++ 10 :: (exsT xs ++ R) := by
  unfold exsT
  simp
theorem ext_head {x : ByteArray × ByteArray} (h : extR x = true) : ∃ c r, extT x = c :: r ∧ c ≠ 10 ∧ c ≠ 32 := by
  obtain ⟨h0, h32, h10⟩ := extR_parts h
  cases hk : x.1.data.toList with
  | nil => exact absurd hk h0
  | cons c r =>
    rw [hk] at h32 h10
    exact ⟨c, r ++ [32] ++ Lib.replaceAll x.2.data.toList [10] [10, 32], by unfold extT; rw [hk]; rfl, fun e => h10 (by simp [e]), fun e => h32 (by simp [e])⟩
theorem rest_head {R : List UInt8} (hR : R = [] ∨ R.head? = some 10) : ∀ xs : List (ByteArray × ByteArray), (∀ x ∈ xs, extR x = true) → Lib.hasPrefix (exsT xs ++ R) [32] = false
  | [], _ => by
    show Lib.hasPrefix R [32] = false
    rcases hR with rfl | hR
    · rfl
    · cases R with
      | nil => rfl
      | cons c R =>
        simp only [List.head?_cons, Option.some.injEq] at hR
        subst hR
        rfl
  | x :: xs, hx => by
    obtain ⟨c, r, he, h1, h2⟩ := ext_head (hx x (by simp))
    rw [exsT_cons, he]
    unfold Lib.hasPrefix
    rw [List.cons_append, List.isPrefixOf, show ((32 : UInt8) == c) = false from by rw [beq_eq_false_iff_ne]; exact fun e => h2 e.symm, Bool.false_and]
theorem exG_yes {R : List UInt8} (hR : R = [] ∨ R.head? = some 10) : ∀ (xs : List (ByteArray × ByteArray)) (f : Nat), xs.length < f → (∀ x ∈ xs, extR x = true) → exG f (exsT xs ++ R) = some (xs, R)
  | _, 0, hf, _ => absurd hf (Nat.not_lt_zero _)
  | [], f + 1, _, _ => by
    show exG (f + 1) R = _
    unfold exG
    rw [if_pos hR]
  | x :: xs, f + 1, hf, hx => by
    have hr := hx x (by simp)
    obtain ⟨c, r, he, h1, h2⟩ := ext_head hr
    have hn := endX_yes (rest_head hR xs fun y hy => hx y (by simp [hy])) (extT x) (extT_all hr)
    rw [exsT_cons]
    unfold exG
    rw [if_neg (by rw [he]; simp [h1]), hn]
    dsimp only
    rw [List.take_left, lineX_yes hr]
    dsimp only
    rw [show extT x ++ 10 :: (exsT xs ++ R) = (extT x ++ [10]) ++ (exsT xs ++ R) by simp, List.drop_left' (by simp), exG_yes hR xs f (by simpa using hf) fun y hy => hx y (by simp [hy])]
    rfl
theorem exG_back : ∀ (f : Nat) (l : List UInt8) (xs : List (ByteArray × ByteArray)) (r : List UInt8), exG f l = some (xs, r) → l = exsT xs ++ r
  | 0, l, xs, r, h => by simp [exG] at h
  | f + 1, l, xs, r, h => by
    unfold exG at h
    split at h
    · simp only [Option.some.injEq, Prod.mk.injEq] at h
      obtain ⟨rfl, rfl⟩ := h
      rfl
    · split at h
      · cases h
      · rename_i n hn
        split at h
        · cases h
        · rename_i x hx
          obtain ⟨⟨ys, t⟩, hy, he⟩ := Option.map_eq_some_iff.1 h
          simp only [Prod.mk.injEq] at he
          obtain ⟨rfl, rfl⟩ := he
          obtain ⟨h1, h2, h3⟩ := endX_back hn
          have ih := exG_back f _ _ _ hy
          rw [exsT_cons, lineX_back h1 hx, ← ih]
          exact h2
theorem exS_back {s : St} (h : (exS s).2.2 = false) : s.1 = exsT (exS s).1 ++ (exS s).2.1 ∧ s.2 = false := by
  unfold exS at h ⊢
  split
  · rename_i xs l hx
    rw [hx] at h
    exact ⟨exG_back _ _ _ _ hx, h⟩
  · rename_i hx
    rw [hx] at h
    cases h
theorem msgS_back {s : St} (h : (msgS s).2.2 = false) : s.1 = 10 :: (msgS s).1 ∧ s.2 = false := by
  unfold msgS at h ⊢
  split
  · rename_i c r he
    rw [he] at h
    dsimp only at h
    split at h
    · rename_i hc
      rw [if_pos hc]
      exact ⟨by rw [he, hc], h⟩
    · cases h
  · rename_i he
    rw [he] at h
    cases h
theorem printC_eq (c : CC) : printC c = kTree ++ [32] ++ hexOf c.tr ++ 10 :: (c.ps.flatMap parT ++ (kAut ++ [32] ++ whoT c.a ++ 10 :: (kCom ++ [32] ++ whoT c.c ++ 10 :: (exsT c.xs ++ 10 :: c.m.data.toList)))) := by
  unfold printC frontT treeT autT comT kTree kAut kCom
  simp
/-- A commit whose ids are ids. -/
def CoGood (c : CC) : Prop := (c.tr.length = 20 ∧ ∀ x ∈ c.tr, 0 ≤ x ∧ x ≤ 255) ∧ ∀ p ∈ c.ps, p.length = 20 ∧ ∀ x ∈ p, 0 ≤ x ∧ x ≤ 255
theorem coR_parts {c : CC} (h : coR c = true) : (∀ x ∈ c.xs, extR x = true) ∧ whoB c.a = true ∧ whoB c.c = true := by
  unfold coR at h
  simp only [Bool.and_eq_true, List.all_eq_true] at h
  exact ⟨h.1.1, h.1.2, h.2⟩
theorem flat_long (ps : List (List Int)) (hp : ∀ p ∈ ps, p.length = 20 ∧ ∀ x ∈ p, 0 ≤ x ∧ x ≤ 255) : ps.length ≤ (ps.flatMap parT).length := by
  induction ps with
  | nil => simp
  | cons p ps ih =>
    have h1 := ih fun q hq => hp q (by simp [hq])
    have h2 := parT_len (hp p (by simp)).1
    rw [List.flatMap_cons, List.length_append, List.length_cons, h2]
    omega
theorem exs_long (xs : List (ByteArray × ByteArray)) : xs.length ≤ (exsT xs).length := by
  induction xs with
  | nil => simp
  | cons x xs ih =>
    have := congrArg List.length (exsT_cons x xs [])
    simp only [List.append_nil, List.length_append, List.length_cons] at this
    rw [this, List.length_cons]
    omega
theorem exO_yes {xs : List (ByteArray × ByteArray)} {R : List UInt8} (hR : R = [] ∨ R.head? = some 10) (hx : ∀ x ∈ xs, extR x = true) : exO (exsT xs ++ R) = some (xs, R) := by
  unfold exO
  exact exG_yes hR xs _ (by have := exs_long xs; rw [List.length_append]; omega) hx
theorem parse_print {c : CC} (hg : CoGood c) (h : coR c = true) : parseC (printC c) = some c := by
  obtain ⟨hx, ha, hc⟩ := coR_parts h
  have e1 : idS kTree (printC c, false) = (c.tr, (c.ps.flatMap parT ++ (kAut ++ [32] ++ whoT c.a ++ 10 :: (kCom ++ [32] ++ whoT c.c ++ 10 :: (exsT c.xs ++ 10 :: c.m.data.toList))), false)) := by
    rw [printC_eq]
    exact idS_yes false (by decide) hg.1.1 hg.1.2
  have s1 : st1 (printC c) = (c.ps.flatMap parT ++ (kAut ++ [32] ++ whoT c.a ++ 10 :: (kCom ++ [32] ++ whoT c.c ++ 10 :: (exsT c.xs ++ 10 :: c.m.data.toList))), false) := by
    unfold st1
    rw [e1]
  have e2 : parO (st1 (printC c)) = (c.ps, (kAut ++ [32] ++ whoT c.a ++ 10 :: (kCom ++ [32] ++ whoT c.c ++ 10 :: (exsT c.xs ++ 10 :: c.m.data.toList)), false)) := by
    rw [s1]
    unfold parO
    exact parG_yes false rfl c.ps _ (by show c.ps.length < (c.ps.flatMap parT ++ _).length + 1; have := flat_long c.ps hg.2; rw [List.length_append]; omega) hg.2
  have s2 : st2 (printC c) = (kAut ++ [32] ++ whoT c.a ++ 10 :: (kCom ++ [32] ++ whoT c.c ++ 10 :: (exsT c.xs ++ 10 :: c.m.data.toList)), false) := by
    unfold st2
    rw [e2]
  have e3 : whoS kAut (st2 (printC c)) = (c.a, (kCom ++ [32] ++ whoT c.c ++ 10 :: (exsT c.xs ++ 10 :: c.m.data.toList), false)) := by
    rw [s2]
    exact whoS_yes false (by decide) ha
  have s3 : st3 (printC c) = (kCom ++ [32] ++ whoT c.c ++ 10 :: (exsT c.xs ++ 10 :: c.m.data.toList), false) := by
    unfold st3
    rw [e3]
  have e4 : whoS kCom (st3 (printC c)) = (c.c, (exsT c.xs ++ 10 :: c.m.data.toList, false)) := by
    rw [s3]
    exact whoS_yes false (by decide) hc
  have s4 : st4 (printC c) = (exsT c.xs ++ 10 :: c.m.data.toList, false) := by
    unfold st4
    rw [e4]
  have e5 : exS (st4 (printC c)) = (c.xs, (10 :: c.m.data.toList, false)) := by
    rw [s4]
    unfold exS
    rw [show ((exsT c.xs ++ 10 :: c.m.data.toList, false) : St).1 = exsT c.xs ++ 10 :: c.m.data.toList from rfl, exO_yes (.inr rfl) hx]
  have s5 : st5 (printC c) = (10 :: c.m.data.toList, false) := by
    unfold st5
    rw [e5]
  have e6 : msgS (st5 (printC c)) = (c.m.data.toList, (c.m.data.toList, false)) := by
    rw [s5]
    rfl
  have er : rawC (printC c) = c := by
    unfold rawC
    rw [e1, e2, e3, e4, e5, e6, txt_of]
  unfold parseC
  rw [e6, er, if_neg (by simp), if_pos h]
theorem parse_back {L : List UInt8} {c : CC} (h : parseC L = some c) : printC c = L ∧ coR c = true ∧ CoGood c := by
  unfold parseC at h
  split at h
  · cases h
  · rename_i hw
    split at h
    · rename_i hr
      simp only [Option.some.injEq] at h
      subst h
      have hf : (msgS (st5 L)).2.2 = false := by simpa using hw
      obtain ⟨m1, m2⟩ := msgS_back hf
      have m3 : (exS (st4 L)).2.2 = false := by unfold st5 at m2; exact m2
      obtain ⟨x1, x2⟩ := exS_back m3
      have x3 : (whoS kCom (st3 L)).2.2 = false := by unfold st4 at x2; exact x2
      obtain ⟨c1, c2⟩ := whoS_back (k := kCom) (by decide) x3
      have c3 : (whoS kAut (st2 L)).2.2 = false := by unfold st3 at c2; exact c2
      obtain ⟨a1, a2⟩ := whoS_back (k := kAut) (by decide) c3
      have a3 : (parG ((st1 L).1.length + 1) (st1 L)).2.2 = false := by unfold st2 parO at a2; exact a2
      obtain ⟨p1, p2⟩ := parG_back _ _ a3
      have p3 : (idS kTree (L, false)).2.2 = false := by unfold st1 at p2; exact p2
      obtain ⟨t1, t2⟩ := idS_back (k := kTree) (by decide) p3
      refine ⟨?_, hr, ⟨parsed_length _, parsed_bytes _⟩, parG_ids _ _⟩
      rw [printC_eq]
      unfold rawC
      dsimp only
      rw [txt_list, ← m1]
      have x1' : (st4 L).1 = exsT (exS (st4 L)).1 ++ (st5 L).1 := by unfold st5; exact x1
      rw [← x1']
      have c1' : (st3 L).1 = kCom ++ [32] ++ whoT (whoS kCom (st3 L)).1 ++ 10 :: (st4 L).1 := by rw [show st4 L = (whoS kCom (st3 L)).2 from rfl]; exact c1
      rw [← c1']
      have a1' : (st2 L).1 = kAut ++ [32] ++ whoT (whoS kAut (st2 L)).1 ++ 10 :: (st3 L).1 := by rw [show st3 L = (whoS kAut (st2 L)).2 from rfl]; exact a1
      rw [← a1']
      have p1' : (st1 L).1 = (parO (st1 L)).1.flatMap parT ++ (st2 L).1 := by unfold st2 parO; exact p1
      rw [← p1']
      rw [show st1 L = (idS kTree (L, false)).2 from rfl]
      exact t1.symm
    · cases h
end Go.Proofs.YtkpiinjhcckhfaaGreatDoor
