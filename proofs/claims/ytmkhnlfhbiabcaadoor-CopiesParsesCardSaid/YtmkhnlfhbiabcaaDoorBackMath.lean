/- Told and read back: plainly. -/
import Derived.Test.YtmkhnlfhbiabcaaDoorKnowns
namespace Go.Proofs.YtmkhnlfhbiabcaaDoor
open Go.RowKit Plain
set_option linter.unusedVariables false
set_option linter.unusedSimpArgs false
theorem nums_str' (xs : List Int) (h : ∀ x ∈ xs, 0 ≤ x ∧ x ≤ 255) : numsOf (strOfNums xs) = xs := by
  unfold numsOf
  rw [strOfNums_data, List.map_map]
  conv => rhs; rw [← List.map_id xs]
  apply List.map_congr_left
  intro x hx
  have := h x hx
  simp
  omega
theorem str_nums' (s : ByteArray) : strOfNums (numsOf s) = s := by
  have h : (strOfNums (numsOf s)).data.toList = s.data.toList := by
    rw [strOfNums_data]
    unfold numsOf
    rw [List.map_map]
    conv => rhs; rw [← List.map_id s.data.toList]
    apply List.map_congr_left
    intro x hx
    simp
  have h2 : (strOfNums (numsOf s)).data = s.data := Array.toList_inj.1 h
  cases s
  cases hs : strOfNums (numsOf _)
  rw [hs] at h2
  simp only at h2
  rw [h2]
theorem bytesOf_inj {xs ys : List Int} (hx : ∀ x ∈ xs, 0 ≤ x ∧ x ≤ 255) (hy : ∀ y ∈ ys, 0 ≤ y ∧ y ≤ 255) (h : Lib.bytesOf xs = Lib.bytesOf ys) : xs = ys := by
  rw [← nums_str' xs hx, ← nums_str' ys hy]
  unfold strOfNums
  unfold Lib.bytesOf at h
  first | rw [h] | (congr 1; exact congrArg _ h)
theorem bytesOf_app (xs ys : List Int) : Lib.bytesOf (xs ++ ys) = Lib.bytesOf xs ++ Lib.bytesOf ys := List.map_append ..
/-- Where the first line ends. -/
theorem nl_at (A B : List Int) (hA : (10 : UInt8) ∉ Lib.bytesOf A) : nlAt (A ++ 10 :: B) = (A.length : Int) := by
  unfold nlAt
  have hl : (Lib.bytesOf A).length = A.length := bytesOf_len A
  have e : Lib.bytesOf (A ++ 10 :: B) = Lib.bytesOf A ++ 10 :: Lib.bytesOf B := by
    rw [bytesOf_app]; rfl
  rw [e, ← hl]
  refine Lib.index_first (by simp) ?_ ?_
  · unfold Lib.occAt
    rw [List.drop_left]
    rfl
  · intro j hj
    unfold Lib.occAt
    rw [Bool.eq_false_iff]
    intro h
    have h2 := List.isPrefixOf_iff_prefix.1 h
    obtain ⟨t, ht⟩ := h2
    have h3 := congrArg (·[0]?) ht
    simp only [List.cons_append, List.nil_append, List.getElem?_cons_zero, List.getElem?_drop, Nat.add_zero] at h3
    rw [List.getElem?_append_left hj] at h3
    exact hA (List.mem_of_getElem? h3.symm)
theorem cutA_at (A B : List Int) (hA : (10 : UInt8) ∉ Lib.bytesOf A) : cutA (A ++ 10 :: B) = A := by
  unfold cutA
  rw [nl_at A B hA, if_pos (by omega), Int.toNat_natCast, List.take_left]
theorem cutB_at (A B : List Int) (hA : (10 : UInt8) ∉ Lib.bytesOf A) : cutB (A ++ 10 :: B) = B := by
  unfold cutB
  rw [nl_at A B hA, if_pos (by omega), Int.toNat_natCast]
  rw [← List.drop_drop, List.drop_left]
  rfl
theorem pre_app (p : ByteArray) (B : List Int) : pre (numsOf p ++ B) p = true := by
  unfold pre Lib.hasPrefix
  rw [bytesOf_app, bytesOf_nums]
  exact List.isPrefixOf_iff_prefix.2 (List.prefix_append _ _)
theorem cutP_app (p : ByteArray) (B : List Int) : cutP (numsOf p ++ B) p = B := by
  unfold cutP
  rw [if_pos (pre_app p B), ← numsOf_length, List.drop_left]
theorem numsOf_app (s t : ByteArray) : numsOf (s ++ t) = numsOf s ++ numsOf t := by
  unfold numsOf
  simp
def cpB : ByteArray := ⟨#[99, 111, 112, 121, 58, 32]⟩
def crB : ByteArray := ⟨#[99, 111, 112, 121, 114, 101, 118, 58, 32]⟩
/-- What is told, in its parts. -/
theorem told_parts (q : ByteArray) (N T : List Int) : numsOf (toldB q N) ++ T = numsOf markB ++ ((numsOf cpB ++ numsOf q) ++ 10 :: ((numsOf crB ++ numsOf ⟨(hexOf N).toArray⟩) ++ 10 :: (numsOf markB ++ T))) := by
  unfold toldB
  have e : (⟨#[1, 10, 99, 111, 112, 121, 58, 32]⟩ : ByteArray) = markB ++ cpB := rfl
  rw [e]
  simp only [numsOf_app, List.append_assoc]
  rfl
theorem right_no10 {q : ByteArray} (h : rightL q.data.toList = true) : (10 : UInt8) ∉ q.data.toList := fun hm => by
  unfold rightL at h
  simp only [Bool.and_eq_true, Bool.not_eq_true', List.any_eq_false] at h
  exact h.1.2 10 hm (by decide)
theorem hex_no10 (N : List Int) (hN : ∀ x ∈ N, 0 ≤ x ∧ x ≤ 255) : (10 : UInt8) ∉ hexOf N := fun hm => by
  unfold hexOf at hm
  obtain ⟨x, hx, h⟩ := List.mem_flatMap.1 hm
  have hr := hN x hx
  have key : ∀ n, n < 16 → (10 : UInt8) ≠ UInt8.ofNat (hexD n) := by decide
  simp only [List.mem_cons, List.not_mem_nil, or_false] at h
  rcases h with h | h
  · exact key _ (by omega) h
  · exact key _ (by omega) h
/-- What is printed is read back. -/
theorem back_same {T : List Int} {q : ByteArray} {N ys : List Int} (h20 : N.length = 20) (hN : ∀ x ∈ N, 0 ≤ x ∧ x ≤ 255) (h : printL T q N = some ys) : parseL ys = some (T, q, N) := by
  have h0 := h
  unfold printL at h
  cases hf : noFrom q N
  · rw [hf, if_neg (by decide)] at h
    cases hr : rightL q.data.toList
    · rw [hr, if_neg (by decide)] at h; cases h
    · rw [hr, if_pos rfl] at h
      injection h with h
      rw [told_parts] at h
      have n1 : (10 : UInt8) ∉ Lib.bytesOf (numsOf cpB ++ numsOf q) := by
        rw [bytesOf_app, bytesOf_nums, bytesOf_nums]
        exact fun hm => (List.mem_append.1 hm).elim (by decide) (right_no10 hr)
      have n2 : (10 : UInt8) ∉ Lib.bytesOf (numsOf crB ++ numsOf ⟨(hexOf N).toArray⟩) := by
        rw [bytesOf_app, bytesOf_nums, bytesOf_nums]
        exact fun hm => (List.mem_append.1 hm).elim (by decide) (hex_no10 N hN)
      obtain ⟨rs, hrs⟩ : ∃ rs, (numsOf cpB ++ numsOf q) ++ 10 :: ((numsOf crB ++ numsOf ⟨(hexOf N).toArray⟩) ++ 10 :: (numsOf markB ++ T)) = rs := ⟨_, rfl⟩
      rw [hrs] at h
      have hpre : pre ys markB = true := by rw [← h]; exact pre_app _ _
      have hcut : cutP ys markB = rs := by rw [← h]; exact cutP_app _ _
      have hA : cutA rs = numsOf cpB ++ numsOf q := by rw [← hrs]; exact cutA_at _ _ n1
      have hB : cutB rs = (numsOf crB ++ numsOf ⟨(hexOf N).toArray⟩) ++ 10 :: (numsOf markB ++ T) := by rw [← hrs]; exact cutB_at _ _ n1
      have hok : copyOk rs = true := by unfold copyOk; rw [hA]; exact pre_app cpB _
      have hP : copyP rs = q := by
        unfold copyP
        rw [hok, if_pos rfl, hA, show cutP (numsOf cpB ++ numsOf q) ⟨#[99, 111, 112, 121, 58, 32]⟩ = numsOf q from cutP_app cpB _, str_nums']
      have hI : copyI rs = N := by
        unfold copyI
        rw [hok, if_pos rfl, hB, cutA_at _ _ n2, show cutP (numsOf crB ++ numsOf ⟨(hexOf N).toArray⟩) ⟨#[99, 111, 112, 121, 114, 101, 118, 58, 32]⟩ = numsOf ⟨(hexOf N).toArray⟩ from cutP_app crB _, str_nums', ← hexN_text N hN]
        exact parsed_hex N h20 hN
      have hR : copyR rs = numsOf markB ++ T := by
        unfold copyR
        rw [hok, if_pos rfl, hB, cutB_at _ _ n2]
      have ht : textL ys = T := by
        unfold textL
        rw [hcut, hR]; exact cutP_app _ _
      unfold parseL
      rw [hpre, if_pos rfl, ht, hcut, hP, hI, h0]
      simp
  · rw [hf, if_pos rfl] at h
    have hq : q = ⟨#[]⟩ ∧ N = zeros20 := by
      rw [noFrom_is] at hf
      simp only [Bool.and_eq_true, beq_iff_eq] at hf
      refine ⟨?_, hf.2⟩
      cases q with
      | mk d =>
        have := Array.toList_inj.1 hf.1
        simp only at this
        rw [this]
    obtain ⟨rfl, rfl⟩ := hq
    cases hp : pre T markB
    · rw [hp, if_neg (by decide)] at h
      injection h with h
      subst h
      unfold parseL
      rw [hp, if_neg (by decide)]
    · rw [hp, if_pos rfl] at h
      injection h with h
      have h1 : ys = numsOf markB ++ (numsOf markB ++ T) := by rw [← h]; rfl
      have hpre : pre ys markB = true := by rw [h1]; exact pre_app _ _
      have hcut : cutP ys markB = numsOf markB ++ T := by rw [h1]; exact cutP_app _ _
      have hok : copyOk (numsOf markB ++ T) = false := by
        unfold copyOk
        rw [show numsOf markB ++ T = [1] ++ 10 :: T from rfl, cutA_at [1] T (by decide)]
        decide
      have hP : copyP (numsOf markB ++ T) = ⟨#[]⟩ := by unfold copyP; rw [hok, if_neg (by decide)]
      have hI : copyI (numsOf markB ++ T) = zeros20 := by unfold copyI; rw [hok, if_neg (by decide)]
      have hR : copyR (numsOf markB ++ T) = numsOf markB ++ T := by unfold copyR; rw [hok, if_neg (by decide)]
      have ht : textL ys = T := by
        unfold textL
        rw [hcut, hR]; exact cutP_app _ _
      unfold parseL
      rw [hpre, if_pos rfl, ht, hcut, hP, hI, h0]
      simp
theorem cutP_bytes {xs : List Int} (p : ByteArray) (h : ∀ x ∈ xs, 0 ≤ x ∧ x ≤ 255) : ∀ x ∈ cutP xs p, 0 ≤ x ∧ x ≤ 255 := by
  unfold cutP
  split
  · exact fun x hx => h x (List.mem_of_mem_drop hx)
  · exact h
theorem cutB_bytes {xs : List Int} (h : ∀ x ∈ xs, 0 ≤ x ∧ x ≤ 255) : ∀ x ∈ cutB xs, 0 ≤ x ∧ x ≤ 255 := by
  unfold cutB
  split
  · exact fun x hx => h x (List.mem_of_mem_drop hx)
  · exact fun x hx => by cases hx
theorem copyR_bytes {xs : List Int} (h : ∀ x ∈ xs, 0 ≤ x ∧ x ≤ 255) : ∀ x ∈ copyR xs, 0 ≤ x ∧ x ≤ 255 := by
  unfold copyR
  split
  · exact cutB_bytes (cutB_bytes h)
  · exact h
/-- What is read is printed so. -/
theorem parse_back {C v : List Int} {p : ByteArray} {id : List Int} (hC : ∀ x ∈ C, 0 ≤ x ∧ x ≤ 255) (h : parseL C = some (v, p, id)) : printL v p id = some C ∧ id.length = 20 ∧ (∀ x ∈ id, 0 ≤ x ∧ x ≤ 255) ∧ (∀ x ∈ v, 0 ≤ x ∧ x ≤ 255) := by
  unfold parseL at h
  cases hp : pre C markB
  · rw [hp, if_neg (by decide)] at h
    simp only [Option.some.injEq, Prod.mk.injEq] at h
    obtain ⟨rfl, rfl, rfl⟩ := h
    refine ⟨?_, rfl, by decide, hC⟩
    unfold printL
    rw [show noFrom ⟨#[]⟩ zeros20 = true from by decide +kernel, if_pos rfl, hp, if_neg (by decide)]
  · rw [hp, if_pos rfl] at h
    have hv : ∀ x ∈ textL C, 0 ≤ x ∧ x ≤ 255 := cutP_bytes _ (copyR_bytes (cutP_bytes _ hC))
    cases hpr : printL (textL C) (copyP (cutP C markB)) (copyI (cutP C markB)) with
    | none => rw [hpr] at h; cases h
    | some ys =>
      rw [hpr] at h
      simp only at h
      cases he : (Lib.bytesOf ys == Lib.bytesOf C)
      · rw [he, if_neg (by decide)] at h; cases h
      · rw [he, if_pos rfl] at h
        simp only [Option.some.injEq, Prod.mk.injEq] at h
        obtain ⟨rfl, rfl, rfl⟩ := h
        refine ⟨?_, copyI_len _, copyI_bytes _, hv⟩
        rw [hpr, bytesOf_inj (printL_bytes hpr hv) hC (beq_iff_eq.1 he)]
end Go.Proofs.YtmkhnlfhbiabcaaDoor
