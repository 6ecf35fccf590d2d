/- A delta that is being made, plainly. -/
import Derived.Test.YtkpnmagcmpljoaaFlushMath
import Derived.Test.YtkpnmagcmpljoaaBlock
import Derived.Test.YtkpnmagcmpljoaaLebBack
namespace Go.Proofs.Ytkpnmagcmpljoaa
set_option linter.unusedVariables false
open Plain
theorem blockOf_inj (xs ys : List Int) (p q : Nat) (h : blockOf xs p = blockOf ys q) : (xs.drop p).take 16 = (ys.drop q).take 16 := by
  unfold blockOf at h
  have h2 : U8 ((xs.drop p).take 16) = U8 ((ys.drop q).take 16) := by simpa using congrArg Array.toList h
  unfold U8 at h2
  exact (List.map_inj_right (f := Value.int IntKind.u8) (fun x y e => by injection e)).1 h2
/-- What has been written becomes W; what is pending stands behind it in the target. -/
structure St (bs ts S W P : List Int) (at_ : Nat) : Prop where
  writes : Writes bs S W
  front : W ++ P = ts.take at_
  short : 127 * S.length ≤ 128 * W.length
theorem St.start (bs ts : List Int) : St bs ts [] [] [] 0 := ⟨Writes.nil bs, rfl, by simp⟩
theorem St.len {bs ts S W P : List Int} {at_ : Nat} (h : St bs ts S W P at_) (ha : at_ ≤ ts.length) : W.length + P.length = at_ := by
  have := congrArg List.length h.front
  rw [List.length_append, List.length_take] at this
  omega
theorem St.one {bs ts S W P : List Int} {at_ : Nat} (h : St bs ts S W P at_) (ha : at_ < ts.length) : St bs ts S W (P ++ [ts[at_]?.getD 0]) (at_ + 1) := by
  refine ⟨h.writes, ?_, h.short⟩
  rw [← List.append_assoc, h.front, List.take_succ_eq_append_getElem ha, List.getElem?_eq_getElem ha]; rfl
theorem sub_three (xs : List Int) (a b c d : Nat) : sub xs a (b + c + d) = (xs.drop a).take b ++ ((xs.drop (a + b)).take c ++ (xs.drop (a + b + c)).take d) := by
  unfold sub
  rw [Nat.add_assoc, List.take_add, List.take_add, List.drop_drop, List.drop_drop]
theorem sub_len (xs : List Int) (a n : Nat) (h : a + n ≤ xs.length) : (sub xs a n).length = n := by
  unfold sub; rw [List.length_take, List.length_drop]; omega
theorem St.copied {bs ts S W P : List Int} {at_ q j sz : Nat} (h : St bs ts S W P at_) (hq : q + 16 + sz ≤ bs.length) (hq2 : q ≤ 4294967295) (ha : at_ + 16 + sz ≤ ts.length) (hb : blockOf ts at_ = blockOf bs q)
    (hj : j ≤ P.length) (hjq : j ≤ q) (hback : P.drop (P.length - j) = (bs.take q).drop (q - j)) (hal : (bs.drop (q + 16)).take sz = (ts.drop (at_ + 16)).take sz) (hts : ts.length < 16777216) :
    St bs ts (S ++ flushOf (P.take (P.length - j)) ++ toldOf ((q - j) + (j + 16 + sz) * 4294967296)) (W ++ P.take (P.length - j) ++ sub bs (q - j) (j + 16 + sz)) [] (at_ + 16 + sz) := by
  have hl := h.len (by omega)
  have hw := writes_told bs (q - j) (j + 16 + sz) (by omega) (by omega) (by omega) (by omega)
  have hf := writes_flush bs _ (P.take (P.length - j)) (Nat.le_refl _)
  refine ⟨(h.writes.append hf).append hw, ?_, ?_⟩
  · have e1 : (bs.drop (q - j)).take j = P.drop (P.length - j) := by
      rw [hback, List.drop_take]
      congr 1; omega
    rw [List.append_nil, sub_three, e1, show q - j + j = q by omega, ← blockOf_inj _ _ _ _ hb, hal]
    rw [Nat.add_assoc, List.take_add, ← h.front, List.take_add, List.drop_drop]
    simp only [List.append_assoc]
    congr 1
    rw [← List.append_assoc, List.take_append_drop]
  · have h1 := flushOf_len _ (P.take (P.length - j)) (Nat.le_refl _)
    have h2 := toldOf_len ((q - j) + (j + 16 + sz) * 4294967296)
    have h3 := h.short
    simp only [List.length_append]
    rw [sub_len _ _ _ (by omega)]
    omega
theorem flushOf_range : ∀ (n : Nat) (P : List Int), P.length ≤ n → (∀ x ∈ P, 0 ≤ x ∧ x ≤ 255) → ∀ x ∈ flushOf P, 0 ≤ x ∧ x ≤ 255
  | 0, P, h, hx => by
    obtain rfl : P = [] := List.eq_nil_of_length_eq_zero (by omega)
    rw [flushOf_nil]; intro x hx; cases hx
  | n + 1, P, h, hx => by
    by_cases h0 : P = []
    · subst h0; rw [flushOf_nil]; intro x hx; cases hx
    · have hl : 0 < P.length := List.length_pos_iff.2 h0
      rw [flushOf_step P h0]
      intro x hm
      rcases List.mem_append.1 hm with hm | hm
      · rcases List.mem_cons.1 hm with rfl | hm
        · omega
        · exact hx x (List.mem_of_mem_take hm)
      · exact flushOf_range n (P.drop 127) (by rw [List.length_drop]; omega) (fun y hy => hx y (List.mem_of_mem_drop hy)) x hm
theorem bytesFrom_range (x : Nat) : ∀ (f i : Nat), ∀ y ∈ bytesFrom x i f, 0 ≤ y ∧ y ≤ 255
  | 0, i, y, h => by cases h
  | f + 1, i, y, h => by
    rw [bytesFrom] at h
    rcases List.mem_append.1 h with h | h
    · unfold digL at h
      split at h
      · cases h
      · rw [List.mem_singleton] at h
        subst h
        unfold dig; omega
    · exact bytesFrom_range x f (i + 1) y h
theorem toldOf_range (x : Nat) : ∀ y ∈ toldOf x, 0 ≤ y ∧ y ≤ 255 := fun y h => by
  unfold toldOf at h
  have hm := maskN_lt x 7
  rcases List.mem_cons.1 h with rfl | h
  · omega
  · exact bytesFrom_range x 7 0 y h
theorem range_app {xs ys : List Int} (hx : ∀ x ∈ xs, 0 ≤ x ∧ x ≤ 255) (hy : ∀ x ∈ ys, 0 ≤ x ∧ x ≤ 255) : ∀ x ∈ xs ++ ys, 0 ≤ x ∧ x ≤ 255 := fun x h => by
  rcases List.mem_append.1 h with h | h
  · exact hx x h
  · exact hy x h
/-- Where the target is the base. -/
def SameSt (bs ts S P : List Int) (at_ : Nat) : Prop :=
  (ts.length < 16 → S = []) ∧ (ts = bs → 16 ≤ ts.length → (at_ = 0 ∧ S = [] ∧ P = []) ∨ (at_ = ts.length ∧ S.length ≤ 8 ∧ P = []))
theorem SameSt.start (bs ts : List Int) : SameSt bs ts [] [] 0 := ⟨fun _ => rfl, fun _ _ => .inl ⟨rfl, rfl, rfl⟩⟩
theorem SameSt.one {bs ts S P : List Int} {at_ n : Nat} (h : SameSt bs ts S P at_) (ha : at_ < ts.length) (hn : 16 ≤ bs.length → 0 < n) (hm : at_ + 16 ≤ ts.length → blockOf ts at_ = blockOf bs 0 → n = 0) (x : Int) : SameSt bs ts S (P ++ [x]) (at_ + 1) := by
  refine ⟨h.1, fun e hl => ?_⟩
  rcases h.2 e hl with ⟨h1, h2, h3⟩ | ⟨h1, h2, h3⟩
  · exfalso
    subst h1
    have := hm (by omega) (by rw [e])
    have := hn (by rw [← e]; exact hl)
    omega
  · omega
theorem SameSt.copied {bs ts S P : List Int} {at_ q j sz : Nat} (h : SameSt bs ts S P at_) (hq : q + 16 + sz ≤ bs.length) (ha : at_ + 16 + sz ≤ ts.length) (hqq : blockOf ts at_ = blockOf bs 0 → q = 0)
    (hj : j ≤ P.length) (hjq : j ≤ q) (hmost : sz = bs.length - (q + 16) ∨ sz = ts.length - (at_ + 16) ∨ (bs.drop (q + 16))[sz]?.getD 0 ≠ (ts.drop (at_ + 16))[sz]?.getD 0) :
    SameSt bs ts (S ++ flushOf (P.take (P.length - j)) ++ toldOf ((q - j) + (j + 16 + sz) * 4294967296)) [] (at_ + 16 + sz) := by
  refine ⟨fun hl => by omega, fun e hl => ?_⟩
  rcases h.2 e hl with ⟨h1, h2, h3⟩ | ⟨h1, h2, h3⟩
  · right
    subst h1
    have hq0 := hqq (by rw [e])
    subst hq0
    rw [e] at hmost hl ha ⊢
    refine ⟨?_, ?_, rfl⟩
    · rcases hmost with h | h | h
      · omega
      · omega
      · exact absurd rfl h
    · have h4 := toldOf_len ((0 - j) + (j + 16 + sz) * 4294967296)
      rw [h2, h3]
      simp only [List.take_nil, flushOf_nil, List.append_nil, List.nil_append]
      exact h4
  · omega
/-- All is written. -/
structure Made (bs ts D S : List Int) : Prop where
  row : D = lebBytes bs.length ++ lebBytes ts.length ++ S
  writes : Writes bs S ts
  short : 127 * S.length ≤ 128 * ts.length + 126
  same : ts = bs → S.length ≤ 16 ∧ (16 ≤ ts.length → S.length ≤ 8)
theorem St.done {bs ts S W P : List Int} (h : St bs ts S W P ts.length) : Writes bs (S ++ flushOf P) ts ∧ 127 * (S ++ flushOf P).length ≤ 128 * ts.length + 126 := by
  have hl := h.len (Nat.le_refl _)
  have hf := writes_flush bs _ P (Nat.le_refl _)
  have h1 := flushOf_len _ P (Nat.le_refl _)
  have hw := h.writes.append hf
  rw [h.front, List.take_length] at hw
  refine ⟨hw, ?_⟩
  have := h.short
  rw [List.length_append]; omega
theorem SameSt.done {bs ts S W P : List Int} (h : SameSt bs ts S P ts.length) (hs : St bs ts S W P ts.length) (e : ts = bs) : (S ++ flushOf P).length ≤ 16 ∧ (16 ≤ ts.length → (S ++ flushOf P).length ≤ 8) := by
  have hl := hs.len (Nat.le_refl _)
  have hf := flushOf_len _ P (Nat.le_refl _)
  by_cases h16 : 16 ≤ ts.length
  · rcases h.2 e h16 with ⟨h1, h2, h3⟩ | ⟨h1, h2, h3⟩
    · omega
    · subst h3
      rw [flushOf_nil, List.append_nil]
      exact ⟨by omega, fun _ => h2⟩
  · have := h.1 (by omega)
    subst this
    rw [List.nil_append]
    exact ⟨by omega, fun h => absurd h h16⟩
theorem flushOf_few (P : List Int) (h : P.length < 16) : (flushOf P).length ≤ 16 := by
  have := flushOf_len _ P (Nat.le_refl _)
  omega
theorem made_len {bs ts D S : List Int} (h : Made bs ts D S) : D.length ≤ 30 + ts.length + ts.length / 100 := by
  have h1 := lebBytes_len bs.length
  have h2 := lebBytes_len ts.length
  have h3 := h.short
  rw [h.row]
  simp only [List.length_append]
  omega
theorem made_same {bs ts D S : List Int} (h : Made bs ts D S) (e : ts = bs) : D.length ≤ 30 := by
  have h1 := lebBytes_len bs.length
  have h2 := lebBytes_len ts.length
  obtain ⟨h3, h4⟩ := h.same e
  rw [h.row]
  simp only [List.length_append]
  by_cases hl : 16 ≤ ts.length
  · have := h4 hl; omega
  · have := lebBytes_small ts.length (by omega)
    rw [← e, this]; omega
/-- A delta that is made makes of the base the target. -/
theorem made_apply {bs ts D S : List Int} (h : Made bs ts D S) (hb : bs.length ≤ 4611686018427387903) (ht : ts.length ≤ 4611686018427387903) (most : Int) (hm : (ts.length : Int) ≤ most) : applyOf bs D most = (0, ts) := by
  have hs := sizesOf_made bs.length ts.length hb ht S
  rw [← h.row] at hs
  unfold applyOf
  rw [hs]
  simp only [ne_eq, not_true_eq_false, if_false]
  rw [if_neg (by omega)]
  have hd : D.drop ((lebBytes bs.length).length + (lebBytes ts.length).length) = S := by
    rw [h.row, ← List.length_append, List.drop_left]
  rw [hd]
  have hl : S.length ≤ D.length := by rw [h.row]; simp only [List.length_append]; omega
  have := h.writes ts.length [] [] (by simp) (D.length + 1) (by rw [List.append_nil]; omega)
  rw [List.append_nil] at this
  rw [this]
  simp [stepsGo]
/-- A delta that is made, and steps more. -/
theorem made_more {bs ts D S : List Int} (h : Made bs ts D S) (hb : bs.length ≤ 4611686018427387903) (ht : ts.length ≤ 4611686018427387903) (more : List Int) : applyOf bs (D ++ more) (ts.length : Int) = stepsGo bs ts.length (more.length + 1) more ts := by
  have hs := sizesOf_made bs.length ts.length hb ht (S ++ more)
  rw [← List.append_assoc, ← h.row] at hs
  unfold applyOf
  rw [hs]
  simp only [ne_eq, not_true_eq_false, if_false]
  rw [if_neg (by omega)]
  have hd : (D ++ more).drop ((lebBytes bs.length).length + (lebBytes ts.length).length) = S ++ more := by
    rw [h.row, List.append_assoc, ← List.length_append, List.drop_left]
  rw [hd]
  have hl : S.length ≤ D.length := by rw [h.row]; simp only [List.length_append]; omega
  have := h.writes ts.length more [] (by simp) ((D ++ more).length + 1) (by simp only [List.length_append]; omega)
  rw [this, List.nil_append]
theorem made_one {bs ts D S : List Int} (h : Made bs ts D S) (hb : bs.length ≤ 4611686018427387903) (ht : ts.length ≤ 4611686018427387903) (x : Int) : applyOf bs (D ++ [1, x]) (ts.length : Int) = (4, []) := by
  rw [made_more h hb ht]
  simp [stepsGo, stepOf]
theorem made_zero {bs ts D S : List Int} (h : Made bs ts D S) (hb : bs.length ≤ 4611686018427387903) (ht : ts.length ≤ 4611686018427387903) : applyOf bs (D ++ [0]) (ts.length : Int) = (4, []) := by
  rw [made_more h hb ht]
  simp [stepsGo, stepOf]
theorem made_two {bs ts D S : List Int} (h : Made bs ts D S) (hb : bs.length ≤ 4611686018427387903) (ht : ts.length ≤ 4611686018427387903) (x : Int) : applyOf bs (D ++ [2, x]) (ts.length : Int) = (3, []) := by
  rw [made_more h hb ht]
  simp [stepsGo, stepOf]
theorem made_less {bs ts D S : List Int} (h : Made bs ts D S) (hb : bs.length ≤ 4611686018427387903) (ht : ts.length ≤ 4611686018427387903) : applyOf bs D ((ts.length : Int) - 1) = (2, []) := by
  have hs := sizesOf_made bs.length ts.length hb ht S
  rw [← h.row] at hs
  unfold applyOf
  rw [hs]
  simp only [ne_eq, not_true_eq_false, if_false]
  rw [if_pos (by omega)]
theorem made_other {bs ts D S : List Int} (h : Made bs ts D S) (hb : bs.length ≤ 4611686018427387903) (ht : ts.length ≤ 4611686018427387903) (x : Int) : applyOf (bs ++ [x]) D (ts.length : Int) = (4, []) := by
  have hs := sizesOf_made bs.length ts.length hb ht S
  rw [← h.row] at hs
  unfold applyOf
  rw [hs]
  simp only [ne_eq, not_true_eq_false, if_false]
  rw [if_pos (by rw [List.length_append]; simp)]
theorem made_sizes {bs ts D S : List Int} (h : Made bs ts D S) (hb : bs.length ≤ 4611686018427387903) (ht : ts.length ≤ 4611686018427387903) : ∃ k, sizesOf D = (bs.length, ts.length, k, 0) := by
  rw [h.row]; exact ⟨_, sizesOf_made bs.length ts.length hb ht S⟩
end Go.Proofs.Ytkpnmagcmpljoaa
