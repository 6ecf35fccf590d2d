/- Stable merging and sorting, plainly: what slices.SortStableFunc's parts do to a list. -/
namespace Go.Proofs.YthemolkmciofaaaDoor
set_option linter.unusedVariables false
section
variable {α : Type} (lt : α → α → Bool)
/-- A strict weak order. -/
structure SWO : Prop where
  irr : ∀ a, lt a a = false
  trans : ∀ a b c, lt a b = true → lt b c = true → lt a c = true
  neg : ∀ a b c, lt a b = true → lt c b = false → lt a c = true
variable {lt}
theorem SWO.neg2 (h : SWO lt) {a b c : α} (h1 : lt b a = false) (h2 : lt b c = true) : lt a c = true := by
  cases hc : lt a c with
  | true => rfl
  | false => rw [h.neg b c a h2 hc] at h1; cases h1
theorem SWO.le_trans (h : SWO lt) {a b c : α} (h1 : lt b a = false) (h2 : lt c b = false) : lt c a = false := by
  cases hc : lt c a with
  | false => rfl
  | true => rw [h.neg c a b hc h1] at h2; cases h2
theorem SWO.asym (h : SWO lt) {a b : α} (h1 : lt a b = true) : lt b a = false := by
  cases hc : lt b a with
  | false => rfl
  | true => have := h.trans a b a h1 hc; rw [h.irr a] at this; cases this
variable (lt)
/-- In order. -/
def Srt (l : List α) : Prop := l.Pairwise fun a b => lt b a = false
/-- Two lists merged; of equals those of the first one stand ahead. -/
def mrg : List α → List α → List α
  | [], ys => ys
  | x :: xs, [] => x :: xs
  | x :: xs, y :: ys => if lt y x = true then y :: mrg (x :: xs) ys else x :: mrg xs (y :: ys)
termination_by xs ys => xs.length + ys.length
/-- In order, by putting in one behind the other. -/
def sortS (l : List α) : List α := l.foldl (fun acc y => mrg lt acc [y]) []
variable {lt}
theorem mrg_nil_left (ys : List α) : mrg lt [] ys = ys := by rw [mrg]
theorem mrg_nil_right (xs : List α) : mrg lt xs [] = xs := by cases xs <;> rw [mrg]
theorem mrg_lt {x y : α} {xs ys : List α} (h : lt y x = true) : mrg lt (x :: xs) (y :: ys) = y :: mrg lt (x :: xs) ys := by rw [mrg, if_pos h]
theorem mrg_ge {x y : α} {xs ys : List α} (h : lt y x = false) : mrg lt (x :: xs) (y :: ys) = x :: mrg lt xs (y :: ys) := by rw [mrg, if_neg (by rw [h]; decide)]
theorem mrg_assoc (hw : SWO lt) : ∀ (n : Nat) (xs ys zs : List α), xs.length + ys.length + zs.length ≤ n → mrg lt (mrg lt xs ys) zs = mrg lt xs (mrg lt ys zs)
  | n, [], ys, zs, _ => by rw [mrg_nil_left, mrg_nil_left]
  | n, x :: xs, [], zs, _ => by rw [mrg_nil_right, mrg_nil_left]
  | n, x :: xs, y :: ys, [], _ => by rw [mrg_nil_right, mrg_nil_right]
  | 0, x :: xs, y :: ys, z :: zs, h => by simp at h
  | n + 1, x :: xs, y :: ys, z :: zs, h => by
    simp only [List.length_cons] at h
    cases hyx : lt y x with
    | true =>
      cases hzy : lt z y with
      | true =>
        have hzx := hw.trans z y x hzy hyx
        have ih := mrg_assoc hw n (x :: xs) (y :: ys) zs (by simp only [List.length_cons]; omega)
        rw [mrg_lt hyx] at ih ⊢
        rw [mrg_lt hzy, mrg_lt hzy, mrg_lt hzx, ih]
      | false =>
        have ih := mrg_assoc hw n (x :: xs) ys (z :: zs) (by simp only [List.length_cons]; omega)
        rw [mrg_lt hyx, mrg_ge hzy, mrg_ge hzy, mrg_lt hyx, ih]
    | false =>
      cases hzx : lt z x with
      | true =>
        have hzy : lt z y = true := hw.neg z x y hzx hyx
        have ih := mrg_assoc hw n (x :: xs) (y :: ys) zs (by simp only [List.length_cons]; omega)
        rw [mrg_ge hyx] at ih ⊢
        rw [mrg_lt hzx, mrg_lt hzy, mrg_lt hzx, ih]
      | false =>
        have ih := mrg_assoc hw n xs (y :: ys) (z :: zs) (by simp only [List.length_cons]; omega)
        rw [mrg_ge hyx, mrg_ge hzx, ih]
        cases hzy : lt z y with
        | true => rw [mrg_lt hzy, mrg_ge hzx]
        | false => rw [mrg_ge hzy, mrg_ge hyx]
theorem mrg_split : ∀ (x1 y1 x2 y2 : List α), (∀ y ∈ y1, ∀ x ∈ x2, lt y x = true) → (∀ x ∈ x1, ∀ y ∈ y2, lt y x = false) → mrg lt (x1 ++ x2) (y1 ++ y2) = mrg lt x1 y1 ++ mrg lt x2 y2
  | [], [], x2, y2, _, _ => by rw [mrg_nil_left]; rfl
  | [], y :: ys, x2, y2, h1, h2 => by
    rw [mrg_nil_left]
    cases x2 with
    | nil => simp [mrg_nil_left]
    | cons x r =>
      have ih := mrg_split [] ys (x :: r) y2 (fun y' hy' => h1 y' (by simp [hy'])) h2
      rw [mrg_nil_left] at ih
      show mrg lt (x :: r) (y :: (ys ++ y2)) = _
      rw [mrg_lt (h1 y (by simp) x (by simp))]
      show y :: mrg lt ([] ++ x :: r) (ys ++ y2) = _
      rw [ih]
      rfl
  | x :: xs, [], x2, y2, h1, h2 => by
    rw [mrg_nil_right]
    cases y2 with
    | nil => simp [mrg_nil_right]
    | cons y r =>
      have ih := mrg_split xs [] x2 (y :: r) h1 (fun x' hx' => h2 x' (by simp [hx']))
      rw [mrg_nil_right] at ih
      show mrg lt (x :: (xs ++ x2)) (y :: r) = _
      rw [mrg_ge (h2 x (by simp) y (by simp))]
      show x :: mrg lt (xs ++ x2) ([] ++ y :: r) = _
      rw [ih]
      rfl
  | x :: xs, y :: ys, x2, y2, h1, h2 => by
    show mrg lt (x :: (xs ++ x2)) (y :: (ys ++ y2)) = _
    cases hyx : lt y x with
    | true =>
      have ih := mrg_split (x :: xs) ys x2 y2 (fun y' hy' => h1 y' (by simp [hy'])) h2
      rw [mrg_lt hyx, mrg_lt hyx]
      show y :: mrg lt (x :: xs ++ x2) (ys ++ y2) = _
      rw [ih]
      rfl
    | false =>
      have ih := mrg_split xs (y :: ys) x2 y2 h1 (fun x' hx' => h2 x' (by simp [hx']))
      rw [mrg_ge hyx, mrg_ge hyx]
      show x :: mrg lt (xs ++ x2) (y :: ys ++ y2) = _
      rw [ih]
      rfl
termination_by x1 y1 => x1.length + y1.length
theorem srt_get {l : List α} (h : Srt lt l) {i j : Nat} {a b : α} (hij : i < j) (ha : l[i]? = some a) (hb : l[j]? = some b) : lt b a = false := by
  obtain ⟨h1, rfl⟩ := List.getElem?_eq_some_iff.1 ha
  obtain ⟨h2, rfl⟩ := List.getElem?_eq_some_iff.1 hb
  exact List.pairwise_iff_getElem.1 h i j h1 h2 hij
theorem srt_le (hw : SWO lt) {l : List α} (h : Srt lt l) {i j : Nat} {a b : α} (hij : i ≤ j) (ha : l[i]? = some a) (hb : l[j]? = some b) : lt b a = false := by
  rcases Nat.lt_or_eq_of_le hij with h1 | rfl
  · exact srt_get h h1 ha hb
  · rw [ha] at hb
    cases hb
    exact hw.irr a
theorem mem_take_get {l : List α} {i : Nat} {x : α} (h : x ∈ l.take i) : ∃ j, j < i ∧ l[j]? = some x := by
  obtain ⟨j, hj⟩ := List.mem_iff_getElem?.1 h
  rw [List.getElem?_take] at hj
  split at hj
  · exact ⟨j, ‹_›, hj⟩
  · cases hj
theorem mem_drop_get {l : List α} {i : Nat} {x : α} (h : x ∈ l.drop i) : ∃ j, i ≤ j ∧ l[j]? = some x := by
  obtain ⟨j, hj⟩ := List.mem_iff_getElem?.1 h
  rw [List.getElem?_drop] at hj
  exact ⟨i + j, by omega, hj⟩
/-- Where two lists in order part into two merges: told by the elements at the seam. -/
theorem sym_split (hw : SWO lt) {X Y : List α} (hX : Srt lt X) (hY : Srt lt Y) (i j : Nat) (hi : i ≤ X.length) (hj : j ≤ Y.length)
    (h1 : ∀ x y, 0 < j → X[i]? = some x → Y[j - 1]? = some y → lt y x = true) (h2 : ∀ x y, 0 < i → X[i - 1]? = some x → Y[j]? = some y → lt y x = false) :
    mrg lt X Y = mrg lt (X.take i) (Y.take j) ++ mrg lt (X.drop i) (Y.drop j) := by
  conv => lhs; rw [← List.take_append_drop i X, ← List.take_append_drop j Y]
  refine mrg_split _ _ _ _ (fun y hy x hx => ?_) (fun x hx y hy => ?_)
  · obtain ⟨p, hp, hpy⟩ := mem_take_get hy
    obtain ⟨q, hq, hqx⟩ := mem_drop_get hx
    have hq2 := (List.getElem?_eq_some_iff.1 hqx).1
    obtain ⟨x0, hx0⟩ : ∃ x, X[i]? = some x := ⟨_, List.getElem?_eq_getElem (by omega)⟩
    obtain ⟨y0, hy0⟩ : ∃ y, Y[j - 1]? = some y := ⟨_, List.getElem?_eq_getElem (by omega)⟩
    have e1 := h1 x0 y0 (by omega) hx0 hy0
    have e2 := srt_le hw hX hq hx0 hqx
    have e3 := srt_le hw hY (show p ≤ j - 1 by omega) hpy hy0
    exact hw.neg y x0 x (hw.neg2 e3 e1) e2
  · obtain ⟨p, hp, hpx⟩ := mem_take_get hx
    obtain ⟨q, hq, hqy⟩ := mem_drop_get hy
    have hq2 := (List.getElem?_eq_some_iff.1 hqy).1
    obtain ⟨x0, hx0⟩ : ∃ x, X[i - 1]? = some x := ⟨_, List.getElem?_eq_getElem (by omega)⟩
    obtain ⟨y0, hy0⟩ : ∃ y, Y[j]? = some y := ⟨_, List.getElem?_eq_getElem (by omega)⟩
    have e1 := h2 x0 y0 (by omega) hx0 hy0
    have e2 := srt_le hw hX (show p ≤ i - 1 by omega) hpx hx0
    have e3 := srt_le hw hY hq hy0 hqy
    exact hw.le_trans e2 (hw.le_trans e1 e3)
theorem one_left (hw : SWO lt) {x : α} {Y : List α} (hY : Srt lt Y) (i : Nat) (hi : i ≤ Y.length) (h1 : ∀ y, 0 < i → Y[i - 1]? = some y → lt y x = true) (h2 : ∀ y, Y[i]? = some y → lt y x = false) :
    mrg lt [x] Y = Y.take i ++ x :: Y.drop i := by
  have hX : Srt lt [x] := List.pairwise_singleton _ _
  rw [sym_split hw hX hY 0 i (Nat.zero_le _) hi (fun a y h ha hy => by cases ha; exact h1 y h hy) (fun a y h => absurd h (by omega))]
  have hY2 : Srt lt (Y.drop i) := List.Pairwise.drop hY
  have e := sym_split hw hX hY2 1 0 (Nat.le_refl _) (Nat.zero_le _) (fun a y h => absurd h (by omega)) (fun a y _ ha hy => by
    cases ha
    rw [List.getElem?_drop, Nat.add_zero] at hy
    exact h2 y hy)
  show mrg lt [] (Y.take i) ++ mrg lt [x] (Y.drop i) = _
  rw [e, mrg_nil_left]
  show Y.take i ++ (mrg lt [x] [] ++ mrg lt [] (Y.drop i)) = _
  rw [mrg_nil_left, mrg_nil_right]
  rfl
theorem one_right (hw : SWO lt) {y : α} {X : List α} (hX : Srt lt X) (i : Nat) (hi : i ≤ X.length) (h1 : ∀ x, 0 < i → X[i - 1]? = some x → lt y x = false) (h2 : ∀ x, X[i]? = some x → lt y x = true) :
    mrg lt X [y] = X.take i ++ y :: X.drop i := by
  have hY : Srt lt [y] := List.pairwise_singleton _ _
  rw [sym_split hw hX hY i 1 hi (Nat.le_refl _) (fun x a _ hx ha => by cases ha; exact h2 x hx) (fun x a _ _ ha => by cases ha)]
  have hX2 : Srt lt (X.take i) := List.Pairwise.take hX
  have e := sym_split hw hX2 hY (X.take i).length 0 (Nat.le_refl _) (Nat.zero_le _) (fun a b h => absurd h (by omega)) (fun x a h hx ha => by
    cases ha
    rw [List.length_take, Nat.min_eq_left hi, List.getElem?_take] at hx
    split at hx
    · exact h1 x (by omega) hx
    · cases hx)
  show mrg lt (X.take i) [y] ++ mrg lt (X.drop i) [] = _
  rw [e, mrg_nil_right, List.take_length, List.drop_length]
  show mrg lt (X.take i) [] ++ mrg lt [] [y] ++ X.drop i = _
  rw [mrg_nil_right, mrg_nil_left]
  simp
theorem mrg_perm : ∀ (n : Nat) (xs ys : List α), xs.length + ys.length ≤ n → (mrg lt xs ys).Perm (xs ++ ys)
  | n, [], ys, _ => by rw [mrg_nil_left]; exact List.Perm.refl _
  | n, x :: xs, [], _ => by rw [mrg_nil_right, List.append_nil]
  | 0, x :: xs, y :: ys, h => by simp at h
  | n + 1, x :: xs, y :: ys, h => by
    simp only [List.length_cons] at h
    cases hyx : lt y x with
    | true =>
      rw [mrg_lt hyx]
      have ih := mrg_perm n (x :: xs) ys (by simp only [List.length_cons]; omega)
      exact (List.Perm.cons y ih).trans (List.perm_middle (l₁ := x :: xs)).symm
    | false =>
      rw [mrg_ge hyx]
      exact List.Perm.cons x (mrg_perm n xs (y :: ys) (by simp only [List.length_cons]; omega))
theorem mrg_sorted (hw : SWO lt) : ∀ (n : Nat) (xs ys : List α), xs.length + ys.length ≤ n → Srt lt xs → Srt lt ys → Srt lt (mrg lt xs ys)
  | n, [], ys, _, _, h => by rw [mrg_nil_left]; exact h
  | n, x :: xs, [], _, h, _ => by rw [mrg_nil_right]; exact h
  | 0, x :: xs, y :: ys, h, _, _ => by simp at h
  | n + 1, x :: xs, y :: ys, h, hx, hy => by
    simp only [List.length_cons] at h
    obtain ⟨hx1, hx2⟩ := List.pairwise_cons.1 hx
    obtain ⟨hy1, hy2⟩ := List.pairwise_cons.1 hy
    cases hyx : lt y x with
    | true =>
      rw [mrg_lt hyx]
      refine List.pairwise_cons.2 ⟨fun z hz => ?_, mrg_sorted hw n (x :: xs) ys (by simp only [List.length_cons]; omega) hx hy2⟩
      rcases List.mem_append.1 ((mrg_perm _ (x :: xs) ys (Nat.le_refl _)).mem_iff.1 hz) with h1 | h1
      · rcases List.mem_cons.1 h1 with rfl | h1
        · exact hw.asym hyx
        · exact hw.le_trans (hw.asym hyx) (hx1 z h1)
      · exact hy1 z h1
    | false =>
      rw [mrg_ge hyx]
      refine List.pairwise_cons.2 ⟨fun z hz => ?_, mrg_sorted hw n xs (y :: ys) (by simp only [List.length_cons]; omega) hx2 hy⟩
      rcases List.mem_append.1 ((mrg_perm _ xs (y :: ys) (Nat.le_refl _)).mem_iff.1 hz) with h1 | h1
      · exact hx1 z h1
      · rcases List.mem_cons.1 h1 with rfl | h1
        · exact hyx
        · exact hw.le_trans hyx (hy1 z h1)
theorem sortS_snoc (l : List α) (y : α) : sortS lt (l ++ [y]) = mrg lt (sortS lt l) [y] := by unfold sortS; rw [List.foldl_append]; rfl
theorem sortS_nil : sortS lt ([] : List α) = [] := rfl
theorem sortS_app (hw : SWO lt) (xs : List α) : ∀ (n : Nat) (ys : List α), ys.length = n → sortS lt (xs ++ ys) = mrg lt (sortS lt xs) (sortS lt ys)
  | 0, ys, h => by
    rw [List.length_eq_zero_iff.1 h, List.append_nil, sortS_nil, mrg_nil_right]
  | n + 1, ys, h => by
    rcases List.eq_nil_or_concat ys with rfl | ⟨zs, y, rfl⟩
    · simp at h
    · rw [List.concat_eq_append] at h ⊢
      rw [← List.append_assoc, sortS_snoc, sortS_snoc, sortS_app hw xs n zs (by simp at h; exact h), mrg_assoc hw _ _ _ _ (Nat.le_refl _)]
theorem sortS_perm : ∀ (n : Nat) (l : List α), l.length = n → (sortS lt l).Perm l
  | 0, l, h => by rw [List.length_eq_zero_iff.1 h]; exact List.Perm.refl _
  | n + 1, l, h => by
    rcases List.eq_nil_or_concat l with rfl | ⟨zs, y, rfl⟩
    · exact List.Perm.refl _
    · rw [List.concat_eq_append] at h ⊢
      rw [sortS_snoc]
      exact (mrg_perm _ _ _ (Nat.le_refl _)).trans ((sortS_perm n zs (by simp at h; exact h)).append_right [y])
theorem sortS_sorted (hw : SWO lt) : ∀ (n : Nat) (l : List α), l.length = n → Srt lt (sortS lt l)
  | 0, l, h => by rw [List.length_eq_zero_iff.1 h]; exact List.Pairwise.nil
  | n + 1, l, h => by
    rcases List.eq_nil_or_concat l with rfl | ⟨zs, y, rfl⟩
    · exact List.Pairwise.nil
    · rw [List.concat_eq_append] at h ⊢
      rw [sortS_snoc]
      exact mrg_sorted hw _ _ _ (Nat.le_refl _) (sortS_sorted hw n zs (by simp at h; exact h)) (List.pairwise_singleton _ _)
theorem sortS_len (l : List α) : (sortS lt l).length = l.length := (sortS_perm _ l rfl).length_eq
theorem sortS_of (hw : SWO lt) : ∀ (n : Nat) (l : List α), l.length = n → Srt lt l → sortS lt l = l
  | 0, l, h, _ => by rw [List.length_eq_zero_iff.1 h]; rfl
  | n + 1, l, h, hs => by
    rcases List.eq_nil_or_concat l with rfl | ⟨zs, y, rfl⟩
    · rfl
    · rw [List.concat_eq_append] at h hs ⊢
      have h1 := (List.pairwise_append.1 hs).1
      have h2 := (List.pairwise_append.1 hs).2.2
      rw [sortS_snoc, sortS_of hw n zs (by simp at h; exact h) h1, one_right hw h1 zs.length (Nat.le_refl _) (fun x _ hx => h2 x (List.mem_of_getElem? hx) y (by simp)) (fun x hx => by rw [List.getElem?_eq_none (Nat.le_refl _)] at hx; cases hx), List.take_length, List.drop_length]
end
/-- Two cells change places. -/
def swapL {α : Type} (l : List α) (i j : Nat) : List α := match l[i]?, l[j]? with
  | some a, some b => (l.set i b).set j a
  | _, _ => l
section
variable {α : Type}
theorem swap_at (A B C : List α) (p q : α) (i j : Nat) (hi : i = A.length) (hj : j = A.length + 1 + B.length) : swapL (A ++ (p :: (B ++ (q :: C)))) i j = A ++ (q :: (B ++ (p :: C))) := by
  subst hi hj
  have e1 : (A ++ (p :: (B ++ (q :: C))))[A.length]? = some p := by rw [List.getElem?_append_right (Nat.le_refl _), Nat.sub_self]; rfl
  have e2 : (A ++ (p :: (B ++ (q :: C))))[A.length + 1 + B.length]? = some q := by
    rw [List.getElem?_append_right (by omega), show A.length + 1 + B.length - A.length = B.length + 1 by omega, List.getElem?_cons_succ, List.getElem?_append_right (Nat.le_refl _), Nat.sub_self]
    rfl
  unfold swapL
  rw [e1, e2]
  dsimp only
  rw [List.set_append_right _ _ (Nat.le_refl _), Nat.sub_self, List.set_cons_zero, List.set_append_right _ _ (by omega), show A.length + 1 + B.length - A.length = B.length + 1 by omega, List.set_cons_succ, List.set_append_right _ _ (Nat.le_refl _), Nat.sub_self, List.set_cons_zero]
/-- Two rows of k cells, changed cell by cell. -/
def swapN (l : List α) (a b : Nat) : Nat → List α
  | 0 => l
  | k + 1 => swapL (swapN l a b k) (a + k) (b + k)
theorem swapN_at (A M C : List α) : ∀ (P Q P2 Q2 : List α), P.length = Q.length → swapN (A ++ (P ++ P2 ++ (M ++ (Q ++ Q2 ++ C)))) A.length (A.length + (P ++ P2).length + M.length) P.length = A ++ (Q ++ P2 ++ (M ++ (P ++ Q2 ++ C))) := by
  intro P Q P2 Q2
  induction hk : P.length generalizing P Q P2 Q2 with
  | zero =>
    intro h
    rw [List.length_eq_zero_iff.1 hk, List.length_eq_zero_iff.1 h.symm]
    rfl
  | succ k ih =>
    intro h
    rcases List.eq_nil_or_concat P with rfl | ⟨P', p, rfl⟩
    · simp at hk
    rcases List.eq_nil_or_concat Q with rfl | ⟨Q', q, rfl⟩
    · simp at h
    rw [List.concat_eq_append] at *
    rw [List.concat_eq_append] at *
    have hk' : P'.length = k := by simp at hk; exact hk
    have hq' : k = Q'.length := by simp at h; exact h
    have := ih P' Q' (p :: P2) (q :: Q2) hk' hq'
    show swapL (swapN _ _ _ k) _ _ = _
    have e0 : P' ++ [p] ++ P2 = P' ++ p :: P2 := by simp
    have e1 : Q' ++ [q] ++ Q2 = Q' ++ q :: Q2 := by simp
    rw [e0, e1, this]
    have h3 := swap_at (A ++ Q') (P2 ++ M ++ P') (Q2 ++ C) p q (A.length + k) (A.length + (P' ++ p :: P2).length + M.length + k) (by rw [List.length_append]; omega) (by simp only [List.length_append, List.length_cons]; omega)
    have f1 : A ++ (Q' ++ p :: P2 ++ (M ++ (P' ++ q :: Q2 ++ C))) = A ++ Q' ++ (p :: (P2 ++ M ++ P' ++ (q :: (Q2 ++ C)))) := by simp
    have f2 : A ++ (Q' ++ [q] ++ P2 ++ (M ++ (P' ++ [p] ++ Q2 ++ C))) = A ++ Q' ++ (q :: (P2 ++ M ++ P' ++ (p :: (Q2 ++ C)))) := by simp
    rw [f1, f2]
    exact h3
end
end Go.Proofs.YthemolkmciofaaaDoor
