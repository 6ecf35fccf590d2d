/- Paths as names of files: plainly. -/
import Derived.Test.YtmjpejnpcmodgaaDoorPathMath
import Derived.Test.YtmjpejnpcmodgaaDoorCutMath
import Derived.Lib.Join
import Derived.Lib.Strings
namespace Go.Proofs.YtmjpejnpcmodgaaDoor
open Go.RowKit Plain
set_option linter.unusedVariables false
def dig (n : Nat) : UInt8 := UInt8.ofNat (if n < 10 then 48 + n else 87 + n)
def byNum (c : UInt8) : List UInt8 := [126, dig (c.toNat / 16), dig (c.toNat % 16)]
def oddB (c : UInt8) : Bool := decide (c.toNat < 32) || decide (125 < c.toNat) || ([92, 58, 42, 63, 34, 60, 62, 124] : List UInt8).contains c
def tokB (c : UInt8) : List UInt8 := if 65 ≤ c.toNat ∧ c.toNat ≤ 90 then [95, c + 32] else if c = 95 then [95, 95] else if oddB c = true then byNum c else [c]
def greatB (c : UInt8) : UInt8 := if 97 ≤ c.toNat ∧ c.toNat ≤ 122 then c - 32 else c
def hexV (c : UInt8) : Nat := if 48 ≤ c.toNat ∧ c.toNat ≤ 57 then c.toNat - 48 else if 97 ≤ c.toNat ∧ c.toNat ≤ 102 then c.toNat - 87 else 0
def numB (a b : UInt8) : UInt8 := UInt8.ofNat (16 * hexV a + hexV b)
def untoldL : List UInt8 → List UInt8
  | [] => []
  | [c] => [c]
  | [c, d] => if c = 95 then [greatB d] else [c, d]
  | c :: d :: e :: r => if c = 95 then greatB d :: untoldL (e :: r) else if c = 126 then numB d e :: untoldL r else c :: untoldL (d :: e :: r)
theorem untold_95 (d : UInt8) : ∀ r, untoldL (95 :: d :: r) = greatB d :: untoldL r
  | [] => by simp [untoldL]
  | e :: r => by simp [untoldL]
theorem untold_126 (a b : UInt8) (r : List UInt8) : untoldL (126 :: a :: b :: r) = numB a b :: untoldL r := by
  rw [untoldL, if_neg (by decide), if_pos rfl]
theorem untold_other (c : UInt8) (h1 : c ≠ 95) (h2 : c ≠ 126) : ∀ r, untoldL (c :: r) = c :: untoldL r
  | [] => by rw [untoldL, untoldL]
  | [d] => by simp [untoldL, h1]
  | d :: e :: r => by rw [untoldL, if_neg h1, if_neg h2]
theorem all_bytes {P : UInt8 → Bool} (h : ∀ n, n < 256 → P (UInt8.ofNat n) = true) (c : UInt8) : P c = true := by
  have := h c.toNat c.toNat_lt
  rwa [UInt8.ofNat_toNat] at this
/-- A byte's two ways to be told. -/
def Tok (c : UInt8) (t : List UInt8) : Prop := t = tokB c ∨ t = byNum c
theorem num_dec (c : UInt8) : numB (dig (c.toNat / 16)) (dig (c.toNat % 16)) = c := by
  have := all_bytes (P := fun c => numB (dig (c.toNat / 16)) (dig (c.toNat % 16)) == c) (by decide +kernel) c
  exact eq_of_beq this
theorem great_dec (c : UInt8) (h : 65 ≤ c.toNat ∧ c.toNat ≤ 90) : greatB (c + 32) = c := by
  have := all_bytes (P := fun c => !(decide (65 ≤ c.toNat) && decide (c.toNat ≤ 90)) || greatB (c + 32) == c) (by decide +kernel) c
  rw [decide_eq_true h.1, decide_eq_true h.2] at this
  exact eq_of_beq this
theorem odd_126 : oddB 126 = true := by decide
theorem tok_shape (c : UInt8) : (∃ d, tokB c = [95, d] ∧ greatB d = c) ∨ (∃ a b, tokB c = [126, a, b] ∧ numB a b = c) ∨ (tokB c = [c] ∧ c ≠ 95 ∧ c ≠ 126) := by
  unfold tokB
  by_cases h1 : 65 ≤ c.toNat ∧ c.toNat ≤ 90
  · rw [if_pos h1]
    exact .inl ⟨_, rfl, great_dec c h1⟩
  · rw [if_neg h1]
    by_cases h2 : c = 95
    · rw [if_pos h2]
      exact .inl ⟨_, rfl, by rw [h2]; decide⟩
    · rw [if_neg h2]
      by_cases h3 : oddB c = true
      · rw [if_pos h3]
        exact .inr (.inl ⟨_, _, rfl, num_dec c⟩)
      · rw [if_neg h3]
        exact .inr (.inr ⟨rfl, h2, fun e => h3 (by rw [e]; decide)⟩)
theorem tok_dec {c : UInt8} {t : List UInt8} (h : Tok c t) (r : List UInt8) : untoldL (t ++ r) = c :: untoldL r := by
  rcases h with rfl | rfl
  · rcases tok_shape c with ⟨d, e, hd⟩ | ⟨a, b, e, hab⟩ | ⟨e, h1, h2⟩
    · rw [e]
      show untoldL (95 :: d :: r) = _
      rw [untold_95, hd]
    · rw [e]
      show untoldL (126 :: a :: b :: r) = _
      rw [untold_126, hab]
    · rw [e]
      exact untold_other c h1 h2 r
  · show untoldL (126 :: _ :: _ :: r) = _
    rw [untold_126, num_dec]
theorem toks_dec : ∀ (p : List UInt8) (l : List (List UInt8)) (r : List UInt8), l.length = p.length → (∀ (i : Nat) c t, p[i]? = some c → l[i]? = some t → Tok c t) → untoldL (l.flatten ++ r) = p ++ untoldL r
  | [], [], r, _, _ => rfl
  | [], _ :: _, r, h, _ => by simp at h
  | _ :: _, [], r, h, _ => by simp at h
  | c :: p, t :: l, r, h, ht => by
    have ih := toks_dec p l r (by simpa using h) (fun i c' t' h1 h2 => ht (i + 1) c' t' (by simpa using h1) (by simpa using h2))
    have h0 := ht 0 c t rfl rfl
    rw [List.flatten_cons, List.append_assoc, tok_dec h0, ih]
    rfl
def resv (l : List UInt8) : Bool := l == [97, 117, 120] || l == [99, 111, 110] || l == [112, 114, 110] || l == [110, 117, 108] || (decide (l.length = 4) && (l.take 3 == [99, 111, 109] || l.take 3 == [108, 112, 116]) && decide (49 ≤ (l[3]?.getD 0).toNat) && decide ((l[3]?.getD 0).toNat ≤ 57))
def spc (c : UInt8) : Bool := c == 46 || c == 32
def aheadL (p : List UInt8) : List UInt8 := (Lib.cut (p.map tokB).flatten [46]).1
def toks2 (p : List UInt8) : List (List UInt8) := if resv (aheadL p) = true then (p.map tokB).set 2 (byNum (p[2]?.getD 0)) else p.map tokB
def setIf (p : List UInt8) (i : Nat) (l : List (List UInt8)) : List (List UInt8) := if spc (p[i]?.getD 0) = true then l.set i (byNum (p[i]?.getD 0)) else l
def toks3 (p : List UInt8) : List (List UInt8) := setIf p (p.length - 1) (setIf p 0 (toks2 p))
def toldL (p : List UInt8) : List UInt8 := (toks3 p).flatten
def AllTok (p : List UInt8) (l : List (List UInt8)) : Prop := l.length = p.length ∧ ∀ (i : Nat) c t, p[i]? = some c → l[i]? = some t → Tok c t
theorem AllTok.map (p : List UInt8) : AllTok p (p.map tokB) := by
  refine ⟨by simp, fun i c t h1 h2 => ?_⟩
  rw [List.getElem?_map, h1] at h2
  exact .inl (by simpa using h2.symm)
theorem AllTok.set {p : List UInt8} {l : List (List UInt8)} (h : AllTok p l) (k : Nat) : AllTok p (l.set k (byNum (p[k]?.getD 0))) := by
  refine ⟨by rw [List.length_set]; exact h.1, fun i c t h1 h2 => ?_⟩
  rw [List.getElem?_set] at h2
  by_cases hk : k = i
  · subst hk
    rw [if_pos rfl] at h2
    split at h2
    · injection h2 with h2
      rw [h1] at h2
      exact .inr h2.symm
    · cases h2
  · rw [if_neg hk] at h2
    exact h.2 i c t h1 h2
theorem toks2_all (p : List UInt8) : AllTok p (toks2 p) := by
  unfold toks2
  split
  · exact (AllTok.map p).set 2
  · exact AllTok.map p
theorem setIf_all {p : List UInt8} {l : List (List UInt8)} (h : AllTok p l) (i : Nat) : AllTok p (setIf p i l) := by
  unfold setIf
  split
  · exact h.set i
  · exact h
theorem toks3_all (p : List UInt8) : AllTok p (toks3 p) := setIf_all (setIf_all (toks2_all p) _) _
theorem told_dec (x r : List UInt8) : untoldL (toldL x ++ r) = x ++ untoldL r := toks_dec x (toks3 x) r (toks3_all x).1 (toks3_all x).2
/-- A run of plain bytes told is as long in what is told. -/
theorem plain_run : ∀ (p : List UInt8) (k : Nat), k ≤ (p.map tokB).flatten.length → (∀ (i : Nat) x, i < k → (p.map tokB).flatten[i]? = some x → x ≠ 95 ∧ x ≠ 126) → k ≤ p.length
  | _, 0, _, _ => Nat.zero_le _
  | [], k + 1, h, _ => by simp at h
  | c :: p, k + 1, h, hx => by
    have e : ((c :: p).map tokB).flatten = tokB c ++ (p.map tokB).flatten := by rw [List.map_cons, List.flatten_cons]
    rw [e] at h hx
    rcases tok_shape c with ⟨d, e1, -⟩ | ⟨a, b, e1, -⟩ | ⟨e1, -, -⟩
    · rw [e1] at hx
      exact absurd rfl (hx 0 95 (by omega) rfl).1
    · rw [e1] at hx
      exact absurd rfl (hx 0 126 (by omega) rfl).2
    · rw [e1] at h hx
      have := plain_run p k (by simpa using h) (fun i x hi hg => hx (i + 1) x (by omega) (by simpa using hg))
      rw [List.length_cons]; omega
theorem cut_prefix (l : List UInt8) : ∃ r, l = (Lib.cut l [46]).1 ++ r := by
  rcases cut_or 46 l with hn | ⟨A, B, rfl, hA⟩
  · rw [cut_not _ _ hn]; exact ⟨[], by simp⟩
  · rw [cut_at _ _ _ hA]; exact ⟨46 :: B, rfl⟩
theorem resv_front {l : List UInt8} (h : resv l = true) : 3 ≤ l.length ∧ ∀ (i : Nat) x, i < 3 → l[i]? = some x → x ≠ 95 ∧ x ≠ 126 := by
  unfold resv at h
  simp only [Bool.or_eq_true, Bool.and_eq_true, beq_iff_eq, decide_eq_true_eq] at h
  have key : ∀ a b c : UInt8, (a ≠ 95 ∧ a ≠ 126) → (b ≠ 95 ∧ b ≠ 126) → (c ≠ 95 ∧ c ≠ 126) → ∀ r, 3 ≤ (a :: b :: c :: r).length ∧ ∀ (i : Nat) x, i < 3 → (a :: b :: c :: r)[i]? = some x → x ≠ 95 ∧ x ≠ 126 := by
    intro a b c ha hb hc r
    refine ⟨by simp, fun i x hi hx => ?_⟩
    rcases i with _ | _ | _ | i
    · simp at hx; subst hx; exact ha
    · simp at hx; subst hx; exact hb
    · simp at hx; subst hx; exact hc
    · omega
  rcases h with (((rfl | rfl) | rfl) | rfl) | ⟨⟨⟨h4, h3⟩, -⟩, -⟩
  · exact key _ _ _ (by decide) (by decide) (by decide) _
  · exact key _ _ _ (by decide) (by decide) (by decide) _
  · exact key _ _ _ (by decide) (by decide) (by decide) _
  · exact key _ _ _ (by decide) (by decide) (by decide) _
  · rcases l with _ | ⟨a, _ | ⟨b, _ | ⟨c, r⟩⟩⟩
    · simp at h4
    · simp at h4
    · simp at h4
    · simp only [List.take_succ_cons, List.take_zero, List.cons.injEq, and_true] at h3
      rcases h3 with ⟨rfl, rfl, rfl⟩ | ⟨rfl, rfl, rfl⟩
      · exact key _ _ _ (by decide) (by decide) (by decide) _
      · exact key _ _ _ (by decide) (by decide) (by decide) _
theorem resv_len {p : List UInt8} (h : resv (aheadL p) = true) : 3 ≤ p.length := by
  obtain ⟨r, hr⟩ := cut_prefix (p.map tokB).flatten
  obtain ⟨h3, hx⟩ := resv_front h
  refine plain_run p 3 ?_ fun i x hi hg => ?_
  · rw [hr, List.length_append]
    unfold aheadL at h3
    omega
  · refine hx i x hi ?_
    rw [hr, List.getElem?_append_left (by unfold aheadL at h3; omega)] at hg
    exact hg
/-! ### Parts -/
def doubtL (x : List UInt8) : Bool := Lib.hasSuffix x [46, 105] || Lib.hasSuffix x [46, 100] || Lib.hasSuffix x [46, 104, 103]
def hg1 (x : List UInt8) : List UInt8 := if doubtL x = true then x ++ [46, 104, 103] else x
def trimL (x : List UInt8) : List UInt8 := Lib.trimSuffix x [46, 104, 103]
def hgL : List (List UInt8) → List (List UInt8)
  | [] => []
  | [x] => [x]
  | x :: y :: r => hg1 x :: hgL (y :: r)
def trL : List (List UInt8) → List (List UInt8)
  | [] => []
  | [x] => [x]
  | x :: y :: r => trimL x :: trL (y :: r)
theorem suffix_app (x s : List UInt8) : Lib.hasSuffix (x ++ s) s = true := by
  unfold Lib.hasSuffix
  rw [List.isSuffixOf_iff_suffix]
  exact ⟨x, rfl⟩
theorem trim_hg (x : List UInt8) : trimL (hg1 x) = x := by
  unfold hg1
  by_cases h : doubtL x = true
  · rw [if_pos h]
    unfold trimL Lib.trimSuffix
    rw [if_pos (suffix_app _ _), List.length_append, Nat.add_sub_cancel, List.take_left]
  · rw [if_neg h]
    unfold trimL Lib.trimSuffix
    rw [if_neg]
    intro hs
    apply h
    unfold doubtL
    rw [hs]
    simp
theorem tr_hg : ∀ l : List (List UInt8), trL (hgL l) = l
  | [] => rfl
  | [x] => rfl
  | x :: y :: r => by
    have ih := tr_hg (y :: r)
    obtain ⟨z, zs, hz⟩ : ∃ z zs, hgL (y :: r) = z :: zs := by
      cases r with
      | nil => exact ⟨_, _, rfl⟩
      | cons u us => exact ⟨_, _, rfl⟩
    rw [hz] at ih
    rw [hgL, hz, trL, ih, trim_hg]
theorem hgL_length : ∀ l : List (List UInt8), (hgL l).length = l.length
  | [] => rfl
  | [x] => rfl
  | x :: y :: r => by rw [hgL, List.length_cons, hgL_length (y :: r)]; rfl
theorem hgL_cons (x : List UInt8) {l : List (List UInt8)} (h : l ≠ []) : hgL (x :: l) = hg1 x :: hgL l := by
  cases l with
  | nil => exact absurd rfl h
  | cons y r => rw [hgL]
theorem hgL_append : ∀ (a : List (List UInt8)) {b : List (List UInt8)}, b ≠ [] → hgL (a ++ b) = a.map hg1 ++ hgL b
  | [], b, h => rfl
  | x :: a, b, h => by
    rw [List.cons_append, hgL_cons x (by simp [h]), hgL_append a h]
    rfl
theorem hg1_noslash {x : List UInt8} (h : ∀ b ∈ x, b ≠ 47) : ∀ b ∈ hg1 x, b ≠ 47 := fun b hb => by
  unfold hg1 at hb
  split at hb
  · rcases List.mem_append.1 hb with hb | hb
    · exact h b hb
    · simp at hb
      rcases hb with rfl | rfl | rfl <;> decide
  · exact h b hb
theorem hgL_noslash : ∀ {l : List (List UInt8)}, (∀ x ∈ l, ∀ b ∈ x, b ≠ 47) → ∀ x ∈ hgL l, ∀ b ∈ x, b ≠ 47
  | [], h, x, hx => absurd hx (by simp [hgL])
  | [y], h, x, hx => h x hx
  | y :: z :: r, h, x, hx => by
    rw [hgL] at hx
    rcases List.mem_cons.1 hx with rfl | hx
    · exact hg1_noslash (h y (by simp))
    · exact hgL_noslash (l := z :: r) (fun u hu => h u (List.mem_cons_of_mem _ hu)) x hx
theorem parts_noslash : ∀ (l : List UInt8), ∀ x ∈ partsL l, ∀ b ∈ x, b ≠ 47
  | [], x, hx, b, hb => by simp [partsL] at hx; subst hx; cases hb
  | c :: l, x, hx, b, hb => by
    have ih := parts_noslash l
    by_cases hc : c = 47
    · subst hc
      rw [partsL_slash] at hx
      rcases List.mem_cons.1 hx with rfl | hx
      · cases hb
      · exact ih x hx b hb
    · rw [partsL_other c l hc] at hx
      obtain ⟨y, ys, hy⟩ : ∃ y ys, partsL l = y :: ys := by
        cases h : partsL l with
        | nil => exact absurd h (partsL_ne l)
        | cons y ys => exact ⟨y, ys, rfl⟩
      rw [hy] at hx ih
      rcases List.mem_cons.1 hx with rfl | hx
      · rcases List.mem_cons.1 hb with rfl | hb
        · exact hc
        · exact ih y (by simp) b hb
      · exact ih x (List.mem_cons_of_mem _ hx) b hb
theorem join_two (x y : List UInt8) (r : List (List UInt8)) : Lib.join (x :: y :: r) [47] = x ++ 47 :: Lib.join (y :: r) [47] := by
  rw [Lib.join_cons, Lib.join_cons]
  simp [Lib.joinTail]
theorem join_parts : ∀ l : List UInt8, Lib.join (partsL l) [47] = l
  | [] => by rw [partsL, Lib.join_one]
  | c :: l => by
    have ih := join_parts l
    obtain ⟨y, ys, hy⟩ : ∃ y ys, partsL l = y :: ys := by
      cases h : partsL l with
      | nil => exact absurd h (partsL_ne l)
      | cons y ys => exact ⟨y, ys, rfl⟩
    by_cases hc : c = 47
    · subst hc
      rw [partsL_slash, hy, join_two, ← hy, ih]
      rfl
    · rw [partsL_other c l hc, hy]
      rw [hy] at ih
      show Lib.join ((c :: y) :: ys) [47] = _
      cases ys with
      | nil => rw [Lib.join_one] at ih ⊢; rw [ih]
      | cons z zs => rw [join_two] at ih ⊢; rw [← ih]; rfl
theorem parts_app {x : List UInt8} (h : ∀ b ∈ x, b ≠ 47) (l : List UInt8) : partsL (x ++ 47 :: l) = x :: partsL l := by
  induction x with
  | nil => exact partsL_slash l
  | cons b x ih =>
    have hb := h b (by simp)
    have := ih fun c hc => h c (List.mem_cons_of_mem _ hc)
    rw [List.cons_append, partsL_other b _ hb, this]
    rfl
theorem parts_join : ∀ {ps : List (List UInt8)}, ps ≠ [] → (∀ x ∈ ps, ∀ b ∈ x, b ≠ 47) → partsL (Lib.join ps [47]) = ps
  | [], h, _ => absurd rfl h
  | [x], _, h => by rw [Lib.join_one]; exact partsL_none (h x (by simp))
  | x :: y :: r, _, h => by
    rw [join_two, parts_app (h x (by simp)), parts_join (ps := y :: r) (by simp) fun u hu => h u (List.mem_cons_of_mem _ hu)]
theorem untold_join : ∀ (ps : List (List UInt8)) (r : List UInt8), ps ≠ [] → untoldL (Lib.join (ps.map toldL) [47] ++ r) = Lib.join ps [47] ++ untoldL r
  | [], r, h => absurd rfl h
  | [x], r, _ => by
    rw [List.map_cons, List.map_nil, Lib.join_one, Lib.join_one, told_dec]
  | x :: y :: ps, r, _ => by
    have ih := untold_join (y :: ps) r (by simp)
    rw [List.map_cons] at ih
    rw [List.map_cons, List.map_cons, join_two, join_two, List.append_assoc, told_dec, List.cons_append, untold_other 47 (by decide) (by decide), ih]
    simp
/-! ### Names -/
def frontL : List UInt8 := [100, 97, 116, 97, 47]
def nameL (p : List UInt8) : List UInt8 := frontL ++ Lib.join ((hgL (partsL p)).map toldL) [47] ++ [46, 105]
def nameE (p : List UInt8) : List UInt8 × Nat := if rightL p = true then (if (nameL p).length ≤ 255 then (nameL p, 0) else ([], 2)) else ([], 1)
def middleL (n : List UInt8) : Option (List UInt8) :=
  if Lib.hasPrefix n frontL = true then (if Lib.hasSuffix (n.drop 5) [46, 105] = true then some ((n.drop 5).take ((n.drop 5).length - 2)) else none) else none
def pathOf (m : List UInt8) : List UInt8 := Lib.join (trL (partsL (untoldL m))) [47]
def pathE (n : List UInt8) : List UInt8 × Nat := match middleL n with
  | none => ([], 4)
  | some m => if nameE (pathOf m) = (n, 0) then (pathOf m, 0) else ([], 4)
theorem middle_name (p : List UInt8) : middleL (nameL p) = some (Lib.join ((hgL (partsL p)).map toldL) [47]) := by
  unfold middleL nameL
  have e : frontL ++ Lib.join ((hgL (partsL p)).map toldL) [47] ++ [46, 105] = frontL ++ (Lib.join ((hgL (partsL p)).map toldL) [47] ++ [46, 105]) := by simp
  have h1 : Lib.hasPrefix (frontL ++ (Lib.join ((hgL (partsL p)).map toldL) [47] ++ [46, 105])) frontL = true := by
    unfold Lib.hasPrefix
    rw [List.isPrefixOf_iff_prefix]
    exact ⟨_, rfl⟩
  have h2 : (frontL ++ (Lib.join ((hgL (partsL p)).map toldL) [47] ++ [46, 105])).drop 5 = Lib.join ((hgL (partsL p)).map toldL) [47] ++ [46, 105] := List.drop_left (l₁ := frontL)
  rw [e, if_pos h1, h2, if_pos (suffix_app _ _), List.length_append, show ([46, 105] : List UInt8).length = 2 from rfl, Nat.add_sub_cancel, List.take_left]
theorem path_name (p : List UInt8) : pathOf (Lib.join ((hgL (partsL p)).map toldL) [47]) = p := by
  have hne : hgL (partsL p) ≠ [] := fun e => by
    have := congrArg List.length e
    rw [hgL_length] at this
    exact partsL_ne p (List.eq_nil_of_length_eq_zero (by simpa using this))
  have h := untold_join (hgL (partsL p)) [] hne
  rw [List.append_nil, show untoldL [] = [] by rw [untoldL], List.append_nil] at h
  unfold pathOf
  rw [h, parts_join hne (hgL_noslash (parts_noslash p)), tr_hg, join_parts]
/-- A name's path is that of which it is the name. -/
theorem path_back {p n : List UInt8} (h : nameE p = (n, 0)) : pathE n = (p, 0) := by
  have hn : n = nameL p := by
    unfold nameE at h
    split at h
    · split at h
      · exact (congrArg Prod.fst h).symm
      · have := congrArg Prod.snd h; simp at this
    · have := congrArg Prod.snd h; simp at this
  unfold pathE
  rw [hn, middle_name]
  simp only
  rw [path_name, ← hn, if_pos h]
theorem name_inj {p q n : List UInt8} (h1 : nameE p = (n, 0)) (h2 : nameE q = (n, 0)) : p = q := by
  have a := path_back h1
  rw [path_back h2] at a
  exact (congrArg Prod.fst a).symm
end Go.Proofs.YtmjpejnpcmodgaaDoor
