/- Commits as changes, and changes as commits, plainly. -/
import Derived.Test.YtkpiinjhcckhfaaGreatDoorCoBackM
import Derived.Test.YtkpiinjhcckhfaaGreatDoorChKey
namespace Go.Proofs.YtkpiinjhcckhfaaGreatDoor
open Plain
set_option linter.unusedVariables false
set_option linter.unusedSimpArgs false
/-! ### The words of a change -/
def wordsL (x : CX) : List UInt8 := x.u.data.toList ++ 10 :: (Lib.itoa x.t ++ 32 :: (Lib.itoa x.z ++ 10 :: exsT x.xs))
def numW (l : List UInt8) : Int × Bool := match l with
  | 45 :: r => (-((decF r).1 : Int), (decF r).2 == 0)
  | _ => (((decF l).1 : Int), (decF l).2 == 0)
theorem decF_top (l : List UInt8) : (decF l).1 ≤ 4611686018427387903 := by
  unfold decF
  split
  · rename_i v _
    split
    · rename_i h
      show v.toNat ≤ _
      omega
    · exact Nat.zero_le _
  · exact Nat.zero_le _
theorem numW_le (l : List UInt8) : -4611686018427387903 ≤ (numW l).1 ∧ (numW l).1 ≤ 4611686018427387903 := by
  unfold numW
  split
  · rename_i r
    have := decF_top r
    show -4611686018427387903 ≤ -((decF r).1 : Int) ∧ -((decF r).1 : Int) ≤ 4611686018427387903
    omega
  · have := decF_top l
    show -4611686018427387903 ≤ ((decF l).1 : Int) ∧ ((decF l).1 : Int) ≤ 4611686018427387903
    omega
theorem numW_itoa (z : Int) (h0 : -4611686018427387903 ≤ z) (h1 : z ≤ 4611686018427387903) : numW (Lib.itoa z) = (z, true) := by
  by_cases hz : z < 0
  · have e : Lib.itoa z = 45 :: Lib.decDigits z.natAbs := by unfold Lib.itoa; rw [if_pos hz]
    rw [e]
    show (-((decF (Lib.decDigits z.natAbs)).1 : Int), (decF (Lib.decDigits z.natAbs)).2 == 0) = _
    rw [decF_dec _ (by omega)]
    show (-((z.natAbs : Nat) : Int), true) = _
    rw [Prod.mk.injEq]
    exact ⟨by omega, rfl⟩
  · have e : Lib.itoa z = Lib.decDigits z.toNat := by unfold Lib.itoa; rw [if_neg hz]
    rw [e]
    have hd := decF_dec z.toNat (by omega)
    have hb := dec_bytes z.toNat
    generalize Lib.decDigits z.toNat = L at *
    have e2 : numW L = (((decF L).1 : Int), (decF L).2 == 0) := by
      unfold numW
      split
      · rename_i r
        have := hb 45 (by simp)
        exact absurd this.1 (by decide)
      · rfl
    rw [e2, hd]
    show (((z.toNat : Nat) : Int), true) = _
    rw [Prod.mk.injEq]
    exact ⟨by omega, rfl⟩
def exW : Nat → List UInt8 → Option (List (ByteArray × ByteArray))
  | 0, _ => none
  | f + 1, l => if l = [] then some [] else if (Lib.cut l [32]).2.2 = true then
      (match endX (Lib.cut l [32]).2.1 with
      | none => none
      | some n => (exW f ((Lib.cut l [32]).2.1.drop (n + 1))).map ((txt (Lib.cut l [32]).1, txt (Lib.replaceAll ((Lib.cut l [32]).2.1.take n) [10, 32] [10])) :: ·))
    else none
def wU (L : List UInt8) : List UInt8 × List UInt8 × Bool := Lib.cut L [10]
def wT (L : List UInt8) : List UInt8 × List UInt8 × Bool := Lib.cut (wU L).2.1 [32]
def wZ (L : List UInt8) : List UInt8 × List UInt8 × Bool := Lib.cut (wT L).2.1 [10]
def spkX (L : List UInt8) (xs : List (ByteArray × ByteArray)) : CX := ⟨zeros20, txt (wU L).1, (numW (wT L).1).1, (numW (wZ L).1).1, xs, [], ⟨#[]⟩⟩
def spkR (L : List UInt8) : Option CX :=
  if (wU L).2.2 = true then if (wT L).2.2 = true then if (wZ L).2.2 = true then if (numW (wT L).1).2 = true then if (numW (wZ L).1).2 = true then
    (exW ((wZ L).2.1.length + 1) (wZ L).2.1).map (spkX L) else none else none else none else none else none
/-- The change, without its text, that some bytes are the words of. -/
def spkC (L : List UInt8) : Option CX := match spkR L with
  | some x => if wordsL x = L then some x else none
  | none => none
theorem spk_back {L : List UInt8} {x : CX} (h : spkC L = some x) : wordsL x = L ∧ spkR L = some x ∧ ∃ xs, x = spkX L xs := by
  unfold spkC at h
  split at h
  · rename_i y hy
    split at h
    · rename_i hw
      rw [← Option.some.inj h]
      refine ⟨hw, hy, ?_⟩
      unfold spkR at hy
      split at hy <;> try (cases hy; done)
      split at hy <;> try (cases hy; done)
      split at hy <;> try (cases hy; done)
      split at hy <;> try (cases hy; done)
      split at hy <;> try (cases hy; done)
      obtain ⟨xs, -, e⟩ := Option.map_eq_some_iff.1 hy
      exact ⟨xs, e.symm⟩
    · cases h
  · cases h
theorem extT_eq (x : ByteArray × ByteArray) : extT x = x.1.data.toList ++ 32 :: nlB x.2.data.toList := by
  unfold extT
  rw [rep_nlB, List.append_assoc]
  rfl
theorem keyB_parts {l : List UInt8} (h : keyB l = true) : l ≠ [] ∧ (32 : UInt8) ∉ l := by
  have hs := h
  unfold keyB at h
  simp only [Bool.and_eq_true, List.all_eq_true, Bool.not_eq_true'] at h
  refine ⟨fun e => ?_, fun hm => ?_⟩
  · rw [e] at h; exact absurd h.1.1 (by decide)
  · exact absurd (h.2 32 hm) (by decide)
theorem exsK_head : ∀ xs : List (ByteArray × ByteArray), (∀ x ∈ xs, keyB x.1.data.toList = true) → Lib.hasPrefix (exsT xs) [32] = false
  | [], _ => rfl
  | x :: xs, h => by
    obtain ⟨h1, h2⟩ := keyB_parts (h x (by simp))
    have e : exsT (x :: xs) = x.1.data.toList ++ (32 :: nlB x.2.data.toList ++ 10 :: exsT xs) := by
      have := exsT_cons x xs []
      rw [List.append_nil, List.append_nil] at this
      rw [this, extT_eq, List.append_assoc]
    rw [e]
    generalize x.1.data.toList = K at *
    cases K with
    | nil => exact absurd rfl h1
    | cons c r =>
      have hc : ((32 : UInt8) == c) = false := by
        rw [beq_eq_false_iff_ne]
        exact fun e => h2 (by rw [← e]; simp)
      unfold Lib.hasPrefix
      rw [List.cons_append, List.isPrefixOf, hc, Bool.false_and]
theorem exW_yes : ∀ (xs : List (ByteArray × ByteArray)) (f : Nat), xs.length < f → (∀ x ∈ xs, keyB x.1.data.toList = true) → exW f (exsT xs) = some xs
  | _, 0, hf, _ => absurd hf (Nat.not_lt_zero _)
  | [], f + 1, _, _ => rfl
  | x :: xs, f + 1, hf, hx => by
    obtain ⟨h1, h2⟩ := keyB_parts (hx x (by simp))
    have hR := exsK_head xs fun y hy => hx y (by simp [hy])
    have hn := endX_yes hR (nlB x.2.data.toList) (nlB_allB _)
    have ih := exW_yes xs f (by simpa using hf) fun y hy => hx y (by simp [hy])
    have e : exsT (x :: xs) = x.1.data.toList ++ 32 :: (nlB x.2.data.toList ++ 10 :: exsT xs) := by
      have := exsT_cons x xs []
      rw [List.append_nil, List.append_nil] at this
      rw [this, extT_eq, List.append_assoc]
      rfl
    have hc := cut_at x.1.data.toList (nlB x.2.data.toList ++ 10 :: exsT xs) 32 h2
    rw [e]
    unfold exW
    rw [if_neg (by simp), hc]
    dsimp only
    rw [if_pos rfl, hn]
    dsimp only
    rw [List.take_left, show nlB x.2.data.toList ++ 10 :: exsT xs = (nlB x.2.data.toList ++ [10]) ++ exsT xs by simp, List.drop_left' (by simp), ih, rep_back]
    show some ((txt x.1.data.toList, txt x.2.data.toList) :: xs) = _
    rw [txt_of, txt_of]
theorem itoa_no10 (z : Int) : (10 : UInt8) ∉ Lib.itoa z := itoa_no z 10 (by decide)
theorem itoa_no32 (z : Int) : (32 : UInt8) ∉ Lib.itoa z := itoa_no z 32 (by decide)
/-- A change by itself. -/
def ownX (x : CX) : CX := ⟨zeros20, x.u, x.t, x.z, x.xs, [], x.d⟩
def aloneC (c : CC) : CC := ⟨zeros20, [], c.a, c.c, c.xs, c.m⟩
theorem spk_words {x : CX} (h : rightC x = true) : spkC (wordsL x) = some ⟨zeros20, x.u, x.t, x.z, x.xs, [], ⟨#[]⟩⟩ := by
  obtain ⟨h1, h2, h3⟩ := right_parts h
  obtain ⟨u1, u2, u3, u4, u5, u6⟩ := head_parts h1
  have eU : wU (wordsL x) = (x.u.data.toList, Lib.itoa x.t ++ 32 :: (Lib.itoa x.z ++ 10 :: exsT x.xs), true) := cut_at _ _ 10 u2
  have eT : wT (wordsL x) = (Lib.itoa x.t, Lib.itoa x.z ++ 10 :: exsT x.xs, true) := by unfold wT; rw [eU]; exact cut_at _ _ 32 (itoa_no32 _)
  have eZ : wZ (wordsL x) = (Lib.itoa x.z, exsT x.xs, true) := by unfold wZ; rw [eT]; exact cut_at _ _ 10 (itoa_no10 _)
  have eR : spkR (wordsL x) = some ⟨zeros20, x.u, x.t, x.z, x.xs, [], ⟨#[]⟩⟩ := by
    unfold spkR spkX
    rw [eU, eT, eZ]
    dsimp only
    rw [if_pos rfl, if_pos rfl, if_pos rfl, numW_itoa _ (by omega) (by omega), numW_itoa _ (by omega) (by omega), if_pos rfl, if_pos rfl, exW_yes _ _ (by have := exs_long x.xs; omega) (fun e he => h2 e he), txt_of]
    rfl
  unfold spkC
  rw [eR]
  exact if_pos rfl
/-! ### One as the other -/
instance decWX : DecidableEq WX := fun x y => decidable_of_iff (x.n = y.n ∧ x.m = y.m ∧ x.t = y.t ∧ x.z = y.z) ⟨fun ⟨h1, h2, h3, h4⟩ => by
    obtain ⟨n, m, t, z⟩ := x
    obtain ⟨n', m', t', z'⟩ := y
    simp only at h1 h2 h3 h4
    subst h1 h2 h3 h4
    rfl, fun h => by subst h; exact ⟨rfl, rfl, rfl, rfl⟩⟩
instance decCC : DecidableEq CC := fun x y => decidable_of_iff (x.tr = y.tr ∧ x.ps = y.ps ∧ x.a = y.a ∧ x.c = y.c ∧ x.xs = y.xs ∧ x.m = y.m) ⟨fun ⟨h1, h2, h3, h4, h5, h6⟩ => by
    obtain ⟨n, m, t, z, a, b⟩ := x
    obtain ⟨n', m', t', z', a', b'⟩ := y
    simp only at h1 h2 h3 h4 h5 h6
    subst h1 h2 h3 h4 h5 h6
    rfl, fun h => by subst h; exact ⟨rfl, rfl, rfl, rfl, rfl, rfl⟩⟩
instance decCX : DecidableEq CX := fun x y => decidable_of_iff (x.n = y.n ∧ x.u = y.u ∧ x.t = y.t ∧ x.z = y.z ∧ x.xs = y.xs ∧ x.fs = y.fs ∧ x.d = y.d) ⟨fun ⟨h1, h2, h3, h4, h5, h6, h7⟩ => by
    obtain ⟨n, m, t, z, a, b, c⟩ := x
    obtain ⟨n', m', t', z', a', b', c'⟩ := y
    simp only at h1 h2 h3 h4 h5 h6 h7
    subst h1 h2 h3 h4 h5 h6 h7
    rfl, fun h => by subst h; exact ⟨rfl, rfl, rfl, rfl, rfl, rfl, rfl⟩⟩
def overC (c : CC) : CX := ⟨zeros20, txt (c.a.n.data.toList ++ [32, 60] ++ c.a.m.data.toList ++ [62]), c.a.t, 0, [(⟨#[103, 105, 116]⟩, txt (printC { aloneC c with m := ⟨#[]⟩ }))], [], c.m⟩
def hgW (t : Int) : WX := ⟨⟨#[104, 103]⟩, ⟨#[104, 103]⟩, t, ⟨#[43, 48, 48, 48, 48]⟩⟩
def overX (x : CX) : CC := ⟨zeros20, [], hgW x.t, hgW x.t, [(⟨#[104, 103]⟩, txt (wordsL x))], x.d⟩
def inC (co : CX → Option CC) (c : CC) : Option CX := match c.xs with
  | [e] => if e.1.data.toList = [104, 103] then (match spkC e.2.data.toList with
      | some x => if co { x with d := c.m } = some (aloneC c) then some { x with d := c.m } else none
      | none => none) else none
  | _ => none
/-- Has it no tree, no parents and no message? -/
def bareC (c : CC) : Prop := c.tr = zeros20 ∧ c.ps = [] ∧ c.m.data.toList = []
instance (c : CC) : Decidable (bareC c) := inferInstanceAs (Decidable (_ ∧ _ ∧ _))
def inX (ch : CC → Option CX) (x : CX) : Option CC := match x.xs with
  | [e] => if e.1.data.toList = [103, 105, 116] then (match parseC e.2.data.toList with
      | some c => if bareC c then (if ch { c with m := x.d } = some (ownX x) then some { c with m := x.d } else none) else none
      | none => none) else none
  | _ => none
def stepC (co : CX → Option CC) (c : CC) : Option CX := if coR c = true then some ((inC co c).getD (overC c)) else none
def stepX (ch : CC → Option CX) (x : CX) : Option CC := if rightC (ownX x) = true then some ((inX ch x).getD (overX x)) else none
def both : Nat → (CC → Option CX) × (CX → Option CC)
  | 0 => (fun _ => none, fun _ => none)
  | f + 1 => (stepC (both f).2, stepX (both f).1)
/-- How much its Extras tell. -/
def szE (xs : List (ByteArray × ByteArray)) : Nat := (xs.map fun e => e.2.data.toList.length).sum
theorem nlB_ge : ∀ l : List UInt8, l.length ≤ (nlB l).length
  | [] => Nat.le_refl _
  | c :: r => by
    have := nlB_ge r
    unfold nlB
    split
    · simp only [List.length_cons]; omega
    · simp only [List.length_cons]; omega
theorem szE_exs : ∀ xs : List (ByteArray × ByteArray), szE xs ≤ (exsT xs).length
  | [] => Nat.le_refl _
  | x :: xs => by
    have ih := szE_exs xs
    have e := exsT_cons x xs []
    rw [List.append_nil, List.append_nil] at e
    have h2 := nlB_ge x.2.data.toList
    rw [e, extT_eq]
    unfold szE at ih ⊢
    rw [List.map_cons, List.sum_cons]
    simp only [List.length_append, List.length_cons]
    omega
theorem szE_words (x : CX) : szE x.xs < (wordsL x).length := by
  have := szE_exs x.xs
  unfold wordsL
  simp only [List.length_append, List.length_cons]
  omega
theorem szE_print (c : CC) : szE c.xs < (printC c).length := by
  have := szE_exs c.xs
  unfold printC
  simp only [List.length_append, List.length_cons, List.length_nil]
  omega
theorem szE_one (e : ByteArray × ByteArray) : szE [e] = e.2.data.toList.length := by
  unfold szE
  rw [List.map_cons, List.map_nil, List.sum_cons, List.sum_nil, Nat.add_zero]
theorem inX_one {ch : CC → Option CX} {x : CX} {e : ByteArray × ByteArray} {c : CC} (he : x.xs = [e]) (hk : e.1.data.toList = [103, 105, 116]) (hp : parseC e.2.data.toList = some c) (hb : bareC c) (hc : ch { c with m := x.d } = some (ownX x)) : inX ch x = some { c with m := x.d } := by
  unfold inX
  rw [he]
  dsimp only
  rw [if_pos hk, hp]
  dsimp only
  rw [if_pos hb, if_pos hc]
theorem inC_one {co : CX → Option CC} {c : CC} {e : ByteArray × ByteArray} {x : CX} (he : c.xs = [e]) (hk : e.1.data.toList = [104, 103]) (hp : spkC e.2.data.toList = some x) (hc : co { x with d := c.m } = some (aloneC c)) : inC co c = some { x with d := c.m } := by
  unfold inC
  rw [he]
  dsimp only
  rw [if_pos hk, hp]
  dsimp only
  rw [if_pos hc]
theorem inC_of {co co' : CX → Option CC} {c : CC} (h : ∀ x, szE x.xs < szE c.xs → co x = co' x) : inC co c = inC co' c := by
  unfold inC
  split
  · rename_i e he
    split
    · split
      · rename_i x hx
        have h1 : szE x.xs < szE c.xs := by
          rw [he, szE_one, ← (spk_back hx).1]
          exact szE_words x
        rw [h { x with d := c.m } h1]
      · rfl
    · rfl
  · rfl
theorem inX_of {ch ch' : CC → Option CX} {x : CX} (h : ∀ c, szE c.xs < szE x.xs → ch c = ch' c) : inX ch x = inX ch' x := by
  unfold inX
  split
  · rename_i e he
    split
    · split
      · rename_i c hc
        have h1 : szE c.xs < szE x.xs := by
          rw [he, szE_one, ← (parse_back hc).1]
          exact szE_print c
        rw [h { c with m := x.d } h1]
      · rfl
    · rfl
  · rfl
theorem both_eq : ∀ f g : Nat, (∀ c : CC, szE c.xs < f → szE c.xs < g → (both f).1 c = (both g).1 c) ∧ (∀ x : CX, szE x.xs < f → szE x.xs < g → (both f).2 x = (both g).2 x)
  | 0, _ => ⟨fun c h _ => absurd h (Nat.not_lt_zero _), fun c h _ => absurd h (Nat.not_lt_zero _)⟩
  | _ + 1, 0 => ⟨fun c _ h => absurd h (Nat.not_lt_zero _), fun c _ h => absurd h (Nat.not_lt_zero _)⟩
  | f + 1, g + 1 => by
    obtain ⟨h1, h2⟩ := both_eq f g
    refine ⟨fun c hf hg => ?_, fun x hf hg => ?_⟩
    · show stepC _ _ = stepC _ _
      unfold stepC
      rw [inC_of fun x hx => h2 x (by omega) (by omega)]
    · show stepX _ _ = stepX _ _
      unfold stepX
      rw [inX_of fun x hx => h1 x (by omega) (by omega)]
/-- The change of a commit, the commit of a change. -/
def chY (c : CC) : Option CX := (both (szE c.xs + 1)).1 c
def coY (x : CX) : Option CC := (both (szE x.xs + 1)).2 x
theorem chY_any {f : Nat} {c : CC} (h : szE c.xs < f) : (both f).1 c = chY c := (both_eq f _).1 c h (Nat.lt_succ_self _)
theorem coY_any {f : Nat} {x : CX} (h : szE x.xs < f) : (both f).2 x = coY x := (both_eq f _).2 x h (Nat.lt_succ_self _)
theorem chY_step (c : CC) : chY c = stepC coY c := by
  show stepC _ c = stepC _ c
  unfold stepC
  rw [inC_of fun x hx => coY_any hx]
theorem coY_step (x : CX) : coY x = stepX chY x := by
  show stepX _ x = stepX _ x
  unfold stepX
  rw [inX_of fun x hx => chY_any hx]
theorem coY_bare {x : CX} {y : CC} (h : coY x = some y) : y.m = x.d := by
  rw [coY_step] at h
  unfold stepX at h
  split at h
  · rw [← Option.some.inj h]
    cases hi : inX chY x with
    | none => rfl
    | some c =>
      unfold inX at hi
      split at hi <;> try (cases hi; done)
      split at hi <;> try (cases hi; done)
      split at hi <;> try (cases hi; done)
      split at hi <;> try (cases hi; done)
      split at hi <;> try (cases hi; done)
      rw [← Option.some.inj hi]; rfl
  · cases h
theorem aloneC_alone (c : CC) : aloneC (aloneC c) = aloneC c := rfl
theorem ownX_own (x : CX) : ownX (ownX x) = ownX x := rfl
theorem stepC_alone (co : CX → Option CC) (c : CC) : stepC co (aloneC c) = stepC co c := rfl
theorem chY_alone (c : CC) : chY (aloneC c) = chY c := by rw [chY_step, chY_step, stepC_alone]
theorem inX_congr (ch : CC → Option CX) (A B : CX) (h1 : A.xs = B.xs) (h2 : A.d = B.d) (h3 : ownX A = ownX B) : inX ch A = inX ch B := by
  unfold inX
  rw [h1, h2, h3]
theorem overX_congr (A B : CX) (h : ownX A = ownX B) : overX A = overX B := by
  obtain ⟨n, u, t, z, xs, fs, d⟩ := A
  obtain ⟨n', u', t', z', xs', fs', d'⟩ := B
  unfold ownX at h
  simp only [CX.mk.injEq] at h
  obtain ⟨-, rfl, rfl, rfl, rfl, -, rfl⟩ := h
  rfl
theorem stepX_own (ch : CC → Option CX) (x : CX) : stepX ch (ownX x) = stepX ch x := by
  unfold stepX
  rw [ownX_own, inX_congr ch (ownX x) x rfl rfl (ownX_own x), overX_congr (ownX x) x (ownX_own x)]
theorem coY_own (x : CX) : coY (ownX x) = coY x := by rw [coY_step, coY_step, stepX_own]
theorem zeros_ok : zeros20.length = 20 ∧ ∀ x ∈ zeros20, 0 ≤ x ∧ x ≤ 255 := by
  have h : zeros20.all (fun z => decide (0 ≤ z ∧ z ≤ 255)) = true := by decide +kernel
  exact ⟨by decide +kernel, fun x hx => of_decide_eq_true (List.all_eq_true.1 h x hx)⟩
theorem noAny_not {cs l : List UInt8} (h : noAny cs l = true) {b : UInt8} (hb : b ∈ cs) : b ∉ l := fun hm => by
  unfold noAny at h
  rw [Bool.not_eq_true', List.any_eq_false] at h
  exact h b hm (by simpa using hb)
theorem over_right {c : CC} (h : coR c = true) : rightC (overC c) = true := by
  obtain ⟨-, ha, -⟩ := coR_parts h
  unfold whoB at ha
  simp only [Bool.and_eq_true, decide_eq_true_eq] at ha
  obtain ⟨⟨⟨h1, h2⟩, h3⟩, h4⟩ := ha
  have n1 := noAny_not h1 (b := 10) (by decide)
  have n2 : (10 : UInt8) ∉ c.a.n.data.toList := fun hm => n1 (by simp [hm])
  have n3 : (10 : UInt8) ∉ c.a.m.data.toList := fun hm => n1 (by simp [hm])
  unfold rightC
  rw [Bool.and_eq_true, Bool.and_eq_true]
  have hk : allG extOk (·.1) (overC c).xs = true := by
    refine allG_all fun i x hi hx => ?_
    have h0 : i = 0 := by
      have : (overC c).xs.length = 1 := rfl
      omega
    subst h0
    have hx : some ((⟨#[103, 105, 116]⟩ : ByteArray), txt (printC { aloneC c with m := ⟨#[]⟩ })) = some x := hx
    obtain rfl := Option.some.inj hx
    exact atG_zero (by show keyB [103, 105, 116] = true; decide +kernel)
  refine ⟨⟨?_, hk⟩, rfl⟩
  unfold headOk
  have e : (overC c).u.data.toList = c.a.n.data.toList ++ [32, 60] ++ c.a.m.data.toList ++ [62] := rfl
  have et : (overC c).t = c.a.t := rfl
  have ez : (overC c).z = 0 := rfl
  rw [e, et, ez]
  simp only [Bool.and_eq_true, Bool.not_eq_true', decide_eq_true_eq]
  refine ⟨⟨⟨⟨⟨by simp, ?_⟩, h2⟩, h3⟩, by decide⟩, by decide⟩
  rw [Bool.eq_false_iff]
  intro hc
  have := List.contains_iff_mem.1 hc
  simp [n2, n3] at this
theorem chY_back {c : CC} {y : CX} (h : chY c = some y) : coY y = some (aloneC c) := by
  have h' := h
  rw [chY_step] at h
  unfold stepC at h
  split at h
  · rename_i hr
    cases hi : inC coY c with
    | some x =>
      rw [hi] at h
      obtain rfl : x = y := Option.some.inj h
      unfold inC at hi
      split at hi <;> try (cases hi; done)
      split at hi <;> try (cases hi; done)
      split at hi <;> try (cases hi; done)
      split at hi <;> try (cases hi; done)
      rename_i hco
      rw [← Option.some.inj hi]
      exact hco
    | none =>
      rw [hi] at h
      obtain rfl : overC c = y := Option.some.inj h
      have hg : CoGood { aloneC c with m := ⟨#[]⟩ } := ⟨zeros_ok, fun p hp => by cases hp⟩
      have hp : parseC (printC { aloneC c with m := ⟨#[]⟩ }) = some { aloneC c with m := ⟨#[]⟩ } := parse_print hg hr
      rw [coY_step]
      unfold stepX
      rw [if_pos (show rightC (ownX (overC c)) = true from over_right hr)]
      have e : chY { ({ aloneC c with m := ⟨#[]⟩ } : CC) with m := (overC c).d } = some (ownX (overC c)) := by
        show chY (aloneC c) = _
        rw [chY_alone, h']
        rfl
      have hin : inX chY (overC c) = some (aloneC c) := inX_one (x := overC c) (e := (⟨#[103, 105, 116]⟩, txt (printC { aloneC c with m := ⟨#[]⟩ }))) rfl rfl (by rw [txt_list]; exact hp) ⟨rfl, rfl, rfl⟩ e
      rw [hin]
      rfl
  · cases h
theorem overX_right {x : CX} (h : rightC (ownX x) = true) : coR (overX x) = true := by
  obtain ⟨h1, -, -⟩ := right_parts h
  obtain ⟨u1, u2, u3, u4, u5, u6⟩ := head_parts h1
  have u3 : 0 ≤ x.t := u3
  have u4 : x.t ≤ 4611686018427387903 := u4
  have hw : whoB (hgW x.t) = true := by
    unfold whoB
    show (noAny badW ([104, 103] ++ [104, 103]) && decide (0 ≤ x.t) && decide (x.t ≤ 4611686018427387903) && zoneB [43, 48, 48, 48, 48]) = true
    rw [decide_eq_true u3, decide_eq_true u4]
    decide +kernel
  unfold coR
  show (List.all [((⟨#[104, 103]⟩, txt (wordsL x)) : ByteArray × ByteArray)] extR && whoB (hgW x.t) && whoB (hgW x.t)) = true
  rw [hw, List.all_cons, List.all_nil, Bool.and_true, Bool.and_true, Bool.and_true]
  have e : ∀ k v v' : ByteArray, extR (k, v) = extR (k, v') := fun k v v' => by unfold extR; rfl
  rw [e _ _ ⟨#[]⟩]
  decide +kernel
theorem coY_back {x : CX} {y : CC} (h : coY x = some y) : chY y = some (ownX x) := by
  have h' := h
  rw [coY_step] at h
  unfold stepX at h
  split at h
  · rename_i hr
    cases hi : inX chY x with
    | some c =>
      rw [hi] at h
      obtain rfl : c = y := Option.some.inj h
      unfold inX at hi
      split at hi <;> try (cases hi; done)
      split at hi <;> try (cases hi; done)
      split at hi <;> try (cases hi; done)
      split at hi <;> try (cases hi; done)
      split at hi <;> try (cases hi; done)
      rename_i hco
      rw [← Option.some.inj hi]
      exact hco
    | none =>
      rw [hi] at h
      obtain rfl : overX x = y := Option.some.inj h
      have hp : spkC (wordsL x) = some ⟨zeros20, x.u, x.t, x.z, x.xs, [], ⟨#[]⟩⟩ := spk_words (x := ownX x) hr
      rw [chY_step]
      unfold stepC
      rw [if_pos (overX_right hr)]
      have e : coY { (⟨zeros20, x.u, x.t, x.z, x.xs, [], ⟨#[]⟩⟩ : CX) with d := (overX x).m } = some (aloneC (overX x)) := by
        show coY (ownX x) = _
        rw [coY_own, h']
        rfl
      have hin : inC coY (overX x) = some (ownX x) := inC_one (c := overX x) (e := (⟨#[104, 103]⟩, txt (wordsL x))) rfl rfl (by rw [txt_list]; exact hp) e
      rw [hin]
      rfl
  · cases h
theorem chY_none {c : CC} : chY c = none ↔ coR c = false := by
  rw [chY_step]
  unfold stepC
  cases h : coR c <;> simp
theorem coY_none {x : CX} : coY x = none ↔ rightC (ownX x) = false := by
  rw [coY_step]
  unfold stepX
  cases h : rightC (ownX x) <;> simp
end Go.Proofs.YtkpiinjhcckhfaaGreatDoor
