/- Changes, plainly: which are right, their text, what a text tells. -/
import Derived.Test.YthokcdjmhhlcdaaGreatDoorChNum
namespace Go.Proofs.YthokcdjmhhlcdaaGreatDoor
open Go.RowKit Plain
set_option linter.unusedVariables false
structure CX where
  n : List Int
  u : ByteArray
  t : Int
  z : Int
  xs : List (ByteArray × ByteArray)
  fs : List ByteArray
  d : ByteArray
def keyByte (c : UInt8) : Bool := (decide (97 ≤ c.toNat) && decide (c.toNat ≤ 122)) || (decide (65 ≤ c.toNat) && decide (c.toNat ≤ 90)) || (decide (48 ≤ c.toNat) && decide (c.toNat ≤ 57)) || c.toNat == 45 || c.toNat == 95
def keyB (l : List UInt8) : Bool := !l.isEmpty && decide (l.length ≤ 100) && l.all keyByte
section
variable {α : Type}
/-- The i-th one is one, and stands behind the one ahead. -/
def atG (ok : α → Bool) (key : α → ByteArray) (xs : List α) (i : Nat) (x : α) : Bool := ok x && (match i with | 0 => true | j + 1 => match xs[j]? with | some y => Op.bytesLess (key y).toList (key x).toList | none => true)
def allG (ok : α → Bool) (key : α → ByteArray) (xs : List α) : Bool := (List.range xs.length).all fun i => match xs[i]? with | some x => atG ok key xs i x | none => true
theorem allG_iff {ok : α → Bool} {key : α → ByteArray} {xs : List α} : allG ok key xs = true ↔ ∀ i x, xs[i]? = some x → atG ok key xs i x = true := by
  unfold allG
  rw [List.all_eq_true]
  constructor
  · intro h i x hx
    have := h i (List.mem_range.2 (List.getElem?_eq_some_iff.1 hx).1)
    rw [hx] at this
    exact this
  · intro h i hi
    cases hx : xs[i]? with
    | none => rfl
    | some x => exact h i x hx
theorem allG_bad {ok : α → Bool} {key : α → ByteArray} {xs : List α} {i : Nat} {x : α} (h : xs[i]? = some x) (ho : atG ok key xs i x = false) : allG ok key xs = false := by
  rw [Bool.eq_false_iff]
  intro hr
  have := allG_iff.1 hr i x h
  rw [ho] at this
  cases this
theorem allG_all {ok : α → Bool} {key : α → ByteArray} {xs : List α} (h : ∀ i x, i < xs.length → xs[i]? = some x → atG ok key xs i x = true) : allG ok key xs = true := allG_iff.2 fun i x hx => h i x (List.getElem?_eq_some_iff.1 hx).1 hx
theorem atG_no {ok : α → Bool} {key : α → ByteArray} {xs : List α} {i : Nat} {x : α} (h : ok x = false) : atG ok key xs i x = false := by unfold atG; rw [h]; rfl
theorem atG_zero {ok : α → Bool} {key : α → ByteArray} {xs : List α} {x : α} (h : ok x = true) : atG ok key xs 0 x = true := by unfold atG; rw [h]; rfl
theorem atG_succ {ok : α → Bool} {key : α → ByteArray} {xs : List α} {j : Nat} {x y : α} (h : ok x = true) (hy : xs[j]? = some y) : atG ok key xs (j + 1) x = Op.bytesLess (key y).toList (key x).toList := by
  unfold atG
  rw [h]
  simp only [hy, Bool.true_and]
theorem allG_each {ok : α → Bool} {key : α → ByteArray} {xs : List α} (h : allG ok key xs = true) : ∀ x ∈ xs, ok x = true := fun x hx => by
  obtain ⟨i, hi⟩ := List.mem_iff_getElem?.1 hx
  have := allG_iff.1 h i x hi
  unfold atG at this
  simp only [Bool.and_eq_true] at this
  exact this.1
end
def extOk (x : ByteArray × ByteArray) : Bool := keyB x.1.data.toList
def pathOk (p : ByteArray) : Bool := rightL p.data.toList
def headOk (c : CX) : Bool := !c.u.data.toList.isEmpty && !(c.u.data.toList.contains 10) && decide (0 ≤ c.t) && decide (c.t ≤ 4611686018427387903) && decide (-86399 ≤ c.z) && decide (c.z ≤ 86399)
def rightC (c : CX) : Bool := headOk c && allG extOk (·.1) c.xs && allG pathOk (fun p => p) c.fs
/-! ### As text -/
def esc (b : UInt8) : List UInt8 := if b = 92 then [92, 92] else if b = 10 then [92, 110] else if b = 13 then [92, 114] else if b = 0 then [92, 48] else [b]
def valueL (l : List UInt8) : List UInt8 := l.flatMap esc
def extL (x : ByteArray × ByteArray) : List UInt8 := x.1.data.toList ++ 58 :: valueL x.2.data.toList
def exsL (xs : List (ByteArray × ByteArray)) : List UInt8 := Lib.join (xs.map extL) [0]
def dateL (c : CX) : List UInt8 := Lib.itoa c.t ++ 32 :: (Lib.itoa c.z ++ (if c.xs = [] then [] else 32 :: exsL c.xs))
def linesL (c : CX) : List (List UInt8) := [hexOf c.n, c.u.data.toList, dateL c] ++ c.fs.map (·.data.toList) ++ [[], c.d.data.toList]
def printL (c : CX) : List UInt8 := Lib.join (linesL c) [10]
/-! ### What a text tells -/
def meantB (c : UInt8) : UInt8 := if c = 110 then 10 else if c = 114 then 13 else if c = 48 then 0 else c
def unval : List UInt8 → List UInt8
  | [] => []
  | [c] => [c]
  | c :: d :: l => if c = 92 then meantB d :: unval l else c :: unval (d :: l)
def numP (l : List UInt8) : Int := match l with
  | 45 :: r => -((decF r).1 : Int)
  | _ => ((decF l).1 : Int)
def wordP (w : List UInt8) : ByteArray × ByteArray := (txt (Lib.cut w [58]).1, txt (unval (Lib.cut w [58]).2.1))
def timeP (l : List UInt8) : List UInt8 := (Lib.cut l [32]).1
def zoneP (l : List UInt8) : List UInt8 := (Lib.cut (Lib.cut l [32]).2.1 [32]).1
def extsP (l : List UInt8) : List (ByteArray × ByteArray) := if (Lib.cut (Lib.cut l [32]).2.1 [32]).2.2 = true then (Lib.split (Lib.cut (Lib.cut l [32]).2.1 [32]).2.1 [0]).map wordP else []
def filesP : Nat → List UInt8 → List ByteArray × List UInt8
  | 0, l => ([], (Lib.cut l [10]).2.1)
  | k + 1, l => if (Lib.cut l [10]).1 = [] then ([], (Lib.cut l [10]).2.1) else (txt (Lib.cut l [10]).1 :: (filesP k (Lib.cut l [10]).2.1).1, (filesP k (Lib.cut l [10]).2.1).2)
def rest1 (L : List UInt8) : List UInt8 := (Lib.cut L [10]).2.1
def rest2 (L : List UInt8) : List UInt8 := (Lib.cut (rest1 L) [10]).2.1
def rest3 (L : List UInt8) : List UInt8 := (Lib.cut (rest2 L) [10]).2.1
def dateP (L : List UInt8) : List UInt8 := (Lib.cut (rest2 L) [10]).1
def rawP (L : List UInt8) : CX :=
  { n := parsed (txt (Lib.cut L [10]).1), u := txt (Lib.cut (rest1 L) [10]).1, t := numP (timeP (dateP L)), z := numP (zoneP (dateP L)), xs := extsP (dateP L), fs := (filesP (rest3 L).length (rest3 L)).1, d := txt (filesP (rest3 L).length (rest3 L)).2 }
def parseC (L : List UInt8) : Option CX := if rightC (rawP L) = true ∧ printL (rawP L) = L then some (rawP L) else none
theorem parseC_some {L : List UInt8} {c : CX} (h : parseC L = some c) : rightC c = true ∧ printL c = L ∧ c = rawP L := by
  unfold parseC at h
  split at h
  · rename_i hh
    obtain rfl : rawP L = c := by simpa using h
    exact ⟨hh.1, hh.2, rfl⟩
  · cases h
/-! ### There and back -/
theorem join_cons2 (x y : List UInt8) (r : List (List UInt8)) (c : UInt8) : Lib.join (x :: y :: r) [c] = x ++ c :: Lib.join (y :: r) [c] := by
  rw [Lib.join_cons, Lib.join_cons]
  simp [Lib.joinTail]
theorem unval_esc : ∀ l : List UInt8, unval (valueL l) = l
  | [] => rfl
  | b :: l => by
    have ih := unval_esc l
    have e : valueL (b :: l) = esc b ++ valueL l := by unfold valueL; rw [List.flatMap_cons]
    rw [e]
    unfold esc
    by_cases h1 : b = 92
    · subst h1; show unval (92 :: 92 :: valueL l) = _; rw [unval, if_pos rfl, ih]; rfl
    · rw [if_neg h1]
      by_cases h2 : b = 10
      · subst h2; show unval (92 :: 110 :: valueL l) = _; rw [unval, if_pos rfl, ih]; rfl
      · rw [if_neg h2]
        by_cases h3 : b = 13
        · subst h3; show unval (92 :: 114 :: valueL l) = _; rw [unval, if_pos rfl, ih]; rfl
        · rw [if_neg h3]
          by_cases h4 : b = 0
          · subst h4; show unval (92 :: 48 :: valueL l) = _; rw [unval, if_pos rfl, ih]; rfl
          · rw [if_neg h4]
            show unval (b :: valueL l) = _
            cases hv : valueL l with
            | nil => rw [hv] at ih; rw [unval]; rw [unval] at ih; rw [← ih]
            | cons d r => rw [hv] at ih; rw [unval, if_neg h1, ih]
theorem esc_no (b : UInt8) : ∀ c ∈ esc b, c ≠ 0 ∧ c ≠ 10 := by
  intro c hc
  unfold esc at hc
  split at hc
  · simp at hc; subst hc; decide
  split at hc
  · simp at hc; rcases hc with rfl | rfl <;> decide
  split at hc
  · simp at hc; rcases hc with rfl | rfl <;> decide
  split at hc
  · simp at hc; rcases hc with rfl | rfl <;> decide
  · rename_i h1 h2 h3 h4
    simp at hc; subst hc
    exact ⟨h4, h2⟩
theorem valueL_no (l : List UInt8) : ∀ c ∈ valueL l, c ≠ 0 ∧ c ≠ 10 := fun c hc => by
  unfold valueL at hc
  obtain ⟨b, -, hb⟩ := List.mem_flatMap.1 hc
  exact esc_no b c hb
theorem keyB_no {l : List UInt8} (h : keyB l = true) : ∀ c ∈ l, c ≠ 0 ∧ c ≠ 10 ∧ c ≠ 58 := fun c hc => by
  unfold keyB at h
  simp only [Bool.and_eq_true, List.all_eq_true] at h
  have := h.2 c hc
  refine ⟨fun e => ?_, fun e => ?_, fun e => ?_⟩ <;> subst e <;> exact absurd this (by decide)
theorem wordP_ext {x : ByteArray × ByteArray} (h : extOk x = true) : wordP (extL x) = x := by
  unfold wordP extL
  rw [cut_at _ _ 58 (fun hm => (keyB_no h 58 hm).2.2 rfl)]
  simp only
  rw [unval_esc, txt_of, txt_of]
theorem extL_no {x : ByteArray × ByteArray} (h : extOk x = true) : (0 : UInt8) ∉ extL x ∧ (10 : UInt8) ∉ extL x := by
  unfold extL
  constructor <;> intro hm
  · rcases List.mem_append.1 hm with hm | hm
    · exact (keyB_no h 0 hm).1 rfl
    · rcases List.mem_cons.1 hm with hm | hm
      · exact absurd hm (by decide)
      · exact (valueL_no _ 0 hm).1 rfl
  · rcases List.mem_append.1 hm with hm | hm
    · exact (keyB_no h 10 hm).2.1 rfl
    · rcases List.mem_cons.1 hm with hm | hm
      · exact absurd hm (by decide)
      · exact (valueL_no _ 10 hm).2 rfl
theorem splitK_join (c : UInt8) : ∀ (ws : List (List UInt8)) (w : List UInt8) (k : Nat), (∀ v ∈ w :: ws, c ∉ v) → ws.length ≤ k → Lib.splitK [c] 0 k (Lib.join (w :: ws) [c]) = w :: ws
  | [], w, k, h, hk => by
    rw [Lib.join_one]
    cases k with
    | zero => rfl
    | succ k => rw [Lib.splitK, index_not _ _ (h w (by simp))]; rfl
  | v :: ws, w, 0, h, hk => by simp at hk
  | v :: ws, w, k + 1, h, hk => by
    have ih := splitK_join c ws v k (fun x hx => h x (List.mem_cons_of_mem _ hx)) (by simp at hk; omega)
    rw [join_cons2, Lib.splitK, index_at _ _ _ (h w (by simp))]
    have e1 : ((w.length : Int) == -1) = false := beq_eq_false_iff_ne.2 (by omega)
    rw [e1]
    simp only [Bool.false_eq_true, if_false, Int.toNat_natCast, Nat.add_zero, List.length_singleton]
    rw [List.take_left, ← List.drop_drop, List.drop_left, List.drop_succ_cons, List.drop_zero, ih]
theorem count_join (c : UInt8) : ∀ (ws : List (List UInt8)) (w : List UInt8), (∀ v ∈ w :: ws, c ∉ v) → Lib.count (Lib.join (w :: ws) [c]) [c] = ws.length
  | [], w, h => by rw [Lib.join_one, Lib.count_one, List.count_eq_zero.2 (h w (by simp))]; rfl
  | v :: ws, w, h => by
    have ih := count_join c ws v (fun x hx => h x (List.mem_cons_of_mem _ hx))
    rw [Lib.count_one] at ih ⊢
    rw [join_cons2, List.count_append, List.count_eq_zero.2 (h w (by simp)), List.count_cons_self, ih, List.length_cons]
    omega
theorem split_join (c : UInt8) (ws : List (List UInt8)) (w : List UInt8) (h : ∀ v ∈ w :: ws, c ∉ v) : Lib.split (Lib.join (w :: ws) [c]) [c] = w :: ws := by
  unfold Lib.split
  exact splitK_join c ws w _ h (by rw [count_join c ws w h]; exact Nat.le_refl _)
theorem join_no {c b : UInt8} (hb : b ≠ c) : ∀ (ws : List (List UInt8)), (∀ v ∈ ws, b ∉ v) → b ∉ Lib.join ws [c]
  | [], _ => by rw [Lib.join_nil]; simp
  | [w], h => by rw [Lib.join_one]; exact h w (by simp)
  | w :: v :: ws, h => fun hm => by
    rw [join_cons2] at hm
    rcases List.mem_append.1 hm with hm | hm
    · exact h w (by simp) hm
    · rcases List.mem_cons.1 hm with hm | hm
      · exact hb hm
      · exact join_no hb (v :: ws) (fun x hx => h x (List.mem_cons_of_mem _ hx)) hm
theorem dec_bytes (u : Nat) : ∀ c ∈ Lib.decDigits u, 48 ≤ c.toNat ∧ c.toNat ≤ 57 := dec_digit u u (Nat.le_refl _)
theorem itoa_no (z : Int) (c : UInt8) (h : c.toNat < 45) : c ∉ Lib.itoa z := fun hm => by
  unfold Lib.itoa at hm
  split at hm
  · rcases List.mem_cons.1 hm with hm | hm
    · subst hm; exact absurd h (by decide)
    · have := dec_bytes _ c hm; omega
  · have := dec_bytes _ c hm; omega
theorem numP_itoa (z : Int) (h0 : -4611686018427387903 ≤ z) (h1 : z ≤ 4611686018427387903) : numP (Lib.itoa z) = z := by
  unfold Lib.itoa
  split
  · rename_i hz
    show -((decF (Lib.decDigits z.natAbs)).1 : Int) = z
    rw [decF_dec _ (by omega)]
    show -((z.natAbs : Nat) : Int) = z
    omega
  · rename_i hz
    obtain ⟨n, rfl⟩ : ∃ n : Nat, z = n := ⟨z.toNat, by omega⟩
    rw [Int.toNat_natCast]
    cases hd : Lib.decDigits n with
    | nil => exact absurd hd (dec_ne_nil n)
    | cons a r =>
      have ha := dec_bytes n a (by rw [hd]; simp)
      have h45 : a ≠ 45 := fun e => by subst e; exact absurd ha.1 (by decide)
      have e2 : numP (a :: r) = ((decF (a :: r)).1 : Int) := by
        unfold numP
        split
        · rename_i e; injection e with e _; exact absurd e h45
        · rfl
      rw [e2, ← hd, decF_dec _ (by omega)]
theorem right_no {l : List UInt8} (h : rightL l = true) : ∀ b ∈ l, b ≠ 0 ∧ b ≠ 10 := fun b hb => by
  unfold rightL at h
  simp only [Bool.and_eq_true, Bool.not_eq_true', List.any_eq_false] at h
  have := h.1.2 b hb
  unfold oddByte at this
  simp only [Bool.or_eq_true, beq_iff_eq, not_or] at this
  exact ⟨this.1.1, this.1.2⟩
theorem right_ne {l : List UInt8} (h : rightL l = true) : l ≠ [] := fun e => by
  subst e
  exact absurd h (by decide)
theorem filesP_back : ∀ (fs : List ByteArray) (d : List UInt8) (k : Nat), (∀ p ∈ fs, rightL p.data.toList = true) → fs.length ≤ k → filesP k (Lib.join (fs.map (·.data.toList) ++ [[], d]) [10]) = (fs, d)
  | [], d, k, _, _ => by
    have e : Lib.join (([] : List ByteArray).map (·.data.toList) ++ [[], d]) [10] = [] ++ 10 :: d := by
      show Lib.join [[], d] [10] = _
      rw [join_cons2, Lib.join_one]
    rw [e]
    have hc := cut_at [] d 10 (by simp)
    cases k with
    | zero => rw [filesP, hc]
    | succ k => rw [filesP, hc]; rfl
  | p :: fs, d, 0, _, hk => by simp at hk
  | p :: fs, d, k + 1, h, hk => by
    have ih := filesP_back fs d k (fun q hq => h q (List.mem_cons_of_mem _ hq)) (by simp at hk; omega)
    have hp := h p (by simp)
    obtain ⟨y, r, hy⟩ : ∃ y r, fs.map (·.data.toList) ++ [[], d] = y :: r := by
      cases fs with
      | nil => exact ⟨_, _, rfl⟩
      | cons q fs => exact ⟨_, _, rfl⟩
    have e : Lib.join ((p :: fs).map (·.data.toList) ++ [[], d]) [10] = p.data.toList ++ 10 :: Lib.join (fs.map (·.data.toList) ++ [[], d]) [10] := by
      rw [List.map_cons, List.cons_append, hy, join_cons2]
    have hc := cut_at p.data.toList (Lib.join (fs.map (·.data.toList) ++ [[], d]) [10]) 10 (fun hm => (right_no hp 10 hm).2 rfl)
    rw [e, filesP, hc]
    simp only
    rw [if_neg (right_ne hp), ih, txt_of]
theorem right_parts {c : CX} (h : rightC c = true) : headOk c = true ∧ (∀ x ∈ c.xs, extOk x = true) ∧ (∀ p ∈ c.fs, rightL p.data.toList = true) := by
  unfold rightC at h
  simp only [Bool.and_eq_true] at h
  exact ⟨h.1.1, allG_each h.1.2, allG_each h.2⟩
theorem head_parts {c : CX} (h : headOk c = true) : c.u.data.toList ≠ [] ∧ (10 : UInt8) ∉ c.u.data.toList ∧ 0 ≤ c.t ∧ c.t ≤ 4611686018427387903 ∧ -86399 ≤ c.z ∧ c.z ≤ 86399 := by
  unfold headOk at h
  simp only [Bool.and_eq_true, decide_eq_true_eq, Bool.not_eq_true'] at h
  obtain ⟨⟨⟨⟨⟨h1, h2⟩, h3⟩, h4⟩, h5⟩, h6⟩ := h
  refine ⟨fun e => ?_, fun hm => ?_, h3, h4, h5, h6⟩
  · rw [e] at h1; cases h1
  · rw [List.contains_iff_mem.2 hm] at h2; cases h2
theorem exsL_no {xs : List (ByteArray × ByteArray)} (h : ∀ x ∈ xs, extOk x = true) : (10 : UInt8) ∉ exsL xs :=
  join_no (by decide) _ fun v hv => by
    obtain ⟨x, hx, rfl⟩ := List.mem_map.1 hv
    exact (extL_no (h x hx)).2
theorem dateL_no {c : CX} (h : ∀ x ∈ c.xs, extOk x = true) : (10 : UInt8) ∉ dateL c := fun hm => by
  unfold dateL at hm
  rcases List.mem_append.1 hm with hm | hm
  · exact itoa_no _ 10 (by decide) hm
  · rcases List.mem_cons.1 hm with hm | hm
    · exact absurd hm (by decide)
    · rcases List.mem_append.1 hm with hm | hm
      · exact itoa_no _ 10 (by decide) hm
      · split at hm
        · cases hm
        · rcases List.mem_cons.1 hm with hm | hm
          · exact absurd hm (by decide)
          · exact exsL_no h hm
theorem date_back {c : CX} (h : ∀ x ∈ c.xs, extOk x = true) : timeP (dateL c) = Lib.itoa c.t ∧ zoneP (dateL c) = Lib.itoa c.z ∧ extsP (dateL c) = c.xs := by
  have c1 := cut_at (Lib.itoa c.t) (Lib.itoa c.z ++ (if c.xs = [] then [] else 32 :: exsL c.xs)) 32 (itoa_no _ 32 (by decide))
  have e1 : Lib.itoa c.t ++ 32 :: (Lib.itoa c.z ++ (if c.xs = [] then [] else 32 :: exsL c.xs)) = dateL c := rfl
  rw [e1] at c1
  unfold timeP zoneP extsP
  rw [c1]
  simp only
  by_cases hx : c.xs = []
  · rw [if_pos hx, List.append_nil, cut_not _ _ (itoa_no _ 32 (by decide)), hx]
    exact ⟨by first | trivial | rfl, by first | trivial | rfl, by first | trivial | rfl⟩
  · rw [if_neg hx, cut_at _ _ 32 (itoa_no _ 32 (by decide))]
    refine ⟨by first | trivial | rfl, by first | trivial | rfl, ?_⟩
    simp only [if_true]
    obtain ⟨y, ys, hy⟩ : ∃ y ys, c.xs = y :: ys := by
      cases hc : c.xs with
      | nil => exact absurd hc hx
      | cons y ys => exact ⟨y, ys, rfl⟩
    rw [hy] at h ⊢
    unfold exsL
    rw [List.map_cons, split_join 0 _ _ (fun v hv => by
      rw [← List.map_cons] at hv
      obtain ⟨x, hx, rfl⟩ := List.mem_map.1 hv
      exact (extL_no (h x hx)).1), ← List.map_cons, List.map_map]
    conv => rhs; rw [← List.map_id (y :: ys)]
    apply List.map_congr_left
    intro x hx
    exact wordP_ext (h x hx)
theorem hex_no (ids : List Int) (hb : ∀ x ∈ ids, 0 ≤ x ∧ x ≤ 255) (h20 : ids.length = 20) : (10 : UInt8) ∉ hexOf ids :=
  isHex_not (hex_back h20 hb).1 (by decide)
theorem printL_eq (c : CX) : printL c = hexOf c.n ++ 10 :: (c.u.data.toList ++ 10 :: (dateL c ++ 10 :: Lib.join (c.fs.map (·.data.toList) ++ [[], c.d.data.toList]) [10])) := by
  unfold printL linesL
  obtain ⟨y, r, hy⟩ : ∃ y r, c.fs.map (·.data.toList) ++ [[], c.d.data.toList] = y :: r := by
    cases c.fs with
    | nil => exact ⟨_, _, rfl⟩
    | cons q fs => exact ⟨_, _, rfl⟩
  rw [List.append_assoc, hy]
  show Lib.join (hexOf c.n :: c.u.data.toList :: dateL c :: y :: r) [10] = _
  rw [join_cons2, join_cons2, join_cons2]
theorem length_join_ge : ∀ (fs : List ByteArray) (d : List UInt8), fs.length ≤ (Lib.join (fs.map (·.data.toList) ++ [[], d]) [10]).length
  | [], d => Nat.zero_le _
  | p :: fs, d => by
    have ih := length_join_ge fs d
    obtain ⟨y, r, hy⟩ : ∃ y r, fs.map (·.data.toList) ++ [[], d] = y :: r := by
      cases fs with
      | nil => exact ⟨_, _, rfl⟩
      | cons q fs => exact ⟨_, _, rfl⟩
    rw [List.map_cons, List.cons_append, hy, join_cons2, ← hy, List.length_append, List.length_cons, List.length_cons]
    omega
/-- What is printed tells it. -/
theorem raw_print {c : CX} (h20 : c.n.length = 20) (hb : ∀ x ∈ c.n, 0 ≤ x ∧ x ≤ 255) (h : rightC c = true) : rawP (printL c) = c := by
  obtain ⟨hh, hx, hf⟩ := right_parts h
  obtain ⟨h1, h2, h3, h4, h5, h6⟩ := head_parts hh
  have e := printL_eq c
  have c1 := cut_at (hexOf c.n) (c.u.data.toList ++ 10 :: (dateL c ++ 10 :: Lib.join (c.fs.map (·.data.toList) ++ [[], c.d.data.toList]) [10])) 10 (hex_no _ hb h20)
  rw [← e] at c1
  have c2 := cut_at c.u.data.toList (dateL c ++ 10 :: Lib.join (c.fs.map (·.data.toList) ++ [[], c.d.data.toList]) [10]) 10 h2
  have c3 := cut_at (dateL c) (Lib.join (c.fs.map (·.data.toList) ++ [[], c.d.data.toList]) [10]) 10 (dateL_no hx)
  have r1 : rest1 (printL c) = c.u.data.toList ++ 10 :: (dateL c ++ 10 :: Lib.join (c.fs.map (·.data.toList) ++ [[], c.d.data.toList]) [10]) := by unfold rest1; rw [c1]
  have r2 : rest2 (printL c) = dateL c ++ 10 :: Lib.join (c.fs.map (·.data.toList) ++ [[], c.d.data.toList]) [10] := by unfold rest2; rw [r1, c2]
  have r3 : rest3 (printL c) = Lib.join (c.fs.map (·.data.toList) ++ [[], c.d.data.toList]) [10] := by unfold rest3; rw [r2, c3]
  have dd : dateP (printL c) = dateL c := by unfold dateP; rw [r2, c3]
  obtain ⟨d1, d2, d3⟩ := date_back hx
  have ff := filesP_back c.fs c.d.data.toList (rest3 (printL c)).length hf (by rw [r3]; exact length_join_ge _ _)
  unfold rawP
  rw [dd, d1, d2, d3, numP_itoa _ (by omega) (by omega), numP_itoa _ (by omega) (by omega), c1, r1, c2]
  rw [r3] at ff ⊢
  rw [ff]
  simp only
  rw [(hex_back h20 hb).2, txt_of, txt_of]
theorem parse_print {c : CX} (h20 : c.n.length = 20) (hb : ∀ x ∈ c.n, 0 ≤ x ∧ x ≤ 255) (h : rightC c = true) : parseC (printL c) = some c := by
  unfold parseC
  rw [raw_print h20 hb h, if_pos ⟨h, rfl⟩]
theorem raw_good (L : List UInt8) : (rawP L).n.length = 20 ∧ ∀ x ∈ (rawP L).n, 0 ≤ x ∧ x ≤ 255 := ⟨parsed_length _, parsed_bytes _⟩
theorem parseC_good {L : List UInt8} {c : CX} (h : parseC L = some c) : c.n.length = 20 ∧ ∀ x ∈ c.n, 0 ≤ x ∧ x ≤ 255 := by
  obtain ⟨-, -, rfl⟩ := parseC_some h
  exact raw_good L
theorem join_more : ∀ (fs : List (List UInt8)) (d more : List UInt8), Lib.join (fs ++ [[], d ++ more]) [10] = Lib.join (fs ++ [[], d]) [10] ++ more
  | [], d, more => by
    show Lib.join [[], d ++ more] [10] = Lib.join [[], d] [10] ++ more
    rw [join_cons2, join_cons2, Lib.join_one, Lib.join_one]
    simp
  | f :: fs, d, more => by
    have ih := join_more fs d more
    have hc : ∀ d' : List UInt8, ∃ y r, fs ++ [[], d'] = y :: r := fun d' => by
      cases fs with
      | nil => exact ⟨_, _, rfl⟩
      | cons q fs => exact ⟨_, _, rfl⟩
    obtain ⟨y1, r1, h1⟩ := hc (d ++ more)
    obtain ⟨y2, r2, h2⟩ := hc d
    rw [List.cons_append, List.cons_append, h1, h2, join_cons2, join_cons2, ← h1, ← h2, ih]
    simp
theorem print_more (c : CX) (more : List UInt8) : printL { c with d := txt (c.d.data.toList ++ more) } = printL c ++ more := by
  rw [printL_eq, printL_eq]
  show hexOf c.n ++ 10 :: (c.u.data.toList ++ 10 :: (dateL c ++ 10 :: Lib.join (c.fs.map (·.data.toList) ++ [[], (txt (c.d.data.toList ++ more)).data.toList]) [10])) = _
  rw [txt_list, join_more]
  simp
theorem right_more (c : CX) (d : ByteArray) : rightC { c with d := d } = rightC c := rfl
theorem parse_more {L : List UInt8} {c : CX} (h : parseC L = some c) (more : List UInt8) : parseC (L ++ more) = some { c with d := txt (c.d.data.toList ++ more) } := by
  obtain ⟨h1, h2, h3⟩ := parseC_some h
  obtain ⟨g1, g2⟩ := parseC_good h
  have := parse_print (c := { c with d := txt (c.d.data.toList ++ more) }) g1 g2 (by rw [right_more]; exact h1)
  rw [print_more, h2] at this
  exact this
theorem parse_short {L : List UInt8} (h : L.length ≤ 40) : parseC L = none := by
  cases hp : parseC L with
  | none => rfl
  | some c =>
    obtain ⟨h1, h2, -⟩ := parseC_some hp
    obtain ⟨g1, -⟩ := parseC_good hp
    have := congrArg List.length h2
    rw [printL_eq, List.length_append, hexOf_length, g1, List.length_cons] at this
    omega
end Go.Proofs.YthokcdjmhhlcdaaGreatDoor
