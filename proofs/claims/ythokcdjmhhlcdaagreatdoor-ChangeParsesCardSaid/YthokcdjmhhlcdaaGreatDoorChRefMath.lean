/- What the document's Parse makes of a text, plainly: the same. -/
import Derived.Test.YthokcdjmhhlcdaaGreatDoorChMath
namespace Go.Proofs.YthokcdjmhhlcdaaGreatDoor
open Go.RowKit Plain
set_option linter.unusedVariables false
/-- Whatever reads every printed change back, and tests by printing, accepts the same texts with the same answers. -/
theorem parse_other (rawR : List UInt8 → CX) (hg : ∀ L, (rawR L).n.length = 20 ∧ ∀ x ∈ (rawR L).n, 0 ≤ x ∧ x ≤ 255)
    (h : ∀ c : CX, c.n.length = 20 → (∀ x ∈ c.n, 0 ≤ x ∧ x ≤ 255) → rightC c = true → rawR (printL c) = c) (L : List UInt8) :
    (if rightC (rawR L) = true ∧ printL (rawR L) = L then some (rawR L) else none) = parseC L := by
  by_cases hr : rightC (rawR L) = true ∧ printL (rawR L) = L
  · rw [if_pos hr]
    have := parse_print (hg L).1 (hg L).2 hr.1
    rw [hr.2] at this
    exact this.symm
  · rw [if_neg hr]
    cases hp : parseC L with
    | none => rfl
    | some c =>
      obtain ⟨h1, h2, h3⟩ := parseC_some hp
      obtain ⟨g1, g2⟩ := parseC_good hp
      have := h c g1 g2 h1
      rw [h2] at this
      rw [this] at hr
      exact absurd ⟨h1, h2⟩ hr
/-- The extras: cut at each byte 0 while any is left. -/
def extsRk : Nat → List UInt8 → List (ByteArray × ByteArray)
  | 0, _ => []
  | k + 1, l => if l = [] then [] else wordP (Lib.cut l [0]).1 :: extsRk k (Lib.cut l [0]).2.1
theorem extL_ne (x : ByteArray × ByteArray) : extL x ≠ [] := fun e => by
  unfold extL at e
  have := congrArg List.length e
  rw [List.length_append, List.length_cons] at this
  simp at this
theorem join_ne (w : List UInt8) (ws : List (List UInt8)) (h : w ≠ []) : Lib.join (w :: ws) [0] ≠ [] := by
  cases ws with
  | nil => rw [Lib.join_one]; exact h
  | cons v vs =>
    rw [join_cons2]
    intro e
    have := congrArg List.length e
    rw [List.length_append, List.length_cons] at this
    simp at this
theorem extsRk_back : ∀ (xs : List (ByteArray × ByteArray)) (k : Nat), (∀ x ∈ xs, extOk x = true) → xs.length ≤ k → extsRk k (exsL xs) = xs
  | [], k, _, _ => by
    have e : exsL [] = [] := by unfold exsL; rw [List.map_nil, Lib.join_nil]
    rw [e]
    cases k with
    | zero => rw [extsRk]
    | succ k => rw [extsRk, if_pos rfl]
  | [x], 0, _, h => by simp at h
  | [x], k + 1, hx, _ => by
    have h1 := extL_no (hx x (by simp))
    have e : exsL [x] = extL x := by unfold exsL; rw [List.map_cons, List.map_nil, Lib.join_one]
    rw [e, extsRk, if_neg (extL_ne x), cut_not _ _ h1.1]
    simp only
    rw [wordP_ext (hx x (by simp))]
    cases k with
    | zero => rw [extsRk]
    | succ k => rw [extsRk, if_pos rfl]
  | x :: y :: xs, 0, _, h => by simp at h
  | x :: y :: xs, k + 1, hx, h => by
    have h1 := extL_no (hx x (by simp))
    have e : exsL (x :: y :: xs) = extL x ++ 0 :: exsL (y :: xs) := by unfold exsL; rw [List.map_cons, List.map_cons, join_cons2]
    have hne : exsL (x :: y :: xs) ≠ [] := by unfold exsL; rw [List.map_cons]; exact join_ne _ _ (extL_ne x)
    rw [extsRk, if_neg hne, e, cut_at _ _ 0 h1.1]
    simp only
    rw [wordP_ext (hx x (by simp)), extsRk_back (y :: xs) k (fun z hz => hx z (List.mem_cons_of_mem _ hz)) (by simp only [List.length_cons] at h ⊢; omega)]
def extraP (l : List UInt8) : List UInt8 := (Lib.cut (Lib.cut l [32]).2.1 [32]).2.1
theorem extra_date {c : CX} (h : ∀ x ∈ c.xs, extOk x = true) : extraP (dateL c) = exsL c.xs := by
  have c1 := cut_at (Lib.itoa c.t) (Lib.itoa c.z ++ (if c.xs = [] then [] else 32 :: exsL c.xs)) 32 (itoa_no _ 32 (by decide))
  have e1 : Lib.itoa c.t ++ 32 :: (Lib.itoa c.z ++ (if c.xs = [] then [] else 32 :: exsL c.xs)) = dateL c := rfl
  rw [e1] at c1
  unfold extraP
  rw [c1]
  simp only
  by_cases hx : c.xs = []
  · rw [if_pos hx, List.append_nil, cut_not _ _ (itoa_no _ 32 (by decide)), hx]
    unfold exsL
    rw [List.map_nil, Lib.join_nil]
  · rw [if_neg hx, cut_at _ _ 32 (itoa_no _ 32 (by decide))]
/-- The document's reading; nT: how it reads a number. -/
def rawR (nT : List UInt8 → Int) (L : List UInt8) : CX :=
  { rawP L with t := nT (timeP (dateP L)), z := nT (zoneP (dateP L)), xs := extsRk (extraP (dateP L)).length (extraP (dateP L)) }
theorem exsL_len_ge : ∀ xs : List (ByteArray × ByteArray), xs.length ≤ (exsL xs).length
  | [] => Nat.zero_le _
  | [x] => by
    have e : exsL [x] = extL x := by unfold exsL; rw [List.map_cons, List.map_nil, Lib.join_one]
    rw [e]
    have := List.length_pos_iff.2 (extL_ne x)
    simp only [List.length_cons, List.length_nil]
    omega
  | x :: y :: xs => by
    have e : exsL (x :: y :: xs) = extL x ++ 0 :: exsL (y :: xs) := by unfold exsL; rw [List.map_cons, List.map_cons, join_cons2]
    have ih := exsL_len_ge (y :: xs)
    rw [e, List.length_append]
    simp only [List.length_cons] at ih ⊢
    omega
theorem rawR_print (nT : List UInt8 → Int) (hn : ∀ z : Int, -4611686018427387903 ≤ z → z ≤ 4611686018427387903 → nT (Lib.itoa z) = z) {c : CX} (h20 : c.n.length = 20) (hb : ∀ x ∈ c.n, 0 ≤ x ∧ x ≤ 255) (h : rightC c = true) : rawR nT (printL c) = c := by
  have h0 := raw_print h20 hb h
  obtain ⟨hh, hx, -⟩ := right_parts h
  obtain ⟨-, -, t0, t1, z0, z1⟩ := head_parts hh
  have hd : dateP (printL c) = dateL c := by
    have e := printL_eq c
    have c1 := cut_at (hexOf c.n) (c.u.data.toList ++ 10 :: (dateL c ++ 10 :: Lib.join (c.fs.map (·.data.toList) ++ [[], c.d.data.toList]) [10])) 10 (hex_no c.n hb h20)
    rw [← e] at c1
    have c2 := cut_at c.u.data.toList (dateL c ++ 10 :: Lib.join (c.fs.map (·.data.toList) ++ [[], c.d.data.toList]) [10]) 10 (head_parts hh).2.1
    have c3 := cut_at (dateL c) (Lib.join (c.fs.map (·.data.toList) ++ [[], c.d.data.toList]) [10]) 10 (dateL_no hx)
    have r1 : rest1 (printL c) = c.u.data.toList ++ 10 :: (dateL c ++ 10 :: Lib.join (c.fs.map (·.data.toList) ++ [[], c.d.data.toList]) [10]) := by unfold rest1; rw [c1]
    have r2 : rest2 (printL c) = dateL c ++ 10 :: Lib.join (c.fs.map (·.data.toList) ++ [[], c.d.data.toList]) [10] := by unfold rest2; rw [r1, c2]
    unfold dateP; rw [r2, c3]
  obtain ⟨d1, d2, -⟩ := date_back hx
  unfold rawR
  rw [h0, hd, d1, d2, extra_date hx, hn c.t (by omega) (by omega), hn c.z (by omega) (by omega), extsRk_back c.xs _ hx (exsL_len_ge c.xs)]
/-- So the document's Parse is parseC. -/
theorem parse_same (nT : List UInt8 → Int) (hn : ∀ z : Int, -4611686018427387903 ≤ z → z ≤ 4611686018427387903 → nT (Lib.itoa z) = z) (L : List UInt8) :
    (if rightC (rawR nT L) = true ∧ printL (rawR nT L) = L then some (rawR nT L) else none) = parseC L :=
  parse_other (rawR nT) (fun L => raw_good L) (fun c h20 hb h => rawR_print nT hn h20 hb h) L
end Go.Proofs.YthokcdjmhhlcdaaGreatDoor
