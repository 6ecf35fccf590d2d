/- Deltas, plainly: numbers in sevens; steps; what a base becomes. -/
import Derived.Test.YtkpnmagcmpljoaaBytes
namespace Go.Proofs.Ytkpnmagcmpljoaa
namespace Plain
/-- The number that a row of sevens begins with: the number, how many bytes it has, the error's number. -/
def lebGo : List Int → Nat → Nat → Nat × Nat × Nat
  | [], _, _ => (0, 0, 3)
  | x :: t, i, n =>
    if 12 ≤ i ∨ (4611686018427387903 - n) / 2 ^ (7 * i) < x.toNat % 128 then (0, 0, 2)
    else if x.toNat < 128 then (n + x.toNat % 128 * 2 ^ (7 * i), i + 1, 0)
    else lebGo t (i + 1) (n + x.toNat % 128 * 2 ^ (7 * i))
def lebOf (xs : List Int) : Nat × Nat × Nat := lebGo xs 0 0
theorem le_div_high (x n i : Nat) (hn : n ≤ 4611686018427387903) (hx : x ≤ (4611686018427387903 - n) / 2 ^ (7 * i)) : n + x * 2 ^ (7 * i) ≤ 4611686018427387903 := by
  have := (Nat.le_div_iff_mul_le (Nat.two_pow_pos (7 * i))).1 hx
  omega
theorem seven_lt (x n i : Nat) (hn : n < 2 ^ (7 * i)) (hx : x < 128) : n + x * 2 ^ (7 * i) < 2 ^ (7 * (i + 1)) := by
  have e : 2 ^ (7 * (i + 1)) = 128 * 2 ^ (7 * i) := by rw [show 7 * (i + 1) = 7 + 7 * i by omega, Nat.pow_add]
  rw [e]
  have : x * 2 ^ (7 * i) ≤ 127 * 2 ^ (7 * i) := Nat.mul_le_mul_right _ (by omega)
  generalize 2 ^ (7 * i) = p at *
  omega
theorem lebGo_ok : ∀ (xs : List Int) (i n : Nat), n ≤ 4611686018427387903 → (lebGo xs i n).1 ≤ 4611686018427387903 ∧ (lebGo xs i n).2.1 ≤ i + xs.length ∧ (lebGo xs i n).2.2 ≤ 3 ∧ ((lebGo xs i n).2.2 = 0 → i + 1 ≤ (lebGo xs i n).2.1) ∧ ((lebGo xs i n).2.2 ≠ 0 → (lebGo xs i n).1 = 0 ∧ (lebGo xs i n).2.1 = 0)
  | [], i, n, hn => by simp [lebGo]
  | x :: t, i, n, hn => by
    rw [lebGo]
    split
    · simp
    · rename_i h
      have h2 := le_div_high (x.toNat % 128) n i hn (by omega)
      split
      · refine ⟨h2, ?_, by simp, fun _ => by simp, fun h => absurd rfl h⟩
        simp only [List.length_cons]; omega
      · obtain ⟨g1, g2, g3, g4, g5⟩ := lebGo_ok t (i + 1) _ h2
        refine ⟨g1, ?_, g3, fun e => ?_, g5⟩
        · simp only [List.length_cons]; omega
        · have := g4 e; omega
theorem lebOf_ok (xs : List Int) : (lebOf xs).1 ≤ 4611686018427387903 ∧ (lebOf xs).2.1 ≤ xs.length ∧ (lebOf xs).2.2 ≤ 3 ∧ ((lebOf xs).2.2 = 0 → 1 ≤ (lebOf xs).2.1) ∧ ((lebOf xs).2.2 ≠ 0 → (lebOf xs).1 = 0 ∧ (lebOf xs).2.1 = 0) := by
  have := lebGo_ok xs 0 0 (by omega)
  simpa [lebOf] using this
/-- Both sizes, where the steps begin, the error's number. -/
def sizesOf (xs : List Int) : Nat × Nat × Nat × Nat :=
  if (lebOf xs).2.2 ≠ 0 then (0, 0, 0, (lebOf xs).2.2) else
  if (lebOf (xs.drop (lebOf xs).2.1)).2.2 ≠ 0 then (0, 0, 0, (lebOf (xs.drop (lebOf xs).2.1)).2.2) else
  ((lebOf xs).1, (lebOf (xs.drop (lebOf xs).2.1)).1, (lebOf xs).2.1 + (lebOf (xs.drop (lebOf xs).2.1)).2.1, 0)
def sub (xs : List Int) (o n : Nat) : List Int := (xs.drop o).take n
/-- The bytes of a copy's seven, those that are told. -/
def gat (c : Nat) : Nat → Nat → List Int → Nat → Option (Nat × List Int)
  | 0, _, d, x => some (x, d)
  | f + 1, i, d, x => if c / 2 ^ i % 2 = 0 then gat c f (i + 1) d x else
    match d with
    | [] => none
    | y :: t => gat c f (i + 1) t (x + y.toNat * 2 ^ (8 * i))
def sizeIs (x : Nat) : Nat := if x / 4294967296 = 0 then 65536 else x / 4294967296
/-- The error's number, the part, what stands behind. -/
def copyOf (base : List Int) (c : Nat) (d : List Int) : Nat × List Int × List Int :=
  match gat c 7 0 d 0 with
  | none => (3, [], [])
  | some (x, t) => if base.length < x % 4294967296 + sizeIs x then (4, [], []) else (0, sub base (x % 4294967296) (sizeIs x), t)
def stepOf (base : List Int) : List Int → Nat × List Int × List Int
  | [] => (0, [], [])
  | c :: t => if 128 ≤ c.toNat then copyOf base c.toNat t else if t.length < c.toNat then (3, [], []) else if c.toNat = 0 then (4, [], []) else (0, t.take c.toNat, t.drop c.toNat)
def stepsGo (base : List Int) (b : Nat) : Nat → List Int → List Int → Nat × List Int
  | 0, _, _ => (0, [])
  | f + 1, rest, out =>
    if rest = [] then (if out.length < b then (4, []) else (0, out)) else
    if (stepOf base rest).1 ≠ 0 then ((stepOf base rest).1, []) else
    if b - out.length < (stepOf base rest).2.1.length then (4, []) else
    stepsGo base b f (stepOf base rest).2.2 (out ++ (stepOf base rest).2.1)
def applyOf (base d : List Int) (most : Int) : Nat × List Int :=
  if (sizesOf d).2.2.2 ≠ 0 then ((sizesOf d).2.2.2, []) else
  if (sizesOf d).1 ≠ base.length then (4, []) else
  if most < ((sizesOf d).2.1 : Int) then (2, []) else
  stepsGo base (sizesOf d).2.1 (d.length + 1) (d.drop (sizesOf d).2.2.1) []
theorem gat_len (c : Nat) : ∀ (f i : Nat) (d : List Int) (x : Nat), ∀ y t, gat c f i d x = some (y, t) → t.length ≤ d.length
  | 0, i, d, x, y, t, h => by simp [gat] at h; rw [h.2]; exact Nat.le_refl _
  | f + 1, i, [], x, y, t, h => by
    simp only [gat] at h
    split at h
    · exact gat_len c f _ _ _ _ _ h
    · simp at h
  | f + 1, i, z :: u, x, y, t, h => by
    simp only [gat] at h
    split at h
    · exact gat_len c f _ _ _ _ _ h
    · have := gat_len c f _ _ _ _ _ h
      simp only [List.length_cons]; omega
theorem stepOf_len (base rest : List Int) (h : rest ≠ []) : (stepOf base rest).2.2.length < rest.length := by
  match rest, h with
  | c :: t, _ =>
    simp only [stepOf, List.length_cons]
    split
    · unfold copyOf
      cases hg : gat c.toNat 7 0 t 0 with
      | none => simp
      | some p =>
        obtain ⟨x, u⟩ := p
        have := gat_len _ _ _ _ _ _ _ hg
        simp only
        split
        · simp
        · show u.length < _; omega
    · split
      · simp
      · split
        · simp
        · simp; omega
theorem stepsGo_same (base : List Int) (b : Nat) : ∀ (f g : Nat) (rest out : List Int), rest.length < f → rest.length < g → stepsGo base b f rest out = stepsGo base b g rest out
  | 0, g, rest, out, h, _ => by omega
  | f + 1, 0, rest, out, _, h => by omega
  | f + 1, g + 1, rest, out, h1, h2 => by
    simp only [stepsGo]
    split
    · rfl
    · rename_i hne
      have := stepOf_len base rest hne
      rw [stepsGo_same base b f g _ _ (by omega) (by omega)]
end Plain
end Go.Proofs.Ytkpnmagcmpljoaa
