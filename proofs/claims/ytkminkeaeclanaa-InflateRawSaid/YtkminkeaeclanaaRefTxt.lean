/- The document's unpacking: codes as texts, and what numbers they are. -/
import Derived.Test.YtkminkeaeclanaaRefNext
namespace Go.Proofs.Ytkminkeaeclanaa
open Go.RowKit Plain
set_option linter.unusedVariables false
/-- A number's n bits as text, the highest first. -/
def txt : Nat → Nat → List Int
  | 0, _ => []
  | n + 1, v => txt n (v / 2) ++ [((48 + v % 2 : Nat) : Int)]
theorem txt_len : ∀ n v, (txt n v).length = n
  | 0, _ => rfl
  | n + 1, v => by rw [txt, List.length_append, txt_len n]; rfl
theorem txt_mem : ∀ n v, ∀ x ∈ txt n v, x = 48 ∨ x = 49
  | 0, v, x, h => by cases h
  | n + 1, v, x, h => by
    rw [txt, List.mem_append, List.mem_singleton] at h
    rcases h with h | h
    · exact txt_mem n _ x h
    · omega
theorem txt_inj : ∀ n v u, v < 2 ^ n → u < 2 ^ n → txt n v = txt n u → v = u
  | 0, v, u, hv, hu, _ => by simp at hv hu; omega
  | n + 1, v, u, hv, hu, h => by
    rw [txt, txt] at h
    obtain ⟨h1, h2⟩ := List.append_inj' h rfl
    rw [Nat.pow_succ] at hv hu
    have := txt_inj n _ _ (by omega) (by omega) h1
    have h3 : ((48 + v % 2 : Nat) : Int) = ((48 + u % 2 : Nat) : Int) := by simpa using h2
    omega
theorem txt_take (l v : Nat) : ∀ k, (txt (l + k) v).take l = txt l (v / 2 ^ k)
  | 0 => by rw [Nat.add_zero, List.take_of_length_le (by rw [txt_len]; exact Nat.le_refl _), Nat.pow_zero, Nat.div_one]
  | k + 1 => by
    have ih := txt_take l (v / 2) k
    rw [show l + (k + 1) = (l + k) + 1 by omega, txt, List.take_append_of_le_length (by rw [txt_len]; omega), ih, Nat.pow_succ, Nat.mul_comm, Nat.div_div_eq_div_mul]
/-- The code behind a code of n bits. -/
def nextN (n v : Nat) : Nat := if v + 1 < 2 ^ n then v + 1 else v
theorem nextN_lt {n v : Nat} (h : v < 2 ^ n) : nextN n v < 2 ^ n := by unfold nextN; split <;> assumption
theorem nextGo_txt (s : List Int) : ∀ (k v : Nat) (zs : List Int), v < 2 ^ k → nextGo s k (txt k v ++ zs) = if v + 1 < 2 ^ k then txt k (v + 1) ++ zs else s
  | 0, v, zs, h => by rw [nextGo, if_neg (by simp)]
  | k + 1, v, zs, h => by
    have hl : (txt k (v / 2)).length = k := txt_len _ _
    have hg : (txt (k + 1) v ++ zs)[k]?.getD 0 = ((48 + v % 2 : Nat) : Int) := by
      rw [txt, List.append_assoc, List.getElem?_append_right (by omega), hl, Nat.sub_self]; rfl
    have hs : ∀ y : Int, (txt (k + 1) v ++ zs).set k y = txt k (v / 2) ++ ([y] ++ zs) := fun y => by
      rw [txt, List.append_assoc, List.set_append_right _ _ (by omega), hl, Nat.sub_self]; rfl
    rw [nextGo, hg, hs, hs]
    rw [Nat.pow_succ] at h ⊢
    have hpos : 0 < 2 ^ k := Nat.two_pow_pos k
    by_cases h0 : v % 2 = 0
    · rw [if_pos (by rw [h0]; rfl), if_pos (by omega), txt, show (v + 1) / 2 = v / 2 by omega, show (v + 1) % 2 = 1 by omega, List.append_assoc]; rfl
    · rw [if_neg (by omega), nextGo_txt s k (v / 2) _ (by omega)]
      by_cases h1 : v / 2 + 1 < 2 ^ k
      · rw [if_pos h1, if_pos (by omega), txt, show (v + 1) / 2 = v / 2 + 1 by omega, show (v + 1) % 2 = 0 by omega, List.append_assoc]; rfl
      · rw [if_neg h1, if_neg (by omega)]
theorem nextT_txt (n v : Nat) (h : v < 2 ^ n) : nextT (txt n v) = txt n (nextN n v) := by
  unfold nextT nextN
  have := nextGo_txt (txt n v) n v [] h
  rw [List.append_nil, List.append_nil] at this
  rw [txt_len, this]
  split <;> rfl
/-! ### As strings -/
def Sx (n v : Nat) : ByteArray := strOfNums (txt n v)
theorem sx_size (n v : Nat) : (Sx n v).size = n := by unfold Sx; rw [strOfNums_size, txt_len]
theorem nums_snoc (xs : List Int) (y : Int) (b : UInt8) (h : UInt8.ofNat y.toNat = b) : strOfNums xs ++ (⟨#[b]⟩ : ByteArray) = strOfNums (xs ++ [y]) := by
  apply ByteArray.ext
  apply Array.toList_inj.1
  subst h
  simp [strOfNums]
theorem sx_zero (n v : Nat) : Sx n v ++ (⟨#[48]⟩ : ByteArray) = Sx (n + 1) (2 * v) := by
  unfold Sx
  rw [nums_snoc _ 48 48 rfl, txt, show 2 * v / 2 = v by omega, show 2 * v % 2 = 0 by omega]; rfl
theorem sx_one (n v : Nat) : Sx n v ++ (⟨#[49]⟩ : ByteArray) = Sx (n + 1) (2 * v + 1) := by
  unfold Sx
  rw [nums_snoc _ 49 49 rfl, txt, show (2 * v + 1) / 2 = v by omega, show (2 * v + 1) % 2 = 1 by omega]; rfl
theorem nums_inj {xs ys : List Int} (hx : ∀ x ∈ xs, 0 ≤ x ∧ x ≤ 255) (hy : ∀ x ∈ ys, 0 ≤ x ∧ x ≤ 255) (h : strOfNums xs = strOfNums ys) : xs = ys := by
  have h1 : xs.map (fun n => UInt8.ofNat n.toNat) = ys.map (fun n => UInt8.ofNat n.toNat) := by
    have := congrArg (fun b : ByteArray => b.data.toList) h
    simpa [strOfNums_data] using this
  have back : ∀ zs : List Int, (∀ x ∈ zs, 0 ≤ x ∧ x ≤ 255) → (zs.map (fun n => UInt8.ofNat n.toNat)).map (fun b => (b.toNat : Int)) = zs := fun zs hz => by
    rw [List.map_map]
    conv => rhs; rw [← List.map_id zs]
    apply List.map_congr_left
    intro a ha
    have := hz a ha
    simp
    omega
  rw [← back xs hx, h1, back ys hy]
theorem sx_eq {n v m u : Nat} (hv : v < 2 ^ n) (hu : u < 2 ^ m) (h : Sx n v = Sx m u) : n = m ∧ v = u := by
  have hb : ∀ k t, ∀ x ∈ txt k t, 0 ≤ x ∧ x ≤ 255 := fun k t x hx => by rcases txt_mem k t x hx with h | h <;> omega
  have h1 := nums_inj (hb n v) (hb m u) h
  have h2 : n = m := by rw [← txt_len n v, h1, txt_len]
  subst h2
  exact ⟨rfl, txt_inj n v u hv hu h1⟩
theorem loopN' (bs : ByteArray) : ∀ (n i : Nat) (r : List UInt8), bs.size - i = n → ByteArray.toList.loop bs i r = r.reverse ++ bs.data.toList.drop i
  | 0, i, r, h => by
    rw [ByteArray.toList.loop, if_neg (by omega)]
    have : bs.data.toList.length ≤ i := by show bs.size ≤ i; omega
    rw [List.drop_of_length_le this, List.append_nil]
  | n + 1, i, r, h => by
    have hi : i < bs.data.toList.length := by show i < bs.size; omega
    rw [ByteArray.toList.loop, if_pos (by omega), loopN' bs n (i + 1) _ (by omega), List.drop_eq_getElem_cons hi]
    have hg : bs.get! i = bs.data.toList[i] := by
      show bs.data[i]! = _
      have : i < bs.data.size := by simpa using hi
      rw [getElem!_pos bs.data i this]
      simp
    rw [hg]
    simp
theorem toList_inj' (a b : ByteArray) (h : a.toList = b.toList) : a = b := by
  unfold ByteArray.toList at h
  rw [loopN' a _ 0 [] rfl, loopN' b _ 0 [] rfl] at h
  apply ByteArray.ext
  apply Array.toList_inj.1
  simpa using h
theorem sx_ne {n v m u : Nat} (hv : v < 2 ^ n) (hu : u < 2 ^ m) (h : ¬ (n = m ∧ v = u)) : ¬ (Sx n v).toList = (Sx m u).toList := fun e => h (sx_eq hv hu (toList_inj' _ _ e))
end Go.Proofs.Ytkminkeaeclanaa
