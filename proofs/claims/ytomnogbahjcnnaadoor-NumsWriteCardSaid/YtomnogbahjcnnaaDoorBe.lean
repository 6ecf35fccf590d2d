/- A number's bytes, the highest first: the walks. -/
import Derived.Test.YtomnogbahjcnnaaDoorHead
import Derived.Test.YtomnogbahjcnnaaDoorSub
namespace Go.Proofs.YtomnogbahjcnnaaDoor
open Go.RowKit Plain
set_option linter.unusedVariables false
def num (xs : List Int) : Nat := xs.foldl (fun n x => n * 256 + x.toNat) 0
theorem num_snoc (xs : List Int) (x : Int) : num (xs ++ [x]) = num xs * 256 + x.toNat := by simp [num]
def beTo (n : Nat) : Nat → List Int
  | 0 => []
  | k + 1 => ((n / 256 ^ k % 256 : Nat) : Int) :: beTo n k
theorem beTo_length (n : Nat) : ∀ k, (beTo n k).length = k
  | 0 => rfl
  | k + 1 => by simp [beTo, beTo_length n k]
theorem beTo_bytes (n : Nat) : ∀ k, ∀ x ∈ beTo n k, 0 ≤ x ∧ x ≤ 255
  | 0, x, h => by simp [beTo] at h
  | k + 1, x, h => by
    simp only [beTo, List.mem_cons] at h
    rcases h with rfl | h
    · omega
    · exact beTo_bytes n k x h
theorem beTo_get (n : Nat) : ∀ (s k : Nat), k < s → (beTo n s)[k]? = some (((n / 256 ^ (s - 1 - k) % 256 : Nat) : Int))
  | 0, k, h => by omega
  | s + 1, 0, h => by simp [beTo]
  | s + 1, k + 1, h => by
    rw [beTo, List.getElem?_cons_succ, beTo_get n s k (by omega), show s + 1 - 1 - (k + 1) = s - 1 - k by omega]
theorem fold_from : ∀ (l : List Int) (acc : Nat), l.foldl (fun n x => n * 256 + x.toNat) acc = acc * 256 ^ l.length + num l
  | [], acc => by simp [num]
  | x :: l, acc => by
    have h1 := fold_from l (acc * 256 + x.toNat)
    have h2 := fold_from l (0 * 256 + x.toNat)
    show l.foldl _ (acc * 256 + x.toNat) = _ + l.foldl _ (0 * 256 + x.toNat)
    rw [h1, h2, List.length_cons, Nat.pow_succ, Nat.add_mul, Nat.zero_mul, Nat.zero_add, Nat.mul_assoc, Nat.mul_comm 256]
    omega
theorem num_beTo (n : Nat) : ∀ k, num (beTo n k) = n % 256 ^ k
  | 0 => by simp [beTo, num, Nat.mod_one]
  | k + 1 => by
    show (beTo n k).foldl _ (0 * 256 + _) = _
    rw [fold_from, num_beTo n k, beTo_length, Nat.mod_pow_succ]
    simp only [Int.toNat_natCast, Nat.zero_mul, Nat.zero_add]
    rw [Nat.mul_comm, Nat.add_comm]
theorem num_lt : ∀ (k : Nat) (xs : List Int), xs.length = k → (∀ x ∈ xs, 0 ≤ x ∧ x ≤ 255) → num xs < 256 ^ k
  | 0, xs, h, _ => by
    obtain rfl : xs = [] := List.eq_nil_of_length_eq_zero h
    simp [num]
  | k + 1, xs, h, hb => by
    have hne : xs ≠ [] := by intro e; subst e; simp at h
    have e := (List.dropLast_concat_getLast hne).symm
    rw [e, num_snoc]
    have h1 := num_lt k xs.dropLast (by simp [h]) (fun x hx => hb x (List.dropLast_subset _ hx))
    have h2 := hb _ (List.getLast_mem hne)
    have : (xs.getLast hne).toNat ≤ 255 := by omega
    rw [Nat.pow_succ]
    omega
theorem or_byte (n : Nat) (x : Int) (hn : n < 72057594037927936) (hx : 0 ≤ x ∧ x ≤ 255) : bits .or .u64 ((n : Int) * 256) x = ((n * 256 + x.toNat : Nat) : Int) := by
  obtain ⟨m, rfl⟩ := Int.eq_ofNat_of_zero_le hx.1
  have hm : m < 256 := by omega
  show IntKind.u64.wrap ((BitVec.ofInt 64 _ ||| BitVec.ofInt 64 _ : BitVec 64).toNat : Int) = _
  rw [BitVec.toNat_or, BitVec.toNat_ofInt, BitVec.toNat_ofInt]
  have e1 : (((n : Int) * 256) % ((2 ^ 64 : Nat) : Int)).toNat = n <<< 8 := by rw [Nat.shiftLeft_eq]; omega
  have e2 : ((m : Int) % ((2 ^ 64 : Nat) : Int)).toNat = m := by omega
  rw [e1, e2, ← Nat.shiftLeft_add_eq_or_of_lt (by omega : m < 2 ^ 8), Nat.shiftLeft_eq, IntKind.wrap_u64]
  simp only [Int.toNat_natCast]
  omega
theorem take_succ_getD (zs : List Int) (k : Nat) (h : k < zs.length) : zs.take (k + 1) = zs.take k ++ [zs[k]?.getD 0] := by
  rw [List.take_succ_eq_append_getElem h, List.getElem?_eq_getElem h]; rfl
def partBe (n s k : Nat) : List Int := (beTo n s).take k ++ List.replicate (s - k) 0
theorem partBe_zero (n s : Nat) : partBe n s 0 = List.replicate s 0 := by simp [partBe]
theorem partBe_all (n s : Nat) : partBe n s s = beTo n s := by
  unfold partBe
  rw [List.take_of_length_le (by rw [beTo_length]; exact Nat.le_refl _), Nat.sub_self]
  simp
theorem partBe_next (n s k : Nat) (h : k < s) (x : Int) (hx : x = ((n / 256 ^ (s - 1 - k) % 256 : Nat) : Int)) : (partBe n s k).set k x = partBe n s (k + 1) := by
  subst hx
  unfold partBe
  obtain ⟨j, hj⟩ : ∃ j, s - k = j + 1 := ⟨s - k - 1, by omega⟩
  rw [hj, List.replicate_succ, List.set_append_right _ _ (by rw [List.length_take, beTo_length]; omega), List.length_take, beTo_length, show k - min k s = 0 by omega, List.set_cons_zero,
    take_succ_getD _ k (by rw [beTo_length]; exact h), beTo_get n s k h, List.append_assoc, show s - (k + 1) = j by omega]
  rfl
theorem own_zeros (w : World) (k : Nat) (hk : k ≤ 8) : Own (w.alloc (.cells (Zs k) 5)) w.heap.size (.slice (some ⟨w.heap.size, 0, none⟩) k k) k (List.replicate k 0) :=
  ⟨by simp, .inr ⟨w.heap.size, k, Zs k, rfl, Nat.le_refl _, by show (w.heap.push _)[w.heap.size]? = _; simp, Nat.le_refl _, by unfold maxLen; omega, by simp [Zs], by simp [Zs]⟩⟩
theorem min2_run {P : Program} (ts : Array TypeId) (t : TypeId) (k k1 : IntKind) (x y : Int) (w : World) : (Builtin.min_ ts t #[.int k x, .int k1 y]).run P w = .ok (.int k (min x y)) w := by
  have e : ∀ p q : Int, (if q < p then q else p) = min p q := fun p q => by split <;> omega
  simp [Builtin.min_, Builtin.min2, e]
theorem sub_ruleB (s k j : Nat) (h : s = j + 1 + k) : ∀ s' : Int, s' = (s : Int) → s' - 1 - (k : Int) = (j : Int) := fun s' h' => by rw [h', h]; omega
set_option maxRecDepth 100000 in
set_option maxHeartbeats 4000000 in
theorem numsBe_any (n : Nat) (hn : n < 18446744073709551616) (s : Int) (sz : Nat) (hs : min (max s 0) 8 = (sz : Int)) (w : World) :
    Calls Tryd.prog 9 #[.int .u64 (n : Int), .int .i64 s] w fun e w' => (∃ a c, e = .returned (.slice a sz c) ∧ Own w' w.heap.size (.slice a sz c) sz (beTo n sz)) ∧ Below w.heap.size w w' := by
  have hsz : sz ≤ 8 := by omega
  have hmn : ∀ (ts : Array TypeId) (t : TypeId) (W : World), (Builtin.min_ ts t #[.int .i64 (max s 0), .int .i64 8]).run Tryd.prog W = .ok (.int .i64 (sz : Int)) W := fun ts t W => by
    rw [← hs]; exact min2_run ts t .i64 .i64 _ 8 W
  have hmx : ∀ (ts : Array TypeId) (t : TypeId) (W : World), (Builtin.max_ ts t #[.int .i64 s, .int .i64 0]).run Tryd.prog W = .ok (.int .i64 (max s 0)) W := fun ts t W => run_max2 ts t .i64 .i64 s 0 W
  generalize max s 0 = s1 at *
  have hmk := fun W => make_zs sz (by omega) W
  have HO0 : Hid (Own (w.alloc (.cells (Zs sz) 5)) w.heap.size (.slice (some ⟨w.heap.size, 0, none⟩) sz sz) sz (partBe n sz 0)) := by
    rw [partBe_zero]; exact own_zeros w sz hsz
  have HB0 : Hid (Below w.heap.size w (w.alloc (.cells (Zs sz) 5))) := (Below.refl _ _).alloc (Nat.le_refl _) _
  clear hs
  go_enter Tryd.func9, Tryd.ntmps9
  go_wp2_with fail
  generalize w.alloc (.cells (Zs sz) 5) = w1 at *
  go_loopw [14] (fun i wr => ∃ k : Nat, k ≤ sz ∧ i = .int .i64 (k : Int) ∧ Own wr w.heap.size (.slice (some ⟨w.heap.size, 0, none⟩) sz sz) sz (partBe n sz k) ∧ Below w.heap.size w wr) (fun i _ => sz - (intOf i).toNat)
  case atStart => exact ⟨0, by omega, rfl, HO0.out, HB0.out⟩
  case round =>
    obtain ⟨k, hk, rfl, hown, hbel⟩ := hrel
    have HOW : Hid (Own wr w.heap.size (.slice (some ⟨w.heap.size, 0, none⟩) sz sz) sz (partBe n sz k)) := hown
    have HBE : Hid (Below w.heap.size w wr) := hbel
    clear hown hbel hmk hmn hmx HO0 HB0
    by_cases hlt : k < sz
    · have hli : (k : Int) < sz := by omega
      obtain ⟨kk, hkk⟩ : ∃ kk, kk = k + 1 := ⟨_, rfl⟩
      have hcell := HOW.out.cell k hlt
      have hfree := HOW.out.free k
      obtain ⟨j, hj⟩ : ∃ j, sz = j + 1 + k := ⟨sz - 1 - k, by omega⟩
      have r1 := sub_ruleB sz k j hj
      have hj8 : j < 8 := by omega
      have HNX : Hid (∀ x : Int, x = ((n / 256 ^ j % 256 : Nat) : Int) → Own (wr.setCell ⟨w.heap.size, k, none⟩ (.int .u8 x)) w.heap.size (.slice (some ⟨w.heap.size, 0, none⟩) sz sz) sz (partBe n sz kk)) := fun x hx => by
        rw [hkk, ← partBe_next n sz k hlt x (by rw [show sz - 1 - k = j by omega]; exact hx)]
        exact HOW.out.stored k x
      have HBX : Hid (∀ v, Below w.heap.size w (wr.setCell ⟨w.heap.size, k, none⟩ v)) := fun v => HBE.out.setCell (Nat.le_refl _) _
      clear HOW hj
      obtain rfl | rfl | rfl | rfl | rfl | rfl | rfl | rfl : j = 0 ∨ j = 1 ∨ j = 2 ∨ j = 3 ∨ j = 4 ∨ j = 5 ∨ j = 6 ∨ j = 7 := by omega
      all_goals
        go_wp2_with fail
        refine ⟨⟨kk, by omega, by subst hkk; go_num, HNX.out _ ?_, HBX.out _⟩, by subst hkk; simp [intOf]; omega⟩
        simp only [Nat.reducePow]
        omega
    · obtain rfl : k = sz := by omega
      have hli : ¬ (k : Int) < k := by omega
      go_wp2_with fail
      go_ret
      exact ⟨⟨_, _, rfl, by rw [← partBe_all]; exact HOW.out⟩, HBE.out⟩
end Go.Proofs.YtomnogbahjcnnaaDoor
