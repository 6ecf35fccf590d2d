/- A frame, plainly: its two bytes, the sum behind. -/
import Derived.Test.YtglgchjkonjpiaaGreatDoorZA
import Derived.Test.YtglgchjkonjpiaaGreatDoorCut
import Derived.ChangeKeysEq
/-! A frame, plainly: its two bytes, the sum behind. -/
namespace Go.Proofs.YtglgchjkonjpiaaGreatDoor
set_option linter.unusedVariables false
namespace Plain
/-- Adler's sum as four bytes. -/
def tail4 (m : List Int) : List Int := [ad 1 m / 16777216, ad 1 m / 65536 % 256, ad 1 m / 256 % 256, ad 1 m % 256]
theorem tail4_range (m : List Int) : ∀ x ∈ tail4 m, 0 ≤ x ∧ x ≤ 255 := fun x hx => by
  have := ad_range (s := 1) (by omega) (by omega) m
  simp only [tail4, List.mem_cons, List.mem_nil_iff, or_false] at hx
  rcases hx with rfl | rfl | rfl | rfl <;> omega
def frontN (x y : Int) : Bool := decide (x % 16 = 8) && (decide (x / 16 ≤ 7) && (decide (y / 32 % 2 = 0) && decide ((256 * x + y) % 31 = 0)))
def openBehind (bs : List Int) : Except Nat (Nat × List Int) → Except Nat (Nat × List Int)
  | .error k => .error k
  | .ok (q, m) =>
    if bs.length - (2 + (q + 7) / 8) < 4 then .error 3
    else if (bs.drop (2 + (q + 7) / 8)).take 4 ≠ tail4 m then .error 5
    else .ok (2 + (q + 7) / 8 + 4, m)
/-- Open: the error's number, or how many bytes are taken, and what they are. -/
def openN (bs : List Int) (most : Nat) : Except Nat (Nat × List Int) :=
  if bs.length < 2 then .error 3
  else if frontN (bs[0]?.getD 0) (bs[1]?.getD 0) = false then .error 4
  else openBehind bs (rawOf (bs.drop 2) most)
end Plain
theorem and15 {x : Int} (h : 0 ≤ x ∧ x ≤ 255) : bits .and .u8 x 15 = x % 16 := by
  obtain ⟨k, rfl⟩ : ∃ k : Nat, x = (k : Int) := ⟨x.toNat, by omega⟩
  have : ∀ k : Nat, k < 256 → bits .and .u8 (k : Int) 15 = (k : Int) % 16 := by decide +kernel
  exact this k (by omega)
theorem and32 {x : Int} (h : 0 ≤ x ∧ x ≤ 255) : bits .and .u8 x 32 = x / 32 % 2 * 32 := by
  obtain ⟨k, rfl⟩ : ∃ k : Nat, x = (k : Int) := ⟨x.toNat, by omega⟩
  have : ∀ k : Nat, k < 256 → bits .and .u8 (k : Int) 32 = (k : Int) / 32 % 2 * 32 := by decide +kernel
  exact this k (by omega)
/-! ### Arrays of bytes, compared -/
def V8 (bs : List Int) : Array Value := (bs.map (Value.int .u8)).toArray
theorem V8_get (bs : List Int) (k : Nat) (h : k < bs.length) : (V8 bs)[k]? = some (.int .u8 (bs[k]?.getD 0)) := by
  simp [V8, h]
open Go.RowKit
theorem u8plain : Tryz.prog.plainKey 5 = true := by kernel_rfl
theorem u8cells : Tryz.prog.cellsOf 5 = 1 := by kernel_rfl
theorem eqItems_u8 (d : Nat) (w : World) (xs ys : List Int) : ∀ is : List Nat, (∀ i ∈ is, i < xs.length ∧ i < ys.length) →
    (Op.eqItems (d + 1) 5 1 (V8 xs) (V8 ys) is).run Tryz.prog w = .ok (is.all fun i => xs[i]?.getD 0 == ys[i]?.getD 0) w
  | [], _ => by simp [Op.eqItems]
  | i :: is, h => by
    have h1 := V8_get xs i (h i (by simp)).1
    have h2 := V8_get ys i (h i (by simp)).2
    have ih := eqItems_u8 d w xs ys is (fun j hj => h j (by simp [hj]))
    simp only [Op.eqItems, Sem.run_bind, Nat.mul_one, run_part_plain w u8plain h1, run_part_plain w u8plain h2, Result.andThen_ok, run_equalIn_int w d 5 .u8 .u8 _ _ Tryz.underlying5]
    cases hxy : (xs[i]?.getD 0 == ys[i]?.getD 0)
    · simp [List.all_cons, hxy]
    · simp [List.all_cons, hxy, ih]
theorem all_eq_list (xs ys : List Int) (n : Nat) (hx : xs.length = n) (hy : ys.length = n) : ((List.range n).all fun i => xs[i]?.getD 0 == ys[i]?.getD 0) = (xs == ys) := by
  rw [Bool.eq_iff_iff, List.all_eq_true]
  constructor
  · intro h
    have : xs = ys := by
      apply List.ext_getElem (by omega)
      intro i h1 h2
      have := h i (List.mem_range.2 (by omega))
      rw [List.getElem?_eq_getElem h1, List.getElem?_eq_getElem h2] at this
      simpa using this
    simpa using this
  · intro h i _
    have : xs = ys := by simpa using h
    simp [this]
theorem run_equalIn_arr (w : World) (t : TypeId) (n : Nat) (ht : Tryz.prog.underlying t = some (.array n 5)) (xs ys : List Int) (hx : xs.length = n) (hy : ys.length = n) :
    (Op.equalIn 10000 t (.agg (V8 xs)) (.agg (V8 ys))).run Tryz.prog w = .ok (xs == ys) w := by
  obtain ⟨i, hi, -⟩ := Option.map_eq_some_iff.1 (show (Tryz.prog.info? 5).map (fun i => (i.zero, i.size, i.bytes)) = some (some (.int .u8 0), 1, 1) from by kernel_rfl)
  rw [run_equalIn_array w 9999 (V8 xs) (V8 ys) ht hi, u8cells, eqItems_u8 9998 w xs ys (List.range n) (fun j hj => by have := List.mem_range.1 hj; omega)]
  rw [all_eq_list xs ys n hx hy]
end Go.Proofs.YtglgchjkonjpiaaGreatDoor
/-! The two bytes ahead, and the sum behind: the walks. -/
namespace Go.Proofs.YtglgchjkonjpiaaGreatDoor
open Go.RowKit Plain
set_option linter.unusedVariables false
theorem rightFront_any (w : World) (x y : Int) (hx : 0 ≤ x ∧ x ≤ 255) (hy : 0 ≤ y ∧ y ≤ 255) :
    Calls Tryz.prog 42 #[.int .u8 x, .int .u8 y] w fun e w' => e = .returned (.bool (frontN x y)) ∧ w = w' := by
  have e1 := and15 hx
  have e2 := and32 hy
  obtain ⟨r1, hr1⟩ : ∃ r, x % 16 = r := ⟨_, rfl⟩
  obtain ⟨r2, hr2⟩ : ∃ r, y / 32 % 2 * 32 = r := ⟨_, rfl⟩
  obtain ⟨r3, hr3⟩ : ∃ r, x / 16 = r := ⟨_, rfl⟩
  obtain ⟨r4, hr4⟩ : ∃ r, (256 * x + y) % 31 = r := ⟨_, rfl⟩
  have HF : Hid (frontN x y = (decide (r1 = 8) && (decide (r3 ≤ 7) && (decide (r2 = 0) && decide (r4 = 0))))) := by
    show _ = _
    unfold frontN
    rw [hr1, hr3, hr4]
    congr 3
    exact decide_eq_decide.2 (by omega)
  rw [hr1] at e1
  rw [hr2] at e2
  have e3 : (x : Int) / 2 ^ 4 = r3 := hr3
  have e5 : x / 16 = r3 := hr3
  have e4 : (256 * x + y).tmod 31 = r4 := by rw [Int.tmod_eq_emod_of_nonneg (by omega)]; exact hr4
  clear hr1 hr2 hr3
  by_cases h1 : r1 = 8
  · by_cases h3 : r3 ≤ 7
    · by_cases h2 : r2 = 0
      · by_cases h4 : r4 = 0
        · go_enter Tryz.func42, Tryz.ntmps42
          go_wp2_with fail
          go_ret
          exact ⟨by rw [HF.out]; simp [h1, h2, h3, h4], rfl⟩
        · go_enter Tryz.func42, Tryz.ntmps42
          go_wp2_with fail
          go_ret
          exact ⟨by rw [HF.out]; simp [h1, h2, h3, h4], rfl⟩
      · go_enter Tryz.func42, Tryz.ntmps42
        go_wp2_with fail
        go_ret
        exact ⟨by rw [HF.out]; simp [h1, h2, h3], rfl⟩
    · go_enter Tryz.func42, Tryz.ntmps42
      go_wp2_with fail
      go_ret
      exact ⟨by rw [HF.out]; simp [h1]; intros; omega, rfl⟩
  · go_enter Tryz.func42, Tryz.ntmps42
    go_wp2_with fail
    go_ret
    exact ⟨by rw [HF.out]; simp [h1], rfl⟩
theorem sumOf_any (w : World) (a : Option Addr) (n c : Nat) (m : List Int) (H : Bytes w a n m) :
    Calls Tryz.prog 25 #[.slice a n c] w fun e w' => e = .returned (.agg (V8 (tail4 m))) ∧ Below w.heap.size w w' := by
  have HB := Lib.hid H
  have hr := ad_range (s := 1) (by omega) (by omega) m
  have HT : Hid (tail4 m = [ad 1 m / 16777216, ad 1 m / 65536 % 256, ad 1 m / 256 % 256, ad 1 m % 256]) := rfl
  generalize hs : ad 1 m = s at *
  have HS := Lib.hid hs
  clear H hs
  go_enter Tryz.func25, Tryz.ntmps25
  go_wp2_with fail
  refine (adler_any a n c m _ (HB.out.below ((Below.refl _ _).alloc (Nat.le_refl _) _))).mono ?_
  rw [HS.out]
  rintro e w' ⟨rfl, rfl⟩
  go_wp2_with fail
  have hg : (w.alloc (.cells #[.int .u8 (s / 16777216), .int .u8 (s / 65536 % 256), .int .u8 (s / 256 % 256), .int .u8 (s % 256)] 51)).heap[w.heap.size]? = some (.cells #[.int .u8 (s / 16777216), .int .u8 (s / 65536 % 256), .int .u8 (s / 256 % 256), .int .u8 (s % 256)] 51 (0, 0)) := by
    show (w.heap.push _)[w.heap.size]? = _
    simp
  refine bodyPost_ret (results_cell_row Tryz.results25 _ _ w.heap.size 51 _ (0, 0) (.array 4 5) rfl hg Tryz.underlying51 rfl (by kernel_rfl)) rfl ⟨by rw [HT.out]; rfl, (Below.refl _ _).alloc (Nat.le_refl _) _⟩
theorem tail_any (w : World) (a : Option Addr) (n c : Nat) (m : List Int) (H : Bytes w a n m) :
    Calls Tryz.prog 56 #[.slice a n c] w fun e w' => (∃ va, e = .returned (.slice va 4 4) ∧ Bytes w' va 4 (tail4 m)) ∧ Below w.heap.size w w' := by
  have HB := Lib.hid H
  have hr := ad_range (s := 1) (by omega) (by omega) m
  have HT : Hid (tail4 m = [ad 1 m / 16777216, ad 1 m / 65536 % 256, ad 1 m / 256 % 256, ad 1 m % 256]) := rfl
  generalize hs : ad 1 m = s at *
  have HS := Lib.hid hs
  clear H hs
  go_enter Tryz.func56, Tryz.ntmps56
  go_wp2_with fail
  refine (refAdler_any 1 a n c m _ (by omega) (by omega) HB.out).mono ?_
  rw [HS.out]
  rintro e w' ⟨rfl, rfl⟩
  go_wp2_with fail
  go_ret
  refine ⟨⟨_, rfl, ?_⟩, (Below.refl _ _).alloc (Nat.le_refl _) _⟩
  have hx := tail4_range m
  rw [HT.out] at hx ⊢
  exact Bytes.lit w w.heap.size rfl [s / 16777216, s / 65536 % 256, s / 256 % 256, s % 256] 5 (0, 0) 4 rfl (by omega) hx
end Go.Proofs.YtglgchjkonjpiaaGreatDoor
