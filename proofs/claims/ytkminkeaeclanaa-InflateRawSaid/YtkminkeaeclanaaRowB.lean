/- Rows of bytes that are handed on; Raw over them. -/
import Derived.Test.YtkminkeaeclanaaRaw
namespace Go.Proofs.Ytkminkeaeclanaa
open Go.RowKit Plain
set_option linter.unusedVariables false
/-- A slice of bytes, with what its ends are. -/
structure RowB (w : World) (a : Option Addr) (n c : Nat) (xs : List Int) : Prop where
  le : n ≤ c
  cap : c ≤ 9223372036854775807
  nil : a = none → c = 0
  bytes : Bytes w a n xs
theorem RowB.below {w w' : World} {a : Option Addr} {n c : Nat} {xs : List Int} (h : RowB w a n c xs) (hb : Below w.heap.size w w') : RowB w' a n c xs := ⟨h.le, h.cap, h.nil, h.bytes.below hb⟩
theorem RowB.len {w : World} {a : Option Addr} {n c : Nat} {xs : List Int} (h : RowB w a n c xs) : xs.length = n := h.bytes.1
theorem RowB.range {w : World} {a : Option Addr} {n c : Nat} {xs : List Int} (h : RowB w a n c xs) : ∀ j : Nat, 0 ≤ xs[j]?.getD 0 ∧ xs[j]?.getD 0 ≤ 255 := h.bytes.2.2.1
theorem Mid.row {w : World} {base : Nat} {a : Option Addr} {n c : Nat} {xs : List Int} (h : Mid w base (.slice a n c) n xs) (hx : ∀ j : Nat, 0 ≤ xs[j]?.getD 0 ∧ xs[j]?.getD 0 ≤ 255) : RowB w a n c xs := by
  obtain ⟨a', c', e, h1, h2, h3⟩ := h.shape
  simp only [Value.slice.injEq, true_and] at e
  obtain ⟨rfl, rfl⟩ := e
  exact ⟨h1, h3, h2, h.bytes hx⟩
theorem row_in {w : World} {a : Option Addr} {len cap : Nat} {zs : List Int} 
    (h : (a = none ∧ len = 0 ∧ cap = 0 ∧ zs = []) ∨ ∃ x, a = some x ∧ len ≤ cap ∧ cap ≤ maxLen ∧ zs.length = cap ∧ (∀ i, i < zs.length → w.cell? (x.add i) = some (.int .u8 (zs.getD i 0))) ∧ ∀ n ∈ zs, (Lit.int .u8 n).wf = true) (k : Nat) : RowB w a (min len k) cap ((zs.take len).take k) ∧ len ≤ cap ∧ cap ≤ 9223372036854775807 := by
  obtain ⟨hb, hlc, hcm⟩ := bytes_of h
  refine ⟨⟨by omega, hcm, ?_, hb.first k⟩, hlc, hcm⟩
  rcases h with ⟨-, -, h, -⟩ | ⟨x, rfl, -⟩
  · exact fun _ => h
  · exact fun e => by cases e
/-- What Raw tells of a row. -/
def RawQ (w : World) (most : Nat) (bs : List Int) (e : Ending) (w' : World) : Prop :=
  (∃ q m va vc, rawOf bs most = .ok (q, m) ∧ e = .returned (.tuple #[.slice va m.length vc, .int .i64 (((q + 7) / 8 : Nat) : Int), .int .i64 0]) ∧ RowB w' va m.length vc m ∧ m.length ≤ most ∧ Below w.heap.size w w' ∧ Mid w' w.heap.size (.slice va m.length vc) m.length m) ∨
    ∃ k, rawOf bs most = .error k ∧ k ≠ 0 ∧ e = .returned (.tuple #[.slice none 0 0, .int .i64 0, .int .i64 (k : Int)]) ∧ Below w.heap.size w w'
theorem raw_row (a : Option Addr) (n c : Nat) (bs : List Int) (M : Int) (most : Nat) (w : World) (H : RowB w a n c bs) (hn : n ≤ 1000000000) (hM : most = M.toNat) (hm : most ≤ 1000000000) :
    Calls Try.prog 8 #[.slice a n c, .int .i64 M] w (RawQ w most bs) := by
  have hl := H.len
  subst hl
  refine (raw_any w a c M most bs ⟨H.bytes, H.le, H.cap, H.nil, hn, hm, rfl⟩ hM).mono ?_
  rintro e w' (⟨q, m, mv, h1, rfl, h3, h4, h5, h6⟩ | ⟨k, h1, rfl, h3⟩)
  · obtain ⟨va, vc, rfl, -⟩ := h3.shape
    exact .inl ⟨q, m, va, vc, h1, rfl, h3.row (range_of_mem0 h5), h4, h6, h3⟩
  · exact .inr ⟨k, h1, nz_raw h1, rfl, h3⟩
/-- A row that is spelt out. -/
theorem row_lit (w : World) (xs : List Int) (n : Nat) (hn : xs.length = n) (hn1 : n ≤ 1000000000) (hx : ∀ x ∈ xs, 0 ≤ x ∧ x ≤ 255) : RowB (w.alloc (.cells (xs.map (Value.int .u8)).toArray 5)) (some ⟨w.heap.size, 0, none⟩) n n xs :=
  ⟨Nat.le_refl _, by omega, (fun e => by cases e), Bytes.lit w _ rfl xs 5 (0, 0) n hn (by omega) hx⟩
theorem raw_lit (w : World) (xs : List Int) (n : Nat) (M : Int) (most : Nat) (hn : xs.length = n) (hn1 : n ≤ 1000000000) (hx : ∀ x ∈ xs, 0 ≤ x ∧ x ≤ 255) (hM : most = M.toNat) (hm : most ≤ 1000000000) :
    Calls Try.prog 8 #[.slice (some ⟨w.heap.size, 0, none⟩) n n, .int .i64 M] (w.alloc (.cells (xs.map (Value.int .u8)).toArray 5)) fun e w' =>
      ((∃ q m va vc, rawOf xs most = .ok (q, m) ∧ e = .returned (.tuple #[.slice va m.length vc, .int .i64 (((q + 7) / 8 : Nat) : Int), .int .i64 0]) ∧ RowB w' va m.length vc m) ∨ ∃ k, rawOf xs most = .error k ∧ e = .returned (.tuple #[.slice none 0 0, .int .i64 0, .int .i64 (k : Int)])) ∧ Below w.heap.size w w' := by
  have hb : Below w.heap.size w (w.alloc (.cells (xs.map (Value.int .u8)).toArray 5)) := (Below.refl _ _).alloc (Nat.le_refl _) _
  refine (raw_row _ n n xs M most _ (row_lit w xs n hn hn1 hx) hn1 hM hm).mono ?_
  rintro e w' (⟨q, m, va, vc, h1, rfl, h3, h4, h5, -⟩ | ⟨k, h1, h2, rfl, h3⟩)
  · exact ⟨.inl ⟨q, m, va, vc, h1, rfl, h3⟩, hb.trans (h5.mono hb.size)⟩
  · exact ⟨.inr ⟨k, h1, rfl⟩, hb.trans (h3.mono hb.size)⟩
end Go.Proofs.Ytkminkeaeclanaa
