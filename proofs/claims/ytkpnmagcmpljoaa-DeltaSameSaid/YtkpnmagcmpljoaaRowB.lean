/- Rows of bytes that are handed on: a delta that is made, and applied. -/
import Derived.Test.YtkpnmagcmpljoaaMake
import Derived.Test.YtkpnmagcmpljoaaRefApply
import Derived.Test.YtkpnmagcmpljoaaKnown
import Derived.Test.YtkpnmagcmpljoaaRange
namespace Go.Proofs.Ytkpnmagcmpljoaa
open Go.RowKit Plain
set_option linter.unusedVariables false
/-- A slice of bytes, with what its ends are. -/
structure RowB (w : World) (a : Option Addr) (n c : Nat) (xs : List Int) : Prop where
  le : n ≤ c
  cap : c ≤ 9223372036854775807
  nil : a = none → c = 0
  bytes : Bytes w a n xs
theorem RowB.below {w w' : World} {a : Option Addr} {n c : Nat} {xs : List Int} (h : RowB w a n c xs) (hb : Below w.heap.size w w') : RowB w' a n c xs := ⟨h.le, h.cap, h.nil, h.bytes.below hb⟩
theorem RowB.len {w : World} {a : Option Addr} {n c : Nat} {xs : List Int} (h : RowB w a n c xs) : xs.length = n := h.bytes.1
theorem RowB.range {w : World} {a : Option Addr} {n c : Nat} {xs : List Int} (h : RowB w a n c xs) : ∀ j : Nat, 0 ≤ xs[j]?.getD 0 ∧ xs[j]?.getD 0 ≤ 255 := h.bytes.2.2.1
theorem Mid.row {w : World} {base : Nat} {a : Option Addr} {n c : Nat} {xs : List Int} (h : Mid w base (.slice a n c) n xs) (hx : ∀ j : Nat, 0 ≤ xs[j]?.getD 0 ∧ xs[j]?.getD 0 ≤ 255) : RowB w a n c xs := by
  obtain ⟨a', c', e, h1, h2, h3⟩ := h.shape
  simp only [Value.slice.injEq, true_and] at e
  obtain ⟨rfl, rfl⟩ := e
  exact ⟨h1, h3, h2, h.bytes hx⟩
theorem Own.row {w : World} {base : Nat} {a : Option Addr} {n c : Nat} {xs : List Int} (h : Own w base (.slice a n c) n xs) (hx : ∀ j : Nat, 0 ≤ xs[j]?.getD 0 ∧ xs[j]?.getD 0 ≤ 255) : RowB w a n c xs := h.mid.row hx
theorem row_in {w : World} {a : Option Addr} {len cap : Nat} {zs : List Int} 
    (h : (a = none ∧ len = 0 ∧ cap = 0 ∧ zs = []) ∨ ∃ x, a = some x ∧ len ≤ cap ∧ cap ≤ maxLen ∧ zs.length = cap ∧ (∀ i, i < zs.length → w.cell? (x.add i) = some (.int .u8 (zs.getD i 0))) ∧ ∀ n ∈ zs, (Lit.int .u8 n).wf = true) (k : Nat) : RowB w a (min len k) cap ((zs.take len).take k) ∧ len ≤ cap ∧ cap ≤ 9223372036854775807 := by
  obtain ⟨hb, hlc, hcm⟩ := bytes_of h
  refine ⟨⟨by omega, hcm, ?_, hb.first k⟩, hlc, hcm⟩
  rcases h with ⟨-, -, h, -⟩ | ⟨x, rfl, -⟩
  · exact fun _ => h
  · exact fun e => by cases e
theorem make_row (a0 : Option Addr) (m0 c0 : Nat) (bs : List Int) (hl0 : m0 ≤ 1000000) (a1 : Option Addr) (m1 c1 : Nat) (ts : List Int) (hl1 : m1 ≤ 1000000) (w : World) (HB : RowB w a0 m0 c0 bs) (HT : RowB w a1 m1 c1 ts) :
    Calls Try.prog 14 #[.slice a0 m0 c0, .slice a1 m1 c1] w fun e w' => (∃ va k vc D S, e = .returned (.slice va k vc) ∧ RowB w' va k vc D ∧ Made bs ts D S ∧ k ≤ 30 + m1 + m1 / 100) ∧ Below w.heap.size w w' := by
  refine (make_any a0 m0 c0 bs HB.le HB.cap hl0 a1 m1 c1 ts HT.le HT.cap hl1 w HB.bytes HT.bytes).mono ?_
  rintro e w' ⟨⟨v, D, S, rfl, hv, hm, hr⟩, hb⟩
  obtain ⟨va, vc, rfl, -⟩ := hv.shape
  refine ⟨⟨va, D.length, vc, D, S, rfl, hv.row (range_of_mem0 hr), hm, ?_⟩, hb⟩
  have := made_len hm
  rwa [HT.len] at this
/-- A delta applied: whatever it tells. -/
theorem apply_row (a0 : Option Addr) (m0 c0 : Nat) (bs : List Int) (hl0 : m0 ≤ 1000000) (a1 : Option Addr) (m1 c1 : Nat) (ds : List Int) (hl1 : m1 ≤ 1000000) (most : Int) (hmost : most ≤ 1000000000) (e1 : Nat) (out : List Int) (n : Nat) (w : World)
    (HB : RowB w a0 m0 c0 bs) (HD : RowB w a1 m1 c1 ds) (h : applyOf bs ds most = (e1, out)) (hn : out.length = n) (hr : ∀ j : Nat, 0 ≤ out[j]?.getD 0 ∧ out[j]?.getD 0 ≤ 255) :
    Calls Try.prog 9 #[.slice a0 m0 c0, .slice a1 m1 c1, .int .i64 most] w fun e w' => (∃ va vc, e = .returned (.tuple #[.slice va n vc, .int .i64 (e1 : Int)]) ∧ RowB w' va n vc out) ∧ Below w.heap.size w w' := by
  refine (apply_any a0 m0 c0 bs a1 m1 c1 ds most w HB.le HB.nil hl0 HB.bytes HD.le HD.nil hl1 HD.bytes hmost).mono ?_
  rw [h]
  rintro e w' ⟨⟨v, rfl, hv⟩, hb⟩
  dsimp only at hv ⊢
  rw [hn] at hv
  obtain ⟨va, vc, rfl, -⟩ := hv.shape
  exact ⟨⟨va, vc, rfl, hv.row hr⟩, hb⟩
theorem wpList_append_to {w : World} {ops : Array Oper} {rest : List Oper} {o : Oper} {ac : Act} {Q : Exit → Act → World → Prop} (hgd : o.guard = none) (s x : Operand) (tx : TypeId)
    (ho : o.op = .call { callee := .builtin .append, args := #[s, x], argTypes := #[22, tx] })
    (base : Nat) (v : Value) (n : Nat) (xs : List Int) (hs : ac.eval s = v) (hown : Mid w base v n xs) (xv : Value) (m : Nat) (ys : List Int) (hx : ac.eval x = xv) (hsrc : Src Try.prog 1 tx xv m (U8 ys) w)
    (n2 : Nat) (zs : List Int) (hn2 : n + m = n2) (hzs : xs ++ ys = zs) (hsum : n2 ≤ 70368744177664) (hbase : base ≤ w.heap.size)
    (h : ∀ a' c' w', Mid w' base (.slice a' n2 c') n2 zs → Below base w w' → wpList Try.prog ops Q rest (ac.put o.dst (.slice a' n2 c')) w') : wpList Try.prog ops Q (o :: rest) ac w := by
  subst hn2 hzs
  refine wpList_append_mid hgd s x tx ho base v n xs hs hown xv m ys hx hsrc hsum hbase fun v' w' hm hg ho => ?_
  obtain ⟨a, c, rfl, -⟩ := hm.shape
  exact h a c w' hm (hown.off hbase hg)
theorem nil_range (j : Nat) : 0 ≤ ([] : List Int)[j]?.getD 0 ∧ ([] : List Int)[j]?.getD 0 ≤ 255 := by simp
end Go.Proofs.Ytkpnmagcmpljoaa
