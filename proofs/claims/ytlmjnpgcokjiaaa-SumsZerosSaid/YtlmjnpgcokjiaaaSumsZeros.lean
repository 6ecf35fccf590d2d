/- The program's statement SumsZeros holds: for every input it returns true and leaves its arguments as they were. No further condition. -/
import Derived.Test.YtlmjnpgcokjiaaaRows
import Derived.WalkKit
import Derived.ProofKit
import Derived.OpenShut
import Derived.ShutString
import Derived.ChangeOld
import Derived.Below
import Derived.Test.YtlmjnpgcokjiaaaWalks
namespace Go.Proofs.Ytlmjnpgcokjiaaa.sumsZeros
open Go.ChangeShapes Go.WideShapes Go.ChangeAt Go.RowKit
open Go.ChangeMaps (open_string shut_string)
set_option linter.unusedVariables false

theorem own : ownKnob Try.prog.godebug = none := by kernel_rfl
theorem laidOut : laidOutB Try.prog = true := by kernel_rfl

/-- A slice of integers that came in: nil, or a row of cells. -/
def IsRow (k : IntKind) (w : World) (a : Option Addr) (len cap : Nat) (zs : List Int) : Prop :=
  (a = none ∧ len = 0 ∧ cap = 0 ∧ zs = []) ∨
  ∃ x, a = some x ∧ len ≤ cap ∧ cap ≤ maxLen ∧ zs.length = cap ∧ (∀ i, i < zs.length → w.cell? (x.add i) = some (.int k (zs.getD i 0))) ∧ ∀ n ∈ zs, (Lit.int k n).wf = true

/-! ### The walk -/
theorem walk (a0 : Int) (a1 : Option Addr) (len1 cap1 : Nat) (z1 : List Int) (w : World) (w0 : (Lit.int .i64 a0).wf = true) (w1 : IsRow .u8 w a1 len1 cap1 z1) :
    Calls Try.prog 8 #[.int .i64 a0, .slice a1 len1 cap1] w fun e w' => e = .returned (.bool true) ∧ Below w.heap.size w w' := by
  obtain ⟨m, xs, hm, hc, hn, HB, HF⟩ := few_row w1
  have h0 : -9223372036854775808 ≤ a0 ∧ a0 ≤ 9223372036854775807 := by simpa [Lit.wf, IntKind.min, IntKind.max, IntKind.signed, IntKind.bits] using w0
  clear w1 w0
  go_enter Try.func8, Try.ntmps8
  go_wp2_with fail
  obtain ⟨k, hk, ek⟩ : ∃ k : Nat, k < 5000 ∧ wrap64 ((IntKind.u64.wrap a0).tmod 5000) = (k : Int) := by
    rw [IntKind.wrap_u64, Int.tmod_eq_emod_of_nonneg (by omega), IntWalk.wrap64_in _ (by omega)]
    exact ⟨(a0 % 18446744073709551616 % 5000).toNat, by omega, by omega⟩
  rw [ek]
  have EK : Hid (wrap64 ((IntKind.u64.wrap a0).tmod 5000) = (k : Int)) := ek
  clear ek
  refine (HF.out w (Below.refl _ _)).mono ?_
  rintro e w' ⟨rfl, rfl⟩
  go_wp2_with fail
  refine (adler_any a1 m cap1 xs w HB.out).mono ?_
  rintro e w' ⟨rfl, rfl⟩
  have tok1 : True := trivial
  go_wp2_with (first
    | (at_builtin; have _t := tok1; refine wpList_append_bytes rfl _ _ rfl w.heap.size _ 0 [] rfl (Own.empty w) a1 m cap1 xs rfl (HB.out.below ((Below.refl _ _).alloc (Nat.le_refl _) _)) hn.out (by omega) (by simp) ?_; intro v1 w1 hown1 hg1; clear tok1)
    | (at_builtin; go_loud (refine wpList_append_bytes rfl _ _ rfl w.heap.size _ _ _ rfl (hown1.below ((Below.refl _ _).alloc (Nat.le_refl _) _)) _ 1 1 [0] rfl (Bytes.lit w1 _ rfl [0] 5 (0, 0) 1 rfl (by omega) (by decide)) (fun e => by cases e) (by omega) (by have := hg1.size; simp at this ⊢; omega) ?_); intro v2 w2 hown2 hg2))
  have hbel2 : Below w.heap.size w w2 := (((Below.refl _ _).alloc (Nat.le_refl _) _).trans ((Own.empty w).kept (by simp) hg1)).trans (((Below.refl _ _).alloc (by have := hg1.size; simp at this; omega) _).trans ((hown1.below ((Below.refl _ _).alloc (Nat.le_refl _) _)).kept (by have := hg1.size; simp at this ⊢; omega) hg2))
  obtain ⟨a3, c3, rfl, hc3, hn3, -⟩ := hown2.shape
  have hxs : ∀ j : Nat, 0 ≤ ([] ++ xs ++ [0])[j]?.getD 0 ∧ ([] ++ xs ++ [0])[j]?.getD 0 ≤ 255 := range_append HB.out.2.2.1 (fun j => by rcases j with _ | j <;> simp)
  have HB3 : Hid (Bytes w2 a3 (0 + m + 1) ([] ++ xs ++ [0])) := hown2.bytes hxs
  rw [List.nil_append] at HB3
  clear hxs hown1 hown2 hg1 hg2 hn3 hc3
  generalize 0 + m + 1 = m3 at *
  refine (adler_any a3 m3 c3 _ w2 HB3.out).mono ?_
  rintro e w' ⟨rfl, rfl⟩
  go_wp2_with fail
  refine (known_any w2).mono ?_
  rintro e w3 ⟨rfl, hbel3⟩
  have hmk := make_zs k (by omega)
  have rS := Plain.ad_range (s := 1) (by omega) (by omega) xs
  have rT := Plain.ad_range (s := 1) (by omega) (by omega) (xs ++ [0])
  have nn := Plain.ad_nought xs
  have F1 : (bits BinOp.and IntKind.u32 (Plain.ad 1 (xs ++ [0])) 65535 == bits BinOp.and IntKind.u32 (Plain.ad 1 xs) 65535) = true := by
    rw [Plain.and_low _ rS.1 rS.2, Plain.and_low _ rT.1 rT.2, nn.1]; exact beq_self_eq_true _
  have F2 : (Plain.ad 1 (xs ++ [0]) / 65536 == (Plain.ad 1 xs / 65536 + bits BinOp.and IntKind.u32 (Plain.ad 1 xs) 65535) % 4294967296 % 65521) = true := by
    rw [Plain.and_low _ rS.1 rS.2, nn.2, show (Plain.ad 1 xs / 65536 + Plain.ad 1 xs % 65536) % 4294967296 = Plain.ad 1 xs / 65536 + Plain.ad 1 xs % 65536 by omega]; exact beq_self_eq_true _
  have F3 : (Plain.ad 1 (List.replicate k 0) == bits BinOp.or IntKind.u32 ((k : Int) % 65521 * 65536) 1) = true := by
    rw [Plain.or_one k (by omega) _ (by omega)]; exact beq_self_eq_true _
  clear rS rT nn
  go_wp2_with fail
  refine (adler_any _ k k _ _ (Bytes.zeros w3 _ rfl k (by omega) (0, 0))).mono ?_
  rintro e w' ⟨rfl, rfl⟩
  go_wp2_with fail
  go_ret
  exact ⟨rfl, (hbel2.trans (hbel3.mono hbel2.size)).alloc (Nat.le_trans hbel2.size hbel3.size) _⟩

/-! ### The row's step -/
set_option maxRecDepth 100000 in
theorem lifted (os : Os) (started : os.Started) (H : Type) (enc : TypeId × Value → H) :
    ReturnsInHanded {} Try.checked os 8 .any (Rows.sumsZerosSpec.pre6 enc Try.prog Try.f8 Rows.sumsZerosRow.domain false) (Rows.sumsZerosSpec.post enc Try.prog Try.f8 false true false false) := by
  refine returnsInHanded_of_change (C := Try.checked) own started (by kernel_rfl) Try.func8
    (ChangeSpec.witness6 (enc := enc) (C := Try.checked) false ⟨#[], #[.int .i64 0, .slice none 0 0], []⟩ 8 (by kernel_rfl) (by kernel_rfl) (by kernel_rfl) (by kernel_rfl)) ?_
  intro W base args ds gs before hval0 hW hcnd _
  have hval : ∀ (j : Nat) t v, Try.f8.params[j]? = some t → args[j]? = some v → Value.okWide Try.prog W .any base t v := hval0
  have hW' := hW
  obtain ⟨p, q, hA0, hV, rfl, hfz, hnd⟩ := hW
  have hA : DataW.TrodAll enc Try.prog W 0 (fun _ => true) true Try.f8.params.toList args.toList ds p := hA0
  rw [Try.params8] at hA hval
  obtain ⟨v0, vs0, d0, ds0, p0, q0, hargs, rfl, rfl, h0, r0⟩ := trodAll_cons hA
  obtain ⟨v1, vs1, d1, ds1, p1, q1, rfl, rfl, rfl, h1, r1⟩ := trodAll_cons r0
  obtain ⟨rfl, rfl, rfl⟩ := trodAll_nil r1
  obtain rfl : args = #[v0, v1] := by cases args; simp_all
  obtain ⟨rfl, rfl⟩ := trodVars_none hV
  obtain ⟨a0, rfl, rfl, rfl, w0⟩ := open_int Try.underlying3 (hval 0 3 v0 rfl rfl) h0
  obtain ⟨a1, len1, cap1, rfl⟩ := okWide_slice Try.underlying22 (hval 1 22 v1 rfl rfl)
  have k1 := h1
  have lt1 : ∀ x ∈ p1, x.block < W.heap.size := by obtain ⟨m, hm⟩ := k1; exact DataW.trod_lt m _ _ _ hm
  obtain ⟨z1, w1⟩ : ∃ zs, IsRow .u8 W a1 len1 cap1 zs := by
    obtain ⟨fuel, hf⟩ := h1
    rcases open_ints Try.underlying22 Try.underlying5 (by kernel_rfl) hf with ⟨hcs, _⟩ | ⟨x, l, c, zs, hcs, _, hl, hm, hz, _, hcell, hwz⟩
    · simp [Value.cells] at hcs
      obtain ⟨rfl, rfl, rfl⟩ := hcs
      exact ⟨[], .inl ⟨rfl, rfl, rfl, rfl⟩⟩
    · simp [Value.cells] at hcs
      obtain ⟨rfl, rfl, rfl⟩ := hcs
      exact ⟨zs, .inr ⟨_, rfl, hl, hm, by simpa using hz, hcell, hwz⟩⟩
  clear hA0 hval0
  refine (walk a0 a1 len1 cap1 z1 W w0 w1).mono fun e W' ⟨he, bel⟩ => ?_
  subst he
  exact ⟨_, rfl, _, _, _, [], _, [], hW', trodAll_mk1 (shut_bool Try.underlying4 _), (trodAll_cons_mk (shut_int Try.underlying3 w0) (trodAll_cons_mk (Below.trod laidOut (by kernel_rfl) (of_decide_eq_true (by kernel_rfl)) k1 bel lt1) trodAll_mk0)), rfl, bel.frame _, fun h => by cases h⟩

theorem over : Rows.sumsZerosRow.holds Try.pinned (OpenSpec.ofChange Rows.sumsZerosSpec) :=
  OpenClaim.holds_of_wide 8 Try.f8 rfl rfl rfl rfl rfl rfl rfl ⟨rfl, rfl, rfl, rfl, rfl⟩ rfl rfl rfl rfl rfl (by kernel_rfl) Try.func8 (by kernel_rfl)
    (of_decide_eq_true (by kernel_rfl)) (by unfold Func.isWrapper; first | (rw [if_pos (by decide +kernel)]; kernel_rfl) | (rw [if_neg (by decide +kernel)]; exact ⟨rfl, rfl⟩))
    (fun os started H enc _ => lifted os started H enc)

/-- The statement. -/
theorem proved : Rows.SumsZerosSaid := over
#print axioms proved
end Go.Proofs.Ytlmjnpgcokjiaaa.sumsZeros
