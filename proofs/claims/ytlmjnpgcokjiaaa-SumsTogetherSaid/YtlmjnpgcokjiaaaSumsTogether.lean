/- The program's statement SumsTogether holds: for every input it returns true and leaves its arguments as they were. No further condition. -/
import Derived.Test.YtlmjnpgcokjiaaaRows
import Derived.WalkKit
import Derived.ProofKit
import Derived.OpenShut
import Derived.ShutString
import Derived.ChangeOld
import Derived.Below
import Derived.StillTailTactics
import Derived.Deep.RegionHeld3
import Derived.Deep.AppendLies
import Derived.StillTactics
import Derived.Deep.RegionWith
import Derived.WalkSpells
import Derived.Outline
import Derived.Test.YtlmjnpgcokjiaaaWalks
namespace Go.Proofs.Ytlmjnpgcokjiaaa.sumsTogether
open Go.ChangeShapes Go.WideShapes Go.ChangeAt Go.RowKit
open Go.ChangeMaps (open_string shut_string)
set_option linter.unusedVariables false

theorem own : ownKnob Try.prog.godebug = none := by kernel_rfl
theorem laidOut : laidOutB Try.prog = true := by kernel_rfl

/-- A slice of integers that came in: nil, or a row of cells. -/
def IsRow (k : IntKind) (w : World) (a : Option Addr) (len cap : Nat) (zs : List Int) : Prop :=
  (a = none ∧ len = 0 ∧ cap = 0 ∧ zs = []) ∨
  ∃ x, a = some x ∧ len ≤ cap ∧ cap ≤ maxLen ∧ zs.length = cap ∧ (∀ i, i < zs.length → w.cell? (x.add i) = some (.int k (zs.getD i 0))) ∧ ∀ n ∈ zs, (Lit.int k n).wf = true

/-! ### The walk -/
set_option maxHeartbeats 4000000 in
theorem walk (a0 : Option Addr) (len0 cap0 : Nat) (z0 : List Int) (a1 : Option Addr) (len1 cap1 : Nat) (z1 : List Int) (a2 : Option Addr) (len2 cap2 : Nat) (z2 : List Int) (w : World) (w0 : IsRow .u8 w a0 len0 cap0 z0) (w1 : IsRow .u8 w a1 len1 cap1 z1) (w2 : IsRow .u8 w a2 len2 cap2 z2) :
    Calls Try.prog 7 #[.slice a0 len0 cap0, .slice a1 len1 cap1, .slice a2 len2 cap2] w fun e w' => e = .returned (.bool true) ∧ Below w.heap.size w w' := by
  obtain ⟨hb0, hlc0, hcm0⟩ := bytes_of w0
  obtain ⟨hb1, hlc1, hcm1⟩ := bytes_of w1
  obtain ⟨hb2, hlc2, hcm2⟩ := bytes_of w2
  clear w0 w1 w2
  have HB0 : Hid (Bytes w a0 len0 (z0.take len0)) := hb0
  have HB1 : Hid (Bytes w a1 len1 (z1.take len1)) := hb1
  have HB2 : Hid (Bytes w a2 len2 (z2.take len2)) := hb2
  clear hb0 hb1 hb2
  generalize z0.take len0 = xs at *
  generalize z1.take len1 = ys at *
  generalize z2.take len2 = zs at *
  obtain ⟨n, h5, hn0, hn1, hn2, en⟩ : ∃ n : Nat, n ≤ 5000 ∧ n ≤ len0 ∧ n ≤ len1 ∧ n ≤ len2 ∧ min (min (min (len0 : Int) len1) len2) 5000 = (n : Int) :=
    ⟨(min (min (min (len0 : Int) len1) len2) 5000).toNat, by omega, by omega, by omega, by omega, by omega⟩
  have hmin : ∀ W : World, Sem.run Try.prog (Builtin.min_ #[3, 3, 3, 3] 3 #[.int .i64 len0, .int .i64 len1, .int .i64 len2, .int .i64 5000]) W = .ok (.int .i64 (n : Int)) W := fun W => by
    rw [run_min4, en]
  have EN : Hid (min (min (min (len0 : Int) len1) len2) 5000 = (n : Int)) := en
  clear en
  go_enter Try.func7, Try.ntmps7
  go_wp2_with fail
  clear hmin
  go_loopw [8, 9] (fun u i wr => ∃ (k : Nat) (acc : Value), k ≤ n ∧ i = .int .i64 k ∧ acc = u ∧ Own wr w.heap.size acc k ((Plain.xor3 n xs ys zs).take k) ∧ Below w.heap.size w wr) (fun _ i _ => n - (intOf i).toNat)
  case atStart => exact ⟨0, _, Nat.zero_le _, rfl, rfl, ⟨rfl, .inl ⟨rfl, rfl⟩⟩, Below.refl _ _⟩
  case round =>
    obtain ⟨k, acc, hk, rfl, rfl, hown, hbel⟩ := hrel
    have hsz := hbel.size
    by_cases hlt : k < n
    · have B0 := HB0.out.below hbel
      have B1 := HB1.out.below hbel
      have B2 := HB2.out.below hbel
      obtain ⟨-, -, -, h0 | ⟨b0, o0, rfl, c0⟩⟩ := B0
      · omega
      obtain ⟨-, -, -, h0 | ⟨b1, o1, rfl, c1⟩⟩ := B1
      · omega
      obtain ⟨-, -, -, h0 | ⟨b2, o2, rfl, c2⟩⟩ := B2
      · omega
      have d0 := c0 k (by omega)
      have d1 := c1 k (by omega)
      have d2 := c2 k (by omega)
      have l0 : b0 < w.heap.size := HB0.out.lt (by omega)
      have l1 : b1 < w.heap.size := HB1.out.lt (by omega)
      have l2 : b2 < w.heap.size := HB2.out.lt (by omega)
      have i0 : (k : Int) < (len0 : Int) := by omega
      have i1 : (k : Int) < (len1 : Int) := by omega
      have i2 : (k : Int) < (len2 : Int) := by omega
      clear c0 c1 c2
      have HO : Hid (Own wr w.heap.size acc k ((Plain.xor3 n xs ys zs).take k)) := hown
      clear hown
      go_wp2_with fail
      go_region_held3 (fun w' => w'.cell? ⟨b0, o0 + k, none⟩ = some (.int .u8 (xs[k]?.getD 0)) ∧ w'.cell? ⟨b1, o1 + k, none⟩ = some (.int .u8 (ys[k]?.getD 0)) ∧ w'.cell? ⟨b2, o2 + k, none⟩ = some (.int .u8 (zs[k]?.getD 0)))
        (first
          | go_keep
          | (go_split_ands
             refine ⟨?_, ?_, ?_⟩
             · (rw [hk1.cell l0]; assumption)
             · (rw [hk1.cell l1]; assumption)
             · (rw [hk1.cell l2]; assumption)))
        ((refine step_append_bytes rfl _ _ (by rfl) w.heap.size _ k _ (by rfl) (HO.out.below (((Below.refl _ _).alloc (Nat.le_refl _) _).drew)) _ 1 1 [_] (by rfl) ((Bytes.lit wr _ rfl [_] 5 (0, 0) 1 rfl (by omega) (by intro x hx; rw [List.mem_singleton.1 hx]; exact u8_range _ _ _)).below ((Below.refl _ _).drew)) (fun e => by cases e) (by omega) (by simp; omega) ?_; intro v1 w1 hown1 hg1; have hk1 := (HO.out.below (((Below.refl _ _).alloc (Nat.le_refl _) _).drew)).kept (by simp; omega) hg1))
      go_wp2_with fail
      go_roundw
      case rel => exact ⟨k + 1, v1, by omega, by go_num, rfl, by rw [take_succ_of k n xs ys zs hlt]; exact hown1, hbel.trans ((Below.refl _ _).alloc hsz _ |>.drew |>.trans hk1)⟩
      case measure => simp [intOf]; omega
    · obtain rfl : k = n := by omega
      rw [List.take_of_length_le (by rw [Plain.xor3_length]; exact Nat.le_refl _)] at hown
      obtain ⟨a3, c3, rfl, hc3, hn3, -⟩ := hown.shape
      have q0 := (HB0.out.below hbel).first k
      have q1 := (HB1.out.below hbel).first k
      have q2 := (HB2.out.below hbel).first k
      have q3 : Bytes wr a3 k (Plain.xor3 k xs ys zs) := hown.bytes (fun j => by
        by_cases hj : j < k
        · rw [Plain.xor3_get k xs ys zs j hj]; exact u8_range _ _ _
        · rw [List.getElem?_eq_none (by rw [Plain.xor3_length]; omega)]; simp)
      rw [show min len0 k = k by omega] at q0
      rw [show min len1 k = k by omega] at q1
      rw [show min len2 k = k by omega] at q2
      have F := Plain.fact_xor3 _ _ _ _ (Plain.crc_xor3 k xs ys zs HB0.out.2.2.1 HB1.out.2.2.1 HB2.out.2.2.1 (by have := HB0.out.1; omega) (by have := HB1.out.1; omega) (by have := HB2.out.1; omega))
      have FH : Hid (_ = true) := F
      clear F
      have Q0 : Hid (Bytes wr a0 k (xs.take k)) := q0
      have Q1 : Hid (Bytes wr a1 k (ys.take k)) := q1
      have Q2 : Hid (Bytes wr a2 k (zs.take k)) := q2
      have Q3 : Hid (Bytes wr a3 k (Plain.xor3 k xs ys zs)) := q3
      have i0 : (k : Int) ≤ (cap0 : Int) := by omega
      have i1 : (k : Int) ≤ (cap1 : Int) := by omega
      have i2 : (k : Int) ≤ (cap2 : Int) := by omega
      clear q0 q1 q2 q3 hown hn3 hc3 hk hlt
      generalize Plain.xor3 k xs ys zs = xx at *
      generalize xs.take k = x0 at *
      generalize ys.take k = y0 at *
      generalize zs.take k = z0 at *
      go_wp2_with fail
      go_region_held3 (fun w' => Below wr.heap.size wr w')
        (first | go_keep | exact hbj | exact (Below.refl _ _).drew | assumption)
        (first
          | (go_at_call 10; refine (known_any _).mono ?_; rintro e wk ⟨rfl, hbk⟩; have hbj := (Below.refl wr.heap.size wr).drew.trans hbk)
          | (go_at_call_of 13 a3; refine (crc_any a3 k c3 xx _ (Q3.out.below hbj)).mono ?_; rintro e w' ⟨rfl, rfl⟩)
          | (go_at_call_of 13 a0; refine (crc_any a0 k cap0 x0 _ (Q0.out.below hbj)).mono ?_; rintro e w' ⟨rfl, rfl⟩)
          | (go_at_call_of 13 a1; refine (crc_any a1 k cap1 y0 _ (Q1.out.below hbj)).mono ?_; rintro e w' ⟨rfl, rfl⟩)
          | (go_at_call_of 13 a2; refine (crc_any a2 k cap2 z0 _ (Q2.out.below hbj)).mono ?_; rintro e w' ⟨rfl, rfl⟩))
      go_wp2_with fail
      go_ret
      exact ⟨congrArg (fun b => Ending.returned (Value.bool b)) FH.out, hbel.trans (((Below.refl wr.heap.size wr).drew.trans hbk).mono hsz)⟩

/-! ### The row's step -/
set_option maxRecDepth 100000 in
theorem lifted (os : Os) (started : os.Started) (H : Type) (enc : TypeId × Value → H) :
    ReturnsInHanded {} Try.checked os 7 .any (Rows.sumsTogetherSpec.pre6 enc Try.prog Try.f7 Rows.sumsTogetherRow.domain false) (Rows.sumsTogetherSpec.post enc Try.prog Try.f7 false true false false) := by
  refine returnsInHanded_of_change (C := Try.checked) own started (by kernel_rfl) Try.func7
    (ChangeSpec.witness6 (enc := enc) (C := Try.checked) false ⟨#[], #[.slice none 0 0, .slice none 0 0, .slice none 0 0], []⟩ 8 (by kernel_rfl) (by kernel_rfl) (by kernel_rfl) (by kernel_rfl)) ?_
  intro W base args ds gs before hval0 hW hcnd _
  have hval : ∀ (j : Nat) t v, Try.f7.params[j]? = some t → args[j]? = some v → Value.okWide Try.prog W .any base t v := hval0
  have hW' := hW
  obtain ⟨p, q, hA0, hV, rfl, hfz, hnd⟩ := hW
  have hA : DataW.TrodAll enc Try.prog W 0 (fun _ => true) true Try.f7.params.toList args.toList ds p := hA0
  rw [Try.params7] at hA hval
  obtain ⟨v0, vs0, d0, ds0, p0, q0, hargs, rfl, rfl, h0, r0⟩ := trodAll_cons hA
  obtain ⟨v1, vs1, d1, ds1, p1, q1, rfl, rfl, rfl, h1, r1⟩ := trodAll_cons r0
  obtain ⟨v2, vs2, d2, ds2, p2, q2, rfl, rfl, rfl, h2, r2⟩ := trodAll_cons r1
  obtain ⟨rfl, rfl, rfl⟩ := trodAll_nil r2
  obtain rfl : args = #[v0, v1, v2] := by cases args; simp_all
  obtain ⟨rfl, rfl⟩ := trodVars_none hV
  obtain ⟨a0, len0, cap0, rfl⟩ := okWide_slice Try.underlying22 (hval 0 22 v0 rfl rfl)
  have k0 := h0
  have lt0 : ∀ x ∈ p0, x.block < W.heap.size := by obtain ⟨m, hm⟩ := k0; exact DataW.trod_lt m _ _ _ hm
  obtain ⟨z0, w0⟩ : ∃ zs, IsRow .u8 W a0 len0 cap0 zs := by
    obtain ⟨fuel, hf⟩ := h0
    rcases open_ints Try.underlying22 Try.underlying5 (by kernel_rfl) hf with ⟨hcs, _⟩ | ⟨x, l, c, zs, hcs, _, hl, hm, hz, _, hcell, hwz⟩
    · simp [Value.cells] at hcs
      obtain ⟨rfl, rfl, rfl⟩ := hcs
      exact ⟨[], .inl ⟨rfl, rfl, rfl, rfl⟩⟩
    · simp [Value.cells] at hcs
      obtain ⟨rfl, rfl, rfl⟩ := hcs
      exact ⟨zs, .inr ⟨_, rfl, hl, hm, by simpa using hz, hcell, hwz⟩⟩
  obtain ⟨a1, len1, cap1, rfl⟩ := okWide_slice Try.underlying22 (hval 1 22 v1 rfl rfl)
  have k1 := h1
  have lt1 : ∀ x ∈ p1, x.block < W.heap.size := by obtain ⟨m, hm⟩ := k1; exact DataW.trod_lt m _ _ _ hm
  obtain ⟨z1, w1⟩ : ∃ zs, IsRow .u8 W a1 len1 cap1 zs := by
    obtain ⟨fuel, hf⟩ := h1
    rcases open_ints Try.underlying22 Try.underlying5 (by kernel_rfl) hf with ⟨hcs, _⟩ | ⟨x, l, c, zs, hcs, _, hl, hm, hz, _, hcell, hwz⟩
    · simp [Value.cells] at hcs
      obtain ⟨rfl, rfl, rfl⟩ := hcs
      exact ⟨[], .inl ⟨rfl, rfl, rfl, rfl⟩⟩
    · simp [Value.cells] at hcs
      obtain ⟨rfl, rfl, rfl⟩ := hcs
      exact ⟨zs, .inr ⟨_, rfl, hl, hm, by simpa using hz, hcell, hwz⟩⟩
  obtain ⟨a2, len2, cap2, rfl⟩ := okWide_slice Try.underlying22 (hval 2 22 v2 rfl rfl)
  have k2 := h2
  have lt2 : ∀ x ∈ p2, x.block < W.heap.size := by obtain ⟨m, hm⟩ := k2; exact DataW.trod_lt m _ _ _ hm
  obtain ⟨z2, w2⟩ : ∃ zs, IsRow .u8 W a2 len2 cap2 zs := by
    obtain ⟨fuel, hf⟩ := h2
    rcases open_ints Try.underlying22 Try.underlying5 (by kernel_rfl) hf with ⟨hcs, _⟩ | ⟨x, l, c, zs, hcs, _, hl, hm, hz, _, hcell, hwz⟩
    · simp [Value.cells] at hcs
      obtain ⟨rfl, rfl, rfl⟩ := hcs
      exact ⟨[], .inl ⟨rfl, rfl, rfl, rfl⟩⟩
    · simp [Value.cells] at hcs
      obtain ⟨rfl, rfl, rfl⟩ := hcs
      exact ⟨zs, .inr ⟨_, rfl, hl, hm, by simpa using hz, hcell, hwz⟩⟩
  clear hA0 hval0
  refine (walk a0 len0 cap0 z0 a1 len1 cap1 z1 a2 len2 cap2 z2 W w0 w1 w2).mono fun e W' ⟨he, bel⟩ => ?_
  subst he
  exact ⟨_, rfl, _, _, _, [], _, [], hW', trodAll_mk1 (shut_bool Try.underlying4 _), (trodAll_cons_mk (Below.trod laidOut (by kernel_rfl) (of_decide_eq_true (by kernel_rfl)) k0 bel lt0) (trodAll_cons_mk (Below.trod laidOut (by kernel_rfl) (of_decide_eq_true (by kernel_rfl)) k1 bel lt1) (trodAll_cons_mk (Below.trod laidOut (by kernel_rfl) (of_decide_eq_true (by kernel_rfl)) k2 bel lt2) trodAll_mk0))), rfl, bel.frame _, fun h => by cases h⟩

theorem over : Rows.sumsTogetherRow.holds Try.pinned (OpenSpec.ofChange Rows.sumsTogetherSpec) :=
  OpenClaim.holds_of_wide 7 Try.f7 rfl rfl rfl rfl rfl rfl rfl ⟨rfl, rfl, rfl, rfl, rfl⟩ rfl rfl rfl rfl rfl (by kernel_rfl) Try.func7 (by kernel_rfl)
    (of_decide_eq_true (by kernel_rfl)) (by unfold Func.isWrapper; first | (rw [if_pos (by decide +kernel)]; kernel_rfl) | (rw [if_neg (by decide +kernel)]; exact ⟨rfl, rfl⟩))
    (fun os started H enc _ => lifted os started H enc)

/-- The statement. -/
theorem proved : Rows.SumsTogetherSaid := over
#print axioms proved
end Go.Proofs.Ytlmjnpgcokjiaaa.sumsTogether
