/- The program's statement ShaParts holds: for every input it returns true and leaves its arguments as they were. No further condition. -/
import Derived.Test.YtcajcnceomimhaaRows
import Derived.WalkKit
import Derived.ProofKit
import Derived.OpenShut
import Derived.ShutString
import Derived.ChangeOld
import Derived.Below
import Derived.StillTailTactics
import Derived.Deep.RegionHeld3
import Derived.Deep.AppendLies
import Derived.StillTactics
import Derived.Deep.RegionWith
import Derived.WalkSpells
import Derived.Outline
import Derived.Test.YtcajcnceomimhaaParts
namespace Go.Proofs.Ytcajcnceomimhaa.shaParts
open Go.ChangeShapes Go.WideShapes Go.ChangeAt Go.RowKit
open Go.ChangeMaps (open_string shut_string)
set_option linter.unusedVariables false

theorem own : ownKnob Try.prog.godebug = none := by kernel_rfl
theorem laidOut : laidOutB Try.prog = true := by kernel_rfl

/-- A slice of integers that came in: nil, or a row of cells. -/
def IsRow (k : IntKind) (w : World) (a : Option Addr) (len cap : Nat) (zs : List Int) : Prop :=
  (a = none ∧ len = 0 ∧ cap = 0 ∧ zs = []) ∨
  ∃ x, a = some x ∧ len ≤ cap ∧ cap ≤ maxLen ∧ zs.length = cap ∧ (∀ i, i < zs.length → w.cell? (x.add i) = some (.int k (zs.getD i 0))) ∧ ∀ n ∈ zs, (Lit.int k n).wf = true

/-! ### The walk -/
set_option maxRecDepth 100000 in
set_option maxHeartbeats 8000000 in
theorem walk (a0 : Option Addr) (len0 cap0 : Nat) (z0 : List Int) (a1 : Option Addr) (len1 cap1 : Nat) (z1 : List Int) (w : World) (w0 : IsRow .u8 w a0 len0 cap0 z0) (w1 : IsRow .i64 w a1 len1 cap1 z1) :
    Calls Try.prog 4 #[.slice a0 len0 cap0, .slice a1 len1 cap1] w fun e w' => e = .returned (.bool true) ∧ Below w.heap.size w w' := by
  obtain ⟨hb, hlc, hcm⟩ := bytes_of w0
  have HB : Hid (Bytes w a0 (min len0 2000) ((z0.take len0).take 2000)) := hb.first 2000
  have hm5 : min len0 2000 ≤ 2000 := Nat.min_le_right _ _
  have hmc : min len0 2000 ≤ cap0 := by omega
  have HL : Hid (((z0.take len0).take 2000).length = min len0 2000) := HB.out.1
  have HR : Hid ((a1 = none ∧ len1 = 0 ∧ cap1 = 0 ∧ z1 = []) ∨ ∃ x, a1 = some x ∧ len1 ≤ cap1 ∧ cap1 ≤ maxLen ∧ z1.length = cap1 ∧ (∀ i, i < z1.length → w.cell? (x.add i) = some (.int .i64 (z1.getD i 0))) ∧ ∀ n ∈ z1, (Lit.int .i64 n).wf = true) := w1
  have hc1 : len1 ≤ 9223372036854775807 := by
    rcases w1 with ⟨-, rfl, -⟩ | ⟨x, -, h1, h2, -⟩
    · omega
    · unfold maxLen at h2; omega
  clear w0 w1 hb
  generalize (z0.take len0).take 2000 = xs at *
  have hmin : min len0 2000 ≤ len0 := Nat.min_le_left _ _
  go_enter Try.func4, Try.ntmps4
  go_wp2_with fail
  have em : (min (len0 : Int) 2000).toNat = min len0 2000 := by omega
  rw [em]
  generalize (min (len0 : Int) 2000) = mi at *
  clear em hmin hlc
  generalize min len0 2000 = m at *
  go_loopw [5, 6, 7] (fun v t i wr => ∃ (k q : Nat) (ps : List Part), k ≤ 20 ∧ q ≤ m ∧ i = .int .i64 k ∧ t = .int .i64 q ∧ ps.length = k ∧ allBytes ps = xs.take q ∧ (∀ p ∈ ps, p.xs.length ≤ p.cap ∧ Bytes w p.a p.xs.length p.xs) ∧ wr.ownsRow w.heap.size 22 1 v k (ps.map hdr) ∧ Below w.heap.size w wr) (fun _ _ i _ => 20 - (intOf i).toNat)
  case atStart => exact ⟨0, 0, [], by omega, by omega, rfl, rfl, rfl, by simp [allBytes], by simp, World.ownsRow_nil _ _ _ _, Below.refl _ _⟩
  case round =>
    obtain ⟨k, q, ps, hk, hq, rfl, rfl, hpl, hpx, hpb, hown, hbel⟩ := hrel
    have HPL : Hid (ps.length = k) := hpl
    have HPX : Hid (allBytes ps = xs.take q) := hpx
    have HPB : Hid (∀ p ∈ ps, p.xs.length ≤ p.cap ∧ Bytes w p.a p.xs.length p.xs) := hpb
    have HO : Hid (wr.ownsRow w.heap.size 22 1 u5 k (ps.map hdr)) := hown
    have HBE : Hid (Below w.heap.size w wr) := hbel
    clear hpl hpx hpb hown hbel
    by_cases hc : k < len1 ∧ k < 20
    · obtain ⟨hc1', hc2⟩ := hc
      obtain ⟨x, b, off, rfl, hcell, hx⟩ : ∃ x b off, a1 = some ⟨b, off, none⟩ ∧ w.cell? ⟨b, off + k, none⟩ = some (.int .i64 x) ∧ b < w.heap.size := by
        rcases HR.out with ⟨-, h, -⟩ | ⟨⟨b, off, spot⟩, rfl, h1, h2, h3, h4, -⟩
        · omega
        · have hk := h4 k (by omega)
          have hspot : spot = none := by
            have := h4 0 (by omega)
            simpa [Addr.add] using World.cell?_spot this
          subst hspot
          have hk' : w.cell? ⟨b, off + k, none⟩ = some (.int .i64 (z1.getD k 0)) := by
            by_cases k0 : k = 0
            · subst k0; simpa [Addr.add] using hk
            · simpa [Addr.add, k0] using hk
          exact ⟨_, b, off, rfl, hk', World.block_lt_of_cell? w _ hk'⟩
      have e1 : wr.cell? ⟨b, off + k, none⟩ = some (.int .i64 x) := (HBE.out.cell (p := ⟨b, off + k, none⟩) hx).trans hcell
      have hd : (((m : Int) - (q : Int) + 1) == 0) = false := by simp; omega
      have hi1 : (k : Int) < len1 := by omega
      have hi2 : (k : Int) < 20 := by omega
      obtain ⟨d, hdm, ek⟩ : ∃ d : Nat, q + d ≤ m ∧ wrap64 ((IntKind.u64.wrap x).tmod ((m : Int) - (q : Int) + 1)) = (d : Int) := by
        have h1 : 0 ≤ IntKind.u64.wrap x := by rw [IntKind.wrap_u64]; omega
        have h2 := Int.emod_nonneg (IntKind.u64.wrap x) (by omega : (m : Int) - (q : Int) + 1 ≠ 0)
        have h3 := Int.emod_lt_of_pos (IntKind.u64.wrap x) (by omega : (0 : Int) < (m : Int) - (q : Int) + 1)
        rw [Int.tmod_eq_emod_of_nonneg h1, IntWalk.wrap64_in _ (by omega)]
        exact ⟨(IntKind.u64.wrap x % ((m : Int) - (q : Int) + 1)).toNat, by omega, by omega⟩
      obtain ⟨p, hp⟩ : ∃ p : Part, p = ⟨subA a0 cap0 q, cap0 - q, (xs.drop q).take (q + d - q)⟩ := ⟨_, rfl⟩
      have hpl : p.xs.length = q + d - q := by rw [hp]; simp; have := HL.out; omega
      have HP1 : Hid (p.xs.length ≤ p.cap ∧ Bytes w p.a p.xs.length p.xs) := by
        show _ ∧ _
        rw [hpl, hp]
        exact ⟨by show _ ≤ cap0 - q; omega, HB.out.part cap0 q (q + d) (by omega) hdm hmc⟩
      have HP2 : Hid (allBytes (ps ++ [p]) = xs.take (q + d)) := by
        show _ = _
        rw [allBytes_snoc, HPX.out, hp]
        exact take_parts xs q (q + d) (by omega)
      have hsl : (Instr.sliceAt 22 (.slice a0 m cap0) (some (.int .i64 (q : Int))) (some (.int .i64 ((q : Int) + (d : Int)))) none).run Try.prog wr = .ok (.slice p.a p.xs.length p.cap) wr := by
        have := slice_sub a0 m cap0 q (q + d) (by omega) (by omega) wr
        rw [Int.natCast_add] at this
        rw [this, hpl, hp]
      have hdm' : (q : Int) + (d : Int) ≤ m := by omega
      have HN : Hid (w.heap.size ≤ wr.heap.size) := HBE.out.size
      clear hcell hp hpl
      go_wp2_with (at_builtin; go_loud (refine wpList_append_part rfl _ _ rfl w.heap.size u5 k ps p rfl HO.out rfl (by omega) HN.out ?_); intro v' w2 hown' hb2)
      exact ⟨⟨k + 1, q + d, ps ++ [p], by omega, hdm, by go_num, by go_num, by simp [HPL.out], HP2.out, fun r hr => by
        rcases List.mem_append.1 hr with h | h
        · exact HPB.out r h
        · rw [List.mem_singleton.1 h]; exact HP1.out, hown', HBE.out.trans hb2⟩, by simp [intOf]; omega⟩
    · have hc' : ¬ ((k : Int) < len1 ∧ (k : Int) < 20) := by omega
      obtain ⟨p, hp⟩ : ∃ p : Part, p = ⟨subA a0 cap0 q, cap0 - q, xs.drop q⟩ := ⟨_, rfl⟩
      have hpl : p.xs.length = m - q := by rw [hp]; simp; have := HL.out; omega
      have HP1 : Hid (p.xs.length ≤ p.cap ∧ Bytes w p.a p.xs.length p.xs) := by
        show _ ∧ _
        rw [hpl, hp]
        refine ⟨by show _ ≤ cap0 - q; omega, ?_⟩
        have h1 := HB.out.part cap0 q m (by omega) (Nat.le_refl _) hmc
        rwa [List.take_of_length_le (by simp; have := HL.out; omega)] at h1
      have HP2 : Hid (allBytes (ps ++ [p]) = xs) := by
        show _ = _
        rw [allBytes_snoc, HPX.out, hp]
        exact List.take_append_drop q xs
      have HPA : Hid (∀ r ∈ ps ++ [p], r.xs.length ≤ r.cap ∧ Bytes w r.a r.xs.length r.xs) := fun r hr => by
        rcases List.mem_append.1 hr with h | h
        · exact HPB.out r h
        · rw [List.mem_singleton.1 h]; exact HP1.out
      have hsl : (Instr.sliceAt 22 (.slice a0 m cap0) (some (.int .i64 (q : Int))) none none).run Try.prog wr = .ok (.slice p.a p.xs.length p.cap) wr := by
        have := slice_from a0 m cap0 q (by omega) (by omega) wr
        rw [this, hpl, hp]
      have HN : Hid (w.heap.size ≤ wr.heap.size) := HBE.out.size
      clear hp hpl hc
      have hex : ¬ (k : Int) < len1 ∨ ((k : Int) < len1 ∧ ¬ (k : Int) < 20) := by omega
      clear hc'
      have HES : Hid (∀ W, (Op.equalIn 10000 25 (.agg (idTo (sumOf xs) 20)) (.agg (idTo (sumOf xs) 20))).run Try.prog W = .ok true W) := fun W => eq_self _ W
      have HLN : Hid ((ps ++ [p]).length = k + 1) := by show _ = _; simp [HPL.out]
      rcases hex with h1 | ⟨h1, h2⟩
      all_goals
        go_wp2_with (at_builtin; refine wpList_append_part rfl _ _ rfl w.heap.size u5 k ps p rfl HO.out rfl (by omega) HN.out ?_; intro v' w2 hown' hb2)
        refine (known_any w2).mono ?_
        rintro e w3 ⟨rfl, hb3⟩
        have hbw3 : Below w.heap.size w w3 := (HBE.out.trans hb2).trans (hb3.mono (HBE.out.trans hb2).size)
        obtain ⟨g, c, rfl, hpa⟩ := parts_own (ownsRow_below hown' hb3) (fun r hr => ⟨(HPA.out r hr).1, (HPA.out r hr).2.below hbw3⟩) (by omega)
        have S := sum_any g 0 c (ps ++ [p]) w3 (by rw [HLN.out]; omega) (by rw [HLN.out]; omega) (by rw [HP2.out, HL.out]; omega) hpa
        rw [HLN.out, HP2.out] at S
        have HS : Hid (Calls Try.prog 9 #[.slice (some ⟨g, 0, none⟩) (k + 1) c] w3 fun e w' => e = .returned (.agg (idTo (sumOf xs) 20)) ∧ Below w3.heap.size w3 w') := S
        have HB3 : Hid (Below w.heap.size w w3) := hbw3
        clear S hpa hown' hb2 hb3 hbw3
        go_wp2_with fail
        refine Calls.mono HS.out ?_
        rintro e w4 ⟨rfl, hb4⟩
        have HB4 : Hid (Below w.heap.size w w4) := HB3.out.trans (hb4.mono HB3.out.size)
        clear hb4
        go_wp2_with fail
        refine (sum_one a0 m cap0 xs w4 hmc (by omega) (HB.out.below HB4.out)).mono ?_
        rintro e w5 ⟨rfl, hb5⟩
        have he := HES.out w5
        go_wp2_with fail
        go_ret
        exact ⟨rfl, HB4.out.trans (hb5.mono HB4.out.size)⟩

/-! ### The row's step -/
set_option maxRecDepth 100000 in
theorem lifted (os : Os) (started : os.Started) (H : Type) (enc : TypeId × Value → H) :
    ReturnsInHanded {} Try.checked os 4 .any (Rows.shaPartsSpec.pre6 enc Try.prog Try.f4 Rows.shaPartsRow.domain false) (Rows.shaPartsSpec.post enc Try.prog Try.f4 false true false false) := by
  refine returnsInHanded_of_change (C := Try.checked) own started (by kernel_rfl) Try.func4
    (ChangeSpec.witness6 (enc := enc) (C := Try.checked) false ⟨#[], #[.slice none 0 0, .slice none 0 0], []⟩ 8 (by kernel_rfl) (by kernel_rfl) (by kernel_rfl) (by kernel_rfl)) ?_
  intro W base args ds gs before hval0 hW hcnd _
  have hval : ∀ (j : Nat) t v, Try.f4.params[j]? = some t → args[j]? = some v → Value.okWide Try.prog W .any base t v := hval0
  have hW' := hW
  obtain ⟨p, q, hA0, hV, rfl, hfz, hnd⟩ := hW
  have hA : DataW.TrodAll enc Try.prog W 0 (fun _ => true) true Try.f4.params.toList args.toList ds p := hA0
  rw [Try.params4] at hA hval
  obtain ⟨v0, vs0, d0, ds0, p0, q0, hargs, rfl, rfl, h0, r0⟩ := trodAll_cons hA
  obtain ⟨v1, vs1, d1, ds1, p1, q1, rfl, rfl, rfl, h1, r1⟩ := trodAll_cons r0
  obtain ⟨rfl, rfl, rfl⟩ := trodAll_nil r1
  obtain rfl : args = #[v0, v1] := by cases args; simp_all
  obtain ⟨rfl, rfl⟩ := trodVars_none hV
  obtain ⟨a0, len0, cap0, rfl⟩ := okWide_slice Try.underlying22 (hval 0 22 v0 rfl rfl)
  have k0 := h0
  have lt0 : ∀ x ∈ p0, x.block < W.heap.size := by obtain ⟨m, hm⟩ := k0; exact DataW.trod_lt m _ _ _ hm
  obtain ⟨z0, w0⟩ : ∃ zs, IsRow .u8 W a0 len0 cap0 zs := by
    obtain ⟨fuel, hf⟩ := h0
    rcases open_ints Try.underlying22 Try.underlying5 (by kernel_rfl) hf with ⟨hcs, _⟩ | ⟨x, l, c, zs, hcs, _, hl, hm, hz, _, hcell, hwz⟩
    · simp [Value.cells] at hcs
      obtain ⟨rfl, rfl, rfl⟩ := hcs
      exact ⟨[], .inl ⟨rfl, rfl, rfl, rfl⟩⟩
    · simp [Value.cells] at hcs
      obtain ⟨rfl, rfl, rfl⟩ := hcs
      exact ⟨zs, .inr ⟨_, rfl, hl, hm, by simpa using hz, hcell, hwz⟩⟩
  obtain ⟨a1, len1, cap1, rfl⟩ := okWide_slice Try.underlying29 (hval 1 29 v1 rfl rfl)
  have k1 := h1
  have lt1 : ∀ x ∈ p1, x.block < W.heap.size := by obtain ⟨m, hm⟩ := k1; exact DataW.trod_lt m _ _ _ hm
  obtain ⟨z1, w1⟩ : ∃ zs, IsRow .i64 W a1 len1 cap1 zs := by
    obtain ⟨fuel, hf⟩ := h1
    rcases open_ints Try.underlying29 Try.underlying3 (by kernel_rfl) hf with ⟨hcs, _⟩ | ⟨x, l, c, zs, hcs, _, hl, hm, hz, _, hcell, hwz⟩
    · simp [Value.cells] at hcs
      obtain ⟨rfl, rfl, rfl⟩ := hcs
      exact ⟨[], .inl ⟨rfl, rfl, rfl, rfl⟩⟩
    · simp [Value.cells] at hcs
      obtain ⟨rfl, rfl, rfl⟩ := hcs
      exact ⟨zs, .inr ⟨_, rfl, hl, hm, by simpa using hz, hcell, hwz⟩⟩
  refine (walk a0 len0 cap0 z0 a1 len1 cap1 z1 W w0 w1).mono fun e W' ⟨he, bel⟩ => ?_
  subst he
  exact ⟨_, rfl, _, _, _, [], _, [], hW', trodAll_mk1 (shut_bool Try.underlying4 _), (trodAll_cons_mk (Below.trod laidOut (by kernel_rfl) (of_decide_eq_true (by kernel_rfl)) k0 bel lt0) (trodAll_cons_mk (Below.trod laidOut (by kernel_rfl) (of_decide_eq_true (by kernel_rfl)) k1 bel lt1) trodAll_mk0)), rfl, bel.frame _, fun h => by cases h⟩

theorem over : Rows.shaPartsRow.holds Try.pinned (OpenSpec.ofChange Rows.shaPartsSpec) :=
  OpenClaim.holds_of_wide 4 Try.f4 rfl rfl rfl rfl rfl rfl rfl ⟨rfl, rfl, rfl, rfl, rfl⟩ rfl rfl rfl rfl rfl (by kernel_rfl) Try.func4 (by kernel_rfl)
    (of_decide_eq_true (by kernel_rfl)) (by unfold Func.isWrapper; first | (rw [if_pos (by decide +kernel)]; kernel_rfl) | (rw [if_neg (by decide +kernel)]; exact ⟨rfl, rfl⟩))
    (fun os started H enc _ => lifted os started H enc)

/-- The statement. -/
theorem proved : Rows.ShaPartsSaid := over
#print axioms proved
end Go.Proofs.Ytcajcnceomimhaa.shaParts
