/- The program's statement DeltaRooms holds: for every input it returns true and leaves its arguments as they were. No further condition. -/
import Derived.Test.YtkpnmagcmpljoaaRows
import Derived.WalkKit
import Derived.ProofKit
import Derived.OpenShut
import Derived.ShutString
import Derived.ChangeOld
import Derived.Below
import Derived.StillTailTactics
import Derived.Deep.RegionHeld3
import Derived.Deep.AppendLies
import Derived.StillTactics
import Derived.Deep.RegionWith
import Derived.WalkSpells
import Derived.Outline
import Derived.Test.YtkpnmagcmpljoaaRowB
namespace Go.Proofs.Ytkpnmagcmpljoaa.deltaRooms
open Go.ChangeShapes Go.WideShapes Go.ChangeAt Go.RowKit
open Go.ChangeMaps (open_string shut_string)
set_option linter.unusedVariables false

theorem own : ownKnob Try.prog.godebug = none := by kernel_rfl
theorem laidOut : laidOutB Try.prog = true := by kernel_rfl

/-- A slice of integers that came in: nil, or a row of cells. -/
def IsRow (k : IntKind) (w : World) (a : Option Addr) (len cap : Nat) (zs : List Int) : Prop :=
  (a = none ∧ len = 0 ∧ cap = 0 ∧ zs = []) ∨
  ∃ x, a = some x ∧ len ≤ cap ∧ cap ≤ maxLen ∧ zs.length = cap ∧ (∀ i, i < zs.length → w.cell? (x.add i) = some (.int k (zs.getD i 0))) ∧ ∀ n ∈ zs, (Lit.int k n).wf = true
open Plain
/-! ### The walk -/
set_option maxRecDepth 100000 in
set_option maxHeartbeats 16000000 in
theorem walk (a0 : Option Addr) (len0 cap0 : Nat) (z0 : List Int) (a1 : Option Addr) (len1 cap1 : Nat) (z1 : List Int) (a2 : Int) (w : World) (w0 : IsRow .u8 w a0 len0 cap0 z0) (w1 : IsRow .u8 w a1 len1 cap1 z1) (w2 : (Lit.int .u8 a2).wf = true) :
    Calls Try.prog 6 #[.slice a0 len0 cap0, .slice a1 len1 cap1, .int .u8 a2] w fun e w' => e = .returned (.bool true) ∧ Below w.heap.size w w' := by
  have wx : 0 ≤ a2 ∧ a2 ≤ 255 := bounds_u8 w2
  obtain ⟨hr0, hlc0, hcm0⟩ := row_in w0 1000
  obtain ⟨hr1, hlc1, hcm1⟩ := row_in w1 1000
  have R0 := Lib.hid hr0
  have R1 := Lib.hid hr1
  clear w0 w1 w2 hr0 hr1
  generalize (z0.take len0).take 1000 = x0 at *
  generalize (z1.take len1).take 1000 = x1 at *
  have HF0 : Hid (∀ W, Calls Try.prog 8 #[.slice a0 len0 cap0] W fun e w' => e = .returned (.slice a0 (min len0 1000) cap0) ∧ w' = W) := fun W => few_any a0 len0 cap0 W hlc0 hcm0
  have HF1 : Hid (∀ W, Calls Try.prog 8 #[.slice a1 len1 cap1] W fun e w' => e = .returned (.slice a1 (min len1 1000) cap1) ∧ w' = W) := fun W => few_any a1 len1 cap1 W hlc1 hcm1
  obtain ⟨m0, hm0⟩ : ∃ m, min len0 1000 = m := ⟨_, rfl⟩
  obtain ⟨m1, hm1⟩ : ∃ m, min len1 1000 = m := ⟨_, rfl⟩
  have k0 : m0 ≤ 1000 := by omega
  have k1 : m1 ≤ 1000 := by omega
  rw [hm0] at R0 HF0
  rw [hm1] at R1 HF1
  clear hm0 hm1
  go_enter Try.func6, Try.ntmps6
  go_wp2_with fail
  refine (HF0.out w).mono ?_
  rintro e wq ⟨rfl, hwq⟩
  have hwq2 := hwq.symm
  subst hwq2
  clear hwq
  go_wp2_with fail
  refine (HF1.out w).mono ?_
  rintro e wq ⟨rfl, hwq⟩
  have hwq2 := hwq.symm
  subst hwq2
  clear hwq HF0 HF1
  go_wp2_with fail
  refine (make_row a0 m0 cap0 x0 (by omega) a1 m1 cap1 x1 (by omega) w R0.out R1.out).mono ?_
  rintro e v1 ⟨⟨da, dk, dc, D, S, rfl, hd, hmade, hdk⟩, hb⟩
  have HD := Lib.hid hd
  have HW1 : Hid (Below w.heap.size w v1) := hb
  have hdk5 : dk ≤ 1100 := by omega
  have g1 : x0.length ≤ 4611686018427387903 := by rw [R0.out.len]; omega
  have g2 : x1.length ≤ 4611686018427387903 := by rw [R1.out.len]; omega
  have A1 := made_less hmade g1 g2
  have A2 := made_other hmade g1 g2 120
  have A3 := made_one hmade g1 g2 a2
  have A4 := made_zero hmade g1 g2
  have A5 := made_two hmade g1 g2 a2
  rw [R1.out.len] at A1 A2 A3 A4 A5
  have H1 := Lib.hid A1
  have H2 := Lib.hid A2
  have H3 := Lib.hid A3
  have H4 := Lib.hid A4
  have H5 := Lib.hid A5
  clear hmade hd hb hdk g1 g2 A1 A2 A3 A4 A5
  go_wp2_with fail
  refine (apply_row a0 m0 cap0 x0 (by omega) da dk dc D (by omega) ((m1 : Int) - 1) (by omega) 2 [] 0 v1 (R0.out.below HW1.out) HD.out H1.out rfl nil_range).mono ?_
  rintro e v2 ⟨⟨xa, xc, rfl, -⟩, hb⟩
  have HW2 : Hid (Below w.heap.size w v2) := HW1.out.trans (hb.mono HW1.out.size)
  have HD2 := Lib.hid (HD.out.below hb)
  clear hb
  have HE2 : Hid (Mid (v2.alloc (.cells #[] 5)) v2.heap.size (.slice (some ⟨v2.heap.size, 0, none⟩) 0 0) 0 []) := (Own.empty v2).mid
  have HQ2 : Hid (Below v2.heap.size v2 (v2.alloc (.cells #[] 5))) := (Below.refl _ _).alloc (Nat.le_refl _) _
  have tok : True := trivial
  go_wp2_with (
    have _t := tok
    at_builtin
    refine wpList_append_to rfl _ _ 22 rfl v2.heap.size (.slice (some ⟨v2.heap.size, 0, none⟩) 0 0) 0 [] rfl HE2.out _ m0 x0 rfl (src_bytes ((R0.out.below HW2.out).below HQ2.out).bytes) m0 x0 (Nat.zero_add _) (List.nil_append _) (by omega) HQ2.out.size ?_
    intro pa2 pc2 p2 hm hb
    have HM2 := Lib.hid hm
    have HP2 : Hid (Below v2.heap.size v2 p2) := HQ2.out.trans hb
    clear tok hm hb
    refine Hid.out ?_)
  refine unhid ?_
  have hq2 : v2.heap.size ≤ p2.heap.size := HP2.out.size
  have HL2 : Hid (Bytes (p2.alloc (.cells #[.int .u8 120] 5)) (some ⟨p2.heap.size, 0, none⟩) 1 [120]) := Bytes.lit p2 p2.heap.size rfl [120] 5 (0, 0) 1 rfl (by omega) (by intro y hy; simp at hy; omega)
  have HN2 : Hid (Below p2.heap.size p2 (p2.alloc (.cells #[.int .u8 120] 5))) := (Below.refl _ _).alloc (Nat.le_refl _) _
  have tok : True := trivial
  go_wp2_with (
    have _t := tok
    at_builtin
    refine wpList_append_to rfl _ _ 22 rfl v2.heap.size (.slice pa2 m0 pc2) m0 x0 rfl (HM2.out.below HN2.out) _ 1 [120] rfl (src_bytes HL2.out) (m0 + 1) (x0 ++ [120]) rfl rfl (by omega) (Nat.le_trans hq2 HN2.out.size) ?_
    intro qa2 qc2 q2 hm hb
    have HR2 := Lib.hid (hm.row (range_append R0.out.range (range_of_mem0 (by intro y hy; simp at hy; omega))))
    have HS2 : Hid (Below v2.heap.size v2 q2) := (HP2.out.trans (HN2.out.mono hq2)).trans hb
    clear tok hm hb
    refine Hid.out ?_)
  refine unhid ?_
  have HT2 : Hid (Below w.heap.size w q2) := HW2.out.trans (HS2.out.mono HW2.out.size)
  have HD2q := Lib.hid (HD2.out.below HS2.out)
  clear HE2 HQ2 HM2 HL2 HN2 HD2 HP2 hq2
  go_wp2_with fail
  refine (apply_row qa2 (m0 + 1) qc2 (x0 ++ [120]) (by omega) da dk dc D (by omega) (m1 : Int) (by omega) 4 [] 0 q2 HR2.out HD2q.out H2.out rfl nil_range).mono ?_
  rintro e v3 ⟨⟨xa3, xc3, rfl, -⟩, hb⟩
  have HW3 : Hid (Below w.heap.size w v3) := HT2.out.trans (hb.mono HT2.out.size)
  have HD3 := Lib.hid (HD2q.out.below hb)
  clear hb HR2 HS2 HT2 HD2q
  have HE3 : Hid (Mid (v3.alloc (.cells #[] 5)) v3.heap.size (.slice (some ⟨v3.heap.size, 0, none⟩) 0 0) 0 []) := (Own.empty v3).mid
  have HQ3 : Hid (Below v3.heap.size v3 (v3.alloc (.cells #[] 5))) := (Below.refl _ _).alloc (Nat.le_refl _) _
  have tok : True := trivial
  go_wp2_with (
    have _t := tok
    at_builtin
    refine wpList_append_to rfl _ _ 22 rfl v3.heap.size (.slice (some ⟨v3.heap.size, 0, none⟩) 0 0) 0 [] rfl HE3.out _ dk D rfl (src_bytes (HD3.out.below HQ3.out).bytes) dk D (Nat.zero_add _) (List.nil_append _) (by omega) HQ3.out.size ?_
    intro pa3 pc3 p3 hm hb
    have HM3 := Lib.hid hm
    have HP3 : Hid (Below v3.heap.size v3 p3) := HQ3.out.trans hb
    clear tok hm hb
    refine Hid.out ?_)
  refine unhid ?_
  have hq3 : v3.heap.size ≤ p3.heap.size := HP3.out.size
  have HL3 : Hid (Bytes (p3.alloc (.cells #[.int .u8 1, .int .u8 a2] 5)) (some ⟨p3.heap.size, 0, none⟩) 2 [1, a2]) := Bytes.lit p3 p3.heap.size rfl [1, a2] 5 (0, 0) 2 rfl (by omega) (by intro y hy; simp at hy; omega)
  have HN3 : Hid (Below p3.heap.size p3 (p3.alloc (.cells #[.int .u8 1, .int .u8 a2] 5))) := (Below.refl _ _).alloc (Nat.le_refl _) _
  have tok : True := trivial
  go_wp2_with (
    have _t := tok
    at_builtin
    refine wpList_append_to rfl _ _ 22 rfl v3.heap.size (.slice pa3 dk pc3) dk D rfl (HM3.out.below HN3.out) _ 2 [1, a2] rfl (src_bytes HL3.out) (dk + 2) (D ++ [1, a2]) rfl rfl (by omega) (Nat.le_trans hq3 HN3.out.size) ?_
    intro qa3 qc3 q3 hm hb
    have HR3 := Lib.hid (hm.row (range_append (HD3.out).range (range_of_mem0 (by intro y hy; simp at hy; omega))))
    have HS3 : Hid (Below v3.heap.size v3 q3) := (HP3.out.trans (HN3.out.mono hq3)).trans hb
    clear tok hm hb
    refine Hid.out ?_)
  refine unhid ?_
  have HT3 : Hid (Below w.heap.size w q3) := HW3.out.trans (HS3.out.mono HW3.out.size)
  have HD3q := Lib.hid (HD3.out.below HS3.out)
  clear HE3 HQ3 HM3 HL3 HN3 HD3 HP3 hq3
  go_wp2_with fail
  refine (apply_row a0 m0 cap0 x0 (by omega) qa3 (dk + 2) qc3 (D ++ [1, a2]) (by omega) (m1 : Int) (by omega) 4 [] 0 q3 (R0.out.below HT3.out) HR3.out H3.out rfl nil_range).mono ?_
  rintro e v4 ⟨⟨xa4, xc4, rfl, -⟩, hb⟩
  have HW4 : Hid (Below w.heap.size w v4) := HT3.out.trans (hb.mono HT3.out.size)
  have HD4 := Lib.hid (HD3q.out.below hb)
  clear hb HR3 HS3 HT3 HD3q
  have HE4 : Hid (Mid (v4.alloc (.cells #[] 5)) v4.heap.size (.slice (some ⟨v4.heap.size, 0, none⟩) 0 0) 0 []) := (Own.empty v4).mid
  have HQ4 : Hid (Below v4.heap.size v4 (v4.alloc (.cells #[] 5))) := (Below.refl _ _).alloc (Nat.le_refl _) _
  have tok : True := trivial
  go_wp2_with (
    have _t := tok
    at_builtin
    refine wpList_append_to rfl _ _ 22 rfl v4.heap.size (.slice (some ⟨v4.heap.size, 0, none⟩) 0 0) 0 [] rfl HE4.out _ dk D rfl (src_bytes (HD4.out.below HQ4.out).bytes) dk D (Nat.zero_add _) (List.nil_append _) (by omega) HQ4.out.size ?_
    intro pa4 pc4 p4 hm hb
    have HM4 := Lib.hid hm
    have HP4 : Hid (Below v4.heap.size v4 p4) := HQ4.out.trans hb
    clear tok hm hb
    refine Hid.out ?_)
  refine unhid ?_
  have hq4 : v4.heap.size ≤ p4.heap.size := HP4.out.size
  have HL4 : Hid (Bytes (p4.alloc (.cells #[.int .u8 0] 5)) (some ⟨p4.heap.size, 0, none⟩) 1 [0]) := Bytes.lit p4 p4.heap.size rfl [0] 5 (0, 0) 1 rfl (by omega) (by intro y hy; simp at hy; omega)
  have HN4 : Hid (Below p4.heap.size p4 (p4.alloc (.cells #[.int .u8 0] 5))) := (Below.refl _ _).alloc (Nat.le_refl _) _
  have tok : True := trivial
  go_wp2_with (
    have _t := tok
    at_builtin
    refine wpList_append_to rfl _ _ 22 rfl v4.heap.size (.slice pa4 dk pc4) dk D rfl (HM4.out.below HN4.out) _ 1 [0] rfl (src_bytes HL4.out) (dk + 1) (D ++ [0]) rfl rfl (by omega) (Nat.le_trans hq4 HN4.out.size) ?_
    intro qa4 qc4 q4 hm hb
    have HR4 := Lib.hid (hm.row (range_append (HD4.out).range (range_of_mem0 (by intro y hy; simp at hy; omega))))
    have HS4 : Hid (Below v4.heap.size v4 q4) := (HP4.out.trans (HN4.out.mono hq4)).trans hb
    clear tok hm hb
    refine Hid.out ?_)
  refine unhid ?_
  have HT4 : Hid (Below w.heap.size w q4) := HW4.out.trans (HS4.out.mono HW4.out.size)
  have HD4q := Lib.hid (HD4.out.below HS4.out)
  clear HE4 HQ4 HM4 HL4 HN4 HD4 HP4 hq4
  go_wp2_with fail
  refine (apply_row a0 m0 cap0 x0 (by omega) qa4 (dk + 1) qc4 (D ++ [0]) (by omega) (m1 : Int) (by omega) 4 [] 0 q4 (R0.out.below HT4.out) HR4.out H4.out rfl nil_range).mono ?_
  rintro e v5 ⟨⟨xa5, xc5, rfl, -⟩, hb⟩
  have HW5 : Hid (Below w.heap.size w v5) := HT4.out.trans (hb.mono HT4.out.size)
  have HD5 := Lib.hid (HD4q.out.below hb)
  clear hb HR4 HS4 HT4 HD4q
  have HE5 : Hid (Mid (v5.alloc (.cells #[] 5)) v5.heap.size (.slice (some ⟨v5.heap.size, 0, none⟩) 0 0) 0 []) := (Own.empty v5).mid
  have HQ5 : Hid (Below v5.heap.size v5 (v5.alloc (.cells #[] 5))) := (Below.refl _ _).alloc (Nat.le_refl _) _
  have tok : True := trivial
  go_wp2_with (
    have _t := tok
    at_builtin
    refine wpList_append_to rfl _ _ 22 rfl v5.heap.size (.slice (some ⟨v5.heap.size, 0, none⟩) 0 0) 0 [] rfl HE5.out _ dk D rfl (src_bytes (HD5.out.below HQ5.out).bytes) dk D (Nat.zero_add _) (List.nil_append _) (by omega) HQ5.out.size ?_
    intro pa5 pc5 p5 hm hb
    have HM5 := Lib.hid hm
    have HP5 : Hid (Below v5.heap.size v5 p5) := HQ5.out.trans hb
    clear tok hm hb
    refine Hid.out ?_)
  refine unhid ?_
  have hq5 : v5.heap.size ≤ p5.heap.size := HP5.out.size
  have HL5 : Hid (Bytes (p5.alloc (.cells #[.int .u8 2, .int .u8 a2] 5)) (some ⟨p5.heap.size, 0, none⟩) 2 [2, a2]) := Bytes.lit p5 p5.heap.size rfl [2, a2] 5 (0, 0) 2 rfl (by omega) (by intro y hy; simp at hy; omega)
  have HN5 : Hid (Below p5.heap.size p5 (p5.alloc (.cells #[.int .u8 2, .int .u8 a2] 5))) := (Below.refl _ _).alloc (Nat.le_refl _) _
  have tok : True := trivial
  go_wp2_with (
    have _t := tok
    at_builtin
    refine wpList_append_to rfl _ _ 22 rfl v5.heap.size (.slice pa5 dk pc5) dk D rfl (HM5.out.below HN5.out) _ 2 [2, a2] rfl (src_bytes HL5.out) (dk + 2) (D ++ [2, a2]) rfl rfl (by omega) (Nat.le_trans hq5 HN5.out.size) ?_
    intro qa5 qc5 q5 hm hb
    have HR5 := Lib.hid (hm.row (range_append (HD5.out).range (range_of_mem0 (by intro y hy; simp at hy; omega))))
    have HS5 : Hid (Below v5.heap.size v5 q5) := (HP5.out.trans (HN5.out.mono hq5)).trans hb
    clear tok hm hb
    refine Hid.out ?_)
  refine unhid ?_
  have HT5 : Hid (Below w.heap.size w q5) := HW5.out.trans (HS5.out.mono HW5.out.size)
  have HD5q := Lib.hid (HD5.out.below HS5.out)
  clear HE5 HQ5 HM5 HL5 HN5 HD5 HP5 hq5
  go_wp2_with fail
  refine (apply_row a0 m0 cap0 x0 (by omega) qa5 (dk + 2) qc5 (D ++ [2, a2]) (by omega) (m1 : Int) (by omega) 3 [] 0 q5 (R0.out.below HT5.out) HR5.out H5.out rfl nil_range).mono ?_
  rintro e v6 ⟨⟨xa6, xc6, rfl, -⟩, hb⟩
  have HW6 : Hid (Below w.heap.size w v6) := HT5.out.trans (hb.mono HT5.out.size)
  have HD6 := Lib.hid (HD5q.out.below hb)
  clear hb HR5 HS5 HT5 HD5q
  go_wp2_with fail
  refine (known_any v6).mono ?_
  rintro e v7 ⟨rfl, hb7⟩
  have HW7 : Hid (Below w.heap.size w v7) := HW6.out.trans (hb7.mono HW6.out.size)
  clear hb7
  go_wp2_with fail
  go_ret
  exact ⟨rfl, HW7.out⟩

/-! ### The row's step -/
set_option maxRecDepth 100000 in
theorem lifted (os : Os) (started : os.Started) (H : Type) (enc : TypeId × Value → H) :
    ReturnsInHanded {} Try.checked os 6 .any (Rows.deltaRoomsSpec.pre6 enc Try.prog Try.f6 Rows.deltaRoomsRow.domain false) (Rows.deltaRoomsSpec.post enc Try.prog Try.f6 false true false false) := by
  refine returnsInHanded_of_change (C := Try.checked) own started (by kernel_rfl) Try.func6
    (ChangeSpec.witness6 (enc := enc) (C := Try.checked) false ⟨#[], #[.slice none 0 0, .slice none 0 0, .int .u8 0], []⟩ 8 (by kernel_rfl) (by kernel_rfl) (by kernel_rfl) (by kernel_rfl)) ?_
  intro W base args ds gs before hval0 hW hcnd _
  have hval : ∀ (j : Nat) t v, Try.f6.params[j]? = some t → args[j]? = some v → Value.okWide Try.prog W .any base t v := hval0
  have hW' := hW
  obtain ⟨p, q, hA0, hV, rfl, hfz, hnd⟩ := hW
  have hA : DataW.TrodAll enc Try.prog W 0 (fun _ => true) true Try.f6.params.toList args.toList ds p := hA0
  rw [Try.params6] at hA hval
  obtain ⟨v0, vs0, d0, ds0, p0, q0, hargs, rfl, rfl, h0, r0⟩ := trodAll_cons hA
  obtain ⟨v1, vs1, d1, ds1, p1, q1, rfl, rfl, rfl, h1, r1⟩ := trodAll_cons r0
  obtain ⟨v2, vs2, d2, ds2, p2, q2, rfl, rfl, rfl, h2, r2⟩ := trodAll_cons r1
  obtain ⟨rfl, rfl, rfl⟩ := trodAll_nil r2
  obtain rfl : args = #[v0, v1, v2] := by cases args; simp_all
  obtain ⟨rfl, rfl⟩ := trodVars_none hV
  obtain ⟨a0, len0, cap0, rfl⟩ := okWide_slice Try.underlying22 (hval 0 22 v0 rfl rfl)
  have k0 := h0
  have lt0 : ∀ x ∈ p0, x.block < W.heap.size := by obtain ⟨m, hm⟩ := k0; exact DataW.trod_lt m _ _ _ hm
  obtain ⟨z0, w0⟩ : ∃ zs, IsRow .u8 W a0 len0 cap0 zs := by
    obtain ⟨fuel, hf⟩ := h0
    rcases open_ints Try.underlying22 Try.underlying5 (by kernel_rfl) hf with ⟨hcs, _⟩ | ⟨x, l, c, zs, hcs, _, hl, hm, hz, _, hcell, hwz⟩
    · simp [Value.cells] at hcs
      obtain ⟨rfl, rfl, rfl⟩ := hcs
      exact ⟨[], .inl ⟨rfl, rfl, rfl, rfl⟩⟩
    · simp [Value.cells] at hcs
      obtain ⟨rfl, rfl, rfl⟩ := hcs
      exact ⟨zs, .inr ⟨_, rfl, hl, hm, by simpa using hz, hcell, hwz⟩⟩
  obtain ⟨a1, len1, cap1, rfl⟩ := okWide_slice Try.underlying22 (hval 1 22 v1 rfl rfl)
  have k1 := h1
  have lt1 : ∀ x ∈ p1, x.block < W.heap.size := by obtain ⟨m, hm⟩ := k1; exact DataW.trod_lt m _ _ _ hm
  obtain ⟨z1, w1⟩ : ∃ zs, IsRow .u8 W a1 len1 cap1 zs := by
    obtain ⟨fuel, hf⟩ := h1
    rcases open_ints Try.underlying22 Try.underlying5 (by kernel_rfl) hf with ⟨hcs, _⟩ | ⟨x, l, c, zs, hcs, _, hl, hm, hz, _, hcell, hwz⟩
    · simp [Value.cells] at hcs
      obtain ⟨rfl, rfl, rfl⟩ := hcs
      exact ⟨[], .inl ⟨rfl, rfl, rfl, rfl⟩⟩
    · simp [Value.cells] at hcs
      obtain ⟨rfl, rfl, rfl⟩ := hcs
      exact ⟨zs, .inr ⟨_, rfl, hl, hm, by simpa using hz, hcell, hwz⟩⟩
  obtain ⟨a2, rfl, rfl, rfl, w2⟩ := open_int Try.underlying5 (hval 2 5 v2 rfl rfl) h2
  refine (walk a0 len0 cap0 z0 a1 len1 cap1 z1 a2 W w0 w1 w2).mono fun e W' ⟨he, bel⟩ => ?_
  subst he
  exact ⟨_, rfl, _, _, _, [], _, [], hW', trodAll_mk1 (shut_bool Try.underlying4 _), (trodAll_cons_mk (Below.trod laidOut (by kernel_rfl) (of_decide_eq_true (by kernel_rfl)) k0 bel lt0) (trodAll_cons_mk (Below.trod laidOut (by kernel_rfl) (of_decide_eq_true (by kernel_rfl)) k1 bel lt1) (trodAll_cons_mk (shut_int Try.underlying5 w2) trodAll_mk0))), rfl, bel.frame _, fun h => by cases h⟩

theorem over : Rows.deltaRoomsRow.holds Try.pinned (OpenSpec.ofChange Rows.deltaRoomsSpec) :=
  OpenClaim.holds_of_wide 6 Try.f6 rfl rfl rfl rfl rfl rfl rfl ⟨rfl, rfl, rfl, rfl, rfl⟩ rfl rfl rfl rfl rfl (by kernel_rfl) Try.func6 (by kernel_rfl)
    (of_decide_eq_true (by kernel_rfl)) (by unfold Func.isWrapper; first | (rw [if_pos (by decide +kernel)]; kernel_rfl) | (rw [if_neg (by decide +kernel)]; exact ⟨rfl, rfl⟩))
    (fun os started H enc _ => lifted os started H enc)

/-- The statement. -/
theorem proved : Rows.DeltaRoomsSaid := over
#print axioms proved
end Go.Proofs.Ytkpnmagcmpljoaa.deltaRooms
