/- The program's statement ShaHex holds: for every input it returns true and leaves its arguments as they were. No further condition. -/
import Derived.Test.YtcajcnceomimhaaRows
import Derived.WalkKit
import Derived.ProofKit
import Derived.OpenShut
import Derived.ShutString
import Derived.ChangeOld
import Derived.Below
import Derived.StillTailTactics
import Derived.Deep.RegionHeld3
import Derived.Deep.AppendLies
import Derived.StillTactics
import Derived.Deep.RegionWith
import Derived.WalkSpells
import Derived.Outline
import Derived.Test.YtcajcnceomimhaaBackText
namespace Go.Proofs.Ytcajcnceomimhaa.shaHex
open Go.ChangeShapes Go.WideShapes Go.ChangeAt Go.RowKit
open Go.ChangeMaps (open_string shut_string)
set_option linter.unusedVariables false

theorem own : ownKnob Try.prog.godebug = none := by kernel_rfl
theorem laidOut : laidOutB Try.prog = true := by kernel_rfl

/-- A slice of integers that came in: nil, or a row of cells. -/
def IsRow (k : IntKind) (w : World) (a : Option Addr) (len cap : Nat) (zs : List Int) : Prop :=
  (a = none ∧ len = 0 ∧ cap = 0 ∧ zs = []) ∨
  ∃ x, a = some x ∧ len ≤ cap ∧ cap ≤ maxLen ∧ zs.length = cap ∧ (∀ i, i < zs.length → w.cell? (x.add i) = some (.int k (zs.getD i 0))) ∧ ∀ n ∈ zs, (Lit.int k n).wf = true

/-! ### The walk -/
set_option maxRecDepth 100000 in
set_option maxHeartbeats 8000000 in
theorem walk {H : Type} {enc : TypeId × Value → H} (base : Nat) (v0 : Value) (d0 : DataW H) (p0 : List MemPlace) (s1 : ByteArray) (w : World) (ok0 : Value.okWide Try.prog w .any base 25 v0) (rd0 : DataW.Trod enc Try.prog w 0 (fun _ => true) true 25 v0 d0 p0) (w1 : s1.size ≤ maxLen) :
    Calls Try.prog 5 #[v0, .string s1] w fun e w' => e = .returned (.bool true) ∧ Below w.heap.size w w' := by
  obtain ⟨ids, rfl, h20, hib⟩ := open_array_u8 Try.underlying25 (by kernel_rfl) ok0 rd0
  have hs1 : s1.size ≤ 9223372036854775807 := by unfold maxLen at w1; omega
  clear ok0 rd0 w1
  have H20 : Hid (ids.length = 20) := h20
  have HIB : Hid (∀ x ∈ ids, 0 ≤ x ∧ x ≤ 255) := hib
  have HTX : Hid ((⟨(hexOf ids).toArray⟩ : ByteArray) = strOfNums (hexN ids)) := (hexN_text ids hib).symm
  have HGOOD : Hid (isHex (strOfNums (hexN ids)) = true) := hex_good ids h20 hib
  have HPAR : Hid (parsed (strOfNums (hexN ids)) = ids) := parsed_hex ids h20 hib
  have HTS : Hid ((strOfNums (hexN ids)).size = 40) := by show _ = _; rw [strOfNums_size, hexN_length, h20]
  have I20 : Hid (∀ xs : List Int, xs.length = 20 → (Try.prog.info? 25).map (·.size) = some (V8 xs).size) := id_info
  have I24 : Hid (∀ xs : List Int, xs.length = 20 → (Try.prog.info? 24).map (·.size) = some (V8 xs).size) := info24
  have HBX : Hid ((w.alloc (.cells (V8 ids) 25)).heap[w.heap.size]? = some (.cells (V8 ids) 25 (0, 0))) := heap_alloc_new w _
  have HBB : Hid (Below w.heap.size w (w.alloc (.cells (V8 ids) 25))) := (Below.refl _ _).alloc (Nat.le_refl _) _
  have HLT : Hid (w.heap.size < (w.alloc (.cells (V8 ids) 25)).heap.size) := by show _ < _; simp
  have hz := zero_id
  have hz24 := zero_24
  clear h20 hib
  show Calls Try.prog 5 #[.agg (V8 ids), .string s1] w _
  go_enter Try.func5, Try.ntmps5
  go_wp2_with (refine wpList_load_row rfl 25 _ rfl w.heap.size rfl 25 (V8 ids) (0, 0) (.array 20 5) HBX.out Try.underlying25 rfl (I20.out _ H20.out) ?_)
  generalize (w.alloc (.cells (V8 ids) 25)) = w0 at *
  have HSS : Hid ((s1.extract 0 (min (s1.size : Int) 100).toNat).size ≤ 9223372036854775807) := by show _ ≤ _; rw [ByteArray.size_extract]; omega
  generalize (s1.extract 0 (min (s1.size : Int) 100).toNat) = S at *
  refine (hex_any ids w0 H20.out HIB.out).mono ?_
  rintro e w1 ⟨rfl, hb1⟩
  rw [HTX.out]
  have A1 : Hid (w1.heap[w.heap.size]? = some (.cells (V8 ids) 25 (0, 0))) := row_keep HBX.out hb1
  have B1 : Hid (Below w.heap.size w w1) := HBB.out.trans (hb1.mono HBB.out.size)
  clear hb1 HBX HBB
  go_wp2_with fail
  refine (parse_any (strOfNums (hexN ids)) w1 (by rw [HTS.out]; omega)).mono ?_
  rintro e w2 ⟨rfl, hb2⟩
  rw [HPAR.out, parsedE_good _ HGOOD.out]
  have A2 : Hid (w2.heap[w.heap.size]? = some (.cells (V8 ids) 25 (0, 0))) := row_keep A1.out hb2
  have B2 : Hid (Below w.heap.size w w2) := B1.out.trans (hb2.mono B1.out.size)
  clear hb2 A1 B1
  have A3 : Hid ((boxed w2 ids).heap[w.heap.size]? = some (.cells (V8 ids) 25 (0, 0))) := row_keep A2.out (boxed_new w2 ids)
  have C3 : Hid ((boxed w2 ids).heap[w2.heap.size]? = some (.cells (V8 ids) 25 (0, 0))) := boxed_heap w2 ids
  have B3 : Hid (Below w.heap.size w (boxed w2 ids)) := boxed_below B2.out (Nat.le_refl _) ids
  have tok1 : True := trivial
  go_wp2_with (
    have _t := tok1
    refine wpList_store_row rfl 25 (.tmp 6) (.tmp 22) rfl w2.heap.size (V8 ids) rfl rfl 25 (V8 zeros20) (heap_alloc_new w2 _) (I20.out _ H20.out) (by rw [V8_size, V8_size, H20.out]; rfl) (V8_one _) ?_
    clear tok1
    change wpList _ _ _ _ _ (boxed w2 ids)
    generalize boxed w2 ids = w3 at *)
  obtain ⟨q, hq⟩ : ∃ q, parsed S = q := ⟨_, rfl⟩
  have HQ : Hid (parsed S = q) := hq
  have HQ20 : Hid (q.length = 20) := by show _ = _; rw [← hq]; exact parsed_length S
  have HQB : Hid (∀ x ∈ q, 0 ≤ x ∧ x ≤ 255) := by rw [← hq]; exact parsed_bytes S
  clear hq
  refine (parse_any S w3 HSS.out).mono ?_
  rintro e w4 ⟨rfl, hb4⟩
  rw [HQ.out]
  have A4 : Hid (w4.heap[w.heap.size]? = some (.cells (V8 ids) 25 (0, 0))) := row_keep A3.out hb4
  have C4 : Hid (w4.heap[w2.heap.size]? = some (.cells (V8 ids) 25 (0, 0))) := row_keep C3.out hb4
  have B4 : Hid (Below w.heap.size w w4) := B3.out.trans (hb4.mono B3.out.size)
  clear hb4 A3 B3 C3
  have A5 : Hid ((boxed w4 q).heap[w.heap.size]? = some (.cells (V8 ids) 25 (0, 0))) := row_keep A4.out (boxed_new w4 q)
  have C5 : Hid ((boxed w4 q).heap[w2.heap.size]? = some (.cells (V8 ids) 25 (0, 0))) := row_keep C4.out (boxed_new w4 q)
  have D5 : Hid ((boxed w4 q).heap[w4.heap.size]? = some (.cells (V8 q) 25 (0, 0))) := boxed_heap w4 q
  have B5 : Hid (Below w.heap.size w (boxed w4 q)) := boxed_below B4.out (Nat.le_refl _) q
  have tok2 : True := trivial
  go_wp2_with (
    have _t := tok2
    refine wpList_store_row rfl 25 (.tmp 8) (.tmp 27) rfl w4.heap.size (V8 q) rfl rfl 25 (V8 zeros20) (heap_alloc_new w4 _) (I20.out _ HQ20.out) (by rw [V8_size, V8_size, HQ20.out]; rfl) (V8_one _) ?_
    clear tok2
    change wpList _ _ _ _ _ (boxed w4 q)
    generalize boxed w4 q = w5 at *)
  refine (refParse_any S w5 HSS.out).mono ?_
  rintro e w6 ⟨rfl, hb6⟩
  rw [HQ.out]
  have A6 : Hid (w6.heap[w.heap.size]? = some (.cells (V8 ids) 25 (0, 0))) := row_keep A5.out hb6
  have C6 : Hid (w6.heap[w2.heap.size]? = some (.cells (V8 ids) 25 (0, 0))) := row_keep C5.out hb6
  have D6 : Hid (w6.heap[w4.heap.size]? = some (.cells (V8 q) 25 (0, 0))) := row_keep D5.out hb6
  have B6 : Hid (Below w.heap.size w w6) := B5.out.trans (hb6.mono B5.out.size)
  clear hb6 A5 B5 C5 D5
  have A7 : Hid ((boxed24 w6 q).heap[w.heap.size]? = some (.cells (V8 ids) 25 (0, 0))) := row_keep A6.out (boxed24_new w6 q)
  have C7 : Hid ((boxed24 w6 q).heap[w2.heap.size]? = some (.cells (V8 ids) 25 (0, 0))) := row_keep C6.out (boxed24_new w6 q)
  have D7 : Hid ((boxed24 w6 q).heap[w4.heap.size]? = some (.cells (V8 q) 25 (0, 0))) := row_keep D6.out (boxed24_new w6 q)
  have E7 : Hid ((boxed24 w6 q).heap[w6.heap.size]? = some (.cells (V8 q) 24 (0, 0))) := boxed24_heap w6 q
  have B7 : Hid (Below w.heap.size w (boxed24 w6 q)) := boxed24_below B6.out (Nat.le_refl _) q
  have tok3 : True := trivial
  go_wp2_with (
    have _t := tok3
    refine wpList_store_row rfl 24 (.tmp 10) (.tmp 32) rfl w6.heap.size (V8 q) rfl rfl 24 (V8 zeros20) (heap_alloc_new w6 _) (I24.out _ HQ20.out) (by rw [V8_size, V8_size, HQ20.out]; rfl) (V8_one _) ?_
    clear tok3
    change wpList _ _ _ _ _ (boxed24 w6 q)
    generalize boxed24 w6 q = w7 at *)
  refine (known_any w7).mono ?_
  rintro e w8 ⟨rfl, hb8⟩
  have A8 : Hid (w8.heap[w.heap.size]? = some (.cells (V8 ids) 25 (0, 0))) := row_keep A7.out hb8
  have C8 : Hid (w8.heap[w2.heap.size]? = some (.cells (V8 ids) 25 (0, 0))) := row_keep C7.out hb8
  have D8 : Hid (w8.heap[w4.heap.size]? = some (.cells (V8 q) 25 (0, 0))) := row_keep D7.out hb8
  have E8 : Hid (w8.heap[w6.heap.size]? = some (.cells (V8 q) 24 (0, 0))) := row_keep E7.out hb8
  have B8 : Hid (Below w.heap.size w w8) := B7.out.trans (hb8.mono B7.out.size)
  clear hb8 A7 B7 C7 D7 E7
  have tokA : True := trivial
  go_wp2_with (have _t := tokA; refine wpList_load_row_g (by rfl) 25 _ rfl w.heap.size rfl 25 (V8 ids) (0, 0) (.array 20 5) A8.out Try.underlying25 rfl (I20.out _ H20.out) ?_; clear tokA)
  refine (refHex_any ids w8 H20.out HIB.out).mono ?_
  rintro e w9 ⟨rfl, hb9⟩
  have A9 : Hid (w9.heap[w.heap.size]? = some (.cells (V8 ids) 25 (0, 0))) := row_keep A8.out hb9
  have C9 : Hid (w9.heap[w2.heap.size]? = some (.cells (V8 ids) 25 (0, 0))) := row_keep C8.out hb9
  have D9 : Hid (w9.heap[w4.heap.size]? = some (.cells (V8 q) 25 (0, 0))) := row_keep D8.out hb9
  have E9 : Hid (w9.heap[w6.heap.size]? = some (.cells (V8 q) 24 (0, 0))) := row_keep E8.out hb9
  have B9 : Hid (Below w.heap.size w w9) := B8.out.trans (hb9.mono B8.out.size)
  clear hb9 A8 B8 C8 D8 E8 hz hz24
  have he1 := eq_same ids H20.out w9
  have he2 := eq_same24 q HQ20.out w9
  cases hx : isHex S
  · have hpe : parsedE S = 4 := parsedE_bad S hx
    rw [hpe]
    clear hx hpe
    go_wp2_with (first
      | refine wpList_load_row_g (by rfl) 25 _ rfl w2.heap.size rfl 25 (V8 ids) (0, 0) (.array 20 5) C9.out Try.underlying25 rfl (I20.out _ H20.out) ?_
      | refine wpList_load_row_g (by rfl) 25 _ rfl w.heap.size rfl 25 (V8 ids) (0, 0) (.array 20 5) A9.out Try.underlying25 rfl (I20.out _ H20.out) ?_
      | refine wpList_load_row_g (by rfl) 25 _ rfl w4.heap.size rfl 25 (V8 q) (0, 0) (.array 20 5) D9.out Try.underlying25 rfl (I20.out _ HQ20.out) ?_
      | refine wpList_load_row_g (by rfl) 24 _ rfl w6.heap.size rfl 24 (V8 q) (0, 0) (.array 20 5) E9.out Try.underlying24 rfl (I24.out _ HQ20.out) ?_)
    go_ret
    exact ⟨rfl, B9.out⟩
  · have hpe : parsedE S = 0 := parsedE_good S hx
    have HTS2 : Hid ((⟨(hexOf q).toArray⟩ : ByteArray) = S) := by rw [← HQ.out]; exact hex_parsed S hx
    rw [hpe]
    clear hx hpe
    go_wp2_with (first
      | refine wpList_load_row_g (by rfl) 25 _ rfl w2.heap.size rfl 25 (V8 ids) (0, 0) (.array 20 5) C9.out Try.underlying25 rfl (I20.out _ H20.out) ?_
      | refine wpList_load_row_g (by rfl) 25 _ rfl w.heap.size rfl 25 (V8 ids) (0, 0) (.array 20 5) A9.out Try.underlying25 rfl (I20.out _ H20.out) ?_
      | refine wpList_load_row_g (by rfl) 25 _ rfl w4.heap.size rfl 25 (V8 q) (0, 0) (.array 20 5) D9.out Try.underlying25 rfl (I20.out _ HQ20.out) ?_
      | refine wpList_load_row_g (by rfl) 24 _ rfl w6.heap.size rfl 24 (V8 q) (0, 0) (.array 20 5) E9.out Try.underlying24 rfl (I24.out _ HQ20.out) ?_)
    refine (hex_any q w9 HQ20.out HQB.out).mono ?_
    rintro e w10 ⟨rfl, hb10⟩
    rw [HTS2.out]
    go_wp2_with fail
    go_ret
    exact ⟨rfl, B9.out.trans (hb10.mono B9.out.size)⟩

/-! ### The row's step -/
set_option maxRecDepth 100000 in
theorem lifted (os : Os) (started : os.Started) (H : Type) (enc : TypeId × Value → H) :
    ReturnsInHanded {} Try.checked os 5 .any (Rows.shaHexSpec.pre6 enc Try.prog Try.f5 Rows.shaHexRow.domain false) (Rows.shaHexSpec.post enc Try.prog Try.f5 false true false false) := by
  refine returnsInHanded_of_change (C := Try.checked) own started (by kernel_rfl) Try.func5
    (ChangeSpec.witness6 (enc := enc) (C := Try.checked) false ⟨#[], #[.agg #[.int .u8 0, .int .u8 0, .int .u8 0, .int .u8 0, .int .u8 0, .int .u8 0, .int .u8 0, .int .u8 0, .int .u8 0, .int .u8 0, .int .u8 0, .int .u8 0, .int .u8 0, .int .u8 0, .int .u8 0, .int .u8 0, .int .u8 0, .int .u8 0, .int .u8 0, .int .u8 0], .string ⟨#[]⟩], []⟩ 8 (by kernel_rfl) (by kernel_rfl) (by kernel_rfl) (by kernel_rfl)) ?_
  intro W base args ds gs before hval0 hW hcnd _
  have hval : ∀ (j : Nat) t v, Try.f5.params[j]? = some t → args[j]? = some v → Value.okWide Try.prog W .any base t v := hval0
  have hW' := hW
  obtain ⟨p, q, hA0, hV, rfl, hfz, hnd⟩ := hW
  have hA : DataW.TrodAll enc Try.prog W 0 (fun _ => true) true Try.f5.params.toList args.toList ds p := hA0
  rw [Try.params5] at hA hval
  obtain ⟨v0, vs0, d0, ds0, p0, q0, hargs, rfl, rfl, h0, r0⟩ := trodAll_cons hA
  obtain ⟨v1, vs1, d1, ds1, p1, q1, rfl, rfl, rfl, h1, r1⟩ := trodAll_cons r0
  obtain ⟨rfl, rfl, rfl⟩ := trodAll_nil r1
  obtain rfl : args = #[v0, v1] := by cases args; simp_all
  obtain ⟨rfl, rfl⟩ := trodVars_none hV
  have lt0 : ∀ x ∈ p0, x.block < W.heap.size := by obtain ⟨m, hm⟩ := h0; exact DataW.trod_lt m _ _ _ hm
  obtain ⟨s1, rfl, rfl, rfl, w1⟩ := open_string Try.underlying9 (hval 1 9 v1 rfl rfl) h1
  refine (walk base v0 d0 p0 s1 W (hval 0 25 v0 rfl rfl) h0 w1).mono fun e W' ⟨he, bel⟩ => ?_
  subst he
  exact ⟨_, rfl, _, _, _, [], _, [], hW', trodAll_mk1 (shut_bool Try.underlying4 _), (trodAll_cons_mk (Below.trod laidOut (by kernel_rfl) (of_decide_eq_true (by kernel_rfl)) h0 bel lt0) (trodAll_cons_mk (shut_string Try.underlying9 w1) trodAll_mk0)), rfl, bel.frame _, fun h => by cases h⟩

theorem over : Rows.shaHexRow.holds Try.pinned (OpenSpec.ofChange Rows.shaHexSpec) :=
  OpenClaim.holds_of_wide 5 Try.f5 rfl rfl rfl rfl rfl rfl rfl ⟨rfl, rfl, rfl, rfl, rfl⟩ rfl rfl rfl rfl rfl (by kernel_rfl) Try.func5 (by kernel_rfl)
    (of_decide_eq_true (by kernel_rfl)) (by unfold Func.isWrapper; first | (rw [if_pos (by decide +kernel)]; kernel_rfl) | (rw [if_neg (by decide +kernel)]; exact ⟨rfl, rfl⟩))
    (fun os started H enc _ => lifted os started H enc)

/-- The statement. -/
theorem proved : Rows.ShaHexSaid := over
#print axioms proved
end Go.Proofs.Ytcajcnceomimhaa.shaHex
