/- Wrap: the walk. -/
import Derived.Test.YtglgchjkonjpiaaGreatDoorZC
import Derived.Test.YtglgchjkonjpiaaGreatDoorPackRaw
import Derived.Laws.CopyOwn
namespace Go.Proofs.YtglgchjkonjpiaaGreatDoor
open Go.RowKit Plain
set_option linter.unusedVariables false
/-- A frame around what is packed. -/
def wrapN (bs : List Int) : List Int := [120, 156] ++ rawPack bs ++ tail4 bs
theorem wrapN_len (bs : List Int) : (wrapN bs).length = 2 + (rawPack bs).length + 4 := by
  unfold wrapN
  rw [List.length_append, List.length_append]
  rfl
theorem wrapN_mem (bs : List Int) (hb : ∀ x ∈ bs, 0 ≤ x ∧ x ≤ 255) : ∀ x ∈ wrapN bs, 0 ≤ x ∧ x ≤ 255 := fun x hx => by
  unfold wrapN at hx
  rcases List.mem_append.1 hx with hx | hx
  · rcases List.mem_append.1 hx with hx | hx
    · simp only [List.mem_cons, List.mem_nil_iff, or_false] at hx
      rcases hx with rfl | rfl <;> omega
    · exact rawPack_mem bs hb x hx
  · exact tail4_range bs x hx
theorem mid_lit2 (w : World) (x y : Int) : Mid (w.alloc (.cells #[.int .u8 x, .int .u8 y] 5)) w.heap.size (.slice (some ⟨w.heap.size, 0, none⟩) 2 2) 2 [x, y] := by
  have hb : (w.alloc (.cells #[.int .u8 x, .int .u8 y] 5)).heap[w.heap.size]? = some (.cells #[.int .u8 x, .int .u8 y] 5 (0, 0)) := by
    show (w.heap.push _)[w.heap.size]? = _
    simp
  have hs : w.heap.size < (w.alloc (.cells #[.int .u8 x, .int .u8 y] 5)).heap.size := by simp
  generalize w.alloc (.cells #[.int .u8 x, .int .u8 y] 5) = W at *
  refine ⟨rfl, .inr ⟨w.heap.size, 0, 2, rfl, Nat.le_refl _, hs, by omega, by omega, fun j v h => ?_, fun j hj => ?_⟩⟩
  · have hj : j < 2 := by
      rcases Nat.lt_or_ge j 2 with h1 | h1
      · exact h1
      · rw [List.getElem?_eq_none (by simpa [U8] using h1)] at h; cases h
    have hj2 : j = 0 ∨ j = 1 := by omega
    rcases hj2 with rfl | rfl <;> simp [U8] at h <;> subst h <;> simp [World.cell?, hb]
  · have hj2 : j = 0 ∨ j = 1 := by omega
    rcases hj2 with rfl | rfl <;> simp [World.cell?, World.frozen?, hb]
theorem slice_four (B : Nat) (w : World) : (Instr.sliceAt 51 (.pointer (some ⟨B, 0, none⟩)) none none none).run Tryz.prog w = .ok (.slice (some ⟨B, 0, none⟩) 4 4) w := by
  have hal : Tryz.prog.arrayLen 51 = 4 := by kernel_rfl
  have hsz : ∀ W : World, (sizeOf (Tryz.prog.elem 51)).run Tryz.prog W = .ok 1 W := fun W => by kernel_rfl
  rw [run_sliceAt_array_all (P := Tryz.prog) w 51 ⟨B, 0, none⟩ (by kernel_rfl), hal]
  try rw [hsz]
  try simp [Result.andThen_ok, slicedAt]
  try (unfold Addr.add; split <;> simp_all)
set_option maxRecDepth 100000 in
set_option maxHeartbeats 8000000 in
theorem wrap_any (a : Option Addr) (m c : Nat) (bs : List Int) (w : World) (H : RowB w a m c bs) (hm : m ≤ 30000) :
    Calls Tryz.prog 12 #[.slice a m c] w fun e w' => (∃ va vc, e = .returned (.slice va (wrapN bs).length vc) ∧ RowB w' va (wrapN bs).length vc (wrapN bs) ∧ Mid w' w.heap.size (.slice va (wrapN bs).length vc) (wrapN bs).length (wrapN bs)) ∧ Below w.heap.size w w' := by
  have HY := Lib.hid H
  have HXL : Hid (bs.length = m) := H.len
  have HMEM : Hid (∀ x ∈ wrapN bs, 0 ≤ x ∧ x ≤ 255) := wrapN_mem bs H.mem
  have HWL := Lib.hid (wrapN_len bs)
  have HWN : Hid (wrapN bs = [120, 156] ++ rawPack bs ++ tail4 bs) := rfl
  have HT4 : Hid (V8 (tail4 bs) = #[.int .u8 (ad 1 bs / 16777216), .int .u8 (ad 1 bs / 65536 % 256), .int .u8 (ad 1 bs / 256 % 256), .int .u8 (ad 1 bs % 256)]) := rfl
  have hple := rawPack_le bs (by rw [HXL.out]; exact hm)
  rw [HXL.out] at hple
  have HAL : Hid (Below w.heap.size w (w.alloc (.cells #[.int .u8 120, .int .u8 156] 5))) := (Below.refl _ _).alloc (Nat.le_refl _) _
  have HE := Lib.hid (mid_lit2 w 120 156)
  have HPK := Lib.hid (rawPack_any a m c bs (w.alloc (.cells #[.int .u8 120, .int .u8 156] 5)) (H.below HAL.out) hm)
  obtain ⟨P, hP⟩ : ∃ P, rawPack bs = P := ⟨_, rfl⟩
  rw [hP] at hple HPK HWN HWL
  obtain ⟨pl, hpl⟩ : ∃ pl, P.length = pl := ⟨_, rfl⟩
  rw [hpl] at hple HPK HWL
  rw [HWL.out]
  generalize wrapN bs = WN at *
  clear H hP hpl
  go_enter Tryz.func12, Tryz.ntmps12
  go_wp2_with fail
  refine HPK.out.mono ?_
  rintro e w1 ⟨⟨pa, pc, rfl, hrow⟩, hb⟩
  have HP := Lib.hid hrow
  have HE1 := Lib.hid (HE.out.below hb)
  have HB1 : Hid (Below w.heap.size w w1) := HAL.out.trans (hb.mono HAL.out.size)
  clear hrow hb HE HAL HPK
  have tok : True := trivial
  go_wp2_with (
    have _t := tok
    at_builtin
    refine wpList_append_to rfl _ _ 22 rfl w.heap.size (.slice (some ⟨w.heap.size, 0, none⟩) 2 2) 2 [120, 156] rfl HE1.out _ pl P rfl (src_bytes HP.out.bytes) (2 + pl) ([120, 156] ++ P) rfl rfl (by omega) HB1.out.size ?_
    intro qa qc w2 hm hb
    have HM2 := Lib.hid hm
    have HB2 : Hid (Below w.heap.size w w2) := HB1.out.trans hb
    clear tok hm hb HE1 HP
    refine Hid.out ?_)
  refine unhid ?_
  go_wp2_with fail
  refine (sumOf_any w2 a m c bs (HY.out.below HB2.out).bytes).mono ?_
  rintro e w3 ⟨rfl, hb⟩
  have HM3 := Lib.hid (HM2.out.below hb)
  have HB3 : Hid (Below w.heap.size w w3) := HB2.out.trans (hb.mono HB2.out.size)
  clear hb HM2 HB2 HB1
  have HTR : Hid (∀ x ∈ tail4 bs, 0 ≤ x ∧ x ≤ 255) := tail4_range bs
  have HTT : Hid (tail4 bs = [ad 1 bs / 16777216, ad 1 bs / 65536 % 256, ad 1 bs / 256 % 256, ad 1 bs % 256]) := rfl
  rw [HT4.out]
  rw [HTT.out] at HTR HWN
  generalize ad 1 bs / 16777216 = x0 at *
  generalize ad 1 bs / 65536 % 256 = x1 at *
  generalize ad 1 bs / 256 % 256 = x2 at *
  generalize ad 1 bs % 256 = x3 at *
  have HN : Hid (Below w3.heap.size w3 (w3.alloc (.cells #[.int .u8 x0, .int .u8 x1, .int .u8 x2, .int .u8 x3] 51))) := (Below.refl _ _).alloc (Nat.le_refl _) _
  have HL : Hid (Bytes (w3.alloc (.cells #[.int .u8 x0, .int .u8 x1, .int .u8 x2, .int .u8 x3] 51)) (some ⟨w3.heap.size, 0, none⟩) 4 [x0, x1, x2, x3]) := Bytes.lit w3 w3.heap.size rfl [x0, x1, x2, x3] 51 (0, 0) 4 rfl (by omega) HTR.out
  have hsl := slice_four w3.heap.size
  have tok : True := trivial
  go_wp2_with (
    have _t := tok
    at_builtin
    refine wpList_append_to rfl _ _ 22 rfl w.heap.size (.slice qa (2 + pl) qc) (2 + pl) ([120, 156] ++ P) rfl (HM3.out.below HN.out) _ 4 [x0, x1, x2, x3] rfl (src_bytes HL.out) (2 + pl + 4) WN rfl HWN.out.symm (by omega) (Nat.le_trans HB3.out.size HN.out.size) ?_
    intro ra rc w4 hm hb
    have HM4 := Lib.hid hm
    have HB4 : Hid (Below w.heap.size w w4) := (HB3.out.trans (HN.out.mono HB3.out.size)).trans hb
    clear tok hm hb HM3 HL
    refine Hid.out ?_)
  refine unhid ?_
  go_wp2_with fail
  go_ret
  exact ⟨⟨ra, rc, rfl, HM4.out.row (range_of_mem0 HMEM.out), HM4.out⟩, HB4.out⟩
end Go.Proofs.YtglgchjkonjpiaaGreatDoor
