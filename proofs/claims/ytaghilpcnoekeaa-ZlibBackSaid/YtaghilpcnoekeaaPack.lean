/- The writer of bits, at the calls that packing no bytes makes. -/
import Derived.Test.YtaghilpcnoekeaaBytes
import Derived.RegionTactic
import Derived.BigRegion
import Derived.Deep.RegionHeld3
import Derived.Deep.RegionLaw
import Derived.WalkSpells
import Derived.LoopN
import Derived.Outline
import Derived.Maps.Own
namespace Go.Proofs.Ytaghilpcnoekeaa
open Go.RowKit
set_option linter.unusedVariables false

/-- The writer lies in block B: what it has gathered, from block 'base' on its own; the bits that it holds; how many. -/
def WAt (w : World) (base B : Nat) (ys : List Int) (h n : Int) : Prop :=
  ∃ v, w.heap[B]? = some (.cells #[v, .int .u64 h, .int .i64 n] 62 (0, 0)) ∧ Own w base v ys.length ys ∧ B < base ∧ base ≤ w.heap.size
theorem cells3 {w : World} {B : Nat} {a b c : Value} {t : TypeId} (h : w.heap[B]? = some (.cells #[a, b, c] t (0, 0))) :
    w.cell? ⟨B, 0, none⟩ = some a ∧ w.cell? ⟨B, 1, none⟩ = some b ∧ w.cell? ⟨B, 2, none⟩ = some c ∧ w.frozen? ⟨B, 0, none⟩ = false ∧ w.frozen? ⟨B, 1, none⟩ = false ∧ w.frozen? ⟨B, 2, none⟩ = false := by
  refine ⟨?_, ?_, ?_, ?_, ?_, ?_⟩ <;> simp [World.cell?, World.frozen?, h]
theorem WAt.set12 {w : World} {base B : Nat} {ys : List Int} {h n : Int} (H : WAt w base B ys h n) (h' n' : Int) :
    WAt ((w.setCell ⟨B, 1, none⟩ (.int .u64 h')).setCell ⟨B, 2, none⟩ (.int .i64 n')) base B ys h' n' := by
  obtain ⟨v, hb, hown, h1, h2⟩ := H
  have hlt := hb
  refine ⟨v, ?_, ?_, h1, by simpa [World.setCell] using h2⟩
  · rw [heap_setCell_same _ B 2 _ 62 _ (heap_setCell_same w B 1 _ 62 _ hb)]
    rfl
  · refine Own.far hown ?_
    intro g hg
    rw [Below.heap_setCell _ _ _ _ (by show g ≠ B; omega), Below.heap_setCell _ _ _ _ (by show g ≠ B; omega)]
theorem WAt.put {w : World} {base B : Nat} {v v1 : Value} {m : Nat} {zs : List Int} {h n : Int} (hb : w.heap[B]? = some (.cells #[v, .int .u64 h, .int .i64 n] 62 (0, 0))) (hown : Own w base v1 m zs) (hm : m = zs.length) (h1 : B < base) (h2 : base ≤ w.heap.size) :
    WAt (w.setCell ⟨B, 0, none⟩ v1) base B zs h n := by
  subst hm
  refine ⟨v1, ?_, Own.far hown fun g hg => Below.heap_setCell _ _ _ _ (by show g ≠ B; omega), h1, by simpa [World.setCell] using h2⟩
  rw [heap_setCell_same _ B 0 _ 62 _ hb]
  rfl
theorem WAt.drew {w : World} {base B : Nat} {ys : List Int} {h n : Int} (H : WAt w base B ys h n) : WAt w.drew base B ys h n := H
set_option maxHeartbeats 1000000 in
theorem number_1 (base B : Nat) (ys : List Int) (w : World) (H : WAt w base B ys 0 0) :
    Calls Try.prog 36 #[.pointer (some ⟨B, 0, none⟩), .int .i64 1, .int .i64 1] w fun e w' => e = .returned (.tuple #[]) ∧ WAt w' base B ys 1 1 ∧ Below B w w' := by
  have HW : Hid (WAt w base B ys 0 0) := H
  obtain ⟨v, hb, hown, h1, h2⟩ := H
  obtain ⟨c0, c1, c2, f0, f1, f2⟩ := cells3 hb
  clear hb hown
  go_enter Try.func36, Try.ntmps36
  go_wp2_with fail
  go_region
  go_wp2_with fail
  refine wp_loop_rounds 1 ?_
  rw [rounds_succ]
  go_wp2_with fail
  go_end0
  exact ⟨rfl, (HW.out.set12 _ _).drew, (((Below.refl B w).setCell (Nat.le_refl _) _).setCell (Nat.le_refl _) _).drew⟩
set_option maxHeartbeats 1000000 in
theorem number_2 (base B : Nat) (ys : List Int) (w : World) (H : WAt w base B ys 1 1) :
    Calls Try.prog 36 #[.pointer (some ⟨B, 0, none⟩), .int .i64 1, .int .i64 2] w fun e w' => e = .returned (.tuple #[]) ∧ WAt w' base B ys 3 3 ∧ Below B w w' := by
  have HW : Hid (WAt w base B ys 1 1) := H
  obtain ⟨v, hb, hown, h1, h2⟩ := H
  obtain ⟨c0, c1, c2, f0, f1, f2⟩ := cells3 hb
  clear hb hown
  go_enter Try.func36, Try.ntmps36
  go_wp2_with fail
  go_region
  go_wp2_with fail
  refine wp_loop_rounds 1 ?_
  rw [rounds_succ]
  go_wp2_with fail
  go_end0
  exact ⟨rfl, (HW.out.set12 _ _).drew, (((Below.refl B w).setCell (Nat.le_refl _) _).setCell (Nat.le_refl _) _).drew⟩
set_option maxHeartbeats 2000000 in
theorem number_3 (base B : Nat) (ys : List Int) (w : World) (hys : ys.length ≤ 1000000) (H : WAt w base B ys 3 3) :
    Calls Try.prog 36 #[.pointer (some ⟨B, 0, none⟩), .int .i64 0, .int .i64 7] w fun e w' => e = .returned (.tuple #[]) ∧ WAt w' base B (ys ++ [3]) 0 2 ∧ Below B w w' := by
  have HW : Hid (WAt w base B ys 3 3) := H
  obtain ⟨v, hb, hown, h1, h2⟩ := H
  obtain ⟨c0, c1, c2, f0, f1, f2⟩ := cells3 hb
  clear hb hown
  go_enter Try.func36, Try.ntmps36
  go_wp2_with fail
  go_region
  go_wp2_with fail
  clear c0 c1 c2 f0 f1 f2
  have H1 : Hid (WAt ((w.setCell ⟨B, 1, none⟩ (.int .u64 (bits .or .u64 3 0))).setCell ⟨B, 2, none⟩ (.int .i64 10)).drew base B ys 3 10) := (HW.out.set12 _ _).drew
  have hb1 : Below B w ((w.setCell ⟨B, 1, none⟩ (.int .u64 (bits .or .u64 3 0))).setCell ⟨B, 2, none⟩ (.int .i64 10)).drew := (((Below.refl B w).setCell (Nat.le_refl _) _).setCell (Nat.le_refl _) _).drew
  generalize ((w.setCell ⟨B, 1, none⟩ (.int .u64 (bits .or .u64 3 0))).setCell ⟨B, 2, none⟩ (.int .i64 10)).drew = wa at *
  clear h1 h2 HW v
  obtain ⟨v, hb, hown, h1, h2⟩ := H1.out
  obtain ⟨c0, c1, c2, f0, f1, f2⟩ := cells3 hb
  have HO : Hid (Own wa base v ys.length ys) := hown
  have HBB : Hid (wa.heap[B]? = some (.cells #[v, .int .u64 3, .int .i64 10] 62 (0, 0))) := hb
  clear hb hown
  have hlt : B < wa.heap.size := by omega
  refine wp_loop_rounds 2 ?_
  rw [rounds_succ]
  go_wp2_with fail
  go_region_law (refine step_append_bytes rfl _ _ (by rfl) base _ ys.length ys (by rfl) (HO.out.below (by repeat (first | exact (Below.refl _ _).alloc (Nat.le_refl _) _ | refine Below.drew ?_))) _ 1 1 [_] (by rfl) ((Bytes.lit wa _ rfl [_] 5 (0, 0) 1 rfl (by omega) (by intro x hx; rw [List.mem_singleton.1 hx]; exact bounds_u8 (wf_wrap .u8 _))).below ((Below.refl _ _).drew)) (fun e => by cases e) (by omega) (by simp; omega) ?_; intro v1 w1 hown1 hg1; have hk1 := (HO.out.below (((Below.refl _ _).alloc (Nat.le_refl _) _).drew)).kept (by simp; omega) hg1; have hb2 := (hk1.block B h1).trans ((Below.heap_alloc wa _ B (by omega)).trans HBB.out); obtain ⟨d0, d1, d2, e0, e1, e2⟩ := cells3 hb2; obtain ⟨av, cv, rfl, hcv, hnv, hcw⟩ := hown1.shape)
  all_goals
    have H3 : Hid (WAt (w1.setCell ⟨B, 0, none⟩ (.slice av (ys.length + 1) cv)) base B (ys ++ [IntKind.u8.wrap 3]) 3 10) := WAt.put hb2 hown1 (by simp) h1 (by have := hk1.size; simp at this; omega)
    have hb3 : Below B w (w1.setCell ⟨B, 0, none⟩ (.slice av (ys.length + 1) cv)) := (hb1.trans (((Below.refl B wa).alloc (by omega) _).drew.trans (hk1.mono (by omega)))).setCell (Nat.le_refl _) _
    clear d0 d1 d2 e0 e1 e2 c0 c1 c2 f0 f1 f2 hk1 hg1 hb2 hown1 H1
    generalize w1.setCell ⟨B, 0, none⟩ (.slice av (ys.length + 1) cv) = wc at *
    obtain ⟨v3, hc3, hown3, -, hz3⟩ := H3.out
    obtain ⟨c0, c1, c2, f0, f1, f2⟩ := cells3 hc3
    clear hc3 hown3
    go_wp2_with fail
    rw [rounds_succ]
    go_wp2_with fail
    go_end0
    exact ⟨rfl, H3.out.set12 _ _, (hb3.setCell (Nat.le_refl _) _).setCell (Nat.le_refl _) _⟩
set_option maxHeartbeats 2000000 in
theorem number_4 (base B : Nat) (ys : List Int) (w : World) (hys : ys.length ≤ 1000000) (H : WAt w base B ys 0 2) :
    Calls Try.prog 36 #[.pointer (some ⟨B, 0, none⟩), .int .i64 0, .int .i64 6] w fun e w' => e = .returned (.tuple #[]) ∧ WAt w' base B (ys ++ [0]) 0 0 ∧ Below B w w' := by
  have HW : Hid (WAt w base B ys 0 2) := H
  obtain ⟨v, hb, hown, h1, h2⟩ := H
  obtain ⟨c0, c1, c2, f0, f1, f2⟩ := cells3 hb
  clear hb hown
  go_enter Try.func36, Try.ntmps36
  go_wp2_with fail
  go_region
  go_wp2_with fail
  clear c0 c1 c2 f0 f1 f2
  have H1 : Hid (WAt ((w.setCell ⟨B, 1, none⟩ (.int .u64 (bits .or .u64 0 0))).setCell ⟨B, 2, none⟩ (.int .i64 8)).drew base B ys 0 8) := (HW.out.set12 _ _).drew
  have hb1 : Below B w ((w.setCell ⟨B, 1, none⟩ (.int .u64 (bits .or .u64 0 0))).setCell ⟨B, 2, none⟩ (.int .i64 8)).drew := (((Below.refl B w).setCell (Nat.le_refl _) _).setCell (Nat.le_refl _) _).drew
  generalize ((w.setCell ⟨B, 1, none⟩ (.int .u64 (bits .or .u64 0 0))).setCell ⟨B, 2, none⟩ (.int .i64 8)).drew = wa at *
  clear h1 h2 HW v
  obtain ⟨v, hb, hown, h1, h2⟩ := H1.out
  obtain ⟨c0, c1, c2, f0, f1, f2⟩ := cells3 hb
  have HO : Hid (Own wa base v ys.length ys) := hown
  have HBB : Hid (wa.heap[B]? = some (.cells #[v, .int .u64 0, .int .i64 8] 62 (0, 0))) := hb
  clear hb hown
  have hlt : B < wa.heap.size := by omega
  refine wp_loop_rounds 2 ?_
  rw [rounds_succ]
  go_wp2_with fail
  go_region_law (refine step_append_bytes rfl _ _ (by rfl) base _ ys.length ys (by rfl) (HO.out.below (by repeat (first | exact (Below.refl _ _).alloc (Nat.le_refl _) _ | refine Below.drew ?_))) _ 1 1 [_] (by rfl) ((Bytes.lit wa _ rfl [_] 5 (0, 0) 1 rfl (by omega) (by intro x hx; rw [List.mem_singleton.1 hx]; exact bounds_u8 (wf_wrap .u8 _))).below ((Below.refl _ _).drew)) (fun e => by cases e) (by omega) (by simp; omega) ?_; intro v1 w1 hown1 hg1; have hk1 := (HO.out.below (((Below.refl _ _).alloc (Nat.le_refl _) _).drew)).kept (by simp; omega) hg1; have hb2 := (hk1.block B h1).trans ((Below.heap_alloc wa _ B (by omega)).trans HBB.out); obtain ⟨d0, d1, d2, e0, e1, e2⟩ := cells3 hb2; obtain ⟨av, cv, rfl, hcv, hnv, hcw⟩ := hown1.shape)
  all_goals
    have H3 : Hid (WAt (w1.setCell ⟨B, 0, none⟩ (.slice av (ys.length + 1) cv)) base B (ys ++ [IntKind.u8.wrap 0]) 0 8) := WAt.put hb2 hown1 (by simp) h1 (by have := hk1.size; simp at this; omega)
    have hb3 : Below B w (w1.setCell ⟨B, 0, none⟩ (.slice av (ys.length + 1) cv)) := (hb1.trans (((Below.refl B wa).alloc (by omega) _).drew.trans (hk1.mono (by omega)))).setCell (Nat.le_refl _) _
    clear d0 d1 d2 e0 e1 e2 c0 c1 c2 f0 f1 f2 hk1 hg1 hb2 hown1 H1
    generalize w1.setCell ⟨B, 0, none⟩ (.slice av (ys.length + 1) cv) = wc at *
    obtain ⟨v3, hc3, hown3, -, hz3⟩ := H3.out
    obtain ⟨c0, c1, c2, f0, f1, f2⟩ := cells3 hc3
    clear hc3 hown3
    go_wp2_with fail
    rw [rounds_succ]
    go_wp2_with fail
    go_end0
    exact ⟨rfl, H3.out.set12 _ _, (hb3.setCell (Nat.le_refl _) _).setCell (Nat.le_refl _) _⟩
theorem WAt.below {w w' : World} {base B : Nat} {ys : List Int} {h n : Int} (H : WAt w base B ys h n) (hb : Below w.heap.size w w') : WAt w' base B ys h n := by
  obtain ⟨v, hc, hown, h1, h2⟩ := H
  exact ⟨v, (hb.block B (by omega)).trans hc, hown.below hb, h1, Nat.le_trans h2 hb.size⟩
set_option maxRecDepth 100000 in
set_option maxHeartbeats 1000000 in
theorem reverse_0 (w : World) : Calls Try.prog 75 #[.int .u16 0] w fun e w' => e = .returned (.int .u16 0) ∧ Below w.heap.size w w' := by
  have e0 : bits BinOp.and IntKind.u16 0 255 = 0 := by decide
  have e1 : bits BinOp.or IntKind.u16 0 0 = 0 := by decide
  go_enter Try.func75, Try.ntmps75
  go_wp2_with fail
  go_region
  go_wp2_with fail
  go_ret
  exact ⟨rfl, (Below.refl _ _).drew⟩
theorem code_0 (base B : Nat) (ys : List Int) (w : World) (hys : ys.length ≤ 1000000) (H : WAt w base B ys 3 3) :
    Calls Try.prog 61 #[.pointer (some ⟨B, 0, none⟩), .int .i64 0, .int .i64 7] w fun e w' => e = .returned (.tuple #[]) ∧ WAt w' base B (ys ++ [3]) 0 2 ∧ Below B w w' := by
  have hB : B ≤ w.heap.size := by obtain ⟨-, -, -, h1, h2⟩ := H; omega
  have HW : Hid (WAt w base B ys 3 3) := H
  clear H
  go_enter Try.func61, Try.ntmps61
  go_wp2_with fail
  refine (reverse_0 w).mono ?_
  rintro e w1 ⟨rfl, hb1⟩
  go_wp2_with fail
  refine (number_3 base B ys w1 hys (HW.out.below hb1)).mono ?_
  rintro e w2 ⟨rfl, HW2, hb2⟩
  have HH : Hid (WAt w2 base B (ys ++ [3]) 0 2) := HW2
  clear HW2
  go_wp2_with fail
  go_end0
  exact ⟨rfl, HH.out, (hb1.mono hB).trans hb2⟩
theorem sign_256 (base B : Nat) (ys : List Int) (w : World) (hys : ys.length ≤ 1000000) (H : WAt w base B ys 3 3) :
    Calls Try.prog 39 #[.pointer (some ⟨B, 0, none⟩), .int .i64 256] w fun e w' => e = .returned (.tuple #[]) ∧ WAt w' base B (ys ++ [3]) 0 2 ∧ Below B w w' := by
  have HW : Hid (WAt w base B ys 3 3) := H
  clear H
  go_enter Try.func39, Try.ntmps39
  go_wp2_with fail
  refine (code_0 base B ys w hys HW.out).mono ?_
  rintro e w2 ⟨rfl, HW2, hb2⟩
  have HH : Hid (WAt w2 base B (ys ++ [3]) 0 2) := HW2
  clear HW2
  go_wp2_with fail
  go_end0
  exact ⟨rfl, HH.out, hb2⟩
theorem bytes_2 (base B : Nat) (ys : List Int) (w : World) (hys : ys.length ≤ 1000000) (H : WAt w base B ys 0 2) :
    Calls Try.prog 43 #[.pointer (some ⟨B, 0, none⟩)] w fun e w' => ∃ a c, e = .returned (.slice a (ys.length + 1) c) ∧ Below B w w' := by
  have HW : Hid (WAt w base B ys 0 2) := H
  obtain ⟨v, hb, hown, h1, h2⟩ := H
  obtain ⟨c0, c1, c2, f0, f1, f2⟩ := cells3 hb
  clear hb hown
  go_enter Try.func43, Try.ntmps43
  go_wp2_with fail
  refine (number_4 base B ys w hys HW.out).mono ?_
  rintro e w2 ⟨rfl, HW2, hb2⟩
  clear c0 c1 c2 f0 f1 f2
  obtain ⟨v2, hc2, hown2, -, -⟩ := HW2
  obtain ⟨c0, c1, c2, f0, f1, f2⟩ := cells3 hc2
  obtain ⟨a, c, rfl, -, -, -⟩ := hown2.shape
  clear hc2 hown2
  go_wp2_with fail
  go_ret
  exact ⟨a, c, by simp, hb2⟩
end Go.Proofs.Ytaghilpcnoekeaa
