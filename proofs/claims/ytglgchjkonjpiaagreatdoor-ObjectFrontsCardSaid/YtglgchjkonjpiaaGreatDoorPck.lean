/- The writer of bits, at the calls that packing no bytes makes. -/
import Derived.Test.YtglgchjkonjpiaaGreatDoorBase
import Derived.RegionTactic
import Derived.BigRegion
import Derived.Deep.RegionHeld3
import Derived.Deep.RegionLaw
import Derived.WalkSpells
import Derived.LoopN
import Derived.Outline
import Derived.Maps.Own
/-! The writer of bits, at the calls that packing no bytes makes. -/
namespace Go.Proofs.YtglgchjkonjpiaaGreatDoor
open Go.RowKit
set_option linter.unusedVariables false

/-- The writer lies in block B: what it has gathered, from block 'base' on its own; the bits that it holds; how many. -/
def WAt (w : World) (base B : Nat) (ys : List Int) (h n : Int) : Prop :=
  ∃ v, w.heap[B]? = some (.cells #[v, .int .u64 h, .int .i64 n] 110 (0, 0)) ∧ Own w base v ys.length ys ∧ B < base ∧ base ≤ w.heap.size
theorem cells3 {w : World} {B : Nat} {a b c : Value} {t : TypeId} (h : w.heap[B]? = some (.cells #[a, b, c] t (0, 0))) :
    w.cell? ⟨B, 0, none⟩ = some a ∧ w.cell? ⟨B, 1, none⟩ = some b ∧ w.cell? ⟨B, 2, none⟩ = some c ∧ w.frozen? ⟨B, 0, none⟩ = false ∧ w.frozen? ⟨B, 1, none⟩ = false ∧ w.frozen? ⟨B, 2, none⟩ = false := by
  refine ⟨?_, ?_, ?_, ?_, ?_, ?_⟩ <;> simp [World.cell?, World.frozen?, h]
theorem WAt.set12 {w : World} {base B : Nat} {ys : List Int} {h n : Int} (H : WAt w base B ys h n) (h' n' : Int) :
    WAt ((w.setCell ⟨B, 1, none⟩ (.int .u64 h')).setCell ⟨B, 2, none⟩ (.int .i64 n')) base B ys h' n' := by
  obtain ⟨v, hb, hown, h1, h2⟩ := H
  have hlt := hb
  refine ⟨v, ?_, ?_, h1, by simpa [World.setCell] using h2⟩
  · rw [heap_setCell_same _ B 2 _ 110 _ (heap_setCell_same w B 1 _ 110 _ hb)]
    rfl
  · refine Own.far hown ?_
    intro g hg
    rw [Below.heap_setCell _ _ _ _ (by show g ≠ B; omega), Below.heap_setCell _ _ _ _ (by show g ≠ B; omega)]
theorem WAt.put {w : World} {base B : Nat} {v v1 : Value} {m : Nat} {zs : List Int} {h n : Int} (hb : w.heap[B]? = some (.cells #[v, .int .u64 h, .int .i64 n] 110 (0, 0))) (hown : Own w base v1 m zs) (hm : m = zs.length) (h1 : B < base) (h2 : base ≤ w.heap.size) :
    WAt (w.setCell ⟨B, 0, none⟩ v1) base B zs h n := by
  subst hm
  refine ⟨v1, ?_, Own.far hown fun g hg => Below.heap_setCell _ _ _ _ (by show g ≠ B; omega), h1, by simpa [World.setCell] using h2⟩
  rw [heap_setCell_same _ B 0 _ 110 _ hb]
  rfl
theorem WAt.drew {w : World} {base B : Nat} {ys : List Int} {h n : Int} (H : WAt w base B ys h n) : WAt w.drew base B ys h n := H
set_option maxHeartbeats 1000000 in
theorem number_1 (base B : Nat) (ys : List Int) (w : World) (H : WAt w base B ys 0 0) :
    Calls Tryz.prog 72 #[.pointer (some ⟨B, 0, none⟩), .int .i64 1, .int .i64 1] w fun e w' => e = .returned (.tuple #[]) ∧ WAt w' base B ys 1 1 ∧ Below B w w' := by
  have HW : Hid (WAt w base B ys 0 0) := H
  obtain ⟨v, hb, hown, h1, h2⟩ := H
  obtain ⟨c0, c1, c2, f0, f1, f2⟩ := cells3 hb
  clear hb hown
  go_enter Tryz.func72, Tryz.ntmps72
  go_wp2_with fail
  go_region
  go_wp2_with fail
  refine wp_loop_rounds 1 ?_
  rw [rounds_succ]
  go_wp2_with fail
  go_end0
  exact ⟨rfl, (HW.out.set12 _ _).drew, (((Below.refl B w).setCell (Nat.le_refl _) _).setCell (Nat.le_refl _) _).drew⟩
set_option maxHeartbeats 1000000 in
theorem number_2 (base B : Nat) (ys : List Int) (w : World) (H : WAt w base B ys 1 1) :
    Calls Tryz.prog 72 #[.pointer (some ⟨B, 0, none⟩), .int .i64 1, .int .i64 2] w fun e w' => e = .returned (.tuple #[]) ∧ WAt w' base B ys 3 3 ∧ Below B w w' := by
  have HW : Hid (WAt w base B ys 1 1) := H
  obtain ⟨v, hb, hown, h1, h2⟩ := H
  obtain ⟨c0, c1, c2, f0, f1, f2⟩ := cells3 hb
  clear hb hown
  go_enter Tryz.func72, Tryz.ntmps72
  go_wp2_with fail
  go_region
  go_wp2_with fail
  refine wp_loop_rounds 1 ?_
  rw [rounds_succ]
  go_wp2_with fail
  go_end0
  exact ⟨rfl, (HW.out.set12 _ _).drew, (((Below.refl B w).setCell (Nat.le_refl _) _).setCell (Nat.le_refl _) _).drew⟩
set_option maxHeartbeats 2000000 in
theorem number_3 (base B : Nat) (ys : List Int) (w : World) (hys : ys.length ≤ 1000000) (H : WAt w base B ys 3 3) :
    Calls Tryz.prog 72 #[.pointer (some ⟨B, 0, none⟩), .int .i64 0, .int .i64 7] w fun e w' => e = .returned (.tuple #[]) ∧ WAt w' base B (ys ++ [3]) 0 2 ∧ Below B w w' := by
  have HW : Hid (WAt w base B ys 3 3) := H
  obtain ⟨v, hb, hown, h1, h2⟩ := H
  obtain ⟨c0, c1, c2, f0, f1, f2⟩ := cells3 hb
  clear hb hown
  go_enter Tryz.func72, Tryz.ntmps72
  go_wp2_with fail
  go_region
  go_wp2_with fail
  clear c0 c1 c2 f0 f1 f2
  have H1 : Hid (WAt ((w.setCell ⟨B, 1, none⟩ (.int .u64 (bits .or .u64 3 0))).setCell ⟨B, 2, none⟩ (.int .i64 10)).drew base B ys 3 10) := (HW.out.set12 _ _).drew
  have hb1 : Below B w ((w.setCell ⟨B, 1, none⟩ (.int .u64 (bits .or .u64 3 0))).setCell ⟨B, 2, none⟩ (.int .i64 10)).drew := (((Below.refl B w).setCell (Nat.le_refl _) _).setCell (Nat.le_refl _) _).drew
  generalize ((w.setCell ⟨B, 1, none⟩ (.int .u64 (bits .or .u64 3 0))).setCell ⟨B, 2, none⟩ (.int .i64 10)).drew = wa at *
  clear h1 h2 HW v
  obtain ⟨v, hb, hown, h1, h2⟩ := H1.out
  obtain ⟨c0, c1, c2, f0, f1, f2⟩ := cells3 hb
  have HO : Hid (Own wa base v ys.length ys) := hown
  have HBB : Hid (wa.heap[B]? = some (.cells #[v, .int .u64 3, .int .i64 10] 110 (0, 0))) := hb
  clear hb hown
  have hlt : B < wa.heap.size := by omega
  refine wp_loop_rounds 2 ?_
  rw [rounds_succ]
  go_wp2_with fail
  go_region_law (refine step_append_bytes rfl _ _ (by rfl) base _ ys.length ys (by rfl) (HO.out.below (by repeat (first | exact (Below.refl _ _).alloc (Nat.le_refl _) _ | refine Below.drew ?_))) _ 1 1 [_] (by rfl) ((Bytes.lit wa _ rfl [_] 5 (0, 0) 1 rfl (by omega) (by intro x hx; rw [List.mem_singleton.1 hx]; exact bounds_u8 (wf_wrap .u8 _))).below ((Below.refl _ _).drew)) (fun e => by cases e) (by omega) (by simp; omega) ?_; intro v1 w1 hown1 hg1; have hk1 := (HO.out.below (((Below.refl _ _).alloc (Nat.le_refl _) _).drew)).kept (by simp; omega) hg1; have hb2 := (hk1.block B h1).trans ((Below.heap_alloc wa _ B (by omega)).trans HBB.out); obtain ⟨d0, d1, d2, e0, e1, e2⟩ := cells3 hb2; obtain ⟨av, cv, rfl, hcv, hnv, hcw⟩ := hown1.shape)
  all_goals
    have H3 : Hid (WAt (w1.setCell ⟨B, 0, none⟩ (.slice av (ys.length + 1) cv)) base B (ys ++ [IntKind.u8.wrap 3]) 3 10) := WAt.put hb2 hown1 (by simp) h1 (by have := hk1.size; simp at this; omega)
    have hb3 : Below B w (w1.setCell ⟨B, 0, none⟩ (.slice av (ys.length + 1) cv)) := (hb1.trans (((Below.refl B wa).alloc (by omega) _).drew.trans (hk1.mono (by omega)))).setCell (Nat.le_refl _) _
    clear d0 d1 d2 e0 e1 e2 c0 c1 c2 f0 f1 f2 hk1 hg1 hb2 hown1 H1
    generalize w1.setCell ⟨B, 0, none⟩ (.slice av (ys.length + 1) cv) = wc at *
    obtain ⟨v3, hc3, hown3, -, hz3⟩ := H3.out
    obtain ⟨c0, c1, c2, f0, f1, f2⟩ := cells3 hc3
    clear hc3 hown3
    go_wp2_with fail
    rw [rounds_succ]
    go_wp2_with fail
    go_end0
    exact ⟨rfl, H3.out.set12 _ _, (hb3.setCell (Nat.le_refl _) _).setCell (Nat.le_refl _) _⟩
set_option maxHeartbeats 2000000 in
theorem number_4 (base B : Nat) (ys : List Int) (w : World) (hys : ys.length ≤ 1000000) (H : WAt w base B ys 0 2) :
    Calls Tryz.prog 72 #[.pointer (some ⟨B, 0, none⟩), .int .i64 0, .int .i64 6] w fun e w' => e = .returned (.tuple #[]) ∧ WAt w' base B (ys ++ [0]) 0 0 ∧ Below B w w' := by
  have HW : Hid (WAt w base B ys 0 2) := H
  obtain ⟨v, hb, hown, h1, h2⟩ := H
  obtain ⟨c0, c1, c2, f0, f1, f2⟩ := cells3 hb
  clear hb hown
  go_enter Tryz.func72, Tryz.ntmps72
  go_wp2_with fail
  go_region
  go_wp2_with fail
  clear c0 c1 c2 f0 f1 f2
  have H1 : Hid (WAt ((w.setCell ⟨B, 1, none⟩ (.int .u64 (bits .or .u64 0 0))).setCell ⟨B, 2, none⟩ (.int .i64 8)).drew base B ys 0 8) := (HW.out.set12 _ _).drew
  have hb1 : Below B w ((w.setCell ⟨B, 1, none⟩ (.int .u64 (bits .or .u64 0 0))).setCell ⟨B, 2, none⟩ (.int .i64 8)).drew := (((Below.refl B w).setCell (Nat.le_refl _) _).setCell (Nat.le_refl _) _).drew
  generalize ((w.setCell ⟨B, 1, none⟩ (.int .u64 (bits .or .u64 0 0))).setCell ⟨B, 2, none⟩ (.int .i64 8)).drew = wa at *
  clear h1 h2 HW v
  obtain ⟨v, hb, hown, h1, h2⟩ := H1.out
  obtain ⟨c0, c1, c2, f0, f1, f2⟩ := cells3 hb
  have HO : Hid (Own wa base v ys.length ys) := hown
  have HBB : Hid (wa.heap[B]? = some (.cells #[v, .int .u64 0, .int .i64 8] 110 (0, 0))) := hb
  clear hb hown
  have hlt : B < wa.heap.size := by omega
  refine wp_loop_rounds 2 ?_
  rw [rounds_succ]
  go_wp2_with fail
  go_region_law (refine step_append_bytes rfl _ _ (by rfl) base _ ys.length ys (by rfl) (HO.out.below (by repeat (first | exact (Below.refl _ _).alloc (Nat.le_refl _) _ | refine Below.drew ?_))) _ 1 1 [_] (by rfl) ((Bytes.lit wa _ rfl [_] 5 (0, 0) 1 rfl (by omega) (by intro x hx; rw [List.mem_singleton.1 hx]; exact bounds_u8 (wf_wrap .u8 _))).below ((Below.refl _ _).drew)) (fun e => by cases e) (by omega) (by simp; omega) ?_; intro v1 w1 hown1 hg1; have hk1 := (HO.out.below (((Below.refl _ _).alloc (Nat.le_refl _) _).drew)).kept (by simp; omega) hg1; have hb2 := (hk1.block B h1).trans ((Below.heap_alloc wa _ B (by omega)).trans HBB.out); obtain ⟨d0, d1, d2, e0, e1, e2⟩ := cells3 hb2; obtain ⟨av, cv, rfl, hcv, hnv, hcw⟩ := hown1.shape)
  all_goals
    have H3 : Hid (WAt (w1.setCell ⟨B, 0, none⟩ (.slice av (ys.length + 1) cv)) base B (ys ++ [IntKind.u8.wrap 0]) 0 8) := WAt.put hb2 hown1 (by simp) h1 (by have := hk1.size; simp at this; omega)
    have hb3 : Below B w (w1.setCell ⟨B, 0, none⟩ (.slice av (ys.length + 1) cv)) := (hb1.trans (((Below.refl B wa).alloc (by omega) _).drew.trans (hk1.mono (by omega)))).setCell (Nat.le_refl _) _
    clear d0 d1 d2 e0 e1 e2 c0 c1 c2 f0 f1 f2 hk1 hg1 hb2 hown1 H1
    generalize w1.setCell ⟨B, 0, none⟩ (.slice av (ys.length + 1) cv) = wc at *
    obtain ⟨v3, hc3, hown3, -, hz3⟩ := H3.out
    obtain ⟨c0, c1, c2, f0, f1, f2⟩ := cells3 hc3
    clear hc3 hown3
    go_wp2_with fail
    rw [rounds_succ]
    go_wp2_with fail
    go_end0
    exact ⟨rfl, H3.out.set12 _ _, (hb3.setCell (Nat.le_refl _) _).setCell (Nat.le_refl _) _⟩
theorem WAt.below {w w' : World} {base B : Nat} {ys : List Int} {h n : Int} (H : WAt w base B ys h n) (hb : Below w.heap.size w w') : WAt w' base B ys h n := by
  obtain ⟨v, hc, hown, h1, h2⟩ := H
  exact ⟨v, (hb.block B (by omega)).trans hc, hown.below hb, h1, Nat.le_trans h2 hb.size⟩
set_option maxRecDepth 100000 in
set_option maxHeartbeats 1000000 in
theorem reverse_0 (w : World) : Calls Tryz.prog 125 #[.int .u16 0] w fun e w' => e = .returned (.int .u16 0) ∧ Below w.heap.size w w' := by
  have e0 : bits BinOp.and IntKind.u16 0 255 = 0 := by decide
  have e1 : bits BinOp.or IntKind.u16 0 0 = 0 := by decide
  go_enter Tryz.func125, Tryz.ntmps125
  go_wp2_with fail
  go_region
  go_wp2_with fail
  go_ret
  exact ⟨rfl, (Below.refl _ _).drew⟩
theorem code_0 (base B : Nat) (ys : List Int) (w : World) (hys : ys.length ≤ 1000000) (H : WAt w base B ys 3 3) :
    Calls Tryz.prog 103 #[.pointer (some ⟨B, 0, none⟩), .int .i64 0, .int .i64 7] w fun e w' => e = .returned (.tuple #[]) ∧ WAt w' base B (ys ++ [3]) 0 2 ∧ Below B w w' := by
  have hB : B ≤ w.heap.size := by obtain ⟨-, -, -, h1, h2⟩ := H; omega
  have HW : Hid (WAt w base B ys 3 3) := H
  clear H
  go_enter Tryz.func103, Tryz.ntmps103
  go_wp2_with fail
  refine (reverse_0 w).mono ?_
  rintro e w1 ⟨rfl, hb1⟩
  go_wp2_with fail
  refine (number_3 base B ys w1 hys (HW.out.below hb1)).mono ?_
  rintro e w2 ⟨rfl, HW2, hb2⟩
  have HH : Hid (WAt w2 base B (ys ++ [3]) 0 2) := HW2
  clear HW2
  go_wp2_with fail
  go_end0
  exact ⟨rfl, HH.out, (hb1.mono hB).trans hb2⟩
theorem sign_256 (base B : Nat) (ys : List Int) (w : World) (hys : ys.length ≤ 1000000) (H : WAt w base B ys 3 3) :
    Calls Tryz.prog 75 #[.pointer (some ⟨B, 0, none⟩), .int .i64 256] w fun e w' => e = .returned (.tuple #[]) ∧ WAt w' base B (ys ++ [3]) 0 2 ∧ Below B w w' := by
  have HW : Hid (WAt w base B ys 3 3) := H
  clear H
  go_enter Tryz.func75, Tryz.ntmps75
  go_wp2_with fail
  refine (code_0 base B ys w hys HW.out).mono ?_
  rintro e w2 ⟨rfl, HW2, hb2⟩
  have HH : Hid (WAt w2 base B (ys ++ [3]) 0 2) := HW2
  clear HW2
  go_wp2_with fail
  go_end0
  exact ⟨rfl, HH.out, hb2⟩
theorem bytes_2 (base B : Nat) (ys : List Int) (w : World) (hys : ys.length ≤ 1000000) (H : WAt w base B ys 0 2) :
    Calls Tryz.prog 79 #[.pointer (some ⟨B, 0, none⟩)] w fun e w' => ∃ a c, e = .returned (.slice a (ys.length + 1) c) ∧ Below B w w' := by
  have HW : Hid (WAt w base B ys 0 2) := H
  obtain ⟨v, hb, hown, h1, h2⟩ := H
  obtain ⟨c0, c1, c2, f0, f1, f2⟩ := cells3 hb
  clear hb hown
  go_enter Tryz.func79, Tryz.ntmps79
  go_wp2_with fail
  refine (number_4 base B ys w hys HW.out).mono ?_
  rintro e w2 ⟨rfl, HW2, hb2⟩
  clear c0 c1 c2 f0 f1 f2
  obtain ⟨v2, hc2, hown2, -, -⟩ := HW2
  obtain ⟨c0, c1, c2, f0, f1, f2⟩ := cells3 hc2
  obtain ⟨a, c, rfl, -, -, -⟩ := hown2.shape
  clear hc2 hown2
  go_wp2_with fail
  go_ret
  exact ⟨a, c, by simp, hb2⟩
end Go.Proofs.YtglgchjkonjpiaaGreatDoor
/-! Packing no bytes; bytes in blocks of their own. -/
namespace Go.Proofs.YtglgchjkonjpiaaGreatDoor
open Go.RowKit
set_option linter.unusedVariables false

theorem newMemory_any (w : World) : Calls Tryz.prog 73 #[] w fun e w' => (∃ b, e = .returned (.agg #[.map (some b)])) ∧ Below w.heap.size w w' := by
  have hmm := @run_makeMap Tryz.prog
  go_enter Tryz.func73, Tryz.ntmps73
  go_wp2_with fail
  exact bodyPost_ret (v := .agg #[.map (some (w.heap.size + 1))]) (by simp [results, Tryz.results73, go_sem]) rfl ⟨⟨_, rfl⟩, ((Below.refl _ _).alloc (Nat.le_refl _) _).alloc (by simp) _⟩
theorem storedSize_0 (w : World) : Calls Tryz.prog 48 #[.int .i64 0] w fun e w' => e = .returned (.int .i64 5) ∧ w = w' := by
  go_enter Tryz.func48, Tryz.ntmps48
  go_wp2_with fail
  go_ret
  exact ⟨rfl, rfl⟩
theorem WAt.new (w : World) : WAt (w.alloc (.cells #[.slice none 0 0, .int .u64 0, .int .i64 0] 110)) (w.heap.size + 1) w.heap.size [] 0 0 :=
  ⟨.slice none 0 0, by show (w.heap.push _)[w.heap.size]? = _; simp, ⟨rfl, .inl ⟨rfl, rfl⟩⟩, by omega, by simp⟩
set_option maxHeartbeats 1000000 in
theorem fixed_nil (w : World) : Calls Tryz.prog 47 #[.slice none 0 0] w fun e w' => (∃ a c, e = .returned (.slice a 2 c)) ∧ Below w.heap.size w w' := by
  go_enter Tryz.func47, Tryz.ntmps47
  go_wp2_with fail
  have hb0 : Below w.heap.size w (w.alloc (.cells #[.slice none 0 0, .int .u64 0, .int .i64 0] 110)) := (Below.refl _ _).alloc (Nat.le_refl _) _
  refine (number_1 (w.heap.size + 1) w.heap.size [] _ (WAt.new w)).mono ?_
  rintro e w1 ⟨rfl, H1, hb1⟩
  have K1 : Hid (WAt w1 (w.heap.size + 1) w.heap.size [] 1 1) := H1
  clear H1
  go_wp2_with fail
  refine (number_2 (w.heap.size + 1) w.heap.size [] _ K1.out).mono ?_
  rintro e w2 ⟨rfl, H2, hb2⟩
  have K2 : Hid (WAt w2 (w.heap.size + 1) w.heap.size [] 3 3) := H2
  have hs2 : w.heap.size + 1 ≤ w2.heap.size := by obtain ⟨-, -, -, -, h⟩ := H2; exact h
  clear H2
  go_wp2_with fail
  refine (newMemory_any w2).mono ?_
  rintro e w3 ⟨⟨b, rfl⟩, hb3⟩
  have K3 : Hid (WAt w3 (w.heap.size + 1) w.heap.size [] 3 3) := K2.out.below hb3
  have hs3 := hb3.size
  go_wp2_with fail
  refine wp_loop_rounds 1 ?_
  rw [rounds_succ]
  go_wp2_with fail
  refine (sign_256 (w.heap.size + 1) w.heap.size [] _ (by simp) (K3.out.below ((Below.refl _ _).alloc (Nat.le_refl _) _))).mono ?_
  rintro e w4 ⟨rfl, H4, hb4⟩
  have K4 : Hid (WAt w4 (w.heap.size + 1) w.heap.size [3] 0 2) := H4
  clear H4
  go_wp2_with fail
  refine (bytes_2 (w.heap.size + 1) w.heap.size [3] _ (by simp) K4.out).mono ?_
  rintro e w5 ⟨a, c, rfl, hb5⟩
  go_wp2_with fail
  go_ret
  refine ⟨⟨a, c, rfl⟩, ?_⟩
  exact ((((hb0.trans hb1).trans hb2).trans (hb3.mono (by omega))).alloc (by omega) _).trans (hb4.trans hb5)
theorem raw_nil (w : World) : Calls Tryz.prog 24 #[.slice none 0 0] w fun e w' => (∃ a c, e = .returned (.slice a 2 c)) ∧ Below w.heap.size w w' := by
  go_enter Tryz.func24, Tryz.ntmps24
  go_wp2_with fail
  refine (fixed_nil w).mono ?_
  rintro e w1 ⟨⟨a, c, rfl⟩, hb1⟩
  go_wp2_with fail
  refine (storedSize_0 w1).mono ?_
  rintro e w2 ⟨rfl, rfl⟩
  go_wp2_with fail
  go_ret
  exact ⟨⟨a, c, rfl⟩, hb1⟩

/-! ### Bytes in blocks of their own -/
theorem five_range (a b c d e : Int) (ha : 0 ≤ a ∧ a ≤ 255) (hb : 0 ≤ b ∧ b ≤ 255) (hc : 0 ≤ c ∧ c ≤ 255) (hd : 0 ≤ d ∧ d ≤ 255) (he : 0 ≤ e ∧ e ≤ 255) : ∀ x ∈ [a, b, c, d, e], 0 ≤ x ∧ x ≤ 255 := by
  intro x hx
  simp only [List.mem_cons, List.not_mem_nil, or_false] at hx
  rcases hx with rfl | rfl | rfl | rfl | rfl <;> assumption
/-- The five bytes ahead of a block. -/
def hdr (last n : Int) : List Int := [last, n % 256, n / 256, bits .xor .u16 (if IntKind.u16.signed = true then -1 else IntKind.u16.max) n % 256, bits .xor .u16 (if IntKind.u16.signed = true then -1 else IntKind.u16.max) n / 256 % 256]
theorem hdr_range (last n : Int) (h0 : 0 ≤ last ∧ last ≤ 255) (hn : 0 ≤ n ∧ n ≤ 65535) : ∀ x ∈ hdr last n, 0 ≤ x ∧ x ≤ 255 :=
  five_range _ _ _ _ _ h0 (by omega) (by omega) (by omega) (by omega)
/-- How many bytes block k has. -/
def part (len k : Nat) : Nat := min len ((k + 1) * 65535) - k * 65535
/-- The first k blocks of m. -/
def cont (xs : List Int) (m : Nat) : Nat → List Int
  | 0 => []
  | k + 1 => cont xs m k ++ hdr (if k + 1 = m then 1 else 0) (part xs.length k) ++ (xs.drop (k * 65535)).take (part xs.length k)
theorem cont_length (xs : List Int) (m : Nat) : ∀ k : Nat, (∀ j, j < k → j * 65535 ≤ xs.length) → (cont xs m k).length = min xs.length (k * 65535) + 5 * k := by
  intro k
  induction k with
  | zero => intro _; simp [cont]
  | succ k ih =>
    intro h
    have h1 := ih (fun j hj => h j (by omega))
    have h2 := h k (by omega)
    simp only [cont, List.length_append, h1, List.length_take, List.length_drop]
    have h3 : (hdr (if k + 1 = m then 1 else 0) (part xs.length k)).length = 5 := rfl
    rw [h3]
    unfold part
    omega
set_option maxRecDepth 100000 in
set_option maxHeartbeats 4000000 in
theorem stored_zero (a : Option Addr) (cap : Nat) (w : World) (hnil : a = none → cap = 0) :
    Calls Tryz.prog 49 #[.slice a 0 cap] w fun e w' => (∃ a' c, e = .returned (.slice a' 5 c) ∧ Bytes w' a' 5 (hdr 1 0) ∧ 5 ≤ c ∧ (a' = none → c = 0) ∧ c ≤ 9223372036854775807) ∧ Below w.heap.size w w' := by
  obtain ⟨i0, hi, hz0, hz1, hz2⟩ := info_parts u8info
  cases a
  · obtain rfl : cap = 0 := hnil rfl
    go_enter Tryz.func49, Tryz.ntmps49
    go_wp2_with (at_make; go_loud (refine wpList_make_own _ rfl _ _ 22 rfl w.heap.size 5 i0 (.int .u8 0) 1 Tryz.underlying22 hi hz0 hz1 .i64 .i64 _ 5 rfl rfl rfl (by rw [hz2]; omega) (by unfold maxLen; omega) (Nat.le_refl _) ?_); intro w1 hown1 hg1)
    have O1 : Hid (Own w1 w.heap.size (.slice (some ⟨w.heap.size, 0, none⟩) 0 5) 0 []) := hown1
    have hb1 : Below w.heap.size w w1 := (Below.refl _ w).grown hg1 (Nat.le_refl _) (fun k h => by cases h)
    have hsz := hb1.size
    clear hown1 hg1 hi hz0 hz1 hz2
    have tok1 : True := trivial
    refine wp_loop_rounds 2 ?_
    rw [rounds_succ]
    go_wp2_with (first
      | (at_builtin; have _t := tok1; refine wpList_append_bytes rfl _ _ rfl w.heap.size _ _ [] rfl (O1.out.below ((Below.refl _ _).alloc (Nat.le_refl _) _)) _ 5 5 _ rfl (Bytes.lit w1 _ rfl (hdr 1 0) 5 (0, 0) 5 rfl (by omega) (hdr_range _ _ (by omega) (by omega))) (fun e => by cases e) (by omega) (by simp; omega) ?_; intro v2 w2 hown2 hg2; have hk2 := ((Below.refl w.heap.size w1).alloc hsz _).trans ((O1.out.below ((Below.refl _ _).alloc (Nat.le_refl _) _)).kept (by simp; omega) hg2); clear tok1)
      | (at_builtin; go_loud (refine wpList_append_bytes rfl _ _ rfl w.heap.size _ _ _ rfl hown2 _ 0 _ [] rfl ⟨rfl, by omega, by simp, .inl rfl⟩ (fun _ => rfl) (by omega) (by have := hk2.size; omega) ?_); intro v3 w3 hown3 hg3))
    have hk3 := hown2.kept (by have := hk2.size; omega) hg3
    obtain ⟨a3, c3, rfl, hs3⟩ := hown3.shape
    have HS3 : Hid (5 ≤ c3 ∧ (a3 = none → c3 = 0) ∧ c3 ≤ 9223372036854775807) := hs3
    clear hs3
    have hbb : Hid (Bytes w3 a3 5 (hdr 1 0)) := hown3.bytes (fun j => by
      by_cases hj : j < (hdr 1 0).length
      · show 0 ≤ (hdr 1 0)[j]?.getD 0 ∧ (hdr 1 0)[j]?.getD 0 ≤ 255
        rw [List.getElem?_eq_getElem hj]
        exact hdr_range 1 0 (by omega) (by omega) _ (List.getElem_mem hj)
      · show 0 ≤ (hdr 1 0)[j]?.getD 0 ∧ (hdr 1 0)[j]?.getD 0 ≤ 255
        rw [List.getElem?_eq_none (by omega)]; simp)
    clear hown3
    rw [rounds_succ]
    go_wp2_with fail
    go_ret
    exact ⟨⟨a3, c3, rfl, hbb.out, HS3.out⟩, (hb1.trans hk2).trans hk3⟩
  · go_enter Tryz.func49, Tryz.ntmps49
    go_wp2_with (at_make; go_loud (refine wpList_make_own _ rfl _ _ 22 rfl w.heap.size 5 i0 (.int .u8 0) 1 Tryz.underlying22 hi hz0 hz1 .i64 .i64 _ 5 rfl rfl rfl (by rw [hz2]; omega) (by unfold maxLen; omega) (Nat.le_refl _) ?_); intro w1 hown1 hg1)
    have O1 : Hid (Own w1 w.heap.size (.slice (some ⟨w.heap.size, 0, none⟩) 0 5) 0 []) := hown1
    have hb1 : Below w.heap.size w w1 := (Below.refl _ w).grown hg1 (Nat.le_refl _) (fun k h => by cases h)
    have hsz := hb1.size
    clear hown1 hg1 hi hz0 hz1 hz2
    have tok1 : True := trivial
    refine wp_loop_rounds 2 ?_
    rw [rounds_succ]
    go_wp2_with (first
      | (at_builtin; have _t := tok1; refine wpList_append_bytes rfl _ _ rfl w.heap.size _ _ [] rfl (O1.out.below ((Below.refl _ _).alloc (Nat.le_refl _) _)) _ 5 5 _ rfl (Bytes.lit w1 _ rfl (hdr 1 0) 5 (0, 0) 5 rfl (by omega) (hdr_range _ _ (by omega) (by omega))) (fun e => by cases e) (by omega) (by simp; omega) ?_; intro v2 w2 hown2 hg2; have hk2 := ((Below.refl w.heap.size w1).alloc hsz _).trans ((O1.out.below ((Below.refl _ _).alloc (Nat.le_refl _) _)).kept (by simp; omega) hg2); clear tok1)
      | (at_builtin; go_loud (refine wpList_append_bytes rfl _ _ rfl w.heap.size _ _ _ rfl hown2 _ 0 _ [] rfl ⟨rfl, by omega, by simp, .inl rfl⟩ (fun e => by cases e) (by omega) (by have := hk2.size; omega) ?_); intro v3 w3 hown3 hg3))
    have hk3 := hown2.kept (by have := hk2.size; omega) hg3
    obtain ⟨a3, c3, rfl, hs3⟩ := hown3.shape
    have HS3 : Hid (5 ≤ c3 ∧ (a3 = none → c3 = 0) ∧ c3 ≤ 9223372036854775807) := hs3
    clear hs3
    have hbb : Hid (Bytes w3 a3 5 (hdr 1 0)) := hown3.bytes (fun j => by
      by_cases hj : j < (hdr 1 0).length
      · show 0 ≤ (hdr 1 0)[j]?.getD 0 ∧ (hdr 1 0)[j]?.getD 0 ≤ 255
        rw [List.getElem?_eq_getElem hj]
        exact hdr_range 1 0 (by omega) (by omega) _ (List.getElem_mem hj)
      · show 0 ≤ (hdr 1 0)[j]?.getD 0 ∧ (hdr 1 0)[j]?.getD 0 ≤ 255
        rw [List.getElem?_eq_none (by omega)]; simp)
    clear hown3
    rw [rounds_succ]
    go_wp2_with fail
    go_ret
    exact ⟨⟨a3, c3, rfl, hbb.out, HS3.out⟩, (hb1.trans hk2).trans hk3⟩
set_option maxRecDepth 100000 in
set_option maxHeartbeats 4000000 in
theorem stored_some (a : Option Addr) (len cap : Nat) (xs : List Int) (w : World) (hl0 : 0 < len) (hlc : len ≤ cap) (hl : len ≤ 1000000) (hcm : cap ≤ 9223372036854775807) (hnil : a = none → cap = 0) (H : Bytes w a len xs) (m : Nat) (em : max 1 (((len : Int) + 65535 - 1) / 65535) = (m : Int)) :
    Calls Tryz.prog 49 #[.slice a len cap] w fun e w' => (∃ a' c, e = .returned (.slice a' (len + 5 * m) c) ∧ Bytes w' a' (len + 5 * m) (cont xs m m) ∧ len + 5 * m ≤ c ∧ (a' = none → c = 0) ∧ c ≤ 9223372036854775807) ∧ Below w.heap.size w w' := by
  obtain ⟨i0, hi, hz0, hz1, hz2⟩ := info_parts u8info
  have hm : m ≤ 17 := by omega
  have HB : Hid (Bytes w a len xs) := H
  have HN : Hid (a = none → cap = 0) := hnil
  have hmax : ∀ W : World, Sem.run Tryz.prog (Builtin.max_ #[3, 3] 3 #[.int .i64 1, .int .i64 (((len : Int) + 65535 - 1) / 65535)]) W = .ok (.int .i64 (m : Int)) W := fun W => by
    rw [run_max2, em]
  have EM : Hid (max 1 (((len : Int) + 65535 - 1) / 65535) = (m : Int)) := em
  clear H em hnil
  have hmm : 1 ≤ m ∧ (len : Int) ≤ 65535 * m ∧ (65535 * ((m : Int) - 1) < len ∨ m = 1) := by have := EM.out; omega
  have hxl : Hid (xs.length = len) := HB.out.1
  go_enter Tryz.func49, Tryz.ntmps49
  go_wp2_with (at_make; go_loud (refine wpList_make_own _ rfl _ _ 22 rfl w.heap.size 5 i0 (.int .u8 0) 1 Tryz.underlying22 hi hz0 hz1 .i64 .i64 _ (len + 5 * m) rfl rfl (by omega) (by rw [hz2]; omega) (by unfold maxLen; omega) (Nat.le_refl _) ?_); intro w1 hown1 hg1)
  have O1 : Hid (Own w1 w.heap.size (.slice (some ⟨w.heap.size, 0, none⟩) 0 (len + 5 * m)) 0 []) := hown1
  have hb1 : Below w.heap.size w w1 := (Below.refl _ w).grown hg1 (Nat.le_refl _) (fun k h => by cases h)
  clear hown1 hg1 hi hz0 hz1 hz2 hmax
  have hstart : ∀ j, j < m → j * 65535 ≤ len := by omega
  have HL : Hid (∀ k, k ≤ m → (cont xs m k).length = min len (k * 65535) + 5 * k) := fun k hk => by rw [cont_length xs m k (fun j hj => by rw [hxl.out]; exact hstart j (by omega)), hxl.out]
  have HCS : Hid (∀ k, cont xs m (k + 1) = cont xs m k ++ hdr (if k + 1 = m then 1 else 0) (part len k) ++ (xs.drop (k * 65535)).take (part len k)) := fun k => by rw [← hxl.out]; rfl
  have HRange : Hid (∀ k, k ≤ m → ∀ j : Nat, 0 ≤ (cont xs m k)[j]?.getD 0 ∧ (cont xs m k)[j]?.getD 0 ≤ 255) := by
    intro k
    induction k with
    | zero => intro _ j; simp [cont]
    | succ k ih =>
      intro hk j
      rw [HCS.out]
      refine range_append (range_append (ih (by omega)) fun j => ?_) (fun j => ?_) j
      · by_cases hj : j < (hdr (if k + 1 = m then 1 else 0) (part len k)).length
        · rw [List.getElem?_eq_getElem hj]
          exact hdr_range _ _ (by split <;> omega) (by unfold part; omega) _ (List.getElem_mem hj)
        · rw [List.getElem?_eq_none (by omega)]; simp
      · by_cases hj : j < part len k
        · rw [List.getElem?_take_of_lt hj, List.getElem?_drop]; exact HB.out.2.2.1 _
        · rw [List.getElem?_eq_none (by simp; omega)]; simp
  clear hstart
  generalize hcont : cont xs m = C at *
  have HCC : Hid (C = cont xs m) := hcont.symm
  clear hcont
  go_loopw [4, 22] (fun u i wr => ∃ (k : Nat) (acc : Value), k ≤ m ∧ i = .int .i64 k ∧ acc = u ∧ Own wr w.heap.size acc (C k).length (C k) ∧ Below w.heap.size w wr) (fun _ i _ => m - (intOf i).toNat)
  case atStart =>
    have h0 := HL.out 0 (by omega)
    have e0 : C 0 = [] := List.eq_nil_of_length_eq_zero (by simpa using h0)
    exact ⟨0, _, by omega, rfl, rfl, by rw [e0]; exact O1.out, hb1⟩
  case round =>
    obtain ⟨k, acc, hk, rfl, rfl, hown, hbel⟩ := hrel
    have HO : Hid (Own wr w.heap.size acc (C k).length (C k)) := hown
    have hys : (C k).length ≤ 2000000 := by have := HL.out k hk; omega
    have hsz := hbel.size
    clear hown
    by_cases hlt : k < m
    · have h0 : ¬ len = 0 := by omega
      obtain ⟨b, off, rfl, hc⟩ : ∃ b off, a = some ⟨b, off, none⟩ ∧ ∀ j, j < len → w.cell? ⟨b, off + j, none⟩ = some (.int .u8 (xs[j]?.getD 0)) := by
        rcases HB.out.2.2.2 with h | h
        · exact absurd h h0
        · exact h
      have hpos : k * 65535 < len := by omega
      clear hc
      by_cases hA : (k + 1) * 65535 < len
      · have f1 : ((k : Int) + 1) * 65535 < (len : Int) := by omega
        have f2 : ((k : Int) == (m : Int) - 1) = false := by rw [beq_eq_false_iff_ne]; omega
        have f3 : (k : Int) * 65535 ≤ ((k : Int) + 1) * 65535 := by omega
        have f4 : ((k : Int) + 1) * 65535 ≤ (cap : Int) := by omega
        have f5 : ¬ k * 65535 = cap := by omega
        have HS : Hid (C (k + 1) = C k ++ hdr 0 (((k + 1) * 65535 - k * 65535 : Nat) : Int) ++ (xs.drop (k * 65535)).take ((k + 1) * 65535 - k * 65535)) := by
          have := HCS.out k
          rw [if_neg (by omega)] at this
          rw [this, show part len k = (k + 1) * 65535 - k * 65535 by unfold part; omega]
          exact rfl
        have tok1 : True := trivial
        go_wp2_with (first
          | (at_builtin; have _t := tok1; refine wpList_append_bytes rfl _ _ rfl w.heap.size _ _ (C k) rfl (HO.out.below ((Below.refl _ _).alloc (Nat.le_refl _) _)) _ 5 5 _ rfl (Bytes.lit wr _ rfl (hdr 0 (((k + 1) * 65535 - k * 65535 : Nat) : Int)) 5 (0, 0) 5 rfl (by omega) (hdr_range _ _ (by omega) (by omega))) (fun e => by cases e) (by omega) (by simp; omega) ?_; intro v2 w2 hown2 hg2; have hk2 := ((Below.refl w.heap.size wr).alloc hsz _).trans ((HO.out.below ((Below.refl _ _).alloc (Nat.le_refl _) _)).kept (by simp; omega) hg2); clear tok1)
          | (at_builtin; go_loud (refine wpList_append_bytes rfl _ _ rfl w.heap.size _ _ _ rfl hown2 _ _ _ _ rfl ((HB.out.below (hbel.trans hk2)).sub (k * 65535) ((k + 1) * 65535 - k * 65535) (by omega)) (fun e => by cases e) (by omega) (by have := hk2.size; omega) ?_); intro v3 w3 hown3 hg3))
        have hk3 := hown2.kept (by have := hk2.size; omega) hg3
        have own3 := hown3.cast HS.out.symm
        go_roundw
        case rel => exact ⟨k + 1, v3, by omega, by go_num, rfl, own3, (hbel.trans hk2).trans hk3⟩
        case measure => simp [intOf]; omega
      · have f1 : ¬ ((k : Int) + 1) * 65535 < (len : Int) := by omega
        have f2 : ((k : Int) == (m : Int) - 1) = true := by rw [beq_iff_eq]; omega
        have f3 : (k : Int) * 65535 ≤ (len : Int) := by omega
        have f4 : (len : Int) ≤ (cap : Int) := by omega
        have f5 : ¬ k * 65535 = cap := by omega
        have HS : Hid (C (k + 1) = C k ++ hdr 1 ((len - k * 65535 : Nat) : Int) ++ (xs.drop (k * 65535)).take (len - k * 65535)) := by
          have := HCS.out k
          rw [if_pos (by omega)] at this
          rw [this, show part len k = len - k * 65535 by unfold part; omega]
          exact rfl
        have tok1 : True := trivial
        go_wp2_with (first
          | (at_builtin; have _t := tok1; refine wpList_append_bytes rfl _ _ rfl w.heap.size _ _ (C k) rfl (HO.out.below ((Below.refl _ _).alloc (Nat.le_refl _) _)) _ 5 5 _ rfl (Bytes.lit wr _ rfl (hdr 1 ((len - k * 65535 : Nat) : Int)) 5 (0, 0) 5 rfl (by omega) (hdr_range _ _ (by omega) (by omega))) (fun e => by cases e) (by omega) (by simp; omega) ?_; intro v2 w2 hown2 hg2; have hk2 := ((Below.refl w.heap.size wr).alloc hsz _).trans ((HO.out.below ((Below.refl _ _).alloc (Nat.le_refl _) _)).kept (by simp; omega) hg2); clear tok1)
          | (at_builtin; go_loud (refine wpList_append_bytes rfl _ _ rfl w.heap.size _ _ _ rfl hown2 _ _ _ _ rfl ((HB.out.below (hbel.trans hk2)).sub (k * 65535) (len - k * 65535) (by omega)) (fun e => by cases e) (by omega) (by have := hk2.size; omega) ?_); intro v3 w3 hown3 hg3))
        have hk3 := hown2.kept (by have := hk2.size; omega) hg3
        have own3 := hown3.cast HS.out.symm
        go_roundw
        case rel => exact ⟨k + 1, v3, by omega, by go_num, rfl, own3, (hbel.trans hk2).trans hk3⟩
        case measure => simp [intOf]; omega
    · obtain rfl : k = m := by omega
      obtain ⟨a3, c3, rfl, hc3, hn3, hw3⟩ := HO.out.shape
      have hbb := HO.out.bytes (HRange.out k (by omega))
      have hll := HL.out k (by omega)
      have HF : Hid ((C k).length = len + 5 * k) := by unfold Hid; omega
      clear hll
      go_wp2_with fail
      go_ret
      rw [HF.out] at hbb ⊢
      exact ⟨⟨a3, c3, rfl, by rw [← HCC.out]; exact hbb, by have := hc3; rw [HF.out] at this; exact this, hn3, hw3⟩, hbel⟩
end Go.Proofs.YtglgchjkonjpiaaGreatDoor
