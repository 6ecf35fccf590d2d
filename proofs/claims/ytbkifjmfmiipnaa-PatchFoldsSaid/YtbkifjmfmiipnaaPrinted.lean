/- The program's print of one hunk: the walk. -/
import Derived.Test.YtbkifjmfmiipnaaNumsBe
namespace Go.Proofs.Ytbkifjmfmiipnaa
open Go.RowKit Plain
set_option linter.unusedVariables false
def partPr (fr to m k : Nat) : List Int := (be4 fr ++ be4 to ++ be4 m).take (4 * k)
theorem partPr_next (fr to m k x : Nat) (h : k < 3) (hx : (k = 0 ∧ x = fr) ∨ (k = 1 ∧ x = to) ∨ (k = 2 ∧ x = m)) : partPr fr to m k ++ be4 x = partPr fr to m (k + 1) := by
  rcases hx with ⟨rfl, rfl⟩ | ⟨rfl, rfl⟩ | ⟨rfl, rfl⟩ <;> simp [partPr, be4]
set_option maxRecDepth 100000 in
set_option maxHeartbeats 4000000 in
theorem printed_any (fr to : Nat) (a : Option Addr) (m c : Nat) (ys : List Int) (w : World) (hfr : fr ≤ 1000000) (hto : to ≤ 1000000) (hm : m ≤ 1000000) (hmc : m ≤ c) (hnil : a = none → c = 0) (H : Bytes w a m ys) :
    Calls Try.prog 22 #[.agg #[.int .i64 (fr : Int), .int .i64 (to : Int), .slice a m c]] w fun e w' => (∃ a' n' c', e = .returned (.slice a' n' c') ∧ Own w' w.heap.size (.slice a' n' c') n' (hkBytes ⟨fr, to, ys⟩)) ∧ Below w.heap.size w w' := by
  have HYB : Hid (Bytes w a m ys) := H
  have HN : Hid (a = none → c = 0) := hnil
  clear H hnil
  obtain ⟨i0, hi, hz0, hz1, hz2⟩ := info_parts u8info
  have k12 : IntKind.i64.wrap (12 + (m : Int)) = 12 + (m : Int) := by rw [IntKind.wrap_i64]; omega
  have HPR : Hid (partPr fr to m 3 ++ ys = hkBytes ⟨fr, to, ys⟩) := by
    show _ = _
    unfold hkBytes
    rw [HYB.out.1]
    rfl
  have HW0 : Hid (Below w.heap.size w (w.alloc (.cells #[.int .i64 (fr : Int), .int .i64 (to : Int), .slice a m c] 48))) := (Below.refl _ _).alloc (Nat.le_refl _) _
  have HS0 : Hid ((w.alloc (.cells #[.int .i64 (fr : Int), .int .i64 (to : Int), .slice a m c] 48)).heap.size = w.heap.size + 1) := World.size_alloc _ _
  have HC0 : Hid ((w.alloc (.cells #[.int .i64 (fr : Int), .int .i64 (to : Int), .slice a m c] 48)).heap[w.heap.size]? = some (.cells #[.int .i64 (fr : Int), .int .i64 (to : Int), .slice a m c] 48 (0, 0))) := heap_alloc_new _ _
  go_enter Try.func22, Try.ntmps22
  go_wp2_with (
    at_make
    refine wpList_make_own _ rfl _ _ 22 rfl (w.heap.size + 1) 5 i0 (.int .u8 0) 1 Try.underlying22 hi hz0 hz1 .i64 .i64 (12 + (m : Int)) (12 + m) rfl rfl (by omega) (by rw [hz2]; omega) (by unfold maxLen; omega) (by simp) ?_
    intro w1 ho hg
    rw [HS0.out] at ho
    have HO : Hid (Own w1 (w.heap.size + 1) (.slice (some ⟨w.heap.size + 1, 0, none⟩) 0 (12 + m)) 0 (partPr fr to m 0)) := ho
    have HB : Hid (Below (w.heap.size + 1) (w.alloc (.cells #[.int .i64 (fr : Int), .int .i64 (to : Int), .slice a m c] 48)) w1) := (Below.refl _ _).grown hg (by rw [HS0.out]; exact Nat.le_refl _) (fun k e => by cases e)
    clear ho hg
    have hbx := (HB.out.block w.heap.size (Nat.lt_succ_self _)).trans HC0.out
    have b0 : w1.cell? ⟨w.heap.size, 0, none⟩ = some (.int .i64 (fr : Int)) := (cell_of_row _ _ 0 _ _ hbx).trans rfl
    have b1 : w1.cell? ⟨w.heap.size, 1, none⟩ = some (.int .i64 (to : Int)) := (cell_of_row _ _ 1 _ _ hbx).trans rfl
    have b2 : w1.cell? ⟨w.heap.size, 2, none⟩ = some (.slice a m c) := (cell_of_row _ _ 2 _ _ hbx).trans rfl
    clear hbx)
  generalize w.alloc (.cells #[.int .i64 (fr : Int), .int .i64 (to : Int), .slice a m c] 48) = W0 at *
  have HBW : Hid (∀ W, Below (w.heap.size + 1) W0 W → Below w.heap.size w W) := fun W hW => HW0.out.trans ((show Below W0.heap.size W0 W from by rw [HS0.out]; exact hW).mono (by rw [HS0.out]; omega))
  go_loopw [3, 5, 19] (fun v _ i wr => ∃ (k nn c' : Nat) (a' : Option Addr), k ≤ 3 ∧ nn = 4 * k ∧ i = .int .i64 (k : Int) ∧ v = .slice a' nn c' ∧ Own wr (w.heap.size + 1) (.slice a' nn c') nn (partPr fr to m k) ∧ Below (w.heap.size + 1) W0 wr) (fun _ _ i _ => 3 - (intOf i).toNat)
  case atStart => exact ⟨0, 0, 12 + m, _, by omega, rfl, rfl, rfl, HO.out, HB.out⟩
  case round =>
    clear b0 b1 b2 HO HB
    obtain ⟨k, nn, c', a', hk, hnn, rfl, rfl, hown, hbel⟩ := hrel
    have HO : Hid (Own wr (w.heap.size + 1) (.slice a' nn c') nn (partPr fr to m k)) := hown
    have HB : Hid (Below (w.heap.size + 1) W0 wr) := hbel
    have HSZ : Hid (w.heap.size + 1 ≤ wr.heap.size) := by have := hbel.size; rw [HS0.out] at this; exact this
    have hbx := (hbel.block w.heap.size (Nat.lt_succ_self _)).trans HC0.out
    have b2 : wr.cell? ⟨w.heap.size, 2, none⟩ = some (.slice a m c) := (cell_of_row _ _ 2 _ _ hbx).trans rfl
    have HNN : Hid (nn = 4 * k) := hnn
    have hn12 : nn ≤ 12 := by omega
    clear hown hbel hbx hnn
    by_cases hlt : k < 3
    · obtain ⟨x, hx, hxl⟩ : ∃ x : Nat, ((k = 0 ∧ x = fr) ∨ (k = 1 ∧ x = to) ∨ (k = 2 ∧ x = m)) ∧ x ≤ 1000000 := by
        obtain rfl | rfl | rfl : k = 0 ∨ k = 1 ∨ k = 2 := by omega
        · exact ⟨fr, .inl ⟨rfl, rfl⟩, hfr⟩
        · exact ⟨to, .inr (.inl ⟨rfl, rfl⟩), hto⟩
        · exact ⟨m, .inr (.inr ⟨rfl, rfl⟩), hm⟩
      have HNX : Hid (partPr fr to m k ++ be4 x = partPr fr to m (k + 1)) := partPr_next fr to m k x hlt hx
      have wx : IntKind.u64.wrap (x : Int) = (x : Int) := by rw [IntKind.wrap_u64]; omega
      have ix : ∀ W, (Instr.index 55 (.agg #[.int .i64 (fr : Int), .int .i64 (to : Int), .int .i64 (m : Int)]) (.int .i64 (k : Int))).run Try.prog W = .ok (.int .i64 (x : Int)) W := fun W => by
        rcases hx with ⟨rfl, rfl⟩ | ⟨rfl, rfl⟩ | ⟨rfl, rfl⟩ <;> kernel_rfl
      have i3 : (k : Int) < 3 := by omega
      clear hx
      go_wp2_with fail
      refine (numsBe_any x (by omega) wr).mono ?_
      rintro e w2 ⟨⟨ba, bc, rfl, ob⟩, bb⟩
      have HBB : Hid (Bytes w2 ba 4 (be4 x)) := ob.bytes (be4_range x)
      have HBN : Hid (ba = none → bc = 0) := nil_of_own ob
      have HO2 : Hid (Own w2 (w.heap.size + 1) (.slice a' nn c') nn (partPr fr to m k)) := HO.out.below bb
      have HB2 : Hid (Below (w.heap.size + 1) W0 w2) := HB.out.trans (bb.mono HSZ.out)
      have HSZ2 : Hid (w.heap.size + 1 ≤ w2.heap.size) := Nat.le_trans HSZ.out bb.size
      clear ob bb
      go_wp2_with (
        at_builtin
        refine wpList_append_bytes rfl _ _ rfl (w.heap.size + 1) _ nn (partPr fr to m k) rfl HO2.out ba 4 bc (be4 x) rfl HBB.out HBN.out (by omega) HSZ2.out ?_
        intro v3 w3 hown3 hg3
        rw [HNX.out] at hown3
        have HO3 : Hid (Own w3 (w.heap.size + 1) v3 (nn + 4) (partPr fr to m (k + 1))) := hown3
        have HB3 : Hid (Below (w.heap.size + 1) W0 w3) := HB2.out.trans (HO2.out.kept HSZ2.out hg3)
        obtain ⟨a3, c3, rfl, -, -, -⟩ := hown3.shape
        clear hown3 hg3)
      exact ⟨⟨k + 1, nn + 4, c3, a3, by omega, by rw [HNN.out]; omega, by go_num, rfl, HO3.out, HB3.out⟩, by simp [intOf]; omega⟩
    · obtain rfl : k = 3 := by omega
      go_wp2_with (
        at_builtin
        refine wpList_append_bytes rfl _ _ rfl (w.heap.size + 1) _ nn (partPr fr to m 3) rfl HO.out a m c ys rfl (HYB.out.below (HBW.out wr HB.out)) HN.out (by omega) HSZ.out ?_
        intro v3 w3 hown3 hg3
        rw [HPR.out] at hown3
        have HO3 : Hid (Own w3 (w.heap.size + 1) v3 (nn + m) (hkBytes ⟨fr, to, ys⟩)) := hown3
        have HB3 : Hid (Below (w.heap.size + 1) W0 w3) := HB.out.trans (HO.out.kept HSZ.out hg3)
        obtain ⟨a3, c3, rfl, -, -, -⟩ := hown3.shape
        clear hown3 hg3)
      go_ret
      exact ⟨⟨_, _, _, rfl, HO3.out.lower (Nat.le_succ _)⟩, HBW.out _ HB3.out⟩
end Go.Proofs.Ytbkifjmfmiipnaa
