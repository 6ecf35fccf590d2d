/- The document's text of a sum: the walk. -/
import Derived.Test.YtindmggmblmmcaaGreatDoorChBase
import Derived.StillTailTactics
import Derived.StillTactics
import Derived.Deep.RegionHeld3
import Derived.Deep.AppendLies
import Derived.Deep.RegionWith
namespace Go.Proofs.YtindmggmblmmcaaGreatDoor
open Go.RowKit Plain
set_option linter.unusedVariables false
theorem ret_u8 {a b : Int} (h : a = b) : Ending.returned (.int .u8 a) = .returned (.int .u8 b) := by rw [h]
theorem digit_any (n : Int) (w : World) (h : 0 ≤ n ∧ n < 16) : Calls Tryz.prog 65 #[.int .i64 n] w fun e w' => e = .returned (.int .u8 (hexD n.toNat : Nat)) ∧ w = w' := by
  obtain ⟨m, rfl⟩ := Int.eq_ofNat_of_zero_le h.1
  by_cases h10 : m < 10
  · have f : (m : Int) < 10 := by omega
    go_enter Tryz.func65, Tryz.ntmps65
    go_wp2
    go_ret
    exact ⟨ret_u8 (by simp [hexD, h10]), rfl⟩
  · have f : ¬ (m : Int) < 10 := by omega
    go_enter Tryz.func65, Tryz.ntmps65
    go_wp2
    go_ret
    exact ⟨ret_u8 (by simp [hexD, h10]), rfl⟩
theorem hexN_take (ids : List Int) (k : Nat) (h : k < ids.length) : hexN (ids.take (k + 1)) = hexN (ids.take k) ++ [(hexD ((ids[k]?.getD 0).toNat / 16) : Int), (hexD ((ids[k]?.getD 0).toNat % 16) : Int)] := by
  unfold hexN; rw [List.take_succ_eq_append_getElem h, List.flatMap_append, List.getElem?_eq_getElem h]; simp
set_option maxRecDepth 100000 in
set_option maxHeartbeats 1000000 in
theorem refHex_any (ids : List Int) (w : World) (h20 : ids.length = 20) (hb : ∀ x ∈ ids, 0 ≤ x ∧ x ≤ 255) :
    Calls Tryz.prog 39 #[.agg (V8 ids)] w fun e w' => e = .returned (.string (strOfNums (hexN ids))) ∧ Below w.heap.size w w' := by
  have H20 : Hid (ids.length = 20) := h20
  have HB : Hid (∀ x ∈ ids, 0 ≤ x ∧ x ≤ 255) := hb
  have HX0 : Hid ((w.alloc (.cells (V8 ids) 22)).heap[w.heap.size]? = some (.cells (V8 ids) 22 (0, 0))) := heap_alloc_new w _
  have HBX : Hid (Below w.heap.size w (w.alloc (.cells (V8 ids) 22))) := (Below.refl _ _).alloc (Nat.le_refl _) _
  have HSZ : Hid ((w.alloc (.cells (V8 ids) 22)).heap.size = w.heap.size + 1) := by show _ = _; simp
  clear h20 hb
  go_enter Tryz.func39, Tryz.ntmps39
  go_wp2_with fail
  generalize (w.alloc (.cells (V8 ids) 22)) = w0 at *
  go_loopw [3, 4] (fun v i wr => ∃ k : Nat, k ≤ 20 ∧ i = .int .i64 k ∧ Own wr (w.heap.size + 1) v (2 * k) (hexN (ids.take k)) ∧ Below (w.heap.size + 1) w0 wr) (fun _ i _ => 20 - (intOf i).toNat)
  case atStart => exact ⟨0, by omega, rfl, World.ownsRow_nil _ _ _ _, Below.refl _ _⟩
  case round =>
    obtain ⟨k, hk, rfl, hown, hbel⟩ := hrel
    have HO : Hid (Own wr (w.heap.size + 1) u3 (2 * k) (hexN (ids.take k))) := hown
    have HBE : Hid (Below (w.heap.size + 1) w0 wr) := hbel
    have HXR : Hid (wr.heap[w.heap.size]? = some (.cells (V8 ids) 22 (0, 0))) := (hbel.block _ (by omega)).trans HX0.out
    clear hown hbel
    by_cases hlt : k < 20
    · have hk' : k < ids.length := by rw [H20.out]; exact hlt
      have hx : 0 ≤ ids[k]?.getD 0 ∧ ids[k]?.getD 0 ≤ 255 := by
        rw [List.getElem?_eq_getElem hk']; exact HB.out _ (List.getElem_mem hk')
      have HT : Hid (hexN (ids.take (k + 1)) = hexN (ids.take k) ++ [(hexD ((ids[k]?.getD 0).toNat / 16) : Int), (hexD ((ids[k]?.getD 0).toNat % 16) : Int)]) := hexN_take ids k hk'
      have hc : wr.cell? ⟨w.heap.size, k, none⟩ = some (.int .u8 (ids[k]?.getD 0)) := by rw [cell_of_row wr _ _ _ _ _ HXR.out, V8_get ids k hk']
      generalize ids[k]?.getD 0 = x at *
      have hlt' : (k : Int) < 20 := by omega
      have e1 : (x / 16).toNat = x.toNat / 16 := by omega
      have e2 : (x % 16).toNat = x.toNat % 16 := by omega
      have HE1 : Hid ((x / 16).toNat = x.toNat / 16) := e1
      have HE2 : Hid ((x % 16).toNat = x.toNat % 16) := e2
      clear e1 e2
      have m1 : IntKind.i64.wrap x = x := IntWalk.i64_in _ (by omega)
      have m2 : IntKind.i64.wrap (x.tdiv 16) = x / 16 := by rw [Int.tdiv_eq_ediv_of_nonneg hx.1]; exact IntWalk.i64_in _ (by omega)
      have m3 : IntKind.i64.wrap (x.tmod 16) = x % 16 := by rw [Int.tmod_eq_emod_of_nonneg hx.1]; exact IntWalk.i64_in _ (by omega)
      have m4 : x.tmod 16 = x % 16 := Int.tmod_eq_emod_of_nonneg hx.1
      have hd1 := hexD_le (x / 16).toNat (by omega)
      have hd2 := hexD_le (x % 16).toNat (by omega)
      have HD : Hid (∀ y ∈ [(hexD (x / 16).toNat : Int), (hexD (x % 16).toNat : Int)], 0 ≤ y ∧ y ≤ 255) := by
        intro y hy
        simp only [List.mem_cons, List.not_mem_nil, or_false] at hy
        rcases hy with rfl | rfl <;> omega
      have hdx1 : 0 ≤ x / 16 ∧ x / 16 < 16 := by omega
      have hdx2 : 0 ≤ x % 16 ∧ x % 16 < 16 := by omega
      have HN : Hid (w.heap.size + 1 ≤ wr.heap.size) := by have := HBE.out.size; have := HSZ.out; show _ ≤ _; omega
      have lx : w.heap.size < w.heap.size + 1 := by omega
      clear hd1 hd2
      go_wp2_with fail
      go_region_held3 (fun w' => w'.cell? ⟨w.heap.size, k, none⟩ = some (.int .u8 x))
        (first | go_keep | (rw [hk1.cell lx]; assumption))
        (first
          | (go_at_call 65; refine (digit_any _ _ (by omega)).mono ?_; rintro e w' ⟨rfl, rfl⟩)
          | (refine step_append_bytes rfl _ _ (by rfl) (w.heap.size + 1) _ (2 * k) _ (by rfl) (HO.out.below (((Below.refl _ _).alloc (Nat.le_refl _) _).drew)) _ 2 2 [(hexD (x / 16).toNat : Int), (hexD (x % 16).toNat : Int)] (by rfl) ((Bytes.lit wr _ rfl [(hexD (x / 16).toNat : Int), (hexD (x % 16).toNat : Int)] 5 (0, 0) 2 rfl (by omega) HD.out).below ((Below.refl _ _).drew)) (fun e => by cases e) (by omega) (by have := HN.out; simp; omega) ?_; intro v1 w1 hown1 hg1; have hk1 := (HO.out.below (((Below.refl _ _).alloc (Nat.le_refl _) _).drew)).kept (by have := HN.out; simp; omega) hg1))
      go_wp2_with fail
      go_roundw
      case rel => exact ⟨k + 1, by omega, by go_num, by rw [HT.out, show 2 * (k + 1) = 2 * k + 2 by omega, ← HE1.out, ← HE2.out]; exact hown1, HBE.out.trans ((((Below.refl _ _).alloc HN.out _).drew).trans hk1)⟩
      case measure => simp [intOf]; omega
    · obtain rfl : k = 20 := by omega
      have hall : ids.take 20 = ids := List.take_of_length_le (by rw [H20.out]; omega)
      rw [hall] at HO
      obtain ⟨a3, c3, rfl, hc3, hn3, -⟩ := HO.out.shape
      have hm := hexN_mem ids HB.out
      have hbz : ∀ j : Nat, 0 ≤ (hexN ids)[j]?.getD 0 ∧ (hexN ids)[j]?.getD 0 ≤ 255 := fun j => by
        rcases hj : (hexN ids)[j]? with _ | y
        · simp
        · have := hm y (List.mem_of_getElem? hj); simp; omega
      have ht := text_run wr a3 (2 * 20) c3 _ (HO.out.bytes hbz)
      clear hall hlt hk hm hbz
      go_wp2_with fail
      go_ret
      exact ⟨rfl, HBX.out.trans (HBE.out.mono (by omega))⟩
end Go.Proofs.YtindmggmblmmcaaGreatDoor
