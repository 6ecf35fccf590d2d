/- A sum as text: the walk. -/
import Derived.Test.YtcbjadecocggjaaDoorBuild
import Derived.Test.YtcbjadecocggjaaDoorV8
namespace Go.Proofs.YtcbjadecocggjaaDoor
open Go.RowKit Plain
set_option linter.unusedVariables false
def hexD (n : Nat) : Nat := if n < 10 then 48 + n else 87 + n
/-- The digits of bytes. -/
def hexOf (ids : List Int) : List UInt8 := ids.flatMap fun x => [UInt8.ofNat (hexD (x.toNat / 16)), UInt8.ofNat (hexD (x.toNat % 16))]
def digitsL : List Nat := [48, 49, 50, 51, 52, 53, 54, 55, 56, 57, 97, 98, 99, 100, 101, 102]
theorem hexOf_length (ids : List Int) : (hexOf ids).length = 2 * ids.length := by
  induction ids with
  | nil => rfl
  | cons x t ih => simp [hexOf] at ih ⊢; omega
theorem hexOf_take (ids : List Int) (k : Nat) (h : k < ids.length) : hexOf (ids.take (k + 1)) = hexOf (ids.take k) ++ [UInt8.ofNat (hexD ((ids[k]?.getD 0).toNat / 16)), UInt8.ofNat (hexD ((ids[k]?.getD 0).toNat % 16))] := by
  unfold hexOf; rw [List.take_succ_eq_append_getElem h, List.flatMap_append, List.getElem?_eq_getElem h]; simp
def hexBytes : ByteArray := { data := #[48, 49, 50, 51, 52, 53, 54, 55, 56, 57, 97, 98, 99, 100, 101, 102] }
theorem hex_at : ∀ n : Nat, n < 16 → hexBytes.data.toList[n]? = some (UInt8.ofNat (hexD n)) := by decide
theorem byteCells_snoc (l : List UInt8) (x : Nat) (hx : x < 256) : Lib.byteCells (l ++ [UInt8.ofNat x]) = Lib.byteCells l ++ [.int .u8 (x : Int)] := by
  simp [Lib.byteCells]; omega

theorem index_20 (ids : List Int) (k : Nat) (hk : k < 20) (hl : ids.length = 20) (w : World) : (Instr.index 30 (.agg (V8 ids)) (.int .i64 (k : Int))).run Tryd.prog w = .ok (.int .u8 (ids[k]?.getD 0)) w := by
  have h1 := V8_get ids k (by omega)
  have h2 : (V8 ids).size = 20 := by rw [V8_size, hl]
  have hk' : (V8 ids)[k]'(by omega) = .int .u8 (ids[k]?.getD 0) := by
    rw [Array.getElem?_eq_getElem (by omega)] at h1; exact Option.some.inj h1
  simp [Instr.index, run_underlying Tryd.underlying30, asIntOf, go_sem, hk', h2, hk]
theorem two_blocks (w : World) (A B : Obj) : let W := (w.alloc A).alloc B
    W.heap[w.heap.size]? = some A ∧ W.heap[w.heap.size + 1]? = some B ∧ Below w.heap.size w W ∧ w.heap.size + 1 < W.heap.size := by
  refine ⟨?_, ?_, ((Below.refl _ _).alloc (Nat.le_refl _) _).alloc (by simp) _, by simp⟩
  · rw [Below.heap_alloc _ _ _ (by simp), heap_alloc_new]
  · simpa using heap_alloc_new (w.alloc A) B
theorem hex_val (n : Nat) (h : n < (ByteArray.mk #[48, 49, 50, 51, 52, 53, 54, 55, 56, 57, 97, 98, 99, 100, 101, 102]).size) : ((ByteArray.mk #[48, 49, 50, 51, 52, 53, 54, 55, 56, 57, 97, 98, 99, 100, 101, 102])[n]'h).toNat = hexD n := by
  have h' : n < 16 := h
  have key : ∀ m : Fin 16, ((ByteArray.mk #[48, 49, 50, 51, 52, 53, 54, 55, 56, 57, 97, 98, 99, 100, 101, 102])[m.val]'m.isLt).toNat = hexD m.val := by decide +kernel
  exact key ⟨n, h'⟩
theorem hexD_lt (n : Nat) (h : n < 16) : hexD n < 256 := by unfold hexD; split <;> omega
theorem and15 (x : Int) (h : 0 ≤ x ∧ x ≤ 255) : bits .and .u8 x 15 = x % 16 := by
  obtain ⟨n, rfl⟩ := Int.eq_ofNat_of_zero_le h.1
  have hn : n < 256 := by omega
  have key : ∀ m : Fin 256, bits .and .u8 (m.val : Int) 15 = (m.val : Int) % 16 := by decide +kernel
  exact key ⟨n, hn⟩
set_option maxRecDepth 100000 in
set_option maxHeartbeats 4000000 in
theorem hex_any (ids : List Int) (w : World) (h20 : ids.length = 20) (hb : ∀ x ∈ ids, 0 ≤ x ∧ x ≤ 255) :
    Calls Tryd.prog 22 #[.agg (V8 ids)] w fun e w' => e = .returned (.string ⟨(hexOf ids).toArray⟩) ∧ Below w.heap.size w w' := by
  have H20 : Hid (ids.length = 20) := h20
  have HB : Hid (∀ x ∈ ids, 0 ≤ x ∧ x ≤ 255) := hb
  have HSZ : Hid ((Tryd.prog.info? 30).map (·.size) = some (V8 ids).size) := by
    show (Tryd.prog.info? 30).map (·.size) = some (V8 ids).size
    rw [V8_size, h20]; kernel_rfl
  clear h20 hb
  obtain ⟨h0, h1, hbl, hsz⟩ := two_blocks w (.cells (V8 ids) 30) (.cells #[.pointer none, .slice none 0 0] 84)
  have HB1 : Hid (((w.alloc (.cells (V8 ids) 30)).alloc (.cells #[.pointer none, .slice none 0 0] 84)).heap[w.heap.size]? = some (.cells (V8 ids) 30 (0, 0))) := h0
  have HBU : Hid (Lib.IsBuilder 84 5 (w.heap.size + 1) (w.heap.size + 1) (Lib.byteCells (hexOf (ids.take 0))) ((w.alloc (.cells (V8 ids) 30)).alloc (.cells #[.pointer none, .slice none 0 0] 84))) :=
    .inl ⟨Nat.le_refl _, _, h1, World.ownsRow_nil _ _ _ _, by simp [Value.ownBlock]⟩
  have HBE : Hid (Below (w.heap.size) w ((w.alloc (.cells (V8 ids) 30)).alloc (.cells #[.pointer none, .slice none 0 0] 84))) := hbl
  have HS : Hid (w.heap.size + 1 < ((w.alloc (.cells (V8 ids) 30)).alloc (.cells #[.pointer none, .slice none 0 0] 84)).heap.size) := hsz
  clear h0 h1 hbl hsz
  go_enter Tryd.func22, Tryd.ntmps22
  go_wp2_with (refine wpList_load_row rfl 30 _ rfl w.heap.size rfl 30 (V8 ids) (0, 0) (.array 20 5) HB1.out Tryd.underlying30 rfl HSZ.out ?_)
  generalize ((w.alloc (.cells (V8 ids) 30)).alloc (.cells #[.pointer none, .slice none 0 0] 84)) = w1 at *
  go_loopw [7] (fun i wr => ∃ k : Nat, k ≤ 20 ∧ i = .int .i64 k ∧ Lib.IsBuilder 84 5 (w.heap.size + 1) (w.heap.size + 1) (Lib.byteCells (hexOf (ids.take k))) wr ∧ Below (w.heap.size + 1) w1 wr) (fun i _ => 20 - (intOf i).toNat)
  case atStart => exact ⟨0, by omega, rfl, HBU.out, Below.refl _ _⟩
  case round =>
    obtain ⟨k, hk, rfl, hbu, hbl⟩ := hrel
    have HU : Hid (Lib.IsBuilder 84 5 (w.heap.size + 1) (w.heap.size + 1) (Lib.byteCells (hexOf (ids.take k))) wr) := hbu
    have HL : Hid (Below (w.heap.size + 1) w1 wr) := hbl
    clear hbu hbl
    by_cases hlt : k < 20
    · have hv := index_20 ids k hlt H20.out wr
      have hx : 0 ≤ ids[k]?.getD 0 ∧ ids[k]?.getD 0 ≤ 255 := by
        have hk' : k < ids.length := by rw [H20.out]; omega
        rw [List.getElem?_eq_getElem hk']; exact HB.out _ (List.getElem_mem hk')
      have HT : Hid (hexOf (ids.take (k + 1)) = hexOf (ids.take k) ++ [UInt8.ofNat (hexD ((ids[k]?.getD 0).toNat / 16)), UInt8.ofNat (hexD ((ids[k]?.getD 0).toNat % 16))]) := hexOf_take ids k (by rw [H20.out]; omega)
      generalize ids[k]?.getD 0 = x at *
      have HX : Hid (0 ≤ x ∧ x ≤ 255) := hx
      have HN : Hid (w.heap.size + 1 ≤ wr.heap.size) := by
        have h1 := HS.out; have h2 := HL.out.size
        show _ ≤ _
        omega
      have HLE : Hid ((hexOf (ids.take k)).length ≤ 40) := by show _ ≤ _; rw [hexOf_length, List.length_take]; omega
      go_wp2_with fail
      refine (writeByte_any (w.heap.size + 1) (w.heap.size + 1) (Lib.byteCells (hexOf (ids.take k))) _ _ HU.out (by have := HLE.out; simp [Lib.byteCells_length]; omega) HN.out).mono ?_
      rintro e w2 ⟨rfl, hb2, hl2⟩
      rw [hex_val, ← byteCells_snoc _ _ (hexD_lt _ (by omega))] at hb2
      have HU2 : Hid (Lib.IsBuilder 84 5 (w.heap.size + 1) (w.heap.size + 1) (Lib.byteCells (hexOf (ids.take k) ++ [UInt8.ofNat (hexD (x / 16).toNat)])) w2) := .inr hb2
      have HL2 : Hid (Below (w.heap.size + 1) wr w2) := hl2
      have ha := and15 x hx
      clear hb2 hl2 hv
      go_wp2_with fail
      refine (writeByte_any (w.heap.size + 1) (w.heap.size + 1) _ _ _ HU2.out (by have := HLE.out; simp [Lib.byteCells_length]; omega) (by have h1 := HN.out; have h2 := HL2.out.size; omega)).mono ?_
      rintro e w3 ⟨rfl, hb3, hl3⟩
      rw [hex_val, ← byteCells_snoc _ _ (hexD_lt _ (by omega))] at hb3
      have HU3 : Hid (Lib.IsBuilder 84 5 (w.heap.size + 1) (w.heap.size + 1) (Lib.byteCells (hexOf (ids.take (k + 1)))) w3) := by
        show Lib.IsBuilder _ _ _ _ _ _
        rw [HT.out]
        rw [List.append_assoc] at hb3
        have e1 : (x / 16).toNat = x.toNat / 16 := by omega
        have e2 : (x % 16).toNat = x.toNat % 16 := by omega
        rw [e1, e2] at hb3
        exact .inr hb3
      have HL3 : Hid (Below (w.heap.size + 1) wr w3) := HL2.out.trans hl3
      clear hb3 hl3 ha
      go_wp2_with fail
      go_roundw
      case rel => exact ⟨k + 1, by omega, by go_num, HU3.out, HL.out.trans HL3.out⟩
      case measure => simp [intOf]; omega
    · obtain rfl : k = 20 := by omega
      have HN : Hid (w.heap.size + 1 ≤ wr.heap.size) := by
        have h1 := HS.out; have h2 := HL.out.size
        show _ ≤ _
        omega
      have hall : ids.take 20 = ids := List.take_of_length_le (by rw [H20.out]; omega)
      rw [hall] at HU
      clear hall hlt hk
      go_wp2_with fail
      refine (Tryd.Builder_String_any (w.heap.size + 1) (w.heap.size + 1) (hexOf ids) wr HU.out HN.out).mono ?_
      rintro e w2 ⟨rfl, hl2⟩
      go_wp2_with fail
      go_ret
      exact ⟨rfl, HBE.out.trans ((HL.out.trans hl2).mono (by omega))⟩
end Go.Proofs.YtcbjadecocggjaaDoor
