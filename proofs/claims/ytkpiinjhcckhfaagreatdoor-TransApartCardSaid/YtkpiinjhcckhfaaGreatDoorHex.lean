/- Arrays of bytes. -/
import Derived.Test.YtkpiinjhcckhfaaGreatDoorBytes
import Derived.BigQuiet
import Derived.Deep.QuietTactic
import Derived.Deep.RegionWith
import Derived.StillTailTactics
import Derived.WalkSmall
import Derived.IntWalk
import Derived.Laws.Tables
import Derived.Laws.CopyOwn
import Derived.Lib.Hide
import Derived.Test.YtkpiinjhcckhfaaGreatDoorShelf
import Derived.ChangeKeysEq
import Derived.Laws.ResultCell
/-! Arrays of bytes. -/
namespace Go.Proofs.YtkpiinjhcckhfaaGreatDoor
open Go.RowKit
set_option linter.unusedVariables false
def V8 (bs : List Int) : Array Value := (U8 bs).toArray
theorem V8_size (bs : List Int) : (V8 bs).size = bs.length := by simp [V8, U8]
theorem V8_get (bs : List Int) (k : Nat) (h : k < bs.length) : (V8 bs)[k]? = some (.int .u8 (bs[k]?.getD 0)) := by
  simp [V8, U8, h]
theorem V8_list (bs : List Int) : (V8 bs).toList = U8 bs := by simp [V8]
theorem V8_one (bs : List Int) : (V8 bs).all (·.oneCell') = true := by
  rw [Array.all_eq_true_iff_forall_mem]; intro v hv; exact U8_one bs v (by rw [← V8_list]; simpa using hv)
namespace Plain
end Plain
end Go.Proofs.YtkpiinjhcckhfaaGreatDoor
/-! A builder of strings: a byte more. -/
namespace Go.Proofs.YtkpiinjhcckhfaaGreatDoor
open Go.RowKit Go.Shelf
set_option linter.unusedVariables false
theorem sizeBuilder : (Tryz.prog.info? 95).map (·.size) = some 2 := by kernel_rfl
theorem liesBuilder : liesAt Tryz.prog Tryz.prog.depth 95 (2 / Tryz.prog.cellsOf 95) 0 95 1 = true := by kernel_rfl
set_option maxHeartbeats 1000000 in
set_option maxRecDepth 100000 in
theorem check_used (b : Nat) (w : World) (h0 : w.cell? ⟨b, 0, none⟩ = some (.pointer (some ⟨b, 0, none⟩))) :
    Calls Tryz.prog 77 #[.pointer (some ⟨b, 0, none⟩)] w fun e w' => e = .returned (.tuple #[]) ∧ w' = w := by
  obtain ⟨j, hj, _⟩ := Option.map_eq_some_iff.1 sizeBuilder
  go_enter Tryz.func77, Tryz.ntmps77
  go_wp2
  rw [Lib.run_neq_ptr_same w _ Tryz.underlying93 hj]
  go_wp2
  go_end0
  exact ⟨rfl, rfl⟩
set_option maxHeartbeats 1000000 in
set_option maxRecDepth 100000 in
theorem check_fresh (b : Nat) (w : World) (h0 : w.cell? ⟨b, 0, none⟩ = some (.pointer none)) (hsh : w.shape? b = some (95, 2)) (hfz : w.frozen? ⟨b, 0, none⟩ = false) :
    Calls Tryz.prog 77 #[.pointer (some ⟨b, 0, none⟩)] w fun e w' => e = .returned (.tuple #[]) ∧ w' = w.setCell ⟨b, 0, none⟩ (.pointer (some ⟨b, 0, none⟩)) := by
  obtain ⟨j, hj, hjs⟩ := Option.map_eq_some_iff.1 sizeBuilder
  go_enter Tryz.func77, Tryz.ntmps77
  go_wp2
  rw [Lib.run_to_unsafe w ⟨b, 0, none⟩ Tryz.underlying93 Tryz.underlying143 hj (by rw [hjs]; decide) hsh (Nat.zero_lt_succ 1)]
  simp only [Result.andThen]
  rw [Oper.upon_value]
  go_wp2
  rw [run_callFunc_extern Tryz.func98 (by kernel_rfl) (by kernel_rfl) (by kernel_rfl) (e := Extern.AbiNoEscape.same) (by kernel_rfl)]
  rw [Lib.run_noEscape]
  simp only [Result.andThen]
  rw [Oper.upon_value]
  go_wp2
  rw [Lib.run_from_unsafe w ⟨b, 0, none⟩ Tryz.underlying143 Tryz.underlying93 hj hsh liesBuilder]
  simp only [Result.andThen]
  rw [Oper.upon_value]
  go_wp2
  go_end0
  exact ⟨rfl, rfl⟩
theorem check_any (B b : Nat) (bs : List Value) (w : World) (h : Lib.IsBuilder 95 5 B b bs w) :
    Calls Tryz.prog 77 #[.pointer (some ⟨b, 0, none⟩)] w fun e w' => e = .returned (.tuple #[]) ∧ (Lib.BuilderAt 95 5 B b (.pointer (some ⟨b, 0, none⟩)) bs w' ∧ Below B w w') := by
  rcases h with h | h
  · refine (check_fresh b w h.cell0 h.shape h.frozen0).mono ?_
    rintro e w' ⟨rfl, rfl⟩
    exact ⟨rfl, h.used _, (Below.refl B w).setCell (p := ⟨b, 0, none⟩) h.1 _⟩
  · refine (check_used b w h.cell0).mono ?_
    rintro e w' ⟨rfl, rfl⟩
    exact ⟨rfl, h, Below.refl B _⟩
set_option maxHeartbeats 2000000 in
set_option maxRecDepth 100000 in
theorem writeByte_any (B b : Nat) (bs : List Value) (c : Int) (w : World) (h : Lib.IsBuilder 95 5 B b bs w) (hlen : bs.length + 1 ≤ 140737488355328) (hBw : B ≤ w.heap.size) :
    Calls Tryz.prog 75 #[.pointer (some ⟨b, 0, none⟩), .int .u8 c] w fun e w' => e = .returned .nilIface ∧ (Lib.BuilderAt 95 5 B b (.pointer (some ⟨b, 0, none⟩)) (bs ++ [.int .u8 c]) w' ∧ Below B w w') := by
  obtain ⟨i0, hi, hz0, hz1, hz2⟩ := info_parts u8info
  go_enter Tryz.func75, Tryz.ntmps75
  go_wp2_with (go_at_call 77; refine (check_any B b bs _ h).mono ?_)
  rintro e w1 ⟨rfl, h1, hb1⟩
  obtain ⟨hB, v, hbk, hown, hne⟩ := h1
  have c0 : w1.cell? ⟨b, 0, none⟩ = some (.pointer (some ⟨b, 0, none⟩)) := by rw [Lib.cell_of_heap hbk]; rfl
  have c1 : w1.cell? ⟨b, 1, none⟩ = some v := by rw [Lib.cell_of_heap hbk]; rfl
  go_wp2_with (at_builtin; refine wpList_append_own _ rfl _ _ 71 rfl B 5 i0 (.int .u8 0) 1 1 Tryz.underlying71 hi hz0 hz1 hz2 rfl (by decide) _ _ _ rfl (hown.alloc _) ⟨w1.heap.size, 0, none⟩ 1 1 [.int .u8 c] rfl rfl ?c1 ?c2 ?c3 ?c4 ?c5 ?_)
  case c1 =>
    intro j u hj
    match j, hj with
    | 0, hj => simp at hj; subst hj; simp [Addr.add]
  case c2 => intro u hu; simp at hu; subst hu; rfl
  case c3 => unfold maxLen; omega
  case c4 => omega
  case c5 => have := hb1.size; simp; omega
  intro v' w2 hown' hgrow _
  have hlt : b < w1.heap.size := by
    rcases Nat.lt_or_ge b w1.heap.size with h' | h'
    · exact h'
    · simp [Array.getElem?_eq_none h'] at hbk
  have hb2 : w2.heap[b]? = some (.cells #[.pointer (some ⟨b, 0, none⟩), v] 95 (0, 0)) := by
    rw [hgrow.block b (by simp; omega) (fun e => hne e.symm), Lib.alloc_old w1 _ b hlt]
    exact hbk
  have d0 : w2.cell? ⟨b, 0, none⟩ = some (.pointer (some ⟨b, 0, none⟩)) := by rw [Lib.cell_of_heap hb2]; rfl
  have d1 : w2.cell? ⟨b, 1, none⟩ = some v := by rw [Lib.cell_of_heap hb2]; rfl
  have f1 : w2.frozen? ⟨b, 1, none⟩ = false := Lib.frozen_of_heap hb2 1
  obtain ⟨g, cap, rfl⟩ : ∃ g cap, v' = .slice (some ⟨g, 0, none⟩) (bs.length + 1) cap := by
    rcases hown'.2 with ⟨_, h0⟩ | ⟨g, cap, cur, hv, _⟩
    · omega
    · exact ⟨g, cap, hv⟩
  go_wp2
  go_ret
  refine ⟨rfl, ?_, ?_⟩
  · exact Lib.BuilderAt.put (T := 95) (e := 5) hB hb2 (bs' := bs ++ [.int .u8 c]) (by simpa using hown') (by decide)
  · exact ((hb1.alloc (by have := hb1.size; omega) _).grown hgrow (by have := hb1.size; simp; omega) (fun k hk => (hown.lt k hk).1)).setCell (p := ⟨b, 1, none⟩) hB _
end Go.Proofs.YtkpiinjhcckhfaaGreatDoor
/-! A sum as text: the walk. -/
namespace Go.Proofs.YtkpiinjhcckhfaaGreatDoor
open Go.RowKit Plain
set_option linter.unusedVariables false
def hexD (n : Nat) : Nat := if n < 10 then 48 + n else 87 + n
/-- The digits of bytes. -/
def hexOf (ids : List Int) : List UInt8 := ids.flatMap fun x => [UInt8.ofNat (hexD (x.toNat / 16)), UInt8.ofNat (hexD (x.toNat % 16))]
theorem hexOf_length (ids : List Int) : (hexOf ids).length = 2 * ids.length := by
  induction ids with
  | nil => rfl
  | cons x t ih => simp [hexOf] at ih ⊢; omega
theorem hexOf_take (ids : List Int) (k : Nat) (h : k < ids.length) : hexOf (ids.take (k + 1)) = hexOf (ids.take k) ++ [UInt8.ofNat (hexD ((ids[k]?.getD 0).toNat / 16)), UInt8.ofNat (hexD ((ids[k]?.getD 0).toNat % 16))] := by
  unfold hexOf; rw [List.take_succ_eq_append_getElem h, List.flatMap_append, List.getElem?_eq_getElem h]; simp
def hexBytes : ByteArray := { data := #[48, 49, 50, 51, 52, 53, 54, 55, 56, 57, 97, 98, 99, 100, 101, 102] }
theorem byteCells_snoc (l : List UInt8) (x : Nat) (hx : x < 256) : Lib.byteCells (l ++ [UInt8.ofNat x]) = Lib.byteCells l ++ [.int .u8 (x : Int)] := by
  simp [Lib.byteCells]; omega

theorem index_20 (ids : List Int) (k : Nat) (hk : k < 20) (hl : ids.length = 20) (w : World) : (Instr.index 29 (.agg (V8 ids)) (.int .i64 (k : Int))).run Tryz.prog w = .ok (.int .u8 (ids[k]?.getD 0)) w := by
  have h1 := V8_get ids k (by omega)
  have h2 : (V8 ids).size = 20 := by rw [V8_size, hl]
  have hk' : (V8 ids)[k]'(by omega) = .int .u8 (ids[k]?.getD 0) := by
    rw [Array.getElem?_eq_getElem (by omega)] at h1; exact Option.some.inj h1
  simp [Instr.index, run_underlying Tryz.underlying29, asIntOf, go_sem, hk', h2, hk]
theorem two_blocks (w : World) (A B : Obj) : let W := (w.alloc A).alloc B
    W.heap[w.heap.size]? = some A ∧ W.heap[w.heap.size + 1]? = some B ∧ Below w.heap.size w W ∧ w.heap.size + 1 < W.heap.size := by
  refine ⟨?_, ?_, ((Below.refl _ _).alloc (Nat.le_refl _) _).alloc (by simp) _, by simp⟩
  · rw [Below.heap_alloc _ _ _ (by simp), heap_alloc_new]
  · simpa using heap_alloc_new (w.alloc A) B
theorem hex_val (n : Nat) (h : n < (ByteArray.mk #[48, 49, 50, 51, 52, 53, 54, 55, 56, 57, 97, 98, 99, 100, 101, 102]).size) : ((ByteArray.mk #[48, 49, 50, 51, 52, 53, 54, 55, 56, 57, 97, 98, 99, 100, 101, 102])[n]'h).toNat = hexD n := by
  have h' : n < 16 := h
  have key : ∀ m : Fin 16, ((ByteArray.mk #[48, 49, 50, 51, 52, 53, 54, 55, 56, 57, 97, 98, 99, 100, 101, 102])[m.val]'m.isLt).toNat = hexD m.val := by decide +kernel
  exact key ⟨n, h'⟩
theorem hexD_lt (n : Nat) (h : n < 16) : hexD n < 256 := by unfold hexD; split <;> omega
theorem and15 (x : Int) (h : 0 ≤ x ∧ x ≤ 255) : bits .and .u8 x 15 = x % 16 := by
  obtain ⟨n, rfl⟩ := Int.eq_ofNat_of_zero_le h.1
  have hn : n < 256 := by omega
  have key : ∀ m : Fin 256, bits .and .u8 (m.val : Int) 15 = (m.val : Int) % 16 := by decide +kernel
  exact key ⟨n, hn⟩
set_option maxRecDepth 100000 in
set_option maxHeartbeats 4000000 in
theorem hex_any (ids : List Int) (w : World) (h20 : ids.length = 20) (hb : ∀ x ∈ ids, 0 ≤ x ∧ x ≤ 255) :
    Calls Tryz.prog 48 #[.agg (V8 ids)] w fun e w' => e = .returned (.string ⟨(hexOf ids).toArray⟩) ∧ Below w.heap.size w w' := by
  have H20 : Hid (ids.length = 20) := h20
  have HB : Hid (∀ x ∈ ids, 0 ≤ x ∧ x ≤ 255) := hb
  have HSZ : Hid ((Tryz.prog.info? 29).map (·.size) = some (V8 ids).size) := by
    show (Tryz.prog.info? 29).map (·.size) = some (V8 ids).size
    rw [V8_size, h20]; kernel_rfl
  clear h20 hb
  obtain ⟨h0, h1, hbl, hsz⟩ := two_blocks w (.cells (V8 ids) 29) (.cells #[.pointer none, .slice none 0 0] 95)
  have HB1 : Hid (((w.alloc (.cells (V8 ids) 29)).alloc (.cells #[.pointer none, .slice none 0 0] 95)).heap[w.heap.size]? = some (.cells (V8 ids) 29 (0, 0))) := h0
  have HBU : Hid (Lib.IsBuilder 95 5 (w.heap.size + 1) (w.heap.size + 1) (Lib.byteCells (hexOf (ids.take 0))) ((w.alloc (.cells (V8 ids) 29)).alloc (.cells #[.pointer none, .slice none 0 0] 95))) :=
    .inl ⟨Nat.le_refl _, _, h1, World.ownsRow_nil _ _ _ _, by simp [Value.ownBlock]⟩
  have HBE : Hid (Below (w.heap.size) w ((w.alloc (.cells (V8 ids) 29)).alloc (.cells #[.pointer none, .slice none 0 0] 95))) := hbl
  have HS : Hid (w.heap.size + 1 < ((w.alloc (.cells (V8 ids) 29)).alloc (.cells #[.pointer none, .slice none 0 0] 95)).heap.size) := hsz
  clear h0 h1 hbl hsz
  go_enter Tryz.func48, Tryz.ntmps48
  go_wp2_with (refine wpList_load_row rfl 29 _ rfl w.heap.size rfl 29 (V8 ids) (0, 0) (.array 20 5) HB1.out Tryz.underlying29 rfl HSZ.out ?_)
  generalize ((w.alloc (.cells (V8 ids) 29)).alloc (.cells #[.pointer none, .slice none 0 0] 95)) = w1 at *
  go_loopw [7] (fun i wr => ∃ k : Nat, k ≤ 20 ∧ i = .int .i64 k ∧ Lib.IsBuilder 95 5 (w.heap.size + 1) (w.heap.size + 1) (Lib.byteCells (hexOf (ids.take k))) wr ∧ Below (w.heap.size + 1) w1 wr) (fun i _ => 20 - (intOf i).toNat)
  case atStart => exact ⟨0, by omega, rfl, HBU.out, Below.refl _ _⟩
  case round =>
    obtain ⟨k, hk, rfl, hbu, hbl⟩ := hrel
    have HU : Hid (Lib.IsBuilder 95 5 (w.heap.size + 1) (w.heap.size + 1) (Lib.byteCells (hexOf (ids.take k))) wr) := hbu
    have HL : Hid (Below (w.heap.size + 1) w1 wr) := hbl
    clear hbu hbl
    by_cases hlt : k < 20
    · have hv := index_20 ids k hlt H20.out wr
      have hx : 0 ≤ ids[k]?.getD 0 ∧ ids[k]?.getD 0 ≤ 255 := by
        have hk' : k < ids.length := by rw [H20.out]; omega
        rw [List.getElem?_eq_getElem hk']; exact HB.out _ (List.getElem_mem hk')
      have HT : Hid (hexOf (ids.take (k + 1)) = hexOf (ids.take k) ++ [UInt8.ofNat (hexD ((ids[k]?.getD 0).toNat / 16)), UInt8.ofNat (hexD ((ids[k]?.getD 0).toNat % 16))]) := hexOf_take ids k (by rw [H20.out]; omega)
      generalize ids[k]?.getD 0 = x at *
      have HX : Hid (0 ≤ x ∧ x ≤ 255) := hx
      have HN : Hid (w.heap.size + 1 ≤ wr.heap.size) := by
        have h1 := HS.out; have h2 := HL.out.size
        show _ ≤ _
        omega
      have HLE : Hid ((hexOf (ids.take k)).length ≤ 40) := by show _ ≤ _; rw [hexOf_length, List.length_take]; omega
      go_wp2_with fail
      refine (writeByte_any (w.heap.size + 1) (w.heap.size + 1) (Lib.byteCells (hexOf (ids.take k))) _ _ HU.out (by have := HLE.out; simp [Lib.byteCells_length]; omega) HN.out).mono ?_
      rintro e w2 ⟨rfl, hb2, hl2⟩
      rw [hex_val, ← byteCells_snoc _ _ (hexD_lt _ (by omega))] at hb2
      have HU2 : Hid (Lib.IsBuilder 95 5 (w.heap.size + 1) (w.heap.size + 1) (Lib.byteCells (hexOf (ids.take k) ++ [UInt8.ofNat (hexD (x / 16).toNat)])) w2) := .inr hb2
      have HL2 : Hid (Below (w.heap.size + 1) wr w2) := hl2
      have ha := and15 x hx
      clear hb2 hl2 hv
      go_wp2_with fail
      refine (writeByte_any (w.heap.size + 1) (w.heap.size + 1) _ _ _ HU2.out (by have := HLE.out; simp [Lib.byteCells_length]; omega) (by have h1 := HN.out; have h2 := HL2.out.size; omega)).mono ?_
      rintro e w3 ⟨rfl, hb3, hl3⟩
      rw [hex_val, ← byteCells_snoc _ _ (hexD_lt _ (by omega))] at hb3
      have HU3 : Hid (Lib.IsBuilder 95 5 (w.heap.size + 1) (w.heap.size + 1) (Lib.byteCells (hexOf (ids.take (k + 1)))) w3) := by
        show Lib.IsBuilder _ _ _ _ _ _
        rw [HT.out]
        rw [List.append_assoc] at hb3
        have e1 : (x / 16).toNat = x.toNat / 16 := by omega
        have e2 : (x % 16).toNat = x.toNat % 16 := by omega
        rw [e1, e2] at hb3
        exact .inr hb3
      have HL3 : Hid (Below (w.heap.size + 1) wr w3) := HL2.out.trans hl3
      clear hb3 hl3 ha
      go_wp2_with fail
      go_roundw
      case rel => exact ⟨k + 1, by omega, by go_num, HU3.out, HL.out.trans HL3.out⟩
      case measure => simp [intOf]; omega
    · obtain rfl : k = 20 := by omega
      have HN : Hid (w.heap.size + 1 ≤ wr.heap.size) := by
        have h1 := HS.out; have h2 := HL.out.size
        show _ ≤ _
        omega
      have hall : ids.take 20 = ids := List.take_of_length_le (by rw [H20.out]; omega)
      rw [hall] at HU
      clear hall hlt hk
      go_wp2_with fail
      refine (Tryz.Builder_String_any (w.heap.size + 1) (w.heap.size + 1) (hexOf ids) wr HU.out HN.out).mono ?_
      rintro e w2 ⟨rfl, hl2⟩
      go_wp2_with fail
      go_ret
      exact ⟨rfl, HBE.out.trans ((HL.out.trans hl2).mono (by omega))⟩
end Go.Proofs.YtkpiinjhcckhfaaGreatDoor
/-! Two arrays of bytes, compared. -/
namespace Go.Proofs.YtkpiinjhcckhfaaGreatDoor
open Go.RowKit
set_option linter.unusedVariables false
theorem u8plain : Tryz.prog.plainKey 5 = true := by kernel_rfl
theorem u8cells : Tryz.prog.cellsOf 5 = 1 := by kernel_rfl
theorem eqItems_u8 (d : Nat) (w : World) (xs ys : List Int) : ∀ is : List Nat, (∀ i ∈ is, i < xs.length ∧ i < ys.length) →
    (Op.eqItems (d + 1) 5 1 (V8 xs) (V8 ys) is).run Tryz.prog w = .ok (is.all fun i => xs[i]?.getD 0 == ys[i]?.getD 0) w
  | [], _ => by simp [Op.eqItems]
  | i :: is, h => by
    have h1 := V8_get xs i (h i (by simp)).1
    have h2 := V8_get ys i (h i (by simp)).2
    have ih := eqItems_u8 d w xs ys is (fun j hj => h j (by simp [hj]))
    simp only [Op.eqItems, Sem.run_bind, Nat.mul_one, run_part_plain w u8plain h1, run_part_plain w u8plain h2, Result.andThen_ok, run_equalIn_int w d 5 .u8 .u8 _ _ Tryz.underlying5]
    cases hxy : (xs[i]?.getD 0 == ys[i]?.getD 0)
    · simp [List.all_cons, hxy]
    · simp [List.all_cons, hxy, ih]
theorem all_eq_list (xs ys : List Int) (n : Nat) (hx : xs.length = n) (hy : ys.length = n) : ((List.range n).all fun i => xs[i]?.getD 0 == ys[i]?.getD 0) = (xs == ys) := by
  rw [Bool.eq_iff_iff, List.all_eq_true]
  constructor
  · intro h
    have : xs = ys := by
      apply List.ext_getElem (by omega)
      intro i h1 h2
      have := h i (List.mem_range.2 (by omega))
      rw [List.getElem?_eq_getElem h1, List.getElem?_eq_getElem h2] at this
      simpa using this
    simpa using this
  · intro h i _
    have : xs = ys := by simpa using h
    simp [this]
theorem run_equalIn_arr (w : World) (t : TypeId) (n : Nat) (ht : Tryz.prog.underlying t = some (.array n 5)) (xs ys : List Int) (hx : xs.length = n) (hy : ys.length = n) :
    (Op.equalIn 10000 t (.agg (V8 xs)) (.agg (V8 ys))).run Tryz.prog w = .ok (xs == ys) w := by
  obtain ⟨i, hi, -⟩ := Option.map_eq_some_iff.1 (show (Tryz.prog.info? 5).map (fun i => (i.zero, i.size, i.bytes)) = some (some (.int .u8 0), 1, 1) from by kernel_rfl)
  rw [run_equalIn_array w 9999 (V8 xs) (V8 ys) ht hi, u8cells, eqItems_u8 9998 w xs ys (List.range n) (fun j hj => by have := List.mem_range.1 hj; omega)]
  rw [all_eq_list xs ys n hx hy]
end Go.Proofs.YtkpiinjhcckhfaaGreatDoor
/-! A text as a sum: the walk. -/
namespace Go.Proofs.YtkpiinjhcckhfaaGreatDoor
open Go.RowKit Plain
set_option linter.unusedVariables false
theorem results_row_tmp {P : Program} {fn : Func} {p u : Tmp} {ty : TypeId} (h : fn.results = #[.cell p ty, .tmp u]) (tmps : Array Value) (w : World) (g : Nat) (t : TypeId) (cs : Array Value) (fr : Nat × Nat) (d : TypeDesc)
    (hp : tmps.getD p undef = .pointer (some ⟨g, 0, none⟩)) (hg : w.heap[g]? = some (.cells cs t fr))
    (hu : P.underlying ty = some d) (hd : (match d with | .struct _ | .array _ _ => true | _ => false) = true) (hi : (P.info? ty).map (·.size) = some cs.size) :
    (results fn tmps).run P w = .ok (.tuple #[.agg cs, tmps.getD u undef]) w := by
  have hp' : tmps[p]?.getD undef = .pointer (some ⟨g, 0, none⟩) := by simpa using hp
  simp [results, h, hp', asAddr, run_loadVar_row w g t ty cs fr d hg hu hd hi]
/-- What a digit is worth; below 0: it is none. -/
def nib (c : Nat) : Int := if 48 ≤ c ∧ c ≤ 57 then (c : Int) - 48 else if 97 ≤ c ∧ c ≤ 102 then (c : Int) - 87 else -1
theorem nib_le (c : Nat) : -1 ≤ nib c ∧ nib c ≤ 15 := by unfold nib; split <;> (try split) <;> omega
theorem nib_index : ∀ c : Fin 256, Lib.indexByte hexBytes.data.toList (c.val.toUInt8) = nib c.val := by decide +kernel
theorem index_any (c : Nat) (hc : c < 256) (w : World) : Calls Tryz.prog 120 #[.string hexBytes, .int .u8 (c : Int)] w fun e w' => e = .returned (.int .i64 (nib c)) ∧ w' = w := by
  refine (Tryz.strings_IndexByte hexBytes (c : Int) w).mono ?_
  rintro e w' ⟨rfl, rfl⟩
  have := nib_index ⟨c, hc⟩
  rw [← this]
  exact ⟨rfl, rfl⟩
/-- A text's byte. -/
def at8 (s : ByteArray) (i : Nat) : Nat := (s.data.toList[i]?.getD 0).toNat
theorem at8_lt (s : ByteArray) (i : Nat) : at8 s i < 256 := UInt8.toNat_lt _
def goodTo (s : ByteArray) (k : Nat) : Bool := (List.range k).all fun i => decide (0 ≤ nib (at8 s (2 * i))) && decide (0 ≤ nib (at8 s (2 * i + 1)))
def valAt (s : ByteArray) (i : Nat) : Int := 16 * nib (at8 s (2 * i)) + nib (at8 s (2 * i + 1))
def valsTo (s : ByteArray) (k : Nat) : List Int := (List.range 20).map fun i => if i < k then valAt s i else 0
def isHex (s : ByteArray) : Bool := decide (s.size = 40) && goodTo s 20
def parsed (s : ByteArray) : List Int := if isHex s = true then valsTo s 20 else List.replicate 20 0
def parsedE (s : ByteArray) : Int := if isHex s = true then 0 else 4
theorem valsTo_length (s : ByteArray) (k : Nat) : (valsTo s k).length = 20 := by simp [valsTo]
theorem goodTo_snoc (s : ByteArray) (k : Nat) : goodTo s (k + 1) = (goodTo s k && (decide (0 ≤ nib (at8 s (2 * k))) && decide (0 ≤ nib (at8 s (2 * k + 1))))) := by
  unfold goodTo; rw [List.range_succ, List.all_append]; simp
theorem goodTo_le (s : ByteArray) (k n : Nat) (h : k ≤ n) (hn : goodTo s n = true) : goodTo s k = true := by
  unfold goodTo at hn ⊢
  rw [List.all_eq_true] at hn ⊢
  intro i hi
  exact hn i (List.mem_range.2 (by have := List.mem_range.1 hi; omega))
theorem index_text (s : ByteArray) (i : Nat) (h : i < s.size) (x : Int) (hx : x = (i : Int)) (w : World) : (Instr.index 9 (.string s) (.int .i64 x)).run Tryz.prog w = .ok (.int .u8 (at8 s i : Nat)) w := by
  subst hx
  rw [run_index_string w 9 s .i64 _ Tryz.underlying9, dif_pos (by omega)]
  have h1 : i < s.data.toList.length := by simpa using h
  have : at8 s i = (s[i]'h).toNat := by unfold at8; rw [List.getElem?_eq_getElem h1]; rfl
  rw [this]
  rfl
theorem valsTo_set (s : ByteArray) (k : Nat) (hk : k < 20) (x : Int) (hx : x = valAt s k) : (V8 (valsTo s k)).setIfInBounds k (.int .u8 x) = V8 (valsTo s (k + 1)) := by
  subst hx
  apply Array.ext
  · simp [V8_size, valsTo_length]
  · intro j h1 h2
    have hj : j < 20 := by simpa [V8_size, valsTo_length] using h2
    rw [Array.getElem_setIfInBounds (by simpa using h1)]
    by_cases hjk : k = j
    · subst hjk; simp [V8, U8, valsTo]
    · rw [if_neg hjk]
      simp only [V8, U8, valsTo, List.getElem_toArray, List.getElem_map, List.getElem_range]
      by_cases hlt : j < k
      · rw [if_pos hlt, if_pos (by omega)]
      · rw [if_neg hlt, if_neg (by omega)]
def zeros20 : List Int := List.replicate 20 0
theorem zero_id (w : World) : (zeroValue 29).run Tryz.prog w = .ok (.agg (V8 zeros20)) w := by
  show _ = Result.ok (Value.agg (List.replicate 20 (Value.int .u8 0)).toArray) w
  kernel_rfl
theorem valsTo_zero (s : ByteArray) : valsTo s 0 = zeros20 := by simp [valsTo, zeros20]; rfl
theorem id_info (xs : List Int) (h : xs.length = 20) : (Tryz.prog.info? 29).map (·.size) = some (V8 xs).size := by
  rw [V8_size, h]; kernel_rfl
theorem or_shl (a b : Int) (ha : 0 ≤ a ∧ a ≤ 15) (hb : 0 ≤ b ∧ b ≤ 15) : bits .or .i64 (a * 16) b % 256 = 16 * a + b := by
  obtain ⟨m, rfl⟩ := Int.eq_ofNat_of_zero_le ha.1
  obtain ⟨n, rfl⟩ := Int.eq_ofNat_of_zero_le hb.1
  have key : ∀ x y : Fin 16, bits .or .i64 ((x.val : Int) * 16) (y.val : Int) % 256 = 16 * (x.val : Int) + (y.val : Int) := by decide +kernel
  exact key ⟨m, by omega⟩ ⟨n, by omega⟩
set_option maxRecDepth 100000 in
set_option maxHeartbeats 4000000 in
theorem parse_any (s : ByteArray) (w : World) (hs : s.size ≤ 9223372036854775807) :
    Calls Tryz.prog 107 #[.string s] w fun e w' => e = .returned (.tuple #[.agg (V8 (parsed s)), .int .i64 (parsedE s)]) ∧ Below w.heap.size w w' := by
  have hz := zero_id
  obtain ⟨h0, h1, hbl, hsz⟩ := two_blocks w (.cells (V8 zeros20) 29) (.cells (V8 zeros20) 29)
  have H0 : Hid (((w.alloc (.cells (V8 zeros20) 29)).alloc (.cells (V8 zeros20) 29)).heap[w.heap.size]? = some (.cells (V8 zeros20) 29 (0, 0))) := h0
  have H1 : Hid (((w.alloc (.cells (V8 zeros20) 29)).alloc (.cells (V8 zeros20) 29)).heap[w.heap.size + 1]? = some (.cells (V8 zeros20) 29 (0, 0))) := h1
  have HBL : Hid (Below w.heap.size w ((w.alloc (.cells (V8 zeros20) 29)).alloc (.cells (V8 zeros20) 29))) := hbl
  clear h0 h1 hbl hsz
  have I20 : Hid (∀ xs : List Int, xs.length = 20 → (Tryz.prog.info? 29).map (·.size) = some (V8 xs).size) := id_info
  have HZL : Hid (zeros20.length = 20) := rfl
  by_cases h40 : s.size = 40
  · have t40 : ((s.size : Int) != 40) = false := by simp; omega
    have H40 : Hid (s.size = 40) := h40
    clear h40
    go_enter Tryz.func107, Tryz.ntmps107
    go_wp2_with fail
    generalize ((w.alloc (.cells (V8 zeros20) 29)).alloc (.cells (V8 zeros20) 29)) = w0 at *
    clear t40
    go_loopw [12] (fun i wr => ∃ k : Nat, k ≤ 20 ∧ i = .int .i64 k ∧ goodTo s k = true ∧ wr.heap[w.heap.size]? = some (.cells (V8 zeros20) 29 (0, 0)) ∧ wr.heap[w.heap.size + 1]? = some (.cells (V8 (valsTo s k)) 29 (0, 0)) ∧ Below w.heap.size w wr) (fun i _ => 20 - (intOf i).toNat)
    case atStart => exact ⟨0, by omega, rfl, rfl, H0.out, by rw [valsTo_zero]; exact H1.out, HBL.out⟩
    case round =>
      obtain ⟨k, hk, rfl, hg, h0, h1, hbel⟩ := hrel
      have G : Hid (goodTo s k = true) := hg
      have G0 : Hid (wr.heap[w.heap.size]? = some (.cells (V8 zeros20) 29 (0, 0))) := h0
      have G1 : Hid (wr.heap[w.heap.size + 1]? = some (.cells (V8 (valsTo s k)) 29 (0, 0))) := h1
      have GB : Hid (Below w.heap.size w wr) := hbel
      clear hg h0 h1 hbel H0 H1 HBL
      by_cases hlt : k < 20
      · have hi0 := index_text s (2 * k) (by rw [H40.out]; omega) (2 * (k : Int)) (by omega)
        have hi1 := index_text s (2 * k + 1) (by rw [H40.out]; omega) (2 * (k : Int) + 1) (by omega)
        have hc0 := at8_lt s (2 * k)
        have hc1 := at8_lt s (2 * k + 1)
        have n0 := nib_le (at8 s (2 * k))
        have n1 := nib_le (at8 s (2 * k + 1))
        have HGS : Hid (goodTo s (k + 1) = (goodTo s k && (decide (0 ≤ nib (at8 s (2 * k))) && decide (0 ≤ nib (at8 s (2 * k + 1)))))) := goodTo_snoc s k
        have HVA : Hid (valAt s k = 16 * nib (at8 s (2 * k)) + nib (at8 s (2 * k + 1))) := rfl
        generalize at8 s (2 * k) = c0 at *
        generalize at8 s (2 * k + 1) = c1 at *
        have m1 : IntKind.i64.wrap (2 * (k : Int)) = 2 * (k : Int) := IntWalk.i64_in _ (by omega)
        have m2 : IntKind.i64.wrap (2 * (k : Int) + 1) = 2 * (k : Int) + 1 := IntWalk.i64_in _ (by omega)
        have hlt' : (k : Int) < 20 := by omega
        go_wp2_with fail
        go_quiet ((first
          | (go_at_call 120; exact Calls.quiet_of_same (index_any c0 hc0 _))
          | (go_at_call 120; exact Calls.quiet_of_same (index_any c1 hc1 _))))
        have D0 : Hid ((wr.drewN nq).heap[w.heap.size]? = some (.cells (V8 zeros20) 29 (0, 0))) := by
          show (wr.drewN nq).heap[w.heap.size]? = _
          simpa using G0.out
        have D1 : Hid ((wr.drewN nq).heap[w.heap.size + 1]? = some (.cells (V8 (valsTo s k)) 29 (0, 0))) := by
          show (wr.drewN nq).heap[w.heap.size + 1]? = _
          simpa using G1.out
        have DB : Hid (Below w.heap.size w (wr.drewN nq)) := ⟨GB.out.os, GB.out.tape, GB.out.output, GB.out.size, GB.out.block⟩
        generalize wr.drewN nq = wd at *
        clear hi0 hi1 m1 m2 hc0 hc1 G0 G1 GB
        have HN0 : Hid (-1 ≤ nib c0 ∧ nib c0 ≤ 15) := n0
        have HN1 : Hid (-1 ≤ nib c1 ∧ nib c1 ≤ 15) := n1
        generalize nib c0 = x0 at *
        generalize nib c1 = x1 at *
        by_cases hx : 0 ≤ x0 ∧ 0 ≤ x1
        · obtain ⟨hx0, hx1⟩ := hx
          obtain ⟨ov, ho⟩ : ∃ ov, wd.cell? ⟨w.heap.size + 1, k, none⟩ = some ov := ⟨_, by rw [cell_of_row wd _ _ _ _ _ D1.out, Array.getElem?_eq_getElem (by rw [V8_size, valsTo_length]; omega)]⟩
          have fo := frozen_of_row wd (w.heap.size + 1) k (V8 (valsTo s k)) 29 D1.out
          go_wp2_with fail
          rw [or_shl x0 x1 ⟨hx0, HN0.out.2⟩ ⟨hx1, HN1.out.2⟩]
          refine ⟨⟨k + 1, by omega, by go_num, ?_, (Below.heap_setCell wd _ _ _ (by show w.heap.size ≠ w.heap.size + 1; omega)).trans D0.out, (heap_setCell_same wd (w.heap.size + 1) _ _ _ _ D1.out).trans ?_, DB.out.setCell (by show w.heap.size ≤ w.heap.size + 1; omega) _⟩, by simp [intOf]; omega⟩
          · rw [HGS.out, G.out]; simp [hx0, hx1]
          · rw [valsTo_set s k (by omega) _ HVA.out.symm]
        · have hbad : x0 < 0 ∨ (0 ≤ x0 ∧ x1 < 0) := by omega
          have HP : Hid (parsed s = zeros20 ∧ parsedE s = 4) := by
            show _ ∧ _
            have hb : goodTo s 20 = false := by
              cases hgt : goodTo s 20
              · rfl
              · have h2 := goodTo_le s (k + 1) 20 (by omega) hgt
                rw [HGS.out] at h2
                simp at h2
                omega
            have : isHex s = false := by simp [isHex, hb]
            simp [parsed, parsedE, this, zeros20]
          clear hx HGS HVA G n0 n1
          rcases hbad with hb | ⟨hb1, hb⟩
          all_goals
            go_wp2_with (refine wpList_store_row rfl 29 (.tmp 2) (.tmp 32) rfl w.heap.size (V8 zeros20) rfl rfl 29 (V8 zeros20) D0.out (I20.out _ HZL.out) rfl (V8_one _) ?_)
            refine bodyPost_ret (results_row_tmp Tryz.results107 _ _ w.heap.size 29 (V8 zeros20) (0, 0) (.array 20 5) rfl (setRow_heap _ _ _ _ _ _ D0.out) Tryz.underlying29 rfl (I20.out _ HZL.out)) rfl ⟨by rw [HP.out.1, HP.out.2]; rfl, ?_⟩
            exact below_setRow DB.out (Nat.le_refl _) _
      · obtain rfl : k = 20 := by omega
        have HV : Hid (valsTo s 20 = parsed s ∧ parsedE s = 0) := by
          show _ ∧ _
          have : isHex s = true := by simp [isHex, H40.out, G.out]
          simp [parsed, parsedE, this]
        have HPL : Hid ((parsed s).length = 20) := by show _ = _; rw [← HV.out.1]; exact valsTo_length s 20
        rw [HV.out.1] at G1
        clear hlt hk
        have tok1 : True := trivial
        go_wp2_with (first
          | (have _t := tok1; refine wpList_load_row rfl 29 _ rfl (w.heap.size + 1) rfl 29 (V8 (parsed s)) (0, 0) (.array 20 5) G1.out Tryz.underlying29 rfl (I20.out _ HPL.out) ?_; clear tok1)
          | (refine wpList_store_row rfl 29 (.tmp 2) (.tmp 41) rfl w.heap.size (V8 (parsed s)) rfl rfl 29 (V8 zeros20) G0.out (I20.out _ HPL.out) (by rw [V8_size, V8_size, HPL.out]; rfl) (V8_one _) ?_))
        refine bodyPost_ret (results_row_tmp Tryz.results107 _ _ w.heap.size 29 (V8 (parsed s)) (0, 0) (.array 20 5) rfl (setRow_heap _ _ _ _ _ _ G0.out) Tryz.underlying29 rfl (I20.out _ HPL.out)) rfl ⟨by rw [HV.out.2]; rfl, ?_⟩
        exact below_setRow GB.out (Nat.le_refl _) _
  · have t40 : ((s.size : Int) != 40) = true := by simp; omega
    have HP : Hid (parsed s = zeros20 ∧ parsedE s = 4) := by
      show _ ∧ _
      have : isHex s = false := by simp [isHex, h40]
      simp [parsed, parsedE, this, zeros20]
    clear h40
    go_enter Tryz.func107, Tryz.ntmps107
    go_wp2_with (refine wpList_store_row rfl 29 (.tmp 2) (.tmp 11) rfl w.heap.size (V8 zeros20) rfl rfl 29 (V8 zeros20) H0.out (I20.out _ HZL.out) rfl (V8_one _) ?_)
    refine bodyPost_ret (results_row_tmp Tryz.results107 _ _ w.heap.size 29 (V8 zeros20) (0, 0) (.array 20 5) rfl (setRow_heap _ _ _ _ _ _ H0.out) Tryz.underlying29 rfl (I20.out _ HZL.out)) rfl ⟨by rw [HP.out.1, HP.out.2]; rfl, ?_⟩
    exact below_setRow HBL.out (Nat.le_refl _) _
end Go.Proofs.YtkpiinjhcckhfaaGreatDoor
