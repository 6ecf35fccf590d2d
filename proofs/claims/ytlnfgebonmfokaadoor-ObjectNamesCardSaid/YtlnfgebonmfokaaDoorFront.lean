/- What stands ahead of an object's body: the walk. -/
import Derived.Test.YtlnfgebonmfokaaDoorWord
import Derived.Test.YtlnfgebonmfokaaDoorShelf
import Derived.Lib.ConvBytes
import Derived.Lib.AtoiErrMem
import Derived.Lib.ItoaMem
import Derived.Lib.ItoaLen
import Derived.WalkSmall
namespace Go.Proofs.YtlnfgebonmfokaaDoor
open Go.RowKit
set_option linter.unusedVariables false
theorem tab_below {w w' : World} (h : Lib.TabIs Tryd.prog w "internal/strconv.uint64pow10" .u64 Lib.pow10Tab) (hb : Below w.heap.size w w') : Lib.TabIs Tryd.prog w' "internal/strconv.uint64pow10" .u64 Lib.pow10Tab := by
  unfold Lib.TabIs at *
  have hg : Tryd.prog.globalNamed "internal/strconv.uint64pow10" = some 0 := by kernel_rfl
  refine var?_below hb hg (World.block_lt_of_cell? w ⟨0, 0, none⟩ (u := .int .u64 1) ((World.var?_cell hg h 0).trans (by kernel_rfl))) h
theorem below_grow (w : World) (k : Nat) (os : Array Obj) : Below w.heap.size w (Sort.grow (w.drewN k) os) := by
  refine ⟨rfl, rfl, rfl, ?_, fun i hi => ?_⟩
  · show w.heap.size ≤ (w.heap ++ os).size
    simp
  · show (w.heap ++ os)[i]? = w.heap[i]?
    exact Array.getElem?_append_left hi
theorem dec_any (n : Nat) (hn : n ≤ 4611686018427387903) (w : World) (htab : Lib.TabIs Tryd.prog w "internal/strconv.uint64pow10" .u64 Lib.pow10Tab) :
    Calls Tryd.prog 24 #[.int .i64 (n : Int)] w fun e w' => e = .returned (.string ⟨(Lib.decDigits n).toArray⟩) ∧ Below w.heap.size w w' := by
  go_enter Tryd.func24, Tryd.ntmps24
  go_wp2_with fail
  refine (Tryd.strconv_Itoa (n : Int) (by omega) (by omega) w htab).mono ?_
  rintro e w2 ⟨rfl, k, os, rfl⟩
  rw [Lib.itoa_nonneg n]
  have HB : Hid (Below w.heap.size w (Sort.grow (w.drewN k) os)) := below_grow w k os
  go_wp2_with fail
  go_ret
  exact ⟨rfl, HB.out⟩
theorem loopN (bs : ByteArray) : ∀ (n i : Nat) (r : List UInt8), bs.size - i = n → ByteArray.toList.loop bs i r = r.reverse ++ bs.data.toList.drop i
  | 0, i, r, h => by
    rw [ByteArray.toList.loop, if_neg (by omega)]
    have : bs.data.toList.length ≤ i := by show bs.size ≤ i; omega
    rw [List.drop_of_length_le this, List.append_nil]
  | n + 1, i, r, h => by
    have hi : i < bs.data.toList.length := by show i < bs.size; omega
    rw [ByteArray.toList.loop, if_pos (by omega), loopN bs n (i + 1) _ (by omega), List.drop_eq_getElem_cons hi]
    have hg : bs.get! i = bs.data.toList[i] := by
      show bs.data[i]! = _
      have : i < bs.data.size := by simpa using hi
      rw [getElem!_pos bs.data i this]
      simp
    rw [hg]
    simp
theorem toList_eq (a : ByteArray) : a.toList = a.data.toList := by
  unfold ByteArray.toList
  rw [loopN a _ 0 [] rfl]
  simp
theorem none_empty : wNone.toList.isEmpty = true := by rw [toList_eq]; rfl
theorem some_full (W : ByteArray) (h : W ≠ wNone) : W.toList.isEmpty = false := by
  rw [toList_eq]
  cases hd : W.data.toList with
  | nil => exact absurd (ByteArray.ext (Array.toList_inj.1 hd)) h
  | cons c r => rfl
def numsOf (s : ByteArray) : List Int := s.data.toList.map fun c => (c.toNat : Int)
theorem numsOf_bytes (s : ByteArray) : ∀ x ∈ numsOf s, 0 ≤ x ∧ x ≤ 255 := by
  intro x hx
  obtain ⟨c, -, rfl⟩ := List.mem_map.1 hx
  have := c.toNat_lt
  omega
theorem range_of_mem {xs : List Int} (h : ∀ x ∈ xs, 0 ≤ x ∧ x ≤ 255) (j : Nat) : 0 ≤ xs[j]?.getD 0 ∧ xs[j]?.getD 0 ≤ 255 := by
  by_cases hj : j < xs.length
  · rw [List.getElem?_eq_getElem hj]; exact h _ (List.getElem_mem hj)
  · rw [List.getElem?_eq_none (by omega)]; simp
theorem numsOf_length (s : ByteArray) : (numsOf s).length = s.size := by unfold numsOf; rw [List.length_map]; rfl
/-- A text's bytes in a new row. -/
theorem bytes_new (w : World) (s : ByteArray) (hs : s.size ≤ 9223372036854775807) : Bytes (Lib.bytesWorld w 5 s) (some ⟨w.heap.size, 0, none⟩) s.size (numsOf s) := by
  refine ⟨numsOf_length s, hs, range_of_mem (numsOf_bytes s), .inr ⟨_, _, rfl, fun j hj => ?_⟩⟩
  rw [Nat.zero_add, Lib.bytesWorld_cell w 5 s j hj]
  unfold numsOf
  have hj' : j < s.data.toList.length := by simpa using hj
  rw [List.getElem?_map, List.getElem?_eq_getElem hj', List.getD_eq_getElem?_getD, List.getElem?_eq_getElem hj']
  rfl
theorem conv_bytes (w : World) (s : ByteArray) : ∃ c, s.size ≤ c ∧ (convert 9 22 (.string s)).run Tryd.prog w = .ok (.slice (some ⟨w.heap.size, 0, none⟩) s.size c) (Lib.bytesWorld w 5 s) := by
  have hge := grownCap_ge w s.size 0 5
  exact ⟨_, hge, Lib.run_convert_string_bytes w 9 22 5 s Tryd.underlying9 Tryd.underlying22 Tryd.underlying5⟩
/-- What stands ahead of a body of m bytes. -/
def frontOf (k : Int) (m : Nat) : ByteArray := wordAt k ++ (⟨#[32]⟩ : ByteArray) ++ (⟨(Lib.decDigits m).toArray⟩ : ByteArray) ++ (⟨#[0]⟩ : ByteArray)
theorem wordAt_size (k : Int) : (wordAt k).size ≤ 6 := by
  unfold wordAt
  split; · decide
  split; · decide
  split; · decide
  split; · decide
  decide
theorem dec_len (n : Nat) (hn : n ≤ 4611686018427387903) : (Lib.decDigits n).length ≤ 21 := by
  rw [← Lib.itoa_nonneg]
  exact Lib.itoa_length_le n (by omega) (by omega)
/-- What front hands back. -/
def FrontPost (w : World) (k : Int) (m : Nat) (e : Ending) (w' : World) : Prop :=
  (wordAt k = wNone ∧ e = .returned (.tuple #[.slice none 0 0, .int .i64 1])) ∨
  (wordAt k ≠ wNone ∧ 16777216 < m ∧ e = .returned (.tuple #[.slice none 0 0, .int .i64 2])) ∨
  (wordAt k ≠ wNone ∧ m ≤ 16777216 ∧ ∃ a c, e = .returned (.tuple #[.slice a (frontOf k m).size c, .int .i64 0]) ∧ (frontOf k m).size ≤ c ∧ Bytes w' a (frontOf k m).size (numsOf (frontOf k m)))
set_option maxRecDepth 100000 in
set_option maxHeartbeats 4000000 in
theorem front_any (k : Int) (a : Option Addr) (m cap : Nat) (hm : m ≤ 9223372036854775807) (w : World) (htab : Lib.TabIs Tryd.prog w "internal/strconv.uint64pow10" .u64 Lib.pow10Tab) :
    Calls Tryd.prog 15 #[.int .i64 k, .slice a m cap] w fun e w' => FrontPost w k m e w' ∧ Below w.heap.size w w' := by
  have HT : Hid (Lib.TabIs Tryd.prog w "internal/strconv.uint64pow10" .u64 Lib.pow10Tab) := htab
  clear htab
  have hws := wordAt_size k
  go_enter Tryd.func15, Tryd.ntmps15
  go_wp2_with fail
  refine (word_any k w).mono ?_
  rintro e w1 ⟨rfl, hb1⟩
  have HW1 : Hid (Below w.heap.size w w1) := hb1
  clear hb1
  have HWO : Hid (∀ x, wordAt k = x → wordAt k = x) := fun _ h => h
  obtain ⟨W, hW⟩ : ∃ W, wordAt k = W := ⟨_, rfl⟩
  have HWE : Hid (wordAt k = W) := hW
  rw [hW] at hws ⊢
  clear hW
  by_cases h0 : W = wNone
  · subst h0
    have hem := none_empty
    have HP : Hid (FrontPost w k m (.returned (.tuple #[.slice none 0 0, .int .i64 1])) w1) := .inl ⟨HWE.out, rfl⟩
    go_wp2_with fail
    go_ret2
    exact ⟨HP.out, HW1.out⟩
  · have hne := some_full W h0
    by_cases hbig : 16777216 < m
    · have hbi : (16777216 : Int) < m := by omega
      have HP : Hid (FrontPost w k m (.returned (.tuple #[.slice none 0 0, .int .i64 2])) w1) := .inr (.inl ⟨fun e => h0 (HWE.out.symm.trans e), hbig, rfl⟩)
      clear h0
      go_wp2_with fail
      go_ret2
      exact ⟨HP.out, HW1.out⟩
    · have hbi : ¬ (16777216 : Int) < m := by omega
      have hl1 : ¬ 9223372036854775807 < W.size + 1 := by omega
      clear h0
      go_wp2_with fail
      refine (dec_any m (by omega) w1 (tab_below HT.out HW1.out)).mono ?_
      rintro e w2 ⟨rfl, hb2⟩
      have HW2 : Hid (Below w.heap.size w w2) := HW1.out.trans (hb2.mono HW1.out.size)
      clear hb2
      have hd := dec_len m (by omega)
      have hl2 : ¬ 9223372036854775807 < W.size + 1 + (Lib.decDigits m).length := by omega
      have hl3 : ¬ 9223372036854775807 < W.size + 1 + (Lib.decDigits m).length + 1 := by omega
      obtain ⟨F, hF⟩ : ∃ F : ByteArray, W ++ (⟨#[32]⟩ : ByteArray) ++ (⟨(Lib.decDigits m).toArray⟩ : ByteArray) ++ (⟨#[0]⟩ : ByteArray) = F := ⟨_, rfl⟩
      have HF : Hid (frontOf k m = F) := by show _ = _; unfold frontOf; rw [HWE.out, hF]
      have hFs : F.size ≤ 30 := by
        rw [← hF]
        simp only [ByteArray.size_append]
        have e1 : (⟨#[32]⟩ : ByteArray).size = 1 := rfl
        have e2 : (⟨#[0]⟩ : ByteArray).size = 1 := rfl
        have e3 : (⟨(Lib.decDigits m).toArray⟩ : ByteArray).size = (Lib.decDigits m).length := rfl
        omega
      obtain ⟨cc, hcc, hcv⟩ := conv_bytes w2 F
      have HBY : Hid (Bytes (Lib.bytesWorld w2 5 F) (some ⟨w2.heap.size, 0, none⟩) F.size (numsOf F)) := bytes_new w2 F (by omega)
      have HW3 : Hid (Below w.heap.size w (Lib.bytesWorld w2 5 F)) := HW2.out.trans ((Lib.bytesWorld_below w2 _ F).mono HW2.out.size)
      generalize Lib.bytesWorld w2 5 F = w3 at *
      generalize w2.heap.size = g at *
      have HP : Hid (FrontPost w k m (.returned (.tuple #[.slice (some ⟨g, 0, none⟩) F.size cc, .int .i64 0])) w3) := by
        refine .inr (.inr ⟨fun e => ?_, by omega, some ⟨g, 0, none⟩, cc, by rw [HF.out], by rw [HF.out]; exact hcc, by rw [HF.out]; exact HBY.out⟩)
        rw [HWE.out] at e; rw [e, none_empty] at hne; cases hne
      clear hd
      go_wp2_with fail
      go_ret2
      exact ⟨HP.out, HW3.out⟩
end Go.Proofs.YtlnfgebonmfokaaDoor
