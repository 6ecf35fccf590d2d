/- The kinds' words: the walks. -/
import Derived.Test.YtglgchjkonjpiaaGreatDoorBase
import Derived.Laws.Rows
import Derived.Laws.ResultCell
import Derived.BigQuiet
import Derived.Laws.CopyOwn
import Derived.Test.YtglgchjkonjpiaaGreatDoorShaD
import Derived.Lib.ConvBytes
import Derived.Lib.AtoiErrMem
import Derived.Lib.ItoaMem
import Derived.Lib.ItoaLen
import Derived.WalkSmall
import Derived.Test.YtglgchjkonjpiaaGreatDoorShaC
/-! The kinds' words: the walks. -/
namespace Go.Proofs.YtglgchjkonjpiaaGreatDoor
open Go.RowKit
set_option linter.unusedVariables false
def wCommit : ByteArray := ⟨#[99, 111, 109, 109, 105, 116]⟩
def wTree : ByteArray := ⟨#[116, 114, 101, 101]⟩
def wBlob : ByteArray := ⟨#[98, 108, 111, 98]⟩
def wTag : ByteArray := ⟨#[116, 97, 103]⟩
def wNone : ByteArray := ⟨#[]⟩
def wordsRow : Array Value := #[.string wCommit, .string wTree, .string wBlob, .string wTag]
def emptyRow : Array Value := #[.string wNone, .string wNone, .string wNone, .string wNone]
theorem zeroWords (w : World) : (zeroValue 77).run Tryz.prog w = .ok (.agg emptyRow) w := by
  show _ = Result.ok (Value.agg emptyRow) w
  kernel_rfl
theorem infoWords : (Tryz.prog.info? 77).map (·.size) = some wordsRow.size := by kernel_rfl
theorem oneWords : wordsRow.all (·.oneCell') = true := by kernel_rfl
set_option maxRecDepth 100000 in
set_option maxHeartbeats 2000000 in
theorem kinds_any (w : World) : Calls Tryz.prog 41 #[] w fun e w' => e = .returned (.agg wordsRow) ∧ Below w.heap.size w w' := by
  have hz := zeroWords
  go_enter Tryz.func41, Tryz.ntmps41
  have HR : Hid ((w.alloc (.cells emptyRow 77)).heap[w.heap.size]? = some (.cells emptyRow 77 (0, 0))) := heap_alloc_new w _
  have HB : Hid (Below w.heap.size w (w.alloc (.cells emptyRow 77))) := (Below.refl _ _).alloc (Nat.le_refl _) _
  have tok : True := trivial
  have e4 : emptyRow.size = 4 := rfl
  have e0 : ¬ emptyRow = #[] := by intro h; have := congrArg Array.size h; simp [e4] at this
  go_wp2_with (have _t := tok; refine wpList_store_row rfl 77 (.tmp 0) (.tmp 1) rfl w.heap.size wordsRow rfl rfl 77 emptyRow HR.out infoWords rfl oneWords ?_; clear tok)
  refine bodyPost_ret (results_cell_row Tryz.results41 _ _ w.heap.size 77 _ (0, 0) (.array 4 9) rfl (setRow_heap _ _ _ _ _ _ HR.out) Tryz.underlying77 rfl infoWords) rfl ⟨rfl, ?_⟩
  exact below_setRow HB.out (Nat.le_refl _) _
theorem cell_row (W : World) (b k : Nat) (cs : Array Value) (t : TypeId) (fz : Nat × Nat) (h : W.heap[b]? = some (.cells cs t fz)) : W.cell? ⟨b, k, none⟩ = cs[k]? := by simp [World.cell?, h]
/-- A kind's word. -/
def wordAt (k : Int) : ByteArray := if k = 1 then wCommit else if k = 2 then wTree else if k = 3 then wBlob else if k = 4 then wTag else wNone
theorem zeroWords0 : Tryz.prog.info? 77 ≠ none := by
  intro h; have := infoWords; rw [h] at this; cases this
set_option maxRecDepth 100000 in
set_option maxHeartbeats 4000000 in
theorem word_any (k : Int) (w : World) : Calls Tryz.prog 20 #[.int .i64 k] w fun e w' => e = .returned (.string (wordAt k)) ∧ Below w.heap.size w w' := by
  have hz := zeroWords
  go_enter Tryz.func20, Tryz.ntmps20
  have ZI : Hid ((Tryz.prog.info? 77).map (·.size) = some wordsRow.size) := infoWords
  go_wp2_with fail
  refine (kinds_any w).mono ?_
  rintro e w1 ⟨rfl, hb1⟩
  have HB1 : Hid (Below w.heap.size w w1) := hb1
  have HR : Hid ((w1.alloc (.cells emptyRow 77)).heap[w1.heap.size]? = some (.cells emptyRow 77 (0, 0))) := heap_alloc_new w1 _
  have HB2 : Hid (Below w.heap.size w (w1.alloc (.cells emptyRow 77))) := hb1.alloc hb1.size _
  have HS : Hid (w.heap.size ≤ w1.heap.size) := hb1.size
  clear hb1
  have tok : True := trivial
  go_wp2_with (have _t := tok; refine wpList_store_row rfl 77 (.tmp 3) (.tmp 4) rfl w1.heap.size wordsRow rfl rfl 77 emptyRow HR.out ZI.out rfl oneWords ?_; clear tok; refine Hid.out ?_)
  have HN : Hid ((((w1.alloc (.cells emptyRow 77)).setRow w1.heap.size wordsRow)).heap[w1.heap.size]? = some (.cells wordsRow 77 (0, 0))) := setRow_heap _ _ _ _ _ _ HR.out
  have HB3 : Hid (Below w.heap.size w ((w1.alloc (.cells emptyRow 77)).setRow w1.heap.size wordsRow)) := below_setRow HB2.out HS.out _
  generalize (w1.alloc (.cells emptyRow 77)).setRow w1.heap.size wordsRow = w2 at *
  generalize w1.heap.size = g at *
  refine unhid ?_
  by_cases h1 : k < 1
  · have HE : Hid (wordAt k = wNone) := by
      show _ = _; unfold wordAt; rw [if_neg (by omega), if_neg (by omega), if_neg (by omega), if_neg (by omega)]
    go_wp2_with fail
    go_ret
    rw [HE.out]
    exact ⟨rfl, HB3.out⟩
  · by_cases h4 : 4 < k
    · have HE : Hid (wordAt k = wNone) := by
        show _ = _; unfold wordAt; rw [if_neg (by omega), if_neg (by omega), if_neg (by omega), if_neg (by omega)]
      go_wp2_with fail
      go_ret
      rw [HE.out]
      exact ⟨rfl, HB3.out⟩
    · have hc0 : w2.cell? ⟨g, 0, none⟩ = some (.string wCommit) := cell_row w2 g 0 _ _ _ HN.out
      have hc1 : w2.cell? ⟨g, 1, none⟩ = some (.string wTree) := cell_row w2 g 1 _ _ _ HN.out
      have hc2 : w2.cell? ⟨g, 2, none⟩ = some (.string wBlob) := cell_row w2 g 2 _ _ _ HN.out
      have hc3 : w2.cell? ⟨g, 3, none⟩ = some (.string wTag) := cell_row w2 g 3 _ _ _ HN.out
      obtain rfl | rfl | rfl | rfl : k = 1 ∨ k = 2 ∨ k = 3 ∨ k = 4 := by omega
      all_goals
        clear h1 h4
        go_wp2_with fail
        go_ret
        exact ⟨rfl, HB3.out⟩
/-- A kind's word, as the document tells it. -/
theorem refWord_any (k : Int) (w : World) : Calls Tryz.prog 9 #[.int .i64 k] w fun e w' => e = .returned (.string (wordAt k)) ∧ w' = w := by
  go_enter Tryz.func9, Tryz.ntmps9
  unfold wordAt
  by_cases h1 : k = 1
  · subst h1; go_wp2_with fail; go_ret; exact ⟨rfl, rfl⟩
  rw [if_neg h1]
  by_cases h2 : k = 2
  · subst h2; go_wp2_with fail; go_ret; exact ⟨rfl, rfl⟩
  rw [if_neg h2]
  by_cases h3 : k = 3
  · subst h3; go_wp2_with fail; go_ret; exact ⟨rfl, rfl⟩
  rw [if_neg h3]
  by_cases h4 : k = 4
  · subst h4; go_wp2_with fail; go_ret; exact ⟨rfl, rfl⟩
  rw [if_neg h4]
  go_wp2_with fail; go_ret; exact ⟨rfl, rfl⟩
end Go.Proofs.YtglgchjkonjpiaaGreatDoor
/-! What stands ahead of an object's body: the walk. -/
namespace Go.Proofs.YtglgchjkonjpiaaGreatDoor
open Go.RowKit
set_option linter.unusedVariables false
theorem tab_below {w w' : World} (h : Lib.TabIs Tryz.prog w "internal/strconv.uint64pow10" .u64 Lib.pow10Tab) (hb : Below w.heap.size w w') : Lib.TabIs Tryz.prog w' "internal/strconv.uint64pow10" .u64 Lib.pow10Tab := by
  unfold Lib.TabIs at *
  have hg : Tryz.prog.globalNamed "internal/strconv.uint64pow10" = some 3 := by kernel_rfl
  refine var?_below hb hg (World.block_lt_of_cell? w ⟨3, 0, none⟩ (u := .int .u64 1) ((World.var?_cell hg h 0).trans (by kernel_rfl))) h
theorem below_grow (w : World) (k : Nat) (os : Array Obj) : Below w.heap.size w (Sort.grow (w.drewN k) os) := by
  refine ⟨rfl, rfl, rfl, ?_, fun i hi => ?_⟩
  · show w.heap.size ≤ (w.heap ++ os).size
    simp
  · show (w.heap ++ os)[i]? = w.heap[i]?
    exact Array.getElem?_append_left hi
theorem dec_any (n : Nat) (hn : n ≤ 4611686018427387903) (w : World) (htab : Lib.TabIs Tryz.prog w "internal/strconv.uint64pow10" .u64 Lib.pow10Tab) :
    Calls Tryz.prog 36 #[.int .i64 (n : Int)] w fun e w' => e = .returned (.string ⟨(Lib.decDigits n).toArray⟩) ∧ Below w.heap.size w w' := by
  go_enter Tryz.func36, Tryz.ntmps36
  go_wp2_with fail
  refine (Tryz.strconv_Itoa (n : Int) (by omega) (by omega) w htab).mono ?_
  rintro e w2 ⟨rfl, k, os, rfl⟩
  rw [Lib.itoa_nonneg n]
  have HB : Hid (Below w.heap.size w (Sort.grow (w.drewN k) os)) := below_grow w k os
  go_wp2_with fail
  go_ret
  exact ⟨rfl, HB.out⟩
theorem loopN (bs : ByteArray) : ∀ (n i : Nat) (r : List UInt8), bs.size - i = n → ByteArray.toList.loop bs i r = r.reverse ++ bs.data.toList.drop i
  | 0, i, r, h => by
    rw [ByteArray.toList.loop, if_neg (by omega)]
    have : bs.data.toList.length ≤ i := by show bs.size ≤ i; omega
    rw [List.drop_of_length_le this, List.append_nil]
  | n + 1, i, r, h => by
    have hi : i < bs.data.toList.length := by show i < bs.size; omega
    rw [ByteArray.toList.loop, if_pos (by omega), loopN bs n (i + 1) _ (by omega), List.drop_eq_getElem_cons hi]
    have hg : bs.get! i = bs.data.toList[i] := by
      show bs.data[i]! = _
      have : i < bs.data.size := by simpa using hi
      rw [getElem!_pos bs.data i this]
      simp
    rw [hg]
    simp
theorem toList_eq (a : ByteArray) : a.toList = a.data.toList := by
  unfold ByteArray.toList
  rw [loopN a _ 0 [] rfl]
  simp
theorem none_empty : wNone.toList.isEmpty = true := by rw [toList_eq]; rfl
theorem some_full (W : ByteArray) (h : W ≠ wNone) : W.toList.isEmpty = false := by
  rw [toList_eq]
  cases hd : W.data.toList with
  | nil => exact absurd (ByteArray.ext (Array.toList_inj.1 hd)) h
  | cons c r => rfl
def numsOf (s : ByteArray) : List Int := s.data.toList.map fun c => (c.toNat : Int)
theorem numsOf_bytes (s : ByteArray) : ∀ x ∈ numsOf s, 0 ≤ x ∧ x ≤ 255 := by
  intro x hx
  obtain ⟨c, -, rfl⟩ := List.mem_map.1 hx
  have := c.toNat_lt
  omega
theorem range_of_mem {xs : List Int} (h : ∀ x ∈ xs, 0 ≤ x ∧ x ≤ 255) (j : Nat) : 0 ≤ xs[j]?.getD 0 ∧ xs[j]?.getD 0 ≤ 255 := by
  by_cases hj : j < xs.length
  · rw [List.getElem?_eq_getElem hj]; exact h _ (List.getElem_mem hj)
  · rw [List.getElem?_eq_none (by omega)]; simp
theorem numsOf_length (s : ByteArray) : (numsOf s).length = s.size := by unfold numsOf; rw [List.length_map]; rfl
/-- A text's bytes in a new row. -/
theorem bytes_new (w : World) (s : ByteArray) (hs : s.size ≤ 9223372036854775807) : Bytes (Lib.bytesWorld w 5 s) (some ⟨w.heap.size, 0, none⟩) s.size (numsOf s) := by
  refine ⟨numsOf_length s, hs, range_of_mem (numsOf_bytes s), .inr ⟨_, _, rfl, fun j hj => ?_⟩⟩
  rw [Nat.zero_add, Lib.bytesWorld_cell w 5 s j hj]
  unfold numsOf
  have hj' : j < s.data.toList.length := by simpa using hj
  rw [List.getElem?_map, List.getElem?_eq_getElem hj', List.getD_eq_getElem?_getD, List.getElem?_eq_getElem hj']
  rfl
theorem conv_bytes (w : World) (s : ByteArray) : ∃ c, s.size ≤ c ∧ (convert 9 22 (.string s)).run Tryz.prog w = .ok (.slice (some ⟨w.heap.size, 0, none⟩) s.size c) (Lib.bytesWorld w 5 s) := by
  have hge := grownCap_ge w s.size 0 5
  exact ⟨_, hge, Lib.run_convert_string_bytes w 9 22 5 s Tryz.underlying9 Tryz.underlying22 Tryz.underlying5⟩
/-- What stands ahead of a body of m bytes. -/
def frontOf (k : Int) (m : Nat) : ByteArray := wordAt k ++ (⟨#[32]⟩ : ByteArray) ++ (⟨(Lib.decDigits m).toArray⟩ : ByteArray) ++ (⟨#[0]⟩ : ByteArray)
theorem wordAt_size (k : Int) : (wordAt k).size ≤ 6 := by
  unfold wordAt
  split; · decide
  split; · decide
  split; · decide
  split; · decide
  decide
theorem dec_len (n : Nat) (hn : n ≤ 4611686018427387903) : (Lib.decDigits n).length ≤ 21 := by
  rw [← Lib.itoa_nonneg]
  exact Lib.itoa_length_le n (by omega) (by omega)
/-- What front hands back. -/
def FrontPost (w : World) (k : Int) (m : Nat) (e : Ending) (w' : World) : Prop :=
  (wordAt k = wNone ∧ e = .returned (.tuple #[.slice none 0 0, .int .i64 1])) ∨
  (wordAt k ≠ wNone ∧ 16777216 < m ∧ e = .returned (.tuple #[.slice none 0 0, .int .i64 2])) ∨
  (wordAt k ≠ wNone ∧ m ≤ 16777216 ∧ ∃ a c, e = .returned (.tuple #[.slice a (frontOf k m).size c, .int .i64 0]) ∧ (frontOf k m).size ≤ c ∧ Bytes w' a (frontOf k m).size (numsOf (frontOf k m)))
set_option maxRecDepth 100000 in
set_option maxHeartbeats 4000000 in
theorem front_any (k : Int) (a : Option Addr) (m cap : Nat) (hm : m ≤ 9223372036854775807) (w : World) (htab : Lib.TabIs Tryz.prog w "internal/strconv.uint64pow10" .u64 Lib.pow10Tab) :
    Calls Tryz.prog 16 #[.int .i64 k, .slice a m cap] w fun e w' => FrontPost w k m e w' ∧ Below w.heap.size w w' := by
  have HT : Hid (Lib.TabIs Tryz.prog w "internal/strconv.uint64pow10" .u64 Lib.pow10Tab) := htab
  clear htab
  have hws := wordAt_size k
  go_enter Tryz.func16, Tryz.ntmps16
  go_wp2_with fail
  refine (word_any k w).mono ?_
  rintro e w1 ⟨rfl, hb1⟩
  have HW1 : Hid (Below w.heap.size w w1) := hb1
  clear hb1
  have HWO : Hid (∀ x, wordAt k = x → wordAt k = x) := fun _ h => h
  obtain ⟨W, hW⟩ : ∃ W, wordAt k = W := ⟨_, rfl⟩
  have HWE : Hid (wordAt k = W) := hW
  rw [hW] at hws ⊢
  clear hW
  by_cases h0 : W = wNone
  · subst h0
    have hem := none_empty
    have HP : Hid (FrontPost w k m (.returned (.tuple #[.slice none 0 0, .int .i64 1])) w1) := .inl ⟨HWE.out, rfl⟩
    go_wp2_with fail
    go_ret2
    exact ⟨HP.out, HW1.out⟩
  · have hne := some_full W h0
    by_cases hbig : 16777216 < m
    · have hbi : (16777216 : Int) < m := by omega
      have HP : Hid (FrontPost w k m (.returned (.tuple #[.slice none 0 0, .int .i64 2])) w1) := .inr (.inl ⟨fun e => h0 (HWE.out.symm.trans e), hbig, rfl⟩)
      clear h0
      go_wp2_with fail
      go_ret2
      exact ⟨HP.out, HW1.out⟩
    · have hbi : ¬ (16777216 : Int) < m := by omega
      have hl1 : ¬ 9223372036854775807 < W.size + 1 := by omega
      clear h0
      go_wp2_with fail
      refine (dec_any m (by omega) w1 (tab_below HT.out HW1.out)).mono ?_
      rintro e w2 ⟨rfl, hb2⟩
      have HW2 : Hid (Below w.heap.size w w2) := HW1.out.trans (hb2.mono HW1.out.size)
      clear hb2
      have hd := dec_len m (by omega)
      have hl2 : ¬ 9223372036854775807 < W.size + 1 + (Lib.decDigits m).length := by omega
      have hl3 : ¬ 9223372036854775807 < W.size + 1 + (Lib.decDigits m).length + 1 := by omega
      obtain ⟨F, hF⟩ : ∃ F : ByteArray, W ++ (⟨#[32]⟩ : ByteArray) ++ (⟨(Lib.decDigits m).toArray⟩ : ByteArray) ++ (⟨#[0]⟩ : ByteArray) = F := ⟨_, rfl⟩
      have HF : Hid (frontOf k m = F) := by show _ = _; unfold frontOf; rw [HWE.out, hF]
      have hFs : F.size ≤ 30 := by
        rw [← hF]
        simp only [ByteArray.size_append]
        have e1 : (⟨#[32]⟩ : ByteArray).size = 1 := rfl
        have e2 : (⟨#[0]⟩ : ByteArray).size = 1 := rfl
        have e3 : (⟨(Lib.decDigits m).toArray⟩ : ByteArray).size = (Lib.decDigits m).length := rfl
        omega
      obtain ⟨cc, hcc, hcv⟩ := conv_bytes w2 F
      have HBY : Hid (Bytes (Lib.bytesWorld w2 5 F) (some ⟨w2.heap.size, 0, none⟩) F.size (numsOf F)) := bytes_new w2 F (by omega)
      have HW3 : Hid (Below w.heap.size w (Lib.bytesWorld w2 5 F)) := HW2.out.trans ((Lib.bytesWorld_below w2 _ F).mono HW2.out.size)
      generalize Lib.bytesWorld w2 5 F = w3 at *
      generalize w2.heap.size = g at *
      have HP : Hid (FrontPost w k m (.returned (.tuple #[.slice (some ⟨g, 0, none⟩) F.size cc, .int .i64 0])) w3) := by
        refine .inr (.inr ⟨fun e => ?_, by omega, some ⟨g, 0, none⟩, cc, by rw [HF.out], by rw [HF.out]; exact hcc, by rw [HF.out]; exact HBY.out⟩)
        rw [HWE.out] at e; rw [e, none_empty] at hne; cases hne
      clear hd
      go_wp2_with fail
      go_ret2
      exact ⟨HP.out, HW3.out⟩
end Go.Proofs.YtglgchjkonjpiaaGreatDoor
/-! An object's id: the walk. -/
namespace Go.Proofs.YtglgchjkonjpiaaGreatDoor
open Go.RowKit Plain
set_option linter.unusedVariables false
def zeroId : Array Value := idTo (sumOf []) 0
theorem zeroId_run (w : World) : (zeroValue 43).run Tryz.prog w = .ok (.agg zeroId) w := zero_20 (sumOf []) w
theorem infoId (r : Array Value) (h : r.size = 20) : (Tryz.prog.info? 43).map (·.size) = some r.size := by
  rw [h]; kernel_rfl
theorem zeroId_size : zeroId.size = 20 := idTo_size _ _
theorem oneId (s : Five) (k : Nat) : (idTo s k).all (·.oneCell') = true := by
  rw [Array.all_eq_true_iff_forall_mem]; intro v hv; unfold idTo at hv; simp at hv; obtain ⟨x, _, rfl⟩ := hv; rfl
theorem results_row_tmp {P : Program} {fn : Func} {p u : Tmp} {ty : TypeId} (h : fn.results = #[.cell p ty, .tmp u]) (tmps : Array Value) (w : World) (g : Nat) (t : TypeId) (cs : Array Value) (fr : Nat × Nat) (d : TypeDesc)
    (hp : tmps.getD p undef = .pointer (some ⟨g, 0, none⟩)) (hg : w.heap[g]? = some (.cells cs t fr))
    (hu : P.underlying ty = some d) (hd : (match d with | .struct _ | .array _ _ => true | _ => false) = true) (hi : (P.info? ty).map (·.size) = some cs.size) :
    (results fn tmps).run P w = .ok (.tuple #[.agg cs, tmps.getD u undef]) w := by
  have hp' : tmps[p]?.getD undef = .pointer (some ⟨g, 0, none⟩) := by simpa using hp
  simp [results, h, hp', asAddr, run_loadVar_row w g t ty cs fr d hg hu hd hi]
/-- Two parts in a new row. -/
theorem two_parts (w : World) (x y : Part) (hx : x.xs.length ≤ x.cap) (hy : y.xs.length ≤ y.cap) (hbx : Bytes w x.a x.xs.length x.xs) (hby : Bytes w y.a y.xs.length y.xs) (t : TypeId) :
    PartsAt (w.alloc (.cells #[.slice x.a x.xs.length x.cap, .slice y.a y.xs.length y.cap] t)) w.heap.size 0 [x, y] := by
  have hb : Below w.heap.size w (w.alloc (.cells #[.slice x.a x.xs.length x.cap, .slice y.a y.xs.length y.cap] t)) := (Below.refl _ _).alloc (Nat.le_refl _) _
  have hh := heap_alloc_new w (.cells #[.slice x.a x.xs.length x.cap, .slice y.a y.xs.length y.cap] t)
  intro j p hp
  match j, hp with
  | 0, hp =>
    simp only [List.getElem?_cons_zero, Option.some.injEq] at hp; subst hp
    exact ⟨cell_row _ _ _ _ _ _ hh, hx, hbx.below hb⟩
  | 1, hp =>
    simp only [List.getElem?_cons_succ, List.getElem?_cons_zero, Option.some.injEq] at hp; subst hp
    exact ⟨cell_row _ _ _ _ _ _ hh, hy, hby.below hb⟩
  | j + 2, hp => simp at hp
/-- The sum that is an object's id. -/
def idSum (k : Int) (m : Nat) (xs : List Int) : Five := sumOf (numsOf (frontOf k m) ++ xs)
/-- What Id hands back. -/
def IdPost (k : Int) (m : Nat) (xs : List Int) (e : Ending) : Prop :=
  (wordAt k = wNone ∧ e = .returned (.tuple #[.agg zeroId, .int .i64 1])) ∨
  (wordAt k ≠ wNone ∧ 16777216 < m ∧ e = .returned (.tuple #[.agg zeroId, .int .i64 2])) ∨
  (wordAt k ≠ wNone ∧ m ≤ 16777216 ∧ e = .returned (.tuple #[.agg (idTo (idSum k m xs) 20), .int .i64 0]))
theorem frontOf_size (k : Int) (m : Nat) (hm : m ≤ 4611686018427387903) : (frontOf k m).size ≤ 30 := by
  have h1 := wordAt_size k
  have h2 := dec_len m hm
  unfold frontOf
  simp only [ByteArray.size_append]
  have e1 : (⟨#[32]⟩ : ByteArray).size = 1 := rfl
  have e2 : (⟨#[0]⟩ : ByteArray).size = 1 := rfl
  have e3 : (⟨(Lib.decDigits m).toArray⟩ : ByteArray).size = (Lib.decDigits m).length := rfl
  omega
set_option maxRecDepth 100000 in
set_option maxHeartbeats 4000000 in
theorem id_any (k : Int) (a : Option Addr) (m cap : Nat) (xs : List Int) (hm : m ≤ 9223372036854775807) (hmc : m ≤ cap) (w : World) (H : Bytes w a m xs) (htab : Lib.TabIs Tryz.prog w "internal/strconv.uint64pow10" .u64 Lib.pow10Tab) :
    Calls Tryz.prog 18 #[.int .i64 k, .slice a m cap] w fun e w' => IdPost k m xs e ∧ Below w.heap.size w w' := by
  have HH : Hid (Bytes w a m xs) := H
  have hz := zeroId_run
  have HI : Hid (∀ r : Array Value, r.size = 20 → (Tryz.prog.info? 43).map (·.size) = some r.size) := infoId
  have HZS : Hid (zeroId.size = 20) := zeroId_size
  have HZO : Hid (zeroId.all (·.oneCell') = true) := oneId _ _
  have ez : zeroId.size = 20 := zeroId_size
  clear H
  have hb0 : Below w.heap.size w (w.alloc (.cells zeroId 43)) := (Below.refl _ _).alloc (Nat.le_refl _) _
  have HN : Hid ((w.alloc (.cells zeroId 43)).heap[w.heap.size]? = some (.cells zeroId 43 (0, 0))) := heap_alloc_new w _
  have HSZ : Hid ((w.alloc (.cells zeroId 43)).heap.size = w.heap.size + 1) := by show _ = _; simp
  have HT : Hid (Lib.TabIs Tryz.prog (w.alloc (.cells zeroId 43)) "internal/strconv.uint64pow10" .u64 Lib.pow10Tab) := tab_below htab hb0
  have HB0 : Hid (Below w.heap.size w (w.alloc (.cells zeroId 43))) := hb0
  clear htab hb0
  go_enter Tryz.func18, Tryz.ntmps18
  go_wp2_with fail
  generalize w.alloc (.cells zeroId 43) = w0 at *
  refine (front_any k a m cap hm w0 HT.out).mono ?_
  rintro e w1 ⟨hp, hb1⟩
  have HB1 : Hid (Below w.heap.size w w1) := HB0.out.trans (hb1.mono HB0.out.size)
  have HN1 : Hid (w1.heap[w.heap.size]? = some (.cells zeroId 43 (0, 0))) := (hb1.block _ (by rw [HSZ.out]; omega)).trans HN.out
  have HS1 : Hid (w.heap.size + 1 ≤ w1.heap.size) := by have := hb1.size; rw [HSZ.out] at this; exact this
  clear hb1 HT
  rcases hp with ⟨hw, rfl⟩ | ⟨hw, hm1, rfl⟩ | ⟨hw, hm1, xa, xc, rfl, hxc, hxb⟩
  · have HP : Hid (IdPost k m xs (.returned (.tuple #[.agg zeroId, .int .i64 1]))) := .inl ⟨hw, rfl⟩
    clear hw
    have tok : True := trivial
    go_wp2_with (have _t := tok; refine wpList_store_row rfl 43 (.tmp 4) (.tmp 16) rfl w.heap.size zeroId rfl rfl 43 zeroId HN1.out (HI.out _ HZS.out) rfl HZO.out ?_; clear tok)
    refine bodyPost_ret (results_row_tmp Tryz.results18 _ _ w.heap.size 43 zeroId (0, 0) (.array 20 5) rfl (setRow_heap _ _ _ _ _ _ HN1.out) Tryz.underlying43 rfl (HI.out _ HZS.out)) rfl ⟨HP.out, ?_⟩
    exact below_setRow HB1.out (Nat.le_refl _) _
  · have HP : Hid (IdPost k m xs (.returned (.tuple #[.agg zeroId, .int .i64 2]))) := .inr (.inl ⟨hw, hm1, rfl⟩)
    clear hw hm1
    have tok : True := trivial
    go_wp2_with (have _t := tok; refine wpList_store_row rfl 43 (.tmp 4) (.tmp 16) rfl w.heap.size zeroId rfl rfl 43 zeroId HN1.out (HI.out _ HZS.out) rfl HZO.out ?_; clear tok)
    refine bodyPost_ret (results_row_tmp Tryz.results18 _ _ w.heap.size 43 zeroId (0, 0) (.array 20 5) rfl (setRow_heap _ _ _ _ _ _ HN1.out) Tryz.underlying43 rfl (HI.out _ HZS.out)) rfl ⟨HP.out, ?_⟩
    exact below_setRow HB1.out (Nat.le_refl _) _
  · have HP : Hid (IdPost k m xs (.returned (.tuple #[.agg (idTo (idSum k m xs) 20), .int .i64 0]))) := .inr (.inr ⟨hw, hm1, rfl⟩)
    have hfs := frontOf_size k m (by omega)
    have HFL : Hid ((numsOf (frontOf k m)).length = (frontOf k m).size) := numsOf_length _
    have HBX : Hid (Bytes w1 xa (frontOf k m).size (numsOf (frontOf k m))) := hxb
    have HBB : Hid (Bytes w1 a m xs) := HH.out.below HB1.out
    have hxl : xs.length = m := HH.out.1
    have HIS : Hid (idSum k m xs = sumOf (allBytes [⟨xa, xc, numsOf (frontOf k m)⟩, ⟨a, cap, xs⟩])) := by
      show _ = _; unfold idSum allBytes; simp
    have HPA : ∀ t, PartsAt (w1.alloc (.cells #[.slice xa (frontOf k m).size xc, .slice a m cap] t)) w1.heap.size 0 [⟨xa, xc, numsOf (frontOf k m)⟩, ⟨a, cap, xs⟩] := fun t => by
      have := two_parts w1 ⟨xa, xc, numsOf (frontOf k m)⟩ ⟨a, cap, xs⟩ (by simp only; rw [HFL.out]; exact hxc) (by simp only; rw [hxl]; exact hmc) (by simp only; rw [HFL.out]; exact HBX.out) (by simp only; rw [hxl]; exact HBB.out) t
      simp only at this
      rwa [HFL.out, hxl] at this
    have HLE : Hid ((allBytes [⟨xa, xc, numsOf (frontOf k m)⟩, ⟨a, cap, xs⟩]).length + 100 < 18446744073709551616) := by
      show _ < _
      unfold allBytes
      simp only [List.flatMap_cons, List.flatMap_nil, List.append_nil, List.length_append, HFL.out, hxl]
      omega
    have HPQ : Hid (∀ t, PartsAt (w1.alloc (.cells #[.slice xa (frontOf k m).size xc, .slice a m cap] t)) w1.heap.size 0 [⟨xa, xc, numsOf (frontOf k m)⟩, ⟨a, cap, xs⟩]) := HPA
    clear hw hxb HPA hxl HBX HBB HFL hfs
    generalize (frontOf k m).size = fs at *
    generalize numsOf (frontOf k m) = fb at *
    go_wp2_with fail
    refine (sum_any w1.heap.size 0 2 [⟨xa, xc, fb⟩, ⟨a, cap, xs⟩] _ (by simp) (by simp) HLE.out (HPQ.out _)).mono ?_
    rw [← HIS.out]
    rintro e w2 ⟨rfl, hb2⟩
    have hb3 : Below w1.heap.size w1 w2 := ((Below.refl _ _).alloc (Nat.le_refl _) _).trans (hb2.mono (by simp))
    have HN2 : Hid (w2.heap[w.heap.size]? = some (.cells zeroId 43 (0, 0))) := (hb3.block _ (by have := HS1.out; omega)).trans HN1.out
    have HB2 : Hid (Below w.heap.size w w2) := HB1.out.trans (hb3.mono (by have := HS1.out; omega))
    have HIR : Hid ((idTo (idSum k m xs) 20).size = 20) := idTo_size _ _
    have HIO : Hid ((idTo (idSum k m xs) 20).all (·.oneCell') = true) := oneId _ _
    clear hb2 hb3 HPQ
    generalize idTo (idSum k m xs) 20 = row at *
    have tok : True := trivial
    go_wp2_with (have _t := tok; refine wpList_store_row rfl 43 (.tmp 4) (.tmp 21) rfl w.heap.size row rfl rfl 43 zeroId HN2.out (HI.out _ HIR.out) (HZS.out.trans HIR.out.symm) HIO.out ?_; clear tok)
    refine bodyPost_ret (results_row_tmp Tryz.results18 _ _ w.heap.size 43 row (0, 0) (.array 20 5) rfl (setRow_heap _ _ _ _ _ _ HN2.out) Tryz.underlying43 rfl (HI.out _ HIR.out)) rfl ⟨HP.out, ?_⟩
    exact below_setRow HB2.out (Nat.le_refl _) _
end Go.Proofs.YtglgchjkonjpiaaGreatDoor
