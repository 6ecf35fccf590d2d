/- An object's id: the walk. -/
import Derived.Test.YtlnfgebonmfokaaDoorFront
import Derived.Test.YtlnfgebonmfokaaDoorSum
import Derived.Test.YtlnfgebonmfokaaDoorHex
namespace Go.Proofs.YtlnfgebonmfokaaDoor
open Go.RowKit Plain
set_option linter.unusedVariables false
def zeroId : Array Value := idTo (sumOf []) 0
theorem zeroId_run (w : World) : (zeroValue 25).run Tryd.prog w = .ok (.agg zeroId) w := zero_20 (sumOf []) w
theorem infoId (r : Array Value) (h : r.size = 20) : (Tryd.prog.info? 25).map (·.size) = some r.size := by
  rw [h]; kernel_rfl
theorem zeroId_size : zeroId.size = 20 := idTo_size _ _
theorem oneId (s : Five) (k : Nat) : (idTo s k).all (·.oneCell') = true := by
  rw [Array.all_eq_true_iff_forall_mem]; intro v hv; unfold idTo at hv; simp at hv; obtain ⟨x, _, rfl⟩ := hv; rfl
theorem results_row_tmp {P : Program} {fn : Func} {p u : Tmp} {ty : TypeId} (h : fn.results = #[.cell p ty, .tmp u]) (tmps : Array Value) (w : World) (g : Nat) (t : TypeId) (cs : Array Value) (fr : Nat × Nat) (d : TypeDesc)
    (hp : tmps.getD p undef = .pointer (some ⟨g, 0, none⟩)) (hg : w.heap[g]? = some (.cells cs t fr))
    (hu : P.underlying ty = some d) (hd : (match d with | .struct _ | .array _ _ => true | _ => false) = true) (hi : (P.info? ty).map (·.size) = some cs.size) :
    (results fn tmps).run P w = .ok (.tuple #[.agg cs, tmps.getD u undef]) w := by
  have hp' : tmps[p]?.getD undef = .pointer (some ⟨g, 0, none⟩) := by simpa using hp
  simp [results, h, hp', asAddr, run_loadVar_row w g t ty cs fr d hg hu hd hi]
/-- Two parts in a new row. -/
theorem two_parts (w : World) (x y : Part) (hx : x.xs.length ≤ x.cap) (hy : y.xs.length ≤ y.cap) (hbx : Bytes w x.a x.xs.length x.xs) (hby : Bytes w y.a y.xs.length y.xs) (t : TypeId) :
    PartsAt (w.alloc (.cells #[.slice x.a x.xs.length x.cap, .slice y.a y.xs.length y.cap] t)) w.heap.size 0 [x, y] := by
  have hb : Below w.heap.size w (w.alloc (.cells #[.slice x.a x.xs.length x.cap, .slice y.a y.xs.length y.cap] t)) := (Below.refl _ _).alloc (Nat.le_refl _) _
  have hh := heap_alloc_new w (.cells #[.slice x.a x.xs.length x.cap, .slice y.a y.xs.length y.cap] t)
  intro j p hp
  match j, hp with
  | 0, hp =>
    simp only [List.getElem?_cons_zero, Option.some.injEq] at hp; subst hp
    exact ⟨cell_row _ _ _ _ _ _ hh, hx, hbx.below hb⟩
  | 1, hp =>
    simp only [List.getElem?_cons_succ, List.getElem?_cons_zero, Option.some.injEq] at hp; subst hp
    exact ⟨cell_row _ _ _ _ _ _ hh, hy, hby.below hb⟩
  | j + 2, hp => simp at hp
/-- The sum that is an object's id. -/
def idSum (k : Int) (m : Nat) (xs : List Int) : Five := sumOf (numsOf (frontOf k m) ++ xs)
/-- What Id hands back. -/
def IdPost (k : Int) (m : Nat) (xs : List Int) (e : Ending) : Prop :=
  (wordAt k = wNone ∧ e = .returned (.tuple #[.agg zeroId, .int .i64 1])) ∨
  (wordAt k ≠ wNone ∧ 16777216 < m ∧ e = .returned (.tuple #[.agg zeroId, .int .i64 2])) ∨
  (wordAt k ≠ wNone ∧ m ≤ 16777216 ∧ e = .returned (.tuple #[.agg (idTo (idSum k m xs) 20), .int .i64 0]))
theorem frontOf_size (k : Int) (m : Nat) (hm : m ≤ 4611686018427387903) : (frontOf k m).size ≤ 30 := by
  have h1 := wordAt_size k
  have h2 := dec_len m hm
  unfold frontOf
  simp only [ByteArray.size_append]
  have e1 : (⟨#[32]⟩ : ByteArray).size = 1 := rfl
  have e2 : (⟨#[0]⟩ : ByteArray).size = 1 := rfl
  have e3 : (⟨(Lib.decDigits m).toArray⟩ : ByteArray).size = (Lib.decDigits m).length := rfl
  omega
set_option maxRecDepth 100000 in
set_option maxHeartbeats 4000000 in
theorem id_any (k : Int) (a : Option Addr) (m cap : Nat) (xs : List Int) (hm : m ≤ 9223372036854775807) (hmc : m ≤ cap) (w : World) (H : Bytes w a m xs) (htab : Lib.TabIs Tryd.prog w "internal/strconv.uint64pow10" .u64 Lib.pow10Tab) :
    Calls Tryd.prog 6 #[.int .i64 k, .slice a m cap] w fun e w' => IdPost k m xs e ∧ Below w.heap.size w w' := by
  have HH : Hid (Bytes w a m xs) := H
  have hz := zeroId_run
  have HI : Hid (∀ r : Array Value, r.size = 20 → (Tryd.prog.info? 25).map (·.size) = some r.size) := infoId
  have HZS : Hid (zeroId.size = 20) := zeroId_size
  have HZO : Hid (zeroId.all (·.oneCell') = true) := oneId _ _
  have ez : zeroId.size = 20 := zeroId_size
  clear H
  have hb0 : Below w.heap.size w (w.alloc (.cells zeroId 25)) := (Below.refl _ _).alloc (Nat.le_refl _) _
  have HN : Hid ((w.alloc (.cells zeroId 25)).heap[w.heap.size]? = some (.cells zeroId 25 (0, 0))) := heap_alloc_new w _
  have HSZ : Hid ((w.alloc (.cells zeroId 25)).heap.size = w.heap.size + 1) := by show _ = _; simp
  have HT : Hid (Lib.TabIs Tryd.prog (w.alloc (.cells zeroId 25)) "internal/strconv.uint64pow10" .u64 Lib.pow10Tab) := tab_below htab hb0
  have HB0 : Hid (Below w.heap.size w (w.alloc (.cells zeroId 25))) := hb0
  clear htab hb0
  go_enter Tryd.func6, Tryd.ntmps6
  go_wp2_with fail
  generalize w.alloc (.cells zeroId 25) = w0 at *
  refine (front_any k a m cap hm w0 HT.out).mono ?_
  rintro e w1 ⟨hp, hb1⟩
  have HB1 : Hid (Below w.heap.size w w1) := HB0.out.trans (hb1.mono HB0.out.size)
  have HN1 : Hid (w1.heap[w.heap.size]? = some (.cells zeroId 25 (0, 0))) := (hb1.block _ (by rw [HSZ.out]; omega)).trans HN.out
  have HS1 : Hid (w.heap.size + 1 ≤ w1.heap.size) := by have := hb1.size; rw [HSZ.out] at this; exact this
  clear hb1 HT
  rcases hp with ⟨hw, rfl⟩ | ⟨hw, hm1, rfl⟩ | ⟨hw, hm1, xa, xc, rfl, hxc, hxb⟩
  · have HP : Hid (IdPost k m xs (.returned (.tuple #[.agg zeroId, .int .i64 1]))) := .inl ⟨hw, rfl⟩
    clear hw
    have tok : True := trivial
    go_wp2_with (have _t := tok; refine wpList_store_row rfl 25 (.tmp 4) (.tmp 16) rfl w.heap.size zeroId rfl rfl 25 zeroId HN1.out (HI.out _ HZS.out) rfl HZO.out ?_; clear tok)
    refine bodyPost_ret (results_row_tmp Tryd.results6 _ _ w.heap.size 25 zeroId (0, 0) (.array 20 5) rfl (setRow_heap _ _ _ _ _ _ HN1.out) Tryd.underlying25 rfl (HI.out _ HZS.out)) rfl ⟨HP.out, ?_⟩
    exact below_setRow HB1.out (Nat.le_refl _) _
  · have HP : Hid (IdPost k m xs (.returned (.tuple #[.agg zeroId, .int .i64 2]))) := .inr (.inl ⟨hw, hm1, rfl⟩)
    clear hw hm1
    have tok : True := trivial
    go_wp2_with (have _t := tok; refine wpList_store_row rfl 25 (.tmp 4) (.tmp 16) rfl w.heap.size zeroId rfl rfl 25 zeroId HN1.out (HI.out _ HZS.out) rfl HZO.out ?_; clear tok)
    refine bodyPost_ret (results_row_tmp Tryd.results6 _ _ w.heap.size 25 zeroId (0, 0) (.array 20 5) rfl (setRow_heap _ _ _ _ _ _ HN1.out) Tryd.underlying25 rfl (HI.out _ HZS.out)) rfl ⟨HP.out, ?_⟩
    exact below_setRow HB1.out (Nat.le_refl _) _
  · have HP : Hid (IdPost k m xs (.returned (.tuple #[.agg (idTo (idSum k m xs) 20), .int .i64 0]))) := .inr (.inr ⟨hw, hm1, rfl⟩)
    have hfs := frontOf_size k m (by omega)
    have HFL : Hid ((numsOf (frontOf k m)).length = (frontOf k m).size) := numsOf_length _
    have HBX : Hid (Bytes w1 xa (frontOf k m).size (numsOf (frontOf k m))) := hxb
    have HBB : Hid (Bytes w1 a m xs) := HH.out.below HB1.out
    have hxl : xs.length = m := HH.out.1
    have HIS : Hid (idSum k m xs = sumOf (allBytes [⟨xa, xc, numsOf (frontOf k m)⟩, ⟨a, cap, xs⟩])) := by
      show _ = _; unfold idSum allBytes; simp
    have HPA : ∀ t, PartsAt (w1.alloc (.cells #[.slice xa (frontOf k m).size xc, .slice a m cap] t)) w1.heap.size 0 [⟨xa, xc, numsOf (frontOf k m)⟩, ⟨a, cap, xs⟩] := fun t => by
      have := two_parts w1 ⟨xa, xc, numsOf (frontOf k m)⟩ ⟨a, cap, xs⟩ (by simp only; rw [HFL.out]; exact hxc) (by simp only; rw [hxl]; exact hmc) (by simp only; rw [HFL.out]; exact HBX.out) (by simp only; rw [hxl]; exact HBB.out) t
      simp only at this
      rwa [HFL.out, hxl] at this
    have HLE : Hid ((allBytes [⟨xa, xc, numsOf (frontOf k m)⟩, ⟨a, cap, xs⟩]).length + 100 < 18446744073709551616) := by
      show _ < _
      unfold allBytes
      simp only [List.flatMap_cons, List.flatMap_nil, List.append_nil, List.length_append, HFL.out, hxl]
      omega
    have HPQ : Hid (∀ t, PartsAt (w1.alloc (.cells #[.slice xa (frontOf k m).size xc, .slice a m cap] t)) w1.heap.size 0 [⟨xa, xc, numsOf (frontOf k m)⟩, ⟨a, cap, xs⟩]) := HPA
    clear hw hxb HPA hxl HBX HBB HFL hfs
    generalize (frontOf k m).size = fs at *
    generalize numsOf (frontOf k m) = fb at *
    go_wp2_with fail
    refine (sum_any w1.heap.size 0 2 [⟨xa, xc, fb⟩, ⟨a, cap, xs⟩] _ (by simp) (by simp) HLE.out (HPQ.out _)).mono ?_
    rw [← HIS.out]
    rintro e w2 ⟨rfl, hb2⟩
    have hb3 : Below w1.heap.size w1 w2 := ((Below.refl _ _).alloc (Nat.le_refl _) _).trans (hb2.mono (by simp))
    have HN2 : Hid (w2.heap[w.heap.size]? = some (.cells zeroId 25 (0, 0))) := (hb3.block _ (by have := HS1.out; omega)).trans HN1.out
    have HB2 : Hid (Below w.heap.size w w2) := HB1.out.trans (hb3.mono (by have := HS1.out; omega))
    have HIR : Hid ((idTo (idSum k m xs) 20).size = 20) := idTo_size _ _
    have HIO : Hid ((idTo (idSum k m xs) 20).all (·.oneCell') = true) := oneId _ _
    clear hb2 hb3 HPQ
    generalize idTo (idSum k m xs) 20 = row at *
    have tok : True := trivial
    go_wp2_with (have _t := tok; refine wpList_store_row rfl 25 (.tmp 4) (.tmp 21) rfl w.heap.size row rfl rfl 25 zeroId HN2.out (HI.out _ HIR.out) (HZS.out.trans HIR.out.symm) HIO.out ?_; clear tok)
    refine bodyPost_ret (results_row_tmp Tryd.results6 _ _ w.heap.size 25 row (0, 0) (.array 20 5) rfl (setRow_heap _ _ _ _ _ _ HN2.out) Tryd.underlying25 rfl (HI.out _ HIR.out)) rfl ⟨HP.out, ?_⟩
    exact below_setRow HB2.out (Nat.le_refl _) _
end Go.Proofs.YtlnfgebonmfokaaDoor
