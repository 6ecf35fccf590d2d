/- copies.Print: the walk. -/
import Derived.Test.YtmkhnlfhbiabcaaDoorFrom
import Derived.Lib.SlBytesConst
namespace Go.Proofs.YtmkhnlfhbiabcaaDoor
open Go.RowKit Plain Go.ChangeShapes Go.WideShapes Go.ChangeAt
set_option linter.unusedVariables false
def markB : ByteArray := ⟨#[1, 10]⟩
/-- What is told of a copy. -/
def toldB (p : ByteArray) (id : List Int) : ByteArray :=
  (⟨#[1, 10, 99, 111, 112, 121, 58, 32]⟩ : ByteArray) ++ p ++ ⟨#[10]⟩ ++ ⟨#[99, 111, 112, 121, 114, 101, 118, 58, 32]⟩ ++ ⟨(hexOf id).toArray⟩ ++ ⟨#[10]⟩ ++ ⟨#[1, 10]⟩
def printL (xs : List Int) (p : ByteArray) (id : List Int) : Option (List Int) :=
  if noFrom p id then (if pre xs markB then some ([1, 10, 1, 10] ++ xs) else some xs)
  else if rightL p.data.toList then some (numsOf (toldB p id) ++ xs) else none
def PrintOut (base : Nat) (w' : World) (e : Ending) : Option (List Int) → Prop
  | none => e = .returned (.tuple #[.slice none 0 0, .int .i64 4])
  | some ys => ∃ va vc, e = .returned (.tuple #[.slice va ys.length vc, .int .i64 0]) ∧ Mid w' base (.slice va ys.length vc) ys.length ys
theorem wpList_build {P : Program} {w : World} {ops : Array Oper} {rest : List Oper} {o : Oper} {a : Act} {Q : Exit → Act → World → Prop} (hw : Region.wanted o (yielded ops a.tmps) = true) (ty : TypeId) (ps : Array (Nat × Operand)) (ho : o.op = .build ty ps)
    (qs : Array (Nat × Value)) (hq : (ps.map fun (i, x) => (i, a.eval x)) = qs) (v : Value) (hr : ∀ W, (Instr.build ty qs).run P W = .ok v W) (h : wpList P ops Q rest (a.put o.dst v) w) : wpList P ops Q (o :: rest) a w := by
  refine wpList_step ?_
  intro K hK
  rw [if_pos hw]
  unfold Oper.wp execOp
  simp only [ho, Sem.run_bind, hq, hr, Result.andThen_ok]
  exact hK _ _ h
theorem wpList_build_0 {P : Program} {w : World} {ops : Array Oper} {rest : List Oper} {o : Oper} {a : Act} {Q : Exit → Act → World → Prop} (hw : Region.wanted o (yielded ops a.tmps) = true) (ty : TypeId) (ho : o.op = .build ty #[])
    (v : Value) (hr : ∀ W, (Instr.build ty #[]).run P W = .ok v W) (h : wpList P ops Q rest (a.put o.dst v) w) : wpList P ops Q (o :: rest) a w :=
  wpList_build hw ty _ ho #[] (by simp) v hr h
theorem wpList_eql {P : Program} {w : World} {ops : Array Oper} {rest : List Oper} {o : Oper} {a : Act} {Q : Exit → Act → World → Prop} (hw : Region.wanted o (yielded ops a.tmps) = true) (b : BinOp) (ty : TypeId) (x y : Operand) (tz : TypeId) (ho : o.op = .binOp b ty x y tz)
    (u1 u2 : Value) (h1 : a.eval x = u1) (h2 : a.eval y = u2) (v : Value) (hg : ∀ W, (eqGuard b ty x y u1 u2).run P W = .ok () W) (hr : ∀ W, (binOp b ty u1 u2).run P W = .ok v W) (h : wpList P ops Q rest (a.put o.dst v) w) : wpList P ops Q (o :: rest) a w := by
  refine wpList_step ?_
  intro K hK
  rw [if_pos hw]
  unfold Oper.wp execOp
  simp only [ho, h1, h2, Sem.run_bind, hg, hr, Result.andThen_ok]
  exact hK _ _ h
theorem guard_from (x y : Operand) (A B : Array Value) (W : World) : (eqGuard .eql 28 x y (.agg A) (.agg B)).run Tryd.prog W = .ok () W := by
  have h : Tryd.prog.eqGuardType Tryd.prog.depth 28 = false := by kernel_rfl
  simp [eqGuard, h]
theorem conv_same (w : World) (C : Array Value) (n c : Nat) : (convert 22 22 (.slice (some ⟨w.heap.size, 0, none⟩) n c)).run Tryd.prog (w.alloc (.cells C 5)) = .ok (.slice (some ⟨w.heap.size, 0, none⟩) n c) (w.alloc (.cells C 5 (C.size, C.size + 1))) :=
  Lib.run_convert_bytes_const w 22 5 C n c Tryd.underlying22 Tryd.underlying5
theorem lit_two (w : World) (x y : Value) (t : TypeId) : (w.alloc (.cells #[x, y] t)).cell? ⟨w.heap.size, 0, none⟩ = some x ∧ (w.alloc (.cells #[x, y] t)).cell? ⟨w.heap.size, 1, none⟩ = some y := by
  have h := heap_alloc_new w (.cells #[x, y] t)
  constructor
  · rw [cell_of_row _ _ _ _ _ _ h]; rfl
  · rw [cell_of_row _ _ _ _ _ _ h]; rfl
theorem lit4 (w : World) (t : TypeId) (fr : Nat × Nat) : Bytes (w.alloc (.cells #[.int .u8 1, .int .u8 10, .int .u8 1, .int .u8 10] t fr)) (some ⟨w.heap.size, 0, none⟩) 4 [1, 10, 1, 10] := by
  have h := heap_alloc_new w (.cells #[.int .u8 1, .int .u8 10, .int .u8 1, .int .u8 10] t fr)
  refine ⟨rfl, by simp, ?_, .inr ⟨w.heap.size, 0, rfl, ?_⟩⟩
  · exact range_of_mem (by decide)
  · intro i hi
    rw [cell_of_row _ _ _ _ _ _ h]
    match i, hi with
    | 0, _ => rfl
    | 1, _ => rfl
    | 2, _ => rfl
    | 3, _ => rfl
set_option maxRecDepth 100000 in
set_option maxHeartbeats 8000000 in
theorem print_none (a : Option Addr) (n c : Nat) (xs : List Int) (p : ByteArray) (id : List Int) (w : World) (R : RowB w a n c xs) (hn : n ≤ 10000000) (h20 : id.length = 20) (hnf : noFrom p id = true) :
    Calls Tryd.prog 9 #[.slice a n c, .agg (fromA p id)] w fun e w' => PrintOut w.heap.size w' e (printL xs p id) ∧ Below w.heap.size w w' := by
  have hq := fun W => eql_from W p ⟨#[]⟩ id zeros20 h20 rfl
  rw [show (p.toList == (⟨#[]⟩ : ByteArray).toList && id == zeros20) = true from hnf] at hq
  have HQ := Lib.hid hq
  clear hq
  have HSZ : Hid ((Tryd.prog.info? 28).map (·.size) = some (fromA p id).size) := from_info p id h20
  have HPR : Hid (printL xs p id = if pre xs markB then some ([1, 10, 1, 10] ++ xs) else some xs) := by
    show _ = _
    unfold printL; rw [hnf]; rfl
  have HROW : Hid ((w.alloc (.cells (fromA p id) 28)).heap[w.heap.size]? = some (.cells (fromA p id) 28 (0, 0))) := heap_alloc_new _ _
  have HB1 : Hid (Below w.heap.size w (w.alloc (.cells (fromA p id) 28))) := (Below.refl _ _).alloc (Nat.le_refl _) _
  have HR := Lib.hid R
  have HN := Lib.hid hn
  clear hnf R hn h20
  go_enter Tryd.func9, Tryd.ntmps9
  go_wp2_with (first
    | refine wpList_load_row rfl 28 _ rfl w.heap.size rfl 28 (fromA p id) (0, 0) _ HROW.out Tryd.underlying28 rfl HSZ.out ?_
    | refine wpList_build_0 rfl 28 rfl (.agg (fromA ⟨#[]⟩ zeros20)) build_none ?_
    | refine wpList_eql rfl .eql 28 _ _ _ rfl (.agg (fromA p id)) (.agg (fromA ⟨#[]⟩ zeros20)) rfl rfl (.bool true) (guard_from _ _ _ _) HQ.out ?_)
  have HBC : Hid (Below w.heap.size w ((w.alloc (.cells (fromA p id) 28)).alloc (.cells #[.string ⟨#[1, 10]⟩] 9))) := HB1.out.alloc HB1.out.size _
  have HCL : Hid (((w.alloc (.cells (fromA p id) 28)).alloc (.cells #[.string ⟨#[1, 10]⟩] 9)).cell? ⟨w.heap.size + 1, 0, none⟩ = some (.string ⟨#[1, 10]⟩)) := by
    have h := lit_val (w.alloc (.cells (fromA p id) 28)) (.string ⟨#[1, 10]⟩) 9
    rw [show (w.alloc (.cells (fromA p id) 28)).heap.size = w.heap.size + 1 from by simp] at h
    exact h
  generalize (w.alloc (.cells (fromA p id) 28)).alloc (.cells #[.string ⟨#[1, 10]⟩] 9) = w1 at *
  refine (cutp_any a n c xs (w.heap.size + 1) ⟨#[1, 10]⟩ w1 (HR.out.below HBC.out) HCL.out (by have := HN.out; omega) (by decide)).mono ?_
  rintro e w2 ⟨⟨hp, rfl⟩ | ⟨hp, rfl⟩, hb⟩
  · rw [show pre xs markB = true from hp, if_pos rfl] at HPR
    have HB2 : Hid (Below w.heap.size w w2) := HBC.out.trans (hb.mono HBC.out.size)
    clear hb hp HBC HCL HROW HB1 HQ
    have hcs := conv_same
    go_wp2_with fail
    have HBC : Hid (Below w.heap.size w ((w2.alloc (.cells #[.int .u8 1, .int .u8 10, .int .u8 1, .int .u8 10] 5 (4, 5))).alloc (.cells #[.slice (some ⟨w2.heap.size, 0, none⟩) 4 4, .slice a n c] 22))) := (HB2.out.alloc HB2.out.size _).alloc (HB2.out.alloc HB2.out.size _).size _
    have HL4 := Lib.hid ((lit4 w2 5 (4, 5)).below ((Below.refl (w2.alloc (.cells #[.int .u8 1, .int .u8 10, .int .u8 1, .int .u8 10] 5 (4, 5))).heap.size _).alloc (Nat.le_refl _) (.cells #[.slice (some ⟨w2.heap.size, 0, none⟩) 4 4, .slice a n c] 22)))
    have HK := Lib.hid (lit_two (w2.alloc (.cells #[.int .u8 1, .int .u8 10, .int .u8 1, .int .u8 10] 5 (4, 5))) (.slice (some ⟨w2.heap.size, 0, none⟩) 4 4) (.slice a n c) 22)
    rw [show (w2.alloc (.cells #[.int .u8 1, .int .u8 10, .int .u8 1, .int .u8 10] 5 (4, 5))).heap.size = w2.heap.size + 1 from by simp] at HK
    generalize (w2.alloc (.cells #[.int .u8 1, .int .u8 10, .int .u8 1, .int .u8 10] 5 (4, 5))).alloc (.cells #[.slice (some ⟨w2.heap.size, 0, none⟩) 4 4, .slice a n c] 22) = w3 at *
    refine (concat_any (w2.heap.size + 1) (some ⟨w2.heap.size, 0, none⟩) a 4 n 4 c [1, 10, 1, 10] xs w3 HK.out.1 HK.out.2 HL4.out (HR.out.below HBC.out).bytes (by omega) (by have := HN.out; omega) (by omega)).mono ?_
    rintro e w4 ⟨⟨va, vc, rfl, hm⟩, hb⟩
    have HM := Lib.hid hm
    have HB4 : Hid (Below w.heap.size w w4) := HBC.out.trans (hb.mono HBC.out.size)
    clear hm hb
    go_wp2_with fail
    go_ret2
    have hlen : ([1, 10, 1, 10] ++ xs : List Int).length = 4 + n := by rw [List.length_append, HR.out.len]; rfl
    rw [HPR.out]
    exact ⟨⟨va, vc, by rw [hlen]; rfl, by rw [hlen]; exact HM.out.lower HBC.out.size⟩, HB4.out⟩
  · rw [show pre xs markB = false from hp, if_neg (by decide)] at HPR
    have HB2 : Hid (Below w.heap.size w w2) := HBC.out.trans (hb.mono HBC.out.size)
    clear hb hp HBC HCL HROW HB1 HQ
    go_wp2_with fail
    refine (clone_any a n c xs w2 (HR.out.below HB2.out) (by have := HN.out; omega)).mono ?_
    rintro e w4 ⟨⟨va, vc, rfl, hm⟩, hb⟩
    have HM := Lib.hid hm
    have HB4 : Hid (Below w.heap.size w w4) := HB2.out.trans (hb.mono HB2.out.size)
    clear hm hb
    go_wp2_with fail
    go_ret2
    rw [HPR.out]
    exact ⟨⟨va, vc, by rw [HR.out.len]; rfl, by rw [HR.out.len]; exact HM.out.lower HB2.out.size⟩, HB4.out⟩
end Go.Proofs.YtmkhnlfhbiabcaaDoor
