/- Closures over pairs; the first pair that is so: the walks. -/
import Derived.Test.YtlhdjbnilfbaoaaPair
import Derived.StillTailTactics
import Derived.StillTactics
import Derived.Deep.RegionWith
import Derived.BigQuiet
import Derived.OwnWalk
import Derived.Lib.Hide
namespace Go.Proofs.Ytlhdjbnilfbaoaa
open Go.RowKit
set_option linter.unusedVariables false
theorem pair_infoL : ∀ xs : List Int, xs.length = 40 → (Try.prog.info? 46).map (·.size) = some (U8 xs).length := fun xs h => by rw [U8_length, h]; kernel_rfl
theorem id_infoL : ∀ xs : List Int, xs.length = 20 → (Try.prog.info? 42).map (·.size) = some (U8 xs).length := fun xs h => by rw [U8_length, h]; kernel_rfl
theorem id24_infoL : ∀ xs : List Int, xs.length = 20 → (Try.prog.info? 41).map (·.size) = some (U8 xs).length := fun xs h => by rw [U8_length, h]; kernel_rfl
theorem rpair_infoL : ∀ xs : List Int, xs.length = 40 → (Try.prog.info? 44).map (·.size) = some (U8 xs).length := fun xs h => by rw [U8_length, h]; kernel_rfl
/-- The load of a row of bytes, by value, at a plain region's list. -/
theorem wpList_load_v8 {P : Program} {ops : Array Oper} {rest : List Oper} {op : Oper} {a : Act} {w : World} {Q : Exit → Act → World → Prop} (hgd : op.guard = none) (ty : TypeId) (x : Operand) (ho : op.op = .load ty x)
    (b o : Nat) (hx : a.eval x = .pointer (some ⟨b, o, none⟩)) (cs : List Int) (d : TypeDesc) (hc : w.rangeAt b o (U8 cs))
    (hu : P.underlying ty = some d) (hd : d.isRow = true) (hi : (P.info? ty).map (·.size) = some (U8 cs).length)
    (h : wpList P ops Q rest (a.put op.dst (.agg (V8 cs))) w) : wpList P ops Q (op :: rest) a w := wpList_load_mid hgd ty x ho b o hx (U8 cs) d hc hu hd hi h
theorem yieldsIf_load_v8 {P : Program} {ops : Array Oper} {S : World → Prop} {op : Oper} {a : Act} (hw : Region.wanted op (yielded ops a.tmps) = true) (ty : TypeId) (x : Operand) (ho : op.op = .load ty x)
    (b o : Nat) (hx : a.eval x = .pointer (some ⟨b, o, none⟩)) (cs : List Int) (d : TypeDesc) (hS : ∀ w, S w → w.rangeAt b o (U8 cs))
    (hu : P.underlying ty = some d) (hd : d.isRow = true) (hi : (P.info? ty).map (·.size) = some (U8 cs).length) : YieldsIf P ops S op (.agg (V8 cs)) a :=
  yieldsIf_load_mid hw ty x ho b o hx (U8 cs) d hS hu hd hi
theorem box_range (w : World) (xs : List Int) (t : TypeId) : (w.alloc (.cells (V8 xs) t)).rangeAt w.heap.size 0 (U8 xs) := fun j v hv => by
  rw [cell_of_row _ _ _ _ _ _ (heap_alloc_new w _), Nat.zero_add, ← hv, ← V8_list, Array.getElem?_toList]
/-- A value lies alone in a block. -/
def Boxed (w : World) (g : Nat) (xs : List Int) : Prop := g < w.heap.size ∧ w.rangeAt g 0 (U8 xs)
theorem Boxed.below {w w' : World} {g n : Nat} {xs : List Int} (h : Boxed w g xs) (hb : Below n w w') (hn : g < n) : Boxed w' g xs := ⟨Nat.lt_of_lt_of_le h.1 hb.size, range_below h.2 hb hn⟩
theorem Boxed.new (w : World) (xs : List Int) (t : TypeId) : Boxed (w.alloc (.cells (V8 xs) t)) w.heap.size xs := ⟨by simp, box_range w xs t⟩
theorem next_int (k : Nat) (h : k ≤ 100000000000) : ∀ x : Int, x = (k : Int) + 1 → wrap64 x = ((k + 1 : Nat) : Int) := fun x hx => by
  subst hx
  rw [show ((k : Int) + 1) = ((k + 1 : Nat) : Int) by omega]
  exact IntWalk.wrap64_in _ (by omega)
theorem take20_len {p : List Int} (h : p.length = 40) : (p.take 20).length = 20 := by rw [List.length_take]; omega
theorem drop20_len {p : List Int} (h : p.length = 40) : (p.drop 20).length = 20 := by rw [List.length_drop]; omega
set_option maxRecDepth 100000 in
set_option maxHeartbeats 4000000 in
theorem so_Hg (p id : List Int) (hp : p.length = 40) (hid : id.length = 20) (g : Nat) (w : World) (hg : Boxed w g id) :
    Calls Try.prog 34 #[.agg (V8 p), .pointer (some ⟨g, 0, none⟩)] w fun e w' => e = .returned (.bool (p.take 20 == id)) ∧ Below w.heap.size w w' := by
  have HP := Lib.hid hp
  have HI := Lib.hid hid
  have HG : Hid (Boxed (w.alloc (.cells (V8 p) 46)) g id) := hg.below ((Below.refl _ _).alloc (Nat.le_refl _) _) hg.1
  have HR : Hid ((w.alloc (.cells (V8 p) 46)).rangeAt w.heap.size 0 (U8 p)) := box_range w p _
  have HBW : Hid (Below w.heap.size w (w.alloc (.cells (V8 p) 46))) := (Below.refl _ _).alloc (Nat.le_refl _) _
  have he := fun W => run_eql_id W (p.take 20) id (take20_len hp) hid
  clear hp hid hg
  go_enter Try.func34, Try.ntmps34
  go_wp2_with (first
    | (refine wpList_load_v8 rfl 42 _ rfl w.heap.size 0 rfl (p.take 20) (.array 20 5) (range_git HR.out) Try.underlying42 rfl (id_infoL _ (take20_len HP.out)) ?_)
    | (refine wpList_load_v8 rfl 42 _ rfl g 0 rfl id (.array 20 5) HG.out.2 Try.underlying42 rfl (id_infoL _ HI.out) ?_))
  go_ret
  exact ⟨rfl, HBW.out⟩
end Go.Proofs.Ytlhdjbnilfbaoaa
