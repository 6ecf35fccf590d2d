/- SHA-1's steps over one block: the walks. -/
import Derived.Test.YtlnfgebonmfokaaDoorBytes
import Derived.Test.YtlnfgebonmfokaaDoorMath
import Derived.RegionTactic
import Derived.BigRegion
import Derived.Laws.Rows
import Derived.Deep.MidRow
import Derived.WalkSpells
import Derived.Outline
namespace Go.Proofs.YtlnfgebonmfokaaDoor
open Go.RowKit Plain
set_option linter.unusedVariables false

/-- Numbers of 32 bits as the machine's values. -/
def V32 (ws : List (BitVec 32)) : Array Value := (ws.map fun (x : BitVec 32) => Value.int .u32 (x.toNat : Int)).toArray
theorem rot_5 (x : BitVec 32) (w : World) : Calls Tryd.prog 39 #[.int .u32 x.toNat, .int .i64 5] w fun e w' => e = .returned (.int .u32 (rotl x 5).toNat) ∧ w = w' := by
  have e0 : bits BinOp.and IntKind.u64 5 31 = 5 := by decide
  go_enter Tryd.func39, Tryd.ntmps39
  go_wp2_with fail
  go_ret
  exact ⟨ret_u32 (x_rot5 x), rfl⟩
theorem rot_30 (x : BitVec 32) (w : World) : Calls Tryd.prog 39 #[.int .u32 x.toNat, .int .i64 30] w fun e w' => e = .returned (.int .u32 (rotl x 30).toNat) ∧ w = w' := by
  have e0 : bits BinOp.and IntKind.u64 30 31 = 30 := by decide
  go_enter Tryd.func39, Tryd.ntmps39
  go_wp2_with fail
  go_ret
  exact ⟨ret_u32 (x_rot30 x), rfl⟩
theorem rot_1 (x : BitVec 32) (w : World) : Calls Tryd.prog 39 #[.int .u32 x.toNat, .int .i64 1] w fun e w' => e = .returned (.int .u32 (rotl x 1).toNat) ∧ w = w' := by
  have e0 : bits BinOp.and IntKind.u64 1 31 = 1 := by decide
  go_enter Tryd.func39, Tryd.ntmps39
  go_wp2_with fail
  go_ret
  exact ⟨ret_u32 (x_rot1 x), rfl⟩
theorem V32_get (ws : List (BitVec 32)) (k : Nat) (h : k < ws.length) : (V32 ws)[k]? = some (.int .u32 ((ws[k]?.getD 0).toNat : Int)) := by
  simp [V32, h]
theorem V32_size (ws : List (BitVec 32)) : (V32 ws).size = ws.length := by simp [V32]
theorem index_80 (ws : List (BitVec 32)) (k : Nat) (hk : k < 80) (hl : ws.length = 80) (w : World) : (Instr.index 52 (.agg (V32 ws)) (.int .i64 (k : Int))).run Tryd.prog w = .ok (.int .u32 ((ws[k]?.getD 0).toNat : Int)) w := by
  have h1 := V32_get ws k (by omega)
  have h2 := V32_size ws
  have hk' : (0 : Int) ≤ (k : Int) ∧ (k : Int) < 80 := by omega
  simp [Instr.index, run_underlying Tryd.underlying52, asIntOf, go_sem, hk']
  rw [if_pos hk, h1]
  rfl
/-- A new block, and what lies behind it. -/
theorem three_blocks (w : World) (A B C : Obj) : let W := ((w.alloc A).alloc B).alloc C
    W.heap[w.heap.size]? = some A ∧ W.heap[w.heap.size + 1]? = some B ∧ W.heap[w.heap.size + 1 + 1]? = some C ∧ Below w.heap.size w W ∧ w.heap.size + 1 + 1 < W.heap.size := by
  refine ⟨?_, ?_, ?_, (((Below.refl _ _).alloc (Nat.le_refl _) _).alloc (by simp) _).alloc (by simp; omega) _, by simp⟩
  · rw [Below.heap_alloc _ _ _ (by simp; omega), Below.heap_alloc _ _ _ (by simp), heap_alloc_new]
  · rw [Below.heap_alloc _ _ _ (by simp)]
    have := heap_alloc_new (w.alloc A) B
    simpa using this
  · have := heap_alloc_new ((w.alloc A).alloc B) C
    simpa using this
theorem cells5 {w : World} {B : Nat} {a b c d e : Value} {t : TypeId} (h : w.heap[B]? = some (.cells #[a, b, c, d, e] t (0, 0))) :
    w.cell? ⟨B, 0, none⟩ = some a ∧ w.cell? ⟨B, 1, none⟩ = some b ∧ w.cell? ⟨B, 2, none⟩ = some c ∧ w.cell? ⟨B, 3, none⟩ = some d ∧ w.cell? ⟨B, 4, none⟩ = some e := by
  refine ⟨?_, ?_, ?_, ?_, ?_⟩ <;> simp [World.cell?, h]
theorem free5 {w : World} {B : Nat} {cs : Array Value} {t : TypeId} (h : w.heap[B]? = some (.cells cs t (0, 0))) (j : Nat) : w.frozen? ⟨B, j, none⟩ = false := by
  simp [World.frozen?, h]
theorem set5 {w : World} {B : Nat} {a b c d e a' b' c' d' e' : Value} {t : TypeId} (h : w.heap[B]? = some (.cells #[a, b, c, d, e] t (0, 0))) :
    (((((w.setCell ⟨B, 0, none⟩ a').setCell ⟨B, 1, none⟩ b').setCell ⟨B, 2, none⟩ c').setCell ⟨B, 3, none⟩ d').setCell ⟨B, 4, none⟩ e').heap[B]? = some (.cells #[a', b', c', d', e'] t (0, 0)) := by
  rw [heap_setCell_same _ B 4 _ t _ (heap_setCell_same _ B 3 _ t _ (heap_setCell_same _ B 2 _ t _ (heap_setCell_same _ B 1 _ t _ (heap_setCell_same w B 0 _ t _ h))))]
  rfl
end Go.Proofs.YtlnfgebonmfokaaDoor
