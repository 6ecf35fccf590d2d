/- SHA-1 over rows of 32 bits, plainly: no program is named here. -/
import Derived.WalkKit
import Derived.OpenShut
import Derived.Test.YtglgchjkonjpiaaGreatDoorZA
import Derived.Test.YtglgchjkonjpiaaGreatDoorBase
import Derived.RegionTactic
import Derived.BigRegion
import Derived.Laws.Rows
import Derived.Deep.MidRow
import Derived.WalkSpells
import Derived.Outline
import Derived.BigQuiet
import Derived.Deep.QuietTactic
import Derived.WalkSmall
import Derived.Laws.Tables
import Derived.Laws.CopyOwn
import Derived.Deep.RegionWith
import Derived.StillTailTactics
import Derived.IntWalk
import Derived.Test.YtglgchjkonjpiaaGreatDoorZB
/-! SHA-1 over rows of 32 bits, plainly: no program is named here. -/
namespace Go.Proofs.YtglgchjkonjpiaaGreatDoor.Plain
open Go.RowKit
set_option linter.unusedVariables false

/-! ### The machine's operations on 32 bits -/
theorem wrap_u32s (a : BitVec 32) : IntKind.u32.wrap (a.toNat : Int) = (a.toNat : Int) := by
  have := a.isLt
  rw [IntKind.wrap_u32]; omega
theorem x_ors (a b : BitVec 32) : bits .or .u32 (a.toNat : Int) (b.toNat : Int) = ((a ||| b).toNat : Int) := by
  show IntKind.u32.wrap ((BitVec.ofInt 32 _ ||| BitVec.ofInt 32 _ : BitVec 32).toNat : Int) = _
  rw [of_nat, of_nat, wrap_u32s]
theorem x_xors (a b : BitVec 32) : bits .xor .u32 (a.toNat : Int) (b.toNat : Int) = ((a ^^^ b).toNat : Int) := by
  show IntKind.u32.wrap ((BitVec.ofInt 32 _ ^^^ BitVec.ofInt 32 _ : BitVec 32).toNat : Int) = _
  rw [of_nat, of_nat, wrap_u32s]
theorem x_ands (a b : BitVec 32) : bits .and .u32 (a.toNat : Int) (b.toNat : Int) = ((a &&& b).toNat : Int) := by
  show IntKind.u32.wrap ((BitVec.ofInt 32 _ &&& BitVec.ofInt 32 _ : BitVec 32).toNat : Int) = _
  rw [of_nat, of_nat, wrap_u32s]
theorem x_add (a b : BitVec 32) : ((a.toNat : Int) + (b.toNat : Int)) % 4294967296 = ((a + b).toNat : Int) := by
  rw [BitVec.toNat_add]; omega
def rotl (a : BitVec 32) (n : Nat) : BitVec 32 := (a <<< n) ||| (a >>> (32 - n))
theorem x_shl (a : BitVec 32) (n : Nat) : ((a.toNat : Int) * (2 ^ n : Nat)) % 4294967296 = ((a <<< n).toNat : Int) := by
  rw [BitVec.toNat_shiftLeft, Nat.shiftLeft_eq]; omega
theorem x_shr (a : BitVec 32) (n : Nat) : (a.toNat : Int) / (2 ^ n : Nat) = ((a >>> n).toNat : Int) := by
  rw [BitVec.toNat_ushiftRight, Nat.shiftRight_eq_div_pow]; omega

theorem x_rot (x : BitVec 32) (n p q : Nat) (hp : p = 2 ^ n) (hq : q = 2 ^ (32 - n)) : bits .or .u32 (((x.toNat : Int) * (p : Int)) % 4294967296) ((x.toNat : Int) / (q : Int)) = ((rotl x n).toNat : Int) := by
  subst hp hq
  rw [x_shl, x_shr, x_ors]; rfl
theorem x_rot5 (x : BitVec 32) : bits .or .u32 ((x.toNat : Int) * 32 % 4294967296) ((x.toNat : Int) / (134217728 : Int)) = ((rotl x 5).toNat : Int) := x_rot x 5 32 134217728 rfl rfl
theorem x_rot30 (x : BitVec 32) : bits .or .u32 ((x.toNat : Int) * 1073741824 % 4294967296) ((x.toNat : Int) / (4 : Int)) = ((rotl x 30).toNat : Int) := x_rot x 30 1073741824 4 rfl rfl
theorem x_rot1 (x : BitVec 32) : bits .or .u32 ((x.toNat : Int) * 2 % 4294967296) ((x.toNat : Int) / (2147483648 : Int)) = ((rotl x 1).toNat : Int) := x_rot x 1 2 2147483648 rfl rfl

/-! ### A block -/
structure Five where
  a : BitVec 32
  b : BitVec 32
  c : BitVec 32
  d : BitVec 32
  e : BitVec 32
def round (i : Nat) (x : BitVec 32) (s : Five) : Five :=
  let fk : BitVec 32 × BitVec 32 :=
    if i < 20 then ((s.b &&& s.c) ||| (~~~ s.b &&& s.d), 0x5a827999#32)
    else if i < 40 then (s.b ^^^ s.c ^^^ s.d, 0x6ed9eba1#32)
    else if i < 60 then ((s.b &&& s.c) ||| (s.b &&& s.d) ||| (s.c &&& s.d), 0x8f1bbcdc#32)
    else (s.b ^^^ s.c ^^^ s.d, 0xca62c1d6#32)
  { a := rotl s.a 5 + fk.1 + s.e + fk.2 + x, b := s.a, c := rotl s.b 30, d := s.c, e := s.d }
theorem x_nots (b : BitVec 32) : bits .xor .u32 IntKind.u32.max (b.toNat : Int) = ((~~~ b).toNat : Int) := by
  have h := x_xors (BitVec.allOnes 32) b
  rw [show ((BitVec.allOnes 32).toNat : Int) = IntKind.u32.max from rfl, BitVec.allOnes_xor] at h
  exact h
theorem t_eq (r f e K x : BitVec 32) : ((r.toNat : Int) + (f.toNat : Int) + (e.toNat : Int) + (K.toNat : Int) + (x.toNat : Int)) % 4294967296 = ((r + f + e + K + x).toNat : Int) := by
  simp only [BitVec.toNat_add]; omega
theorem round_1 (k : Nat) (h : k < 20) (a b c d e x : BitVec 32) : (((rotl a 5).toNat : Int) + bits .or .u32 (bits .and .u32 (b.toNat : Int) (c.toNat : Int)) (bits .and .u32 (bits .xor .u32 IntKind.u32.max (b.toNat : Int)) (d.toNat : Int)) + (e.toNat : Int) + 1518500249 + (x.toNat : Int)) % 4294967296 = ((round k x ⟨a, b, c, d, e⟩).a.toNat : Int) := by
  rw [x_nots, x_ands, x_ands, x_ors]
  have := t_eq (rotl a 5) (b &&& c ||| ~~~b &&& d) e 0x5a827999#32 x
  rw [show ((0x5a827999#32).toNat : Int) = 1518500249 from rfl] at this
  rw [this]
  simp only [round, if_pos h]
theorem round_2 (k : Nat) (h0 : ¬ k < 20) (h : k < 40) (a b c d e x : BitVec 32) : (((rotl a 5).toNat : Int) + bits .xor .u32 (bits .xor .u32 (b.toNat : Int) (c.toNat : Int)) (d.toNat : Int) + (e.toNat : Int) + 1859775393 + (x.toNat : Int)) % 4294967296 = ((round k x ⟨a, b, c, d, e⟩).a.toNat : Int) := by
  rw [x_xors, x_xors]
  have := t_eq (rotl a 5) (b ^^^ c ^^^ d) e 0x6ed9eba1#32 x
  rw [show ((0x6ed9eba1#32).toNat : Int) = 1859775393 from rfl] at this
  rw [this]
  simp only [round, if_neg h0, if_pos h]
theorem round_3 (k : Nat) (h0 : ¬ k < 20) (h1 : ¬ k < 40) (h : k < 60) (a b c d e x : BitVec 32) : (((rotl a 5).toNat : Int) + bits .or .u32 (bits .or .u32 (bits .and .u32 (b.toNat : Int) (c.toNat : Int)) (bits .and .u32 (b.toNat : Int) (d.toNat : Int))) (bits .and .u32 (c.toNat : Int) (d.toNat : Int)) + (e.toNat : Int) + 2400959708 + (x.toNat : Int)) % 4294967296 = ((round k x ⟨a, b, c, d, e⟩).a.toNat : Int) := by
  rw [x_ands, x_ands, x_ands, x_ors, x_ors]
  have := t_eq (rotl a 5) (b &&& c ||| b &&& d ||| c &&& d) e 0x8f1bbcdc#32 x
  rw [show ((0x8f1bbcdc#32).toNat : Int) = 2400959708 from rfl] at this
  rw [this]
  simp only [round, if_neg h0, if_neg h1, if_pos h]
theorem round_4 (k : Nat) (h0 : ¬ k < 20) (h1 : ¬ k < 40) (h : ¬ k < 60) (a b c d e x : BitVec 32) : (((rotl a 5).toNat : Int) + bits .xor .u32 (bits .xor .u32 (b.toNat : Int) (c.toNat : Int)) (d.toNat : Int) + (e.toNat : Int) + 3395469782 + (x.toNat : Int)) % 4294967296 = ((round k x ⟨a, b, c, d, e⟩).a.toNat : Int) := by
  rw [x_xors, x_xors]
  have := t_eq (rotl a 5) (b ^^^ c ^^^ d) e 0xca62c1d6#32 x
  rw [show ((0xca62c1d6#32).toNat : Int) = 3395469782 from rfl] at this
  rw [this]
  simp only [round, if_neg h0, if_neg h1, if_neg h]
def rounds (w : List (BitVec 32)) (s : Five) : Nat → Five
  | 0 => s
  | i + 1 => round i (w[i]?.getD 0) (rounds w s i)
def Five.add (s t : Five) : Five := { a := s.a + t.a, b := s.b + t.b, c := s.c + t.c, d := s.d + t.d, e := s.e + t.e }
def mix (h : Five) (w : List (BitVec 32)) : Five := h.add (rounds w h 80)
/-- The words of a block of 64 bytes, one more at a time. -/
def word0 (bs : List Int) (i : Nat) : BitVec 32 :=
  BitVec.ofInt 32 (bs[4 * i]?.getD 0 * 16777216 + bs[4 * i + 1]?.getD 0 * 65536 + bs[4 * i + 2]?.getD 0 * 256 + bs[4 * i + 3]?.getD 0)
def wordsTo (bs : List Int) : Nat → List (BitVec 32)
  | 0 => []
  | i + 1 =>
    let w := wordsTo bs i
    w ++ [if i < 16 then word0 bs i else rotl (w[i - 3]?.getD 0 ^^^ w[i - 8]?.getD 0 ^^^ w[i - 14]?.getD 0 ^^^ w[i - 16]?.getD 0) 1]
theorem wordsTo_length (bs : List Int) (i : Nat) : (wordsTo bs i).length = i := by
  induction i with
  | zero => rfl
  | succ i ih => simp [wordsTo, ih]
def compress (h : Five) (bs : List Int) : Five := mix h (wordsTo bs 80)
/-! ### Bytes, one by one -/
theorem or_add (hi lo j : Nat) (hlo : lo < 2 ^ j) (hs : hi * 2 ^ j + lo < 4294967296) : bits .or .u32 ((hi * 2 ^ j : Nat) : Int) (lo : Int) = ((hi * 2 ^ j + lo : Nat) : Int) := by
  have h1 : ((BitVec.ofNat 32 (hi * 2 ^ j)).toNat : Int) = ((hi * 2 ^ j : Nat) : Int) := by rw [BitVec.toNat_ofNat, Nat.mod_eq_of_lt (by omega)]
  have h2 : ((BitVec.ofNat 32 lo).toNat : Int) = (lo : Int) := by rw [BitVec.toNat_ofNat, Nat.mod_eq_of_lt (by omega)]
  rw [← h1, ← h2, x_ors, BitVec.toNat_or, BitVec.toNat_ofNat, BitVec.toNat_ofNat, Nat.mod_eq_of_lt (by omega), Nat.mod_eq_of_lt (by omega), ← Nat.shiftLeft_eq, ← Nat.shiftLeft_add_eq_or_of_lt hlo, Nat.shiftLeft_eq]
theorem word_eq (x0 x1 x2 x3 : Int) (h0 : 0 ≤ x0 ∧ x0 ≤ 255) (h1 : 0 ≤ x1 ∧ x1 ≤ 255) (h2 : 0 ≤ x2 ∧ x2 ≤ 255) (h3 : 0 ≤ x3 ∧ x3 ≤ 255) :
    bits .or .u32 (bits .or .u32 (bits .or .u32 (x0 * 16777216) (x1 * 65536)) (x2 * 256)) x3 = ((BitVec.ofInt 32 (x0 * 16777216 + x1 * 65536 + x2 * 256 + x3)).toNat : Int) := by
  obtain ⟨a, rfl⟩ := Int.eq_ofNat_of_zero_le h0.1
  obtain ⟨b, rfl⟩ := Int.eq_ofNat_of_zero_le h1.1
  obtain ⟨c, rfl⟩ := Int.eq_ofNat_of_zero_le h2.1
  obtain ⟨d, rfl⟩ := Int.eq_ofNat_of_zero_le h3.1
  have e1 := or_add a (b * 65536) 24 (by omega) (by omega)
  have e2 := or_add (a * 256 + b) (c * 256) 16 (by omega) (by omega)
  have e3 := or_add ((a * 256 + b) * 256 + c) d 8 (by omega) (by omega)
  rw [show ((a : Int) * 16777216) = ((a * 2 ^ 24 : Nat) : Int) by omega, show ((b : Int) * 65536) = ((b * 65536 : Nat) : Int) by omega, e1,
    show ((c : Int) * 256) = ((c * 256 : Nat) : Int) by omega, show a * 2 ^ 24 + b * 65536 = (a * 256 + b) * 2 ^ 16 by omega, e2,
    show (a * 256 + b) * 2 ^ 16 + c * 256 = ((a * 256 + b) * 256 + c) * 2 ^ 8 by omega, e3, BitVec.toNat_ofInt]
  omega
structure State where
  h : Five
  buf : List Int
def step (s : State) (x : Int) : State :=
  if s.buf.length + 1 = 64 then { h := compress s.h (s.buf ++ [x]), buf := [] } else { h := s.h, buf := s.buf ++ [x] }
def absorb (s : State) (xs : List Int) : State := xs.foldl step s
theorem absorb_append (s : State) (xs ys : List Int) : absorb s (xs ++ ys) = absorb (absorb s xs) ys := by
  unfold absorb; rw [List.foldl_append]
def start : State := { h := { a := 0x67452301#32, b := 0xefcdab89#32, c := 0x98badcfe#32, d := 0x10325476#32, e := 0xc3d2e1f0#32 }, buf := [] }
/-- What stands behind n bytes. -/
def ending (n : Nat) : List Int :=
  [128] ++ List.replicate ((119 - n % 64) % 64) 0 ++ (List.range 8).map fun i => (((n * 8) / 2 ^ (56 - 8 * i) % 256 : Nat) : Int)
def byteOf (x : BitVec 32) (k : Nat) : Int := ((x.toNat / 2 ^ (24 - 8 * k) % 256 : Nat) : Int)
def told (h : Five) : List Int := [h.a, h.b, h.c, h.d, h.e].flatMap fun x => [byteOf x 0, byteOf x 1, byteOf x 2, byteOf x 3]
def sum (xs : List Int) : List Int := told (absorb start (xs ++ ending xs.length)).h
end Go.Proofs.YtglgchjkonjpiaaGreatDoor.Plain
/-! SHA-1's steps over one block: the walks. -/
namespace Go.Proofs.YtglgchjkonjpiaaGreatDoor
open Go.RowKit Plain
set_option linter.unusedVariables false

/-- Numbers of 32 bits as the machine's values. -/
def V32 (ws : List (BitVec 32)) : Array Value := (ws.map fun (x : BitVec 32) => Value.int .u32 (x.toNat : Int)).toArray
theorem rot_5 (x : BitVec 32) (w : World) : Calls Tryz.prog 83 #[.int .u32 x.toNat, .int .i64 5] w fun e w' => e = .returned (.int .u32 (rotl x 5).toNat) ∧ w = w' := by
  have e0 : bits BinOp.and IntKind.u64 5 31 = 5 := by decide
  go_enter Tryz.func83, Tryz.ntmps83
  go_wp2_with fail
  go_ret
  exact ⟨ret_u32 (x_rot5 x), rfl⟩
theorem rot_30 (x : BitVec 32) (w : World) : Calls Tryz.prog 83 #[.int .u32 x.toNat, .int .i64 30] w fun e w' => e = .returned (.int .u32 (rotl x 30).toNat) ∧ w = w' := by
  have e0 : bits BinOp.and IntKind.u64 30 31 = 30 := by decide
  go_enter Tryz.func83, Tryz.ntmps83
  go_wp2_with fail
  go_ret
  exact ⟨ret_u32 (x_rot30 x), rfl⟩
theorem rot_1 (x : BitVec 32) (w : World) : Calls Tryz.prog 83 #[.int .u32 x.toNat, .int .i64 1] w fun e w' => e = .returned (.int .u32 (rotl x 1).toNat) ∧ w = w' := by
  have e0 : bits BinOp.and IntKind.u64 1 31 = 1 := by decide
  go_enter Tryz.func83, Tryz.ntmps83
  go_wp2_with fail
  go_ret
  exact ⟨ret_u32 (x_rot1 x), rfl⟩
theorem V32_get (ws : List (BitVec 32)) (k : Nat) (h : k < ws.length) : (V32 ws)[k]? = some (.int .u32 ((ws[k]?.getD 0).toNat : Int)) := by
  simp [V32, h]
theorem V32_size (ws : List (BitVec 32)) : (V32 ws).size = ws.length := by simp [V32]
theorem index_80 (ws : List (BitVec 32)) (k : Nat) (hk : k < 80) (hl : ws.length = 80) (w : World) : (Instr.index 95 (.agg (V32 ws)) (.int .i64 (k : Int))).run Tryz.prog w = .ok (.int .u32 ((ws[k]?.getD 0).toNat : Int)) w := by
  have h1 := V32_get ws k (by omega)
  have h2 := V32_size ws
  have hk' : (0 : Int) ≤ (k : Int) ∧ (k : Int) < 80 := by omega
  simp [Instr.index, run_underlying Tryz.underlying95, asIntOf, go_sem, hk']
  rw [if_pos hk, h1]
  rfl
/-- A new block, and what lies behind it. -/
theorem three_blocks (w : World) (A B C : Obj) : let W := ((w.alloc A).alloc B).alloc C
    W.heap[w.heap.size]? = some A ∧ W.heap[w.heap.size + 1]? = some B ∧ W.heap[w.heap.size + 1 + 1]? = some C ∧ Below w.heap.size w W ∧ w.heap.size + 1 + 1 < W.heap.size := by
  refine ⟨?_, ?_, ?_, (((Below.refl _ _).alloc (Nat.le_refl _) _).alloc (by simp) _).alloc (by simp; omega) _, by simp⟩
  · rw [Below.heap_alloc _ _ _ (by simp; omega), Below.heap_alloc _ _ _ (by simp), heap_alloc_new]
  · rw [Below.heap_alloc _ _ _ (by simp)]
    have := heap_alloc_new (w.alloc A) B
    simpa using this
  · have := heap_alloc_new ((w.alloc A).alloc B) C
    simpa using this
theorem cells5 {w : World} {B : Nat} {a b c d e : Value} {t : TypeId} (h : w.heap[B]? = some (.cells #[a, b, c, d, e] t (0, 0))) :
    w.cell? ⟨B, 0, none⟩ = some a ∧ w.cell? ⟨B, 1, none⟩ = some b ∧ w.cell? ⟨B, 2, none⟩ = some c ∧ w.cell? ⟨B, 3, none⟩ = some d ∧ w.cell? ⟨B, 4, none⟩ = some e := by
  refine ⟨?_, ?_, ?_, ?_, ?_⟩ <;> simp [World.cell?, h]
theorem free5 {w : World} {B : Nat} {cs : Array Value} {t : TypeId} (h : w.heap[B]? = some (.cells cs t (0, 0))) (j : Nat) : w.frozen? ⟨B, j, none⟩ = false := by
  simp [World.frozen?, h]
theorem set5 {w : World} {B : Nat} {a b c d e a' b' c' d' e' : Value} {t : TypeId} (h : w.heap[B]? = some (.cells #[a, b, c, d, e] t (0, 0))) :
    (((((w.setCell ⟨B, 0, none⟩ a').setCell ⟨B, 1, none⟩ b').setCell ⟨B, 2, none⟩ c').setCell ⟨B, 3, none⟩ d').setCell ⟨B, 4, none⟩ e').heap[B]? = some (.cells #[a', b', c', d', e'] t (0, 0)) := by
  rw [heap_setCell_same _ B 4 _ t _ (heap_setCell_same _ B 3 _ t _ (heap_setCell_same _ B 2 _ t _ (heap_setCell_same _ B 1 _ t _ (heap_setCell_same w B 0 _ t _ h))))]
  rfl
end Go.Proofs.YtglgchjkonjpiaaGreatDoor
/-! SHA-1's eighty steps: the walk. -/
namespace Go.Proofs.YtglgchjkonjpiaaGreatDoor
open Go.RowKit Plain
set_option linter.unusedVariables false

set_option maxRecDepth 100000 in
set_option maxHeartbeats 4000000 in
theorem mixed_any (s : Five) (ws : List (BitVec 32)) (w : World) (hl : ws.length = 80) :
    Calls Tryz.prog 59 #[.agg #[.int .u32 s.a.toNat, .int .u32 s.b.toNat, .int .u32 s.c.toNat, .int .u32 s.d.toNat, .int .u32 s.e.toNat], .agg (V32 ws)] w fun r w' =>
      r = .returned (.agg #[.int .u32 (mix s ws).a.toNat, .int .u32 (mix s ws).b.toNat, .int .u32 (mix s ws).c.toNat, .int .u32 (mix s ws).d.toNat, .int .u32 (mix s ws).e.toNat]) ∧ Below w.heap.size w w' := by
  have HI : Hid ((Tryz.prog.info? 95).map (·.size) = some (V32 ws).size) := by
    show (Tryz.prog.info? 95).map (·.size) = some (V32 ws).size
    rw [V32_size, hl]; kernel_rfl
  have HLEN : Hid (ws.length = 80) := hl
  clear hl
  go_enter Tryz.func59, Tryz.ntmps59
  go_wp2_with fail
  obtain ⟨h0, h1, h2, hb, hs⟩ := three_blocks w (.cells #[.int .u32 s.a.toNat, .int .u32 s.b.toNat, .int .u32 s.c.toNat, .int .u32 s.d.toNat, .int .u32 s.e.toNat] 92) (.cells (V32 ws) 95) (.cells #[.int .u32 0, .int .u32 0, .int .u32 0, .int .u32 0, .int .u32 0] 92)
  generalize ((w.alloc (.cells #[.int .u32 s.a.toNat, .int .u32 s.b.toNat, .int .u32 s.c.toNat, .int .u32 s.d.toNat, .int .u32 s.e.toNat] 92)).alloc (.cells (V32 ws) 95)).alloc (.cells #[.int .u32 0, .int .u32 0, .int .u32 0, .int .u32 0, .int .u32 0] 92) = w0 at *
  obtain ⟨c0, c1, c2, c3, c4⟩ := cells5 h0
  have H0 : Hid (w0.heap[w.heap.size]? = some (.cells #[.int .u32 s.a.toNat, .int .u32 s.b.toNat, .int .u32 s.c.toNat, .int .u32 s.d.toNat, .int .u32 s.e.toNat] 92)) := h0
  have H1 : Hid (w0.heap[w.heap.size + 1]? = some (.cells (V32 ws) 95)) := h1
  have H2 : Hid (w0.heap[w.heap.size + 1 + 1]? = some (.cells #[.int .u32 0, .int .u32 0, .int .u32 0, .int .u32 0, .int .u32 0] 92)) := h2
  clear h0 h1 h2
  go_quiet (fail)
  clear c0 c1 c2 c3 c4
  have tok1 : True := trivial
  go_wp2_with (have _t := tok1; refine wpList_load_row rfl 95 _ rfl (w.heap.size + 1) rfl 95 (V32 ws) (0, 0) (.array 80 85) H1.out Tryz.underlying95 rfl HI.out ?_; clear tok1)
  have G0 : Hid ((w0.drewN nq).heap[w.heap.size]? = some (.cells #[.int .u32 s.a.toNat, .int .u32 s.b.toNat, .int .u32 s.c.toNat, .int .u32 s.d.toNat, .int .u32 s.e.toNat] 92)) := H0.out
  have G2 : Hid ((w0.drewN nq).heap[w.heap.size + 1 + 1]? = some (.cells #[.int .u32 0, .int .u32 0, .int .u32 0, .int .u32 0, .int .u32 0] 92)) := H2.out
  have GB : Hid (Below w.heap.size w (w0.drewN nq)) := Go.below_drewN hb nq
  clear H0 H1 H2 hb hs
  generalize w0.drewN nq = w1 at *
  go_loop [5, 6, 7, 8, 9, 26] (fun s5 s6 s7 s8 s9 i => ∃ (k : Nat) (t : Five), k ≤ 80 ∧ i = .int .i64 k ∧ s5 = .int .u32 t.a.toNat ∧ s6 = .int .u32 t.b.toNat ∧ s7 = .int .u32 t.c.toNat ∧ s8 = .int .u32 t.d.toNat ∧ s9 = .int .u32 t.e.toNat ∧ t = rounds ws s k) (fun _ _ _ _ _ i => 80 - (intOf i).toNat)
  case atStart => exact ⟨0, s, by omega, rfl, rfl, rfl, rfl, rfl, rfl, rfl⟩
  case round =>
    obtain ⟨k, t, hk, rfl, rfl, rfl, rfl, rfl, rfl, ht⟩ := hrel
    have HT : Hid (t = rounds ws s k) := ht
    clear ht
    obtain ⟨a, b, c, d, e⟩ := t
    simp only
    by_cases h80 : k < 80
    · have hidx := index_80 ws k h80 HLEN.out
      generalize hx : ws[k]?.getD 0 = x at *
      have HX : Hid (ws[k]?.getD 0 = x) := hx
      clear hx
      by_cases h20 : k < 20
      · have f1 : (k : Int) < 20 := by omega
        go_wp2_with fail
        refine (rot_5 a _).mono ?_
        rintro r w' ⟨rfl, rfl⟩
        go_wp2_with fail
        refine (rot_30 b _).mono ?_
        rintro r w' ⟨rfl, rfl⟩
        go_wp2_with fail
        go_round
        case rel => exact ⟨k + 1, round k x ⟨a, b, c, d, e⟩, by omega, by go_num, by rw [round_1 k h20], rfl, rfl, rfl, rfl, by rw [rounds, ← HT.out, HX.out]⟩
        case measure => simp [intOf]; omega
      · have f1 : ¬ (k : Int) < 20 := by omega
        by_cases h40 : k < 40
        · have f2 : (k : Int) < 40 := by omega
          go_wp2_with fail
          refine (rot_5 a _).mono ?_
          rintro r w' ⟨rfl, rfl⟩
          go_wp2_with fail
          refine (rot_30 b _).mono ?_
          rintro r w' ⟨rfl, rfl⟩
          go_wp2_with fail
          go_round
          case rel => exact ⟨k + 1, round k x ⟨a, b, c, d, e⟩, by omega, by go_num, by rw [round_2 k h20 h40], rfl, rfl, rfl, rfl, by rw [rounds, ← HT.out, HX.out]⟩
          case measure => simp [intOf]; omega
        · have f2 : ¬ (k : Int) < 40 := by omega
          by_cases h60 : k < 60
          · have f3 : (k : Int) < 60 := by omega
            go_wp2_with fail
            refine (rot_5 a _).mono ?_
            rintro r w' ⟨rfl, rfl⟩
            go_wp2_with fail
            refine (rot_30 b _).mono ?_
            rintro r w' ⟨rfl, rfl⟩
            go_wp2_with fail
            go_round
            case rel => exact ⟨k + 1, round k x ⟨a, b, c, d, e⟩, by omega, by go_num, by rw [round_3 k h20 h40 h60], rfl, rfl, rfl, rfl, by rw [rounds, ← HT.out, HX.out]⟩
            case measure => simp [intOf]; omega
          · have f3 : ¬ (k : Int) < 60 := by omega
            go_wp2_with fail
            refine (rot_5 a _).mono ?_
            rintro r w' ⟨rfl, rfl⟩
            go_wp2_with fail
            refine (rot_30 b _).mono ?_
            rintro r w' ⟨rfl, rfl⟩
            go_wp2_with fail
            go_round
            case rel => exact ⟨k + 1, round k x ⟨a, b, c, d, e⟩, by omega, by go_num, by rw [round_4 k h20 h40 h60], rfl, rfl, rfl, rfl, by rw [rounds, ← HT.out, HX.out]⟩
            case measure => simp [intOf]; omega
    · obtain rfl : k = 80 := by omega
      obtain ⟨c0, c1, c2, c3, c4⟩ := cells5 G0.out
      obtain ⟨d0, d1, d2, d3, d4⟩ := cells5 G2.out
      have f0 := free5 G2.out 0
      have f1 := free5 G2.out 1
      have f2 := free5 G2.out 2
      have f3 := free5 G2.out 3
      have f4 := free5 G2.out 4
      go_wp2_with fail
      have hM : ∀ x y : BitVec 32, ((x.toNat : Int) + (y.toNat : Int)) % 4294967296 = ((x + y).toNat : Int) := x_add
      refine bodyPost_ret (results_cell_row Tryz.results59 _ _ (w.heap.size + 1 + 1) 92 _ (0, 0) (.array 5 85) rfl (set5 G2.out) Tryz.underlying92 rfl (by kernel_rfl)) rfl ⟨?_, ?_⟩
      · simp only [x_add]
        unfold mix Five.add
        rw [← HT.out]
      · have hsz : w.heap.size ≤ w.heap.size + 1 + 1 := by omega
        exact ((((GB.out.setCell hsz _).setCell hsz _).setCell hsz _).setCell hsz _).setCell hsz _
end Go.Proofs.YtglgchjkonjpiaaGreatDoor
/-! SHA-1's sum as 20 bytes: the walk. -/
namespace Go.Proofs.YtglgchjkonjpiaaGreatDoor
open Go.RowKit Plain
set_option linter.unusedVariables false

def fiveAt (h : Five) (i : Nat) : BitVec 32 := match i with | 0 => h.a | 1 => h.b | 2 => h.c | 3 => h.d | _ => h.e
/-- The sum's byte number i. -/
def tb (h : Five) (i : Nat) : Int := (((fiveAt h (i / 4)).toNat / 2 ^ (24 - 8 * (i % 4)) % 256 : Nat) : Int)
def idTo (h : Five) (k : Nat) : Array Value := ((List.range 20).map fun i => Value.int .u8 (if i < k then tb h i else 0)).toArray
theorem idTo_size (h : Five) (k : Nat) : (idTo h k).size = 20 := by simp [idTo]
theorem idTo_set (h : Five) (k : Nat) (hk : k < 20) (x : Int) (hx : x = tb h k) : (idTo h k).setIfInBounds k (.int .u8 x) = idTo h (k + 1) := by
  subst hx
  apply Array.ext
  · simp [idTo_size]
  · intro j h1 h2
    have hj : j < 20 := by simpa [idTo_size] using h2
    rw [Array.getElem_setIfInBounds (by simpa using h1)]
    by_cases hjk : k = j
    · subst hjk; simp [idTo]
    · rw [if_neg hjk]
      simp only [idTo, List.getElem_toArray, List.getElem_map, List.getElem_range]
      by_cases hlt : j < k
      · rw [if_pos hlt, if_pos (by omega)]
      · rw [if_neg hlt, if_neg (by omega)]
theorem cases20 (k : Nat) (h : k < 20) : k = 0 ∨ k = 1 ∨ k = 2 ∨ k = 3 ∨ k = 4 ∨ k = 5 ∨ k = 6 ∨ k = 7 ∨ k = 8 ∨ k = 9 ∨ k = 10 ∨ k = 11 ∨ k = 12 ∨ k = 13 ∨ k = 14 ∨ k = 15 ∨ k = 16 ∨ k = 17 ∨ k = 18 ∨ k = 19 := by omega
theorem zero_20 (h : Five) (w : World) : (zeroValue 43).run Tryz.prog w = .ok (.agg (idTo h 0)) w := by
  show _ = Result.ok (Value.agg (List.replicate 20 (Value.int .u8 0)).toArray) w
  kernel_rfl
set_option maxRecDepth 100000 in
set_option maxHeartbeats 8000000 in
theorem told_any (s : Five) (w : World) :
    Calls Tryz.prog 63 #[.agg #[.int .u32 s.a.toNat, .int .u32 s.b.toNat, .int .u32 s.c.toNat, .int .u32 s.d.toNat, .int .u32 s.e.toNat]] w fun r w' =>
      r = .returned (.agg (idTo s 20)) ∧ Below w.heap.size w w' := by
  have hz := zero_20 s
  go_enter Tryz.func63, Tryz.ntmps63
  go_wp2_with fail
  clear hz
  obtain ⟨h0, h1, h2, hb, hs⟩ := three_blocks w (.cells #[.int .u32 s.a.toNat, .int .u32 s.b.toNat, .int .u32 s.c.toNat, .int .u32 s.d.toNat, .int .u32 s.e.toNat] 92) (.cells (idTo s 0) 43) (.cells (idTo s 0) 43)
  generalize ((w.alloc (.cells #[.int .u32 s.a.toNat, .int .u32 s.b.toNat, .int .u32 s.c.toNat, .int .u32 s.d.toNat, .int .u32 s.e.toNat] 92)).alloc (.cells (idTo s 0) 43)).alloc (.cells (idTo s 0) 43) = w0 at *
  have H0 : Hid (w0.heap[w.heap.size]? = some (.cells #[.int .u32 s.a.toNat, .int .u32 s.b.toNat, .int .u32 s.c.toNat, .int .u32 s.d.toNat, .int .u32 s.e.toNat] 92 (0, 0))) := h0
  have H1 : Hid (w0.heap[w.heap.size + 1]? = some (.cells (idTo s 0) 43 (0, 0))) := h1
  have H2 : Hid (w0.heap[w.heap.size + 1 + 1]? = some (.cells (idTo s 0) 43 (0, 0))) := h2
  clear h0 h1 h2 hs
  go_loopw [5] (fun i wr => ∃ k : Nat, k ≤ 20 ∧ i = .int .i64 k ∧ wr.heap[w.heap.size]? = some (.cells #[.int .u32 s.a.toNat, .int .u32 s.b.toNat, .int .u32 s.c.toNat, .int .u32 s.d.toNat, .int .u32 s.e.toNat] 92 (0, 0)) ∧ wr.heap[w.heap.size + 1]? = some (.cells (idTo s 0) 43 (0, 0)) ∧ wr.heap[w.heap.size + 1 + 1]? = some (.cells (idTo s k) 43 (0, 0)) ∧ Below w.heap.size w wr) (fun i _ => 20 - (intOf i).toNat)
  case atStart => exact ⟨0, by omega, rfl, H0.out, H1.out, H2.out, hb⟩
  case round =>
    obtain ⟨k, hk, rfl, h0, h1, h2, hbel⟩ := hrel
    have G0 : Hid (wr.heap[w.heap.size]? = some (.cells #[.int .u32 s.a.toNat, .int .u32 s.b.toNat, .int .u32 s.c.toNat, .int .u32 s.d.toNat, .int .u32 s.e.toNat] 92 (0, 0))) := h0
    have G1 : Hid (wr.heap[w.heap.size + 1]? = some (.cells (idTo s 0) 43 (0, 0))) := h1
    have G2 : Hid (wr.heap[w.heap.size + 1 + 1]? = some (.cells (idTo s k) 43 (0, 0))) := h2
    clear h0 h1 h2 hb H0 H1 H2
    by_cases h20 : k < 20
    · obtain ⟨ov, ho⟩ : ∃ ov, wr.cell? ⟨w.heap.size + 1 + 1, k, none⟩ = some ov := ⟨_, by rw [cell_of_row wr _ _ _ _ _ G2.out, Array.getElem?_eq_getElem (by rw [idTo_size]; omega)]⟩
      have fo := frozen_of_row wr (w.heap.size + 1 + 1) k (idTo s k) 43 G2.out
      obtain ⟨c0, c1, c2, c3, c4⟩ := cells5 G0.out
      have HS : Hid (∀ x, x = tb s k → (idTo s k).setIfInBounds k (.int .u8 x) = idTo s (k + 1)) := fun x hx => idTo_set s k h20 x hx
      have HK : Hid (k < 20) := h20
      clear hk
      rcases cases20 k h20 with rfl | rfl | rfl | rfl | rfl | rfl | rfl | rfl | rfl | rfl | rfl | rfl | rfl | rfl | rfl | rfl | rfl | rfl | rfl | rfl <;> clear h20
      all_goals
        go_wp2_with fail
        go_roundw
        case rel =>
          refine ⟨_, ?_, rfl, ?_, ?_, (heap_setCell_same wr (w.heap.size + 1 + 1) _ _ _ _ G2.out).trans ?_, (hbel.setCell (by show w.heap.size ≤ w.heap.size + 1 + 1; omega) _)⟩
          · exact HK.out
          · exact (Below.heap_setCell wr _ _ _ (by show w.heap.size ≠ w.heap.size + 1 + 1; omega)).trans G0.out
          · exact (Below.heap_setCell wr _ _ _ (by show w.heap.size + 1 ≠ w.heap.size + 1 + 1; omega)).trans G1.out
          · rw [HS.out _ (by simp [tb, fiveAt] <;> (have q0 := s.a.isLt; have q1 := s.b.isLt; have q2 := s.c.isLt; have q3 := s.d.isLt; have q4 := s.e.isLt; omega))]
        case measure => simp [intOf]
    · obtain rfl : k = 20 := by omega
      have HI : Hid ((Tryz.prog.info? 43).map (·.size) = some (idTo s 20).size) := by
        show (Tryz.prog.info? 43).map (·.size) = some (idTo s 20).size
        rw [idTo_size]; kernel_rfl
      have HL : Hid ((idTo s 0).size = (idTo s 20).size) := by show (idTo s 0).size = (idTo s 20).size; rw [idTo_size, idTo_size]
      have HO : Hid ((idTo s 20).all (·.oneCell') = true) := by
        show (idTo s 20).all (·.oneCell') = true
        rw [Array.all_eq_true_iff_forall_mem]; intro v hv; unfold idTo at hv; simp at hv; obtain ⟨x, _, rfl⟩ := hv; rfl
      have tok1 : True := trivial
      have tok2 : True := trivial
      go_wp2_with (first
        | (have _t := tok1; refine wpList_load_row rfl 43 _ rfl (w.heap.size + 1 + 1) rfl 43 (idTo s 20) (0, 0) (.array 20 5) G2.out Tryz.underlying43 rfl HI.out ?_; clear tok1)
        | (have _t := tok2; refine wpList_store_row rfl 43 _ _ rfl (w.heap.size + 1) (idTo s 20) rfl rfl 43 (idTo s 0) G1.out HI.out HL.out HO.out ?_; clear tok2))
      refine bodyPost_ret (results_cell_row Tryz.results63 _ _ (w.heap.size + 1) 43 _ (0, 0) (.array 20 5) rfl (setRow_heap wr _ _ _ _ _ G1.out) Tryz.underlying43 rfl HI.out) rfl ⟨rfl, ?_⟩
      exact below_setRow hbel (by omega) _
end Go.Proofs.YtglgchjkonjpiaaGreatDoor
/-! SHA-1's words of one block: the walk. -/
namespace Go.Proofs.YtglgchjkonjpiaaGreatDoor
open Go.RowKit Plain
set_option linter.unusedVariables false

theorem V8_size (bs : List Int) : (V8 bs).size = bs.length := by simp [V8]
/-- The first k words, and noughts behind. -/
def W80 (bs : List Int) (k : Nat) : Array Value := V32 (wordsTo bs k ++ List.replicate (80 - k) 0#32)
theorem zero_80 (bs : List Int) (w : World) : (zeroValue 95).run Tryz.prog w = .ok (.agg (W80 bs 0)) w := by
  show _ = Result.ok (Value.agg (V32 (List.replicate 80 0#32))) w
  kernel_rfl
theorem W80_set (bs : List Int) (k : Nat) (h : k < 80) (x : BitVec 32) (hx : x = if k < 16 then word0 bs k else rotl ((wordsTo bs k)[k - 3]?.getD 0 ^^^ (wordsTo bs k)[k - 8]?.getD 0 ^^^ (wordsTo bs k)[k - 14]?.getD 0 ^^^ (wordsTo bs k)[k - 16]?.getD 0) 1) :
    (W80 bs k).setIfInBounds k (.int .u32 (x.toNat : Int)) = W80 bs (k + 1) := by
  unfold W80 V32
  apply Array.toList_inj.1
  rw [Array.toList_setIfInBounds, List.map_append, List.map_append]
  rw [List.set_append_right _ _ (by simp [wordsTo_length])]
  rw [show 80 - k = (80 - (k + 1)) + 1 by omega, List.replicate_succ]
  simp only [List.length_map, wordsTo_length, Nat.sub_self, List.map_cons, List.set_cons_zero]
  rw [wordsTo, ← hx]
  simp
theorem W80_get (bs : List Int) (k j : Nat) (h : j < k) (hk : k ≤ 80) : (W80 bs k)[j]? = some (.int .u32 (((wordsTo bs k)[j]?.getD 0).toNat : Int)) := by
  unfold W80
  rw [V32_get _ _ (by simp [wordsTo_length]; omega), List.getElem?_append_left (by simp [wordsTo_length]; omega)]
theorem W80_size (bs : List Int) (k : Nat) (hk : k ≤ 80) : (W80 bs k).size = 80 := by
  unfold W80; rw [V32_size]; simp [wordsTo_length]; omega
set_option maxRecDepth 100000 in
theorem slice_64 (B k : Nat) (hk : k < 16) (w : World) : (Instr.sliceAt 93 (.pointer (some ⟨B, 0, none⟩)) (some (.int .i64 (4 * (k : Int)))) (some (.int .i64 (4 * (k : Int) + 4))) none).run Tryz.prog w = .ok (.slice (some ⟨B, 4 * k, none⟩) 4 (64 - 4 * k)) w := by
  have hal : Tryz.prog.arrayLen 93 = 64 := by kernel_rfl
  have hsz : ∀ W : World, (sizeOf (Tryz.prog.elem 93)).run Tryz.prog W = .ok 1 W := fun W => by kernel_rfl
  rw [run_sliceAt_array_lh (P := Tryz.prog) w 93 ⟨B, 0, none⟩ (by kernel_rfl) .i64 .i64 (4 * (k : Int)) (4 * (k : Int) + 4) (by omega) (by omega) (by rw [hal]; omega), hsz, hal]
  have e1 : (4 * (k : Int)).toNat = 4 * k := by omega
  have e2 : (4 * (k : Int) + 4).toNat = 4 * k + 4 := by omega
  simp only [Result.andThen_ok, slicedAt, e1, e2, Nat.mul_one]
  rw [if_neg (by omega), show 4 * k + 4 - 4 * k = 4 by omega]
  congr 3
  unfold Addr.add
  split <;> simp_all
set_option maxRecDepth 100000 in
set_option maxHeartbeats 4000000 in
theorem words_any (bs : List Int) (w : World) (hl : bs.length = 64) (hb : ∀ j : Nat, 0 ≤ bs[j]?.getD 0 ∧ bs[j]?.getD 0 ≤ 255) :
    Calls Tryz.prog 60 #[.agg (V8 bs)] w fun r w' => r = .returned (.agg (V32 (wordsTo bs 80))) ∧ Below w.heap.size w w' := by
  have HB : Hid (∀ j : Nat, 0 ≤ bs[j]?.getD 0 ∧ bs[j]?.getD 0 ≤ 255) := hb
  have HLEN : Hid (bs.length = 64) := hl
  clear hl hb
  have hz := zero_80 bs
  go_enter Tryz.func60, Tryz.ntmps60
  go_wp2_with fail
  clear hz
  obtain ⟨h0, h1, h2, hb, hs⟩ := three_blocks w (.cells (V8 bs) 93) (.cells (W80 bs 0) 95) (.cells (W80 bs 0) 95)
  generalize ((w.alloc (.cells (V8 bs) 93)).alloc (.cells (W80 bs 0) 95)).alloc (.cells (W80 bs 0) 95) = w0 at *
  have H0 : Hid (w0.heap[w.heap.size]? = some (.cells (V8 bs) 93 (0, 0))) := h0
  have H1 : Hid (w0.heap[w.heap.size + 1]? = some (.cells (W80 bs 0) 95 (0, 0))) := h1
  have H2 : Hid (w0.heap[w.heap.size + 1 + 1]? = some (.cells (W80 bs 0) 95 (0, 0))) := h2
  clear h0 h1 h2 hs
  go_loopw [7] (fun i wr => ∃ k : Nat, k ≤ 16 ∧ i = .int .i64 k ∧ wr.heap[w.heap.size]? = some (.cells (V8 bs) 93 (0, 0)) ∧ wr.heap[w.heap.size + 1]? = some (.cells (W80 bs 0) 95 (0, 0)) ∧ wr.heap[w.heap.size + 1 + 1]? = some (.cells (W80 bs k) 95 (0, 0)) ∧ Below w.heap.size w wr) (fun i _ => 16 - (intOf i).toNat)
  case atStart => exact ⟨0, by omega, rfl, H0.out, H1.out, H2.out, hb⟩
  case round =>
    obtain ⟨k, hk, rfl, h0, h1, h2, hbel⟩ := hrel
    have G0 : Hid (wr.heap[w.heap.size]? = some (.cells (V8 bs) 93 (0, 0))) := h0
    have G1 : Hid (wr.heap[w.heap.size + 1]? = some (.cells (W80 bs 0) 95 (0, 0))) := h1
    have G2 : Hid (wr.heap[w.heap.size + 1 + 1]? = some (.cells (W80 bs k) 95 (0, 0))) := h2
    clear h0 h1 h2 hb H0 H1 H2
    by_cases h16 : k < 16
    · have b0 := HB.out (4 * k)
      have b1 := HB.out (4 * k + 1)
      have b2 := HB.out (4 * k + 2)
      have b3 := HB.out (4 * k + 3)
      have e0 : wr.cell? ⟨w.heap.size, 4 * k, none⟩ = some (.int .u8 (bs[4 * k]?.getD 0)) := by rw [cell_of_row wr _ _ _ _ _ G0.out, V8_get bs _ (by rw [HLEN.out]; omega)]
      have e1 : wr.cell? ⟨w.heap.size, 4 * k + 1, none⟩ = some (.int .u8 (bs[4 * k + 1]?.getD 0)) := by rw [cell_of_row wr _ _ _ _ _ G0.out, V8_get bs _ (by rw [HLEN.out]; omega)]
      have e2 : wr.cell? ⟨w.heap.size, 4 * k + 2, none⟩ = some (.int .u8 (bs[4 * k + 2]?.getD 0)) := by rw [cell_of_row wr _ _ _ _ _ G0.out, V8_get bs _ (by rw [HLEN.out]; omega)]
      have e3 : wr.cell? ⟨w.heap.size, 4 * k + 3, none⟩ = some (.int .u8 (bs[4 * k + 3]?.getD 0)) := by rw [cell_of_row wr _ _ _ _ _ G0.out, V8_get bs _ (by rw [HLEN.out]; omega)]
      obtain ⟨ov, ho⟩ : ∃ ov, wr.cell? ⟨w.heap.size + 1 + 1, k, none⟩ = some ov := ⟨_, by rw [cell_of_row wr _ _ _ _ _ G2.out, Array.getElem?_eq_getElem (by rw [W80_size bs k (by omega)]; omega)]⟩
      have fo := frozen_of_row wr (w.heap.size + 1 + 1) k (W80 bs k) 95 G2.out
      have i0 : (k : Int) < 80 := by omega
      have i1 : 4 * (k : Int) + 4 ≤ 64 := by omega
      have i2 : ¬ 4 * k = 64 := by omega
      have hsl := slice_64 w.heap.size k h16
      have f16 : (k : Int) < 16 := by omega
      have HW0 : Hid (word0 bs k = BitVec.ofInt 32 (bs[4 * k]?.getD 0 * 16777216 + bs[4 * k + 1]?.getD 0 * 65536 + bs[4 * k + 2]?.getD 0 * 256 + bs[4 * k + 3]?.getD 0)) := rfl
      generalize bs[4 * k]?.getD 0 = x0 at *
      generalize bs[4 * k + 1]?.getD 0 = x1 at *
      generalize bs[4 * k + 2]?.getD 0 = x2 at *
      generalize bs[4 * k + 3]?.getD 0 = x3 at *
      go_wp2_with fail
      go_region
      go_wp2_with fail
      go_roundw
      case rel =>
        refine ⟨k + 1, by omega, by go_num, ?_, ?_, ?_, (hbel.setCell (by show w.heap.size ≤ w.heap.size + 1 + 1; omega) _).drew⟩
        · exact (Below.heap_setCell wr _ _ _ (by show w.heap.size ≠ w.heap.size + 1 + 1; omega)).trans G0.out
        · exact (Below.heap_setCell wr _ _ _ (by show w.heap.size + 1 ≠ w.heap.size + 1 + 1; omega)).trans G1.out
        · refine (heap_setCell_same wr (w.heap.size + 1 + 1) k _ _ _ G2.out).trans ?_
          rw [word_eq x0 x1 x2 x3 b0 b1 b2 b3, ← HW0.out, W80_set bs k (by omega) _ (by rw [if_pos h16])]
      case measure => simp [intOf]; omega
    · obtain rfl : k = 16 := by omega
      have f16 : ¬ ((16 : Nat) : Int) < 16 := by omega
      go_wp2_with fail
      go_loopw [6] (fun i wr => ∃ k : Nat, 16 ≤ k ∧ k ≤ 80 ∧ i = .int .i64 k ∧ wr.heap[w.heap.size]? = some (.cells (V8 bs) 93 (0, 0)) ∧ wr.heap[w.heap.size + 1]? = some (.cells (W80 bs 0) 95 (0, 0)) ∧ wr.heap[w.heap.size + 1 + 1]? = some (.cells (W80 bs k) 95 (0, 0)) ∧ Below w.heap.size w wr) (fun i _ => 80 - (intOf i).toNat)
      case atStart => exact ⟨16, by omega, by omega, rfl, G0.out, G1.out, G2.out, hbel⟩
      case round =>
        clear hbel G0 G1 G2 f16 h16 hk
        obtain ⟨k, hk0, hk, rfl, h0, h1, h2, hbel⟩ := hrel
        have K0 : Hid (wr.heap[w.heap.size]? = some (.cells (V8 bs) 93 (0, 0))) := h0
        have K1 : Hid (wr.heap[w.heap.size + 1]? = some (.cells (W80 bs 0) 95 (0, 0))) := h1
        have K2 : Hid (wr.heap[w.heap.size + 1 + 1]? = some (.cells (W80 bs k) 95 (0, 0))) := h2
        clear h0 h1 h2
        by_cases h80 : k < 80
        · have f80 : (k : Int) < 80 := by omega
          have f16 : 16 ≤ (k : Int) := by omega
          have e3 : wr.cell? ⟨w.heap.size + 1 + 1, k - 3, none⟩ = some (.int .u32 (((wordsTo bs k)[k - 3]?.getD 0).toNat : Int)) := by rw [cell_of_row wr _ _ _ _ _ K2.out, W80_get bs k (k - 3) (by omega) hk]
          have e8 : wr.cell? ⟨w.heap.size + 1 + 1, k - 8, none⟩ = some (.int .u32 (((wordsTo bs k)[k - 8]?.getD 0).toNat : Int)) := by rw [cell_of_row wr _ _ _ _ _ K2.out, W80_get bs k (k - 8) (by omega) hk]
          have e14 : wr.cell? ⟨w.heap.size + 1 + 1, k - 14, none⟩ = some (.int .u32 (((wordsTo bs k)[k - 14]?.getD 0).toNat : Int)) := by rw [cell_of_row wr _ _ _ _ _ K2.out, W80_get bs k (k - 14) (by omega) hk]
          have e16 : wr.cell? ⟨w.heap.size + 1 + 1, k - 16, none⟩ = some (.int .u32 (((wordsTo bs k)[k - 16]?.getD 0).toNat : Int)) := by rw [cell_of_row wr _ _ _ _ _ K2.out, W80_get bs k (k - 16) (by omega) hk]
          obtain ⟨ov, ho⟩ : ∃ ov, wr.cell? ⟨w.heap.size + 1 + 1, k, none⟩ = some ov := ⟨_, by rw [cell_of_row wr _ _ _ _ _ K2.out, Array.getElem?_eq_getElem (by rw [W80_size bs k (by omega)]; omega)]⟩
          have fo := frozen_of_row wr (w.heap.size + 1 + 1) k (W80 bs k) 95 K2.out
          have HS : Hid (∀ x, x = rotl ((wordsTo bs k)[k - 3]?.getD 0 ^^^ (wordsTo bs k)[k - 8]?.getD 0 ^^^ (wordsTo bs k)[k - 14]?.getD 0 ^^^ (wordsTo bs k)[k - 16]?.getD 0) 1 → (W80 bs k).setIfInBounds k (.int .u32 (x.toNat : Int)) = W80 bs (k + 1)) := fun x hx => W80_set bs k (by omega) x (by rw [if_neg (by omega)]; exact hx)
          generalize (wordsTo bs k)[k - 3]?.getD 0 = y3 at *
          generalize (wordsTo bs k)[k - 8]?.getD 0 = y8 at *
          generalize (wordsTo bs k)[k - 14]?.getD 0 = y14 at *
          generalize (wordsTo bs k)[k - 16]?.getD 0 = y16 at *
          have g3 : 0 ≤ (k : Int) - 3 ∧ (k : Int) - 3 < 80 := by omega
          obtain ⟨g3a, g3b⟩ := g3
          have g8 : 0 ≤ (k : Int) - 8 ∧ (k : Int) - 8 < 80 := by omega
          obtain ⟨g8a, g8b⟩ := g8
          have g14 : 0 ≤ (k : Int) - 14 ∧ (k : Int) - 14 < 80 := by omega
          obtain ⟨g14a, g14b⟩ := g14
          have g16 : 0 ≤ (k : Int) - 16 ∧ (k : Int) - 16 < 80 := by omega
          obtain ⟨g16a, g16b⟩ := g16
          go_wp2_with fail
          have s3 : IntKind.i64.wrap ((k : Int) - 3) = (k : Int) - 3 := IntWalk.i64_in _ (by omega)
          have s8 : IntKind.i64.wrap ((k : Int) - 8) = (k : Int) - 8 := IntWalk.i64_in _ (by omega)
          have s14 : IntKind.i64.wrap ((k : Int) - 14) = (k : Int) - 14 := IntWalk.i64_in _ (by omega)
          have s16 : IntKind.i64.wrap ((k : Int) - 16) = (k : Int) - 16 := IntWalk.i64_in _ (by omega)
          have t3 : ((k : Int) - 3).toNat = k - 3 := by omega
          have t8 : ((k : Int) - 8).toNat = k - 8 := by omega
          have t14 : ((k : Int) - 14).toNat = k - 14 := by omega
          have t16 : ((k : Int) - 16).toNat = k - 16 := by omega
          have q3 : (3 : Int) ≤ k := by omega
          have q8 : (8 : Int) ≤ k := by omega
          have q14 : (14 : Int) ≤ k := by omega
          have harg : bits .xor .u32 (bits .xor .u32 (bits .xor .u32 (y3.toNat : Int) (y8.toNat : Int)) (y14.toNat : Int)) (y16.toNat : Int) = ((y3 ^^^ y8 ^^^ y14 ^^^ y16).toNat : Int) := by
            rw [x_xors, x_xors, x_xors]
          have HA : Hid (bits .xor .u32 (bits .xor .u32 (bits .xor .u32 (y3.toNat : Int) (y8.toNat : Int)) (y14.toNat : Int)) (y16.toNat : Int) = ((y3 ^^^ y8 ^^^ y14 ^^^ y16).toNat : Int)) := harg
          clear harg
          go_still_tail 22, (by kernel_rfl)
          refine wpStill_step (fun K hK => ?_)
          go_simp
          refine ⟨.int .u32 (rotl (y3 ^^^ y8 ^^^ y14 ^^^ y16) 1).toNat, ?_, hK _ ?_⟩
          · rw [HA.out]
            exact (rot_1 _ _).mono (fun e w' h => ⟨h.1, h.2.symm⟩)
          clear hK K
          repeat still_step
          try refine wpStill_nil ?_
          go_wp2_with fail
          refine ⟨⟨k + 1, by omega, by omega, by go_num, ?_, ?_, ?_, (hbel.setCell (by show w.heap.size ≤ w.heap.size + 1 + 1; omega) _).drew⟩, by simp [intOf]; omega⟩
          · exact (Below.heap_setCell wr _ _ _ (by show w.heap.size ≠ w.heap.size + 1 + 1; omega)).trans K0.out
          · exact (Below.heap_setCell wr _ _ _ (by show w.heap.size + 1 ≠ w.heap.size + 1 + 1; omega)).trans K1.out
          · refine (heap_setCell_same wr (w.heap.size + 1 + 1) k _ _ _ K2.out).trans ?_
            rw [HS.out _ rfl]
        · obtain rfl : k = 80 := by omega
          have f80 : ¬ ((80 : Nat) : Int) < 80 := by omega
          have hw80 : W80 bs 80 = V32 (wordsTo bs 80) := by unfold W80; simp
          have hln : (V32 (wordsTo bs 80)).size = 80 := by rw [V32_size, wordsTo_length]
          have hl0 : (W80 bs 0).size = 80 := W80_size bs 0 (by omega)
          have hone : (V32 (wordsTo bs 80)).all (·.oneCell') = true := by
            rw [Array.all_eq_true_iff_forall_mem]; intro v hv; unfold V32 at hv; simp at hv; obtain ⟨x, _, rfl⟩ := hv; rfl
          have HI : Hid ((Tryz.prog.info? 95).map (·.size) = some (V32 (wordsTo bs 80)).size) := by
            show (Tryz.prog.info? 95).map (·.size) = some (V32 (wordsTo bs 80)).size
            rw [hln]; kernel_rfl
          have K3 : Hid (wr.heap[w.heap.size + 1 + 1]? = some (.cells (V32 (wordsTo bs 80)) 95 (0, 0))) := by
            show wr.heap[w.heap.size + 1 + 1]? = some (.cells (V32 (wordsTo bs 80)) 95 (0, 0))
            rw [← hw80]; exact K2.out
          have HL : Hid ((W80 bs 0).size = (V32 (wordsTo bs 80)).size) := by show (W80 bs 0).size = (V32 (wordsTo bs 80)).size; rw [hl0, hln]
          have HO : Hid ((V32 (wordsTo bs 80)).all (·.oneCell') = true) := hone
          clear hone hl0 hln hw80 K2
          obtain ⟨ws, hws⟩ : ∃ ws, wordsTo bs 80 = ws := ⟨_, rfl⟩
          rw [hws] at K3 HI HL HO
          have HWS : Hid (wordsTo bs 80 = ws) := hws
          clear hws
          have tok1 : True := trivial
          have tok2 : True := trivial
          go_wp2_with (first
            | (have _t := tok1; refine wpList_load_row rfl 95 _ rfl (w.heap.size + 1 + 1) rfl 95 (V32 ws) (0, 0) (.array 80 85) K3.out Tryz.underlying95 rfl HI.out ?_; clear tok1)
            | (have _t := tok2; refine wpList_store_row rfl 95 _ _ rfl (w.heap.size + 1) (V32 ws) rfl rfl 95 (W80 bs 0) K1.out HI.out HL.out HO.out ?_; clear tok2))
          refine bodyPost_ret (results_cell_row Tryz.results60 _ _ (w.heap.size + 1) 95 _ (0, 0) (.array 80 85) rfl (setRow_heap wr _ _ _ _ _ K1.out) Tryz.underlying95 rfl HI.out) rfl ⟨by rw [HWS.out], ?_⟩
          exact below_setRow hbel (by omega) _
end Go.Proofs.YtglgchjkonjpiaaGreatDoor
