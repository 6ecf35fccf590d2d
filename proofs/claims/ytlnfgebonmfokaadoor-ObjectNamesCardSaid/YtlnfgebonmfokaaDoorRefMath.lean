/- SHA-1 by whole numbers below 2^32, plainly. -/
import Derived.Test.YtlnfgebonmfokaaDoorRefPre
namespace Go.Proofs.YtlnfgebonmfokaaDoor
open Go.RowKit Plain
set_option linter.unusedVariables false
theorem wrap_i64 (x : Int) (h : 0 ≤ x ∧ x < 4294967296) : IntKind.i64.wrap x = x := IntWalk.i64_in _ (by omega)
theorem of_nat64 (a : BitVec 32) : BitVec.ofInt 64 (a.toNat : Int) = a.setWidth 64 := by
  rw [BitVec.ofInt_natCast]
  apply BitVec.eq_of_toNat_eq
  simp
theorem lt32 (a : BitVec 32) : a.toNat < 4294967296 := a.isLt
theorem bits64 (a b c : BitVec 32) (op : BinOp) (h : (bits op .i64 (a.toNat : Int) (b.toNat : Int)) = IntKind.i64.wrap (c.toNat : Int)) : bits op .i64 (a.toNat : Int) (b.toNat : Int) = (c.toNat : Int) := by
  rw [h]; exact wrap_i64 _ (by have := lt32 c; omega)
theorem y_or (a b : BitVec 32) : bits .or .i64 (a.toNat : Int) (b.toNat : Int) = ((a ||| b).toNat : Int) := by
  refine bits64 a b _ _ ?_
  show IntKind.i64.wrap ((BitVec.ofInt 64 _ ||| BitVec.ofInt 64 _ : BitVec 64).toNat : Int) = _
  rw [of_nat64, of_nat64, BitVec.toNat_or, BitVec.toNat_setWidth, BitVec.toNat_setWidth, BitVec.toNat_or, Nat.mod_eq_of_lt (by have := lt32 a; omega), Nat.mod_eq_of_lt (by have := lt32 b; omega)]
theorem y_xor (a b : BitVec 32) : bits .xor .i64 (a.toNat : Int) (b.toNat : Int) = ((a ^^^ b).toNat : Int) := by
  refine bits64 a b _ _ ?_
  show IntKind.i64.wrap ((BitVec.ofInt 64 _ ^^^ BitVec.ofInt 64 _ : BitVec 64).toNat : Int) = _
  rw [of_nat64, of_nat64, BitVec.toNat_xor, BitVec.toNat_setWidth, BitVec.toNat_setWidth, BitVec.toNat_xor, Nat.mod_eq_of_lt (by have := lt32 a; omega), Nat.mod_eq_of_lt (by have := lt32 b; omega)]
theorem y_and (a b : BitVec 32) : bits .and .i64 (a.toNat : Int) (b.toNat : Int) = ((a &&& b).toNat : Int) := by
  refine bits64 a b _ _ ?_
  show IntKind.i64.wrap ((BitVec.ofInt 64 _ &&& BitVec.ofInt 64 _ : BitVec 64).toNat : Int) = _
  rw [of_nat64, of_nat64, BitVec.toNat_and, BitVec.toNat_setWidth, BitVec.toNat_setWidth, BitVec.toNat_and, Nat.mod_eq_of_lt (by have := lt32 a; omega), Nat.mod_eq_of_lt (by have := lt32 b; omega)]
theorem y_not (a : BitVec 32) : (4294967295 : Int) - (a.toNat : Int) = ((~~~ a).toNat : Int) := by
  rw [BitVec.toNat_not]; have := lt32 a; omega
/-- Turned to the left, by whole numbers. -/
def turnI (x : Int) (k : Nat) : Int := (x * (2 ^ k : Nat)) % 4294967296 + x / (2 ^ (32 - k) : Nat)
theorem turnI_step0 (x : Int) (h : 0 ≤ x ∧ x < 4294967296) : 2 * (x * 1 % 4294967296 + x / 4294967296) % 4294967296 + 2 * (x * 1 % 4294967296 + x / 4294967296) / 4294967296 = x * 2 % 4294967296 + x / 2147483648 := by
  have h1 : x * 1 / 4294967296 = x / 4294967296 := by omega
  have h2 : x * 2 / 4294967296 = x / 2147483648 := by omega
  have h3 : x / 2147483648 / 2 = x / 4294967296 := by omega
  have h4 : 2 * (x * 1 % 4294967296 + x / 4294967296) / 4294967296 = x / 2147483648 - 2 * (x / 4294967296) := by omega
  omega
theorem turnI_step1 (x : Int) (h : 0 ≤ x ∧ x < 4294967296) : 2 * (x * 2 % 4294967296 + x / 2147483648) % 4294967296 + 2 * (x * 2 % 4294967296 + x / 2147483648) / 4294967296 = x * 4 % 4294967296 + x / 1073741824 := by
  have h1 : x * 2 / 4294967296 = x / 2147483648 := by omega
  have h2 : x * 4 / 4294967296 = x / 1073741824 := by omega
  have h3 : x / 1073741824 / 2 = x / 2147483648 := by omega
  have h4 : 2 * (x * 2 % 4294967296 + x / 2147483648) / 4294967296 = x / 1073741824 - 2 * (x / 2147483648) := by omega
  omega
theorem turnI_step2 (x : Int) (h : 0 ≤ x ∧ x < 4294967296) : 2 * (x * 4 % 4294967296 + x / 1073741824) % 4294967296 + 2 * (x * 4 % 4294967296 + x / 1073741824) / 4294967296 = x * 8 % 4294967296 + x / 536870912 := by
  have h1 : x * 4 / 4294967296 = x / 1073741824 := by omega
  have h2 : x * 8 / 4294967296 = x / 536870912 := by omega
  have h3 : x / 536870912 / 2 = x / 1073741824 := by omega
  have h4 : 2 * (x * 4 % 4294967296 + x / 1073741824) / 4294967296 = x / 536870912 - 2 * (x / 1073741824) := by omega
  omega
theorem turnI_step3 (x : Int) (h : 0 ≤ x ∧ x < 4294967296) : 2 * (x * 8 % 4294967296 + x / 536870912) % 4294967296 + 2 * (x * 8 % 4294967296 + x / 536870912) / 4294967296 = x * 16 % 4294967296 + x / 268435456 := by
  have h1 : x * 8 / 4294967296 = x / 536870912 := by omega
  have h2 : x * 16 / 4294967296 = x / 268435456 := by omega
  have h3 : x / 268435456 / 2 = x / 536870912 := by omega
  have h4 : 2 * (x * 8 % 4294967296 + x / 536870912) / 4294967296 = x / 268435456 - 2 * (x / 536870912) := by omega
  omega
theorem turnI_step4 (x : Int) (h : 0 ≤ x ∧ x < 4294967296) : 2 * (x * 16 % 4294967296 + x / 268435456) % 4294967296 + 2 * (x * 16 % 4294967296 + x / 268435456) / 4294967296 = x * 32 % 4294967296 + x / 134217728 := by
  have h1 : x * 16 / 4294967296 = x / 268435456 := by omega
  have h2 : x * 32 / 4294967296 = x / 134217728 := by omega
  have h3 : x / 134217728 / 2 = x / 268435456 := by omega
  have h4 : 2 * (x * 16 % 4294967296 + x / 268435456) / 4294967296 = x / 134217728 - 2 * (x / 268435456) := by omega
  omega
theorem turnI_step5 (x : Int) (h : 0 ≤ x ∧ x < 4294967296) : 2 * (x * 32 % 4294967296 + x / 134217728) % 4294967296 + 2 * (x * 32 % 4294967296 + x / 134217728) / 4294967296 = x * 64 % 4294967296 + x / 67108864 := by
  have h1 : x * 32 / 4294967296 = x / 134217728 := by omega
  have h2 : x * 64 / 4294967296 = x / 67108864 := by omega
  have h3 : x / 67108864 / 2 = x / 134217728 := by omega
  have h4 : 2 * (x * 32 % 4294967296 + x / 134217728) / 4294967296 = x / 67108864 - 2 * (x / 134217728) := by omega
  omega
theorem turnI_step6 (x : Int) (h : 0 ≤ x ∧ x < 4294967296) : 2 * (x * 64 % 4294967296 + x / 67108864) % 4294967296 + 2 * (x * 64 % 4294967296 + x / 67108864) / 4294967296 = x * 128 % 4294967296 + x / 33554432 := by
  have h1 : x * 64 / 4294967296 = x / 67108864 := by omega
  have h2 : x * 128 / 4294967296 = x / 33554432 := by omega
  have h3 : x / 33554432 / 2 = x / 67108864 := by omega
  have h4 : 2 * (x * 64 % 4294967296 + x / 67108864) / 4294967296 = x / 33554432 - 2 * (x / 67108864) := by omega
  omega
theorem turnI_step7 (x : Int) (h : 0 ≤ x ∧ x < 4294967296) : 2 * (x * 128 % 4294967296 + x / 33554432) % 4294967296 + 2 * (x * 128 % 4294967296 + x / 33554432) / 4294967296 = x * 256 % 4294967296 + x / 16777216 := by
  have h1 : x * 128 / 4294967296 = x / 33554432 := by omega
  have h2 : x * 256 / 4294967296 = x / 16777216 := by omega
  have h3 : x / 16777216 / 2 = x / 33554432 := by omega
  have h4 : 2 * (x * 128 % 4294967296 + x / 33554432) / 4294967296 = x / 16777216 - 2 * (x / 33554432) := by omega
  omega
theorem turnI_step8 (x : Int) (h : 0 ≤ x ∧ x < 4294967296) : 2 * (x * 256 % 4294967296 + x / 16777216) % 4294967296 + 2 * (x * 256 % 4294967296 + x / 16777216) / 4294967296 = x * 512 % 4294967296 + x / 8388608 := by
  have h1 : x * 256 / 4294967296 = x / 16777216 := by omega
  have h2 : x * 512 / 4294967296 = x / 8388608 := by omega
  have h3 : x / 8388608 / 2 = x / 16777216 := by omega
  have h4 : 2 * (x * 256 % 4294967296 + x / 16777216) / 4294967296 = x / 8388608 - 2 * (x / 16777216) := by omega
  omega
theorem turnI_step9 (x : Int) (h : 0 ≤ x ∧ x < 4294967296) : 2 * (x * 512 % 4294967296 + x / 8388608) % 4294967296 + 2 * (x * 512 % 4294967296 + x / 8388608) / 4294967296 = x * 1024 % 4294967296 + x / 4194304 := by
  have h1 : x * 512 / 4294967296 = x / 8388608 := by omega
  have h2 : x * 1024 / 4294967296 = x / 4194304 := by omega
  have h3 : x / 4194304 / 2 = x / 8388608 := by omega
  have h4 : 2 * (x * 512 % 4294967296 + x / 8388608) / 4294967296 = x / 4194304 - 2 * (x / 8388608) := by omega
  omega
theorem turnI_step10 (x : Int) (h : 0 ≤ x ∧ x < 4294967296) : 2 * (x * 1024 % 4294967296 + x / 4194304) % 4294967296 + 2 * (x * 1024 % 4294967296 + x / 4194304) / 4294967296 = x * 2048 % 4294967296 + x / 2097152 := by
  have h1 : x * 1024 / 4294967296 = x / 4194304 := by omega
  have h2 : x * 2048 / 4294967296 = x / 2097152 := by omega
  have h3 : x / 2097152 / 2 = x / 4194304 := by omega
  have h4 : 2 * (x * 1024 % 4294967296 + x / 4194304) / 4294967296 = x / 2097152 - 2 * (x / 4194304) := by omega
  omega
theorem turnI_step11 (x : Int) (h : 0 ≤ x ∧ x < 4294967296) : 2 * (x * 2048 % 4294967296 + x / 2097152) % 4294967296 + 2 * (x * 2048 % 4294967296 + x / 2097152) / 4294967296 = x * 4096 % 4294967296 + x / 1048576 := by
  have h1 : x * 2048 / 4294967296 = x / 2097152 := by omega
  have h2 : x * 4096 / 4294967296 = x / 1048576 := by omega
  have h3 : x / 1048576 / 2 = x / 2097152 := by omega
  have h4 : 2 * (x * 2048 % 4294967296 + x / 2097152) / 4294967296 = x / 1048576 - 2 * (x / 2097152) := by omega
  omega
theorem turnI_step12 (x : Int) (h : 0 ≤ x ∧ x < 4294967296) : 2 * (x * 4096 % 4294967296 + x / 1048576) % 4294967296 + 2 * (x * 4096 % 4294967296 + x / 1048576) / 4294967296 = x * 8192 % 4294967296 + x / 524288 := by
  have h1 : x * 4096 / 4294967296 = x / 1048576 := by omega
  have h2 : x * 8192 / 4294967296 = x / 524288 := by omega
  have h3 : x / 524288 / 2 = x / 1048576 := by omega
  have h4 : 2 * (x * 4096 % 4294967296 + x / 1048576) / 4294967296 = x / 524288 - 2 * (x / 1048576) := by omega
  omega
theorem turnI_step13 (x : Int) (h : 0 ≤ x ∧ x < 4294967296) : 2 * (x * 8192 % 4294967296 + x / 524288) % 4294967296 + 2 * (x * 8192 % 4294967296 + x / 524288) / 4294967296 = x * 16384 % 4294967296 + x / 262144 := by
  have h1 : x * 8192 / 4294967296 = x / 524288 := by omega
  have h2 : x * 16384 / 4294967296 = x / 262144 := by omega
  have h3 : x / 262144 / 2 = x / 524288 := by omega
  have h4 : 2 * (x * 8192 % 4294967296 + x / 524288) / 4294967296 = x / 262144 - 2 * (x / 524288) := by omega
  omega
theorem turnI_step14 (x : Int) (h : 0 ≤ x ∧ x < 4294967296) : 2 * (x * 16384 % 4294967296 + x / 262144) % 4294967296 + 2 * (x * 16384 % 4294967296 + x / 262144) / 4294967296 = x * 32768 % 4294967296 + x / 131072 := by
  have h1 : x * 16384 / 4294967296 = x / 262144 := by omega
  have h2 : x * 32768 / 4294967296 = x / 131072 := by omega
  have h3 : x / 131072 / 2 = x / 262144 := by omega
  have h4 : 2 * (x * 16384 % 4294967296 + x / 262144) / 4294967296 = x / 131072 - 2 * (x / 262144) := by omega
  omega
theorem turnI_step15 (x : Int) (h : 0 ≤ x ∧ x < 4294967296) : 2 * (x * 32768 % 4294967296 + x / 131072) % 4294967296 + 2 * (x * 32768 % 4294967296 + x / 131072) / 4294967296 = x * 65536 % 4294967296 + x / 65536 := by
  have h1 : x * 32768 / 4294967296 = x / 131072 := by omega
  have h2 : x * 65536 / 4294967296 = x / 65536 := by omega
  have h3 : x / 65536 / 2 = x / 131072 := by omega
  have h4 : 2 * (x * 32768 % 4294967296 + x / 131072) / 4294967296 = x / 65536 - 2 * (x / 131072) := by omega
  omega
theorem turnI_step16 (x : Int) (h : 0 ≤ x ∧ x < 4294967296) : 2 * (x * 65536 % 4294967296 + x / 65536) % 4294967296 + 2 * (x * 65536 % 4294967296 + x / 65536) / 4294967296 = x * 131072 % 4294967296 + x / 32768 := by
  have h1 : x * 65536 / 4294967296 = x / 65536 := by omega
  have h2 : x * 131072 / 4294967296 = x / 32768 := by omega
  have h3 : x / 32768 / 2 = x / 65536 := by omega
  have h4 : 2 * (x * 65536 % 4294967296 + x / 65536) / 4294967296 = x / 32768 - 2 * (x / 65536) := by omega
  omega
theorem turnI_step17 (x : Int) (h : 0 ≤ x ∧ x < 4294967296) : 2 * (x * 131072 % 4294967296 + x / 32768) % 4294967296 + 2 * (x * 131072 % 4294967296 + x / 32768) / 4294967296 = x * 262144 % 4294967296 + x / 16384 := by
  have h1 : x * 131072 / 4294967296 = x / 32768 := by omega
  have h2 : x * 262144 / 4294967296 = x / 16384 := by omega
  have h3 : x / 16384 / 2 = x / 32768 := by omega
  have h4 : 2 * (x * 131072 % 4294967296 + x / 32768) / 4294967296 = x / 16384 - 2 * (x / 32768) := by omega
  omega
theorem turnI_step18 (x : Int) (h : 0 ≤ x ∧ x < 4294967296) : 2 * (x * 262144 % 4294967296 + x / 16384) % 4294967296 + 2 * (x * 262144 % 4294967296 + x / 16384) / 4294967296 = x * 524288 % 4294967296 + x / 8192 := by
  have h1 : x * 262144 / 4294967296 = x / 16384 := by omega
  have h2 : x * 524288 / 4294967296 = x / 8192 := by omega
  have h3 : x / 8192 / 2 = x / 16384 := by omega
  have h4 : 2 * (x * 262144 % 4294967296 + x / 16384) / 4294967296 = x / 8192 - 2 * (x / 16384) := by omega
  omega
theorem turnI_step19 (x : Int) (h : 0 ≤ x ∧ x < 4294967296) : 2 * (x * 524288 % 4294967296 + x / 8192) % 4294967296 + 2 * (x * 524288 % 4294967296 + x / 8192) / 4294967296 = x * 1048576 % 4294967296 + x / 4096 := by
  have h1 : x * 524288 / 4294967296 = x / 8192 := by omega
  have h2 : x * 1048576 / 4294967296 = x / 4096 := by omega
  have h3 : x / 4096 / 2 = x / 8192 := by omega
  have h4 : 2 * (x * 524288 % 4294967296 + x / 8192) / 4294967296 = x / 4096 - 2 * (x / 8192) := by omega
  omega
theorem turnI_step20 (x : Int) (h : 0 ≤ x ∧ x < 4294967296) : 2 * (x * 1048576 % 4294967296 + x / 4096) % 4294967296 + 2 * (x * 1048576 % 4294967296 + x / 4096) / 4294967296 = x * 2097152 % 4294967296 + x / 2048 := by
  have h1 : x * 1048576 / 4294967296 = x / 4096 := by omega
  have h2 : x * 2097152 / 4294967296 = x / 2048 := by omega
  have h3 : x / 2048 / 2 = x / 4096 := by omega
  have h4 : 2 * (x * 1048576 % 4294967296 + x / 4096) / 4294967296 = x / 2048 - 2 * (x / 4096) := by omega
  omega
theorem turnI_step21 (x : Int) (h : 0 ≤ x ∧ x < 4294967296) : 2 * (x * 2097152 % 4294967296 + x / 2048) % 4294967296 + 2 * (x * 2097152 % 4294967296 + x / 2048) / 4294967296 = x * 4194304 % 4294967296 + x / 1024 := by
  have h1 : x * 2097152 / 4294967296 = x / 2048 := by omega
  have h2 : x * 4194304 / 4294967296 = x / 1024 := by omega
  have h3 : x / 1024 / 2 = x / 2048 := by omega
  have h4 : 2 * (x * 2097152 % 4294967296 + x / 2048) / 4294967296 = x / 1024 - 2 * (x / 2048) := by omega
  omega
theorem turnI_step22 (x : Int) (h : 0 ≤ x ∧ x < 4294967296) : 2 * (x * 4194304 % 4294967296 + x / 1024) % 4294967296 + 2 * (x * 4194304 % 4294967296 + x / 1024) / 4294967296 = x * 8388608 % 4294967296 + x / 512 := by
  have h1 : x * 4194304 / 4294967296 = x / 1024 := by omega
  have h2 : x * 8388608 / 4294967296 = x / 512 := by omega
  have h3 : x / 512 / 2 = x / 1024 := by omega
  have h4 : 2 * (x * 4194304 % 4294967296 + x / 1024) / 4294967296 = x / 512 - 2 * (x / 1024) := by omega
  omega
theorem turnI_step23 (x : Int) (h : 0 ≤ x ∧ x < 4294967296) : 2 * (x * 8388608 % 4294967296 + x / 512) % 4294967296 + 2 * (x * 8388608 % 4294967296 + x / 512) / 4294967296 = x * 16777216 % 4294967296 + x / 256 := by
  have h1 : x * 8388608 / 4294967296 = x / 512 := by omega
  have h2 : x * 16777216 / 4294967296 = x / 256 := by omega
  have h3 : x / 256 / 2 = x / 512 := by omega
  have h4 : 2 * (x * 8388608 % 4294967296 + x / 512) / 4294967296 = x / 256 - 2 * (x / 512) := by omega
  omega
theorem turnI_step24 (x : Int) (h : 0 ≤ x ∧ x < 4294967296) : 2 * (x * 16777216 % 4294967296 + x / 256) % 4294967296 + 2 * (x * 16777216 % 4294967296 + x / 256) / 4294967296 = x * 33554432 % 4294967296 + x / 128 := by
  have h1 : x * 16777216 / 4294967296 = x / 256 := by omega
  have h2 : x * 33554432 / 4294967296 = x / 128 := by omega
  have h3 : x / 128 / 2 = x / 256 := by omega
  have h4 : 2 * (x * 16777216 % 4294967296 + x / 256) / 4294967296 = x / 128 - 2 * (x / 256) := by omega
  omega
theorem turnI_step25 (x : Int) (h : 0 ≤ x ∧ x < 4294967296) : 2 * (x * 33554432 % 4294967296 + x / 128) % 4294967296 + 2 * (x * 33554432 % 4294967296 + x / 128) / 4294967296 = x * 67108864 % 4294967296 + x / 64 := by
  have h1 : x * 33554432 / 4294967296 = x / 128 := by omega
  have h2 : x * 67108864 / 4294967296 = x / 64 := by omega
  have h3 : x / 64 / 2 = x / 128 := by omega
  have h4 : 2 * (x * 33554432 % 4294967296 + x / 128) / 4294967296 = x / 64 - 2 * (x / 128) := by omega
  omega
theorem turnI_step26 (x : Int) (h : 0 ≤ x ∧ x < 4294967296) : 2 * (x * 67108864 % 4294967296 + x / 64) % 4294967296 + 2 * (x * 67108864 % 4294967296 + x / 64) / 4294967296 = x * 134217728 % 4294967296 + x / 32 := by
  have h1 : x * 67108864 / 4294967296 = x / 64 := by omega
  have h2 : x * 134217728 / 4294967296 = x / 32 := by omega
  have h3 : x / 32 / 2 = x / 64 := by omega
  have h4 : 2 * (x * 67108864 % 4294967296 + x / 64) / 4294967296 = x / 32 - 2 * (x / 64) := by omega
  omega
theorem turnI_step27 (x : Int) (h : 0 ≤ x ∧ x < 4294967296) : 2 * (x * 134217728 % 4294967296 + x / 32) % 4294967296 + 2 * (x * 134217728 % 4294967296 + x / 32) / 4294967296 = x * 268435456 % 4294967296 + x / 16 := by
  have h1 : x * 134217728 / 4294967296 = x / 32 := by omega
  have h2 : x * 268435456 / 4294967296 = x / 16 := by omega
  have h3 : x / 16 / 2 = x / 32 := by omega
  have h4 : 2 * (x * 134217728 % 4294967296 + x / 32) / 4294967296 = x / 16 - 2 * (x / 32) := by omega
  omega
theorem turnI_step28 (x : Int) (h : 0 ≤ x ∧ x < 4294967296) : 2 * (x * 268435456 % 4294967296 + x / 16) % 4294967296 + 2 * (x * 268435456 % 4294967296 + x / 16) / 4294967296 = x * 536870912 % 4294967296 + x / 8 := by
  have h1 : x * 268435456 / 4294967296 = x / 16 := by omega
  have h2 : x * 536870912 / 4294967296 = x / 8 := by omega
  have h3 : x / 8 / 2 = x / 16 := by omega
  have h4 : 2 * (x * 268435456 % 4294967296 + x / 16) / 4294967296 = x / 8 - 2 * (x / 16) := by omega
  omega
theorem turnI_step29 (x : Int) (h : 0 ≤ x ∧ x < 4294967296) : 2 * (x * 536870912 % 4294967296 + x / 8) % 4294967296 + 2 * (x * 536870912 % 4294967296 + x / 8) / 4294967296 = x * 1073741824 % 4294967296 + x / 4 := by
  have h1 : x * 536870912 / 4294967296 = x / 8 := by omega
  have h2 : x * 1073741824 / 4294967296 = x / 4 := by omega
  have h3 : x / 4 / 2 = x / 8 := by omega
  have h4 : 2 * (x * 536870912 % 4294967296 + x / 8) / 4294967296 = x / 4 - 2 * (x / 8) := by omega
  omega
theorem turnI_step30 (x : Int) (h : 0 ≤ x ∧ x < 4294967296) : 2 * (x * 1073741824 % 4294967296 + x / 4) % 4294967296 + 2 * (x * 1073741824 % 4294967296 + x / 4) / 4294967296 = x * 2147483648 % 4294967296 + x / 2 := by
  have h1 : x * 1073741824 / 4294967296 = x / 4 := by omega
  have h2 : x * 2147483648 / 4294967296 = x / 2 := by omega
  have h3 : x / 2 / 2 = x / 4 := by omega
  have h4 : 2 * (x * 1073741824 % 4294967296 + x / 4) / 4294967296 = x / 2 - 2 * (x / 4) := by omega
  omega
theorem turnI_step (x : Int) (h : 0 ≤ x ∧ x < 4294967296) (k : Nat) (hk : k < 31) : 2 * turnI x k % 4294967296 + 2 * turnI x k / 4294967296 = turnI x (k + 1) := by
  match k, hk with
  | 0, _ => exact turnI_step0 x h
  | 1, _ => exact turnI_step1 x h
  | 2, _ => exact turnI_step2 x h
  | 3, _ => exact turnI_step3 x h
  | 4, _ => exact turnI_step4 x h
  | 5, _ => exact turnI_step5 x h
  | 6, _ => exact turnI_step6 x h
  | 7, _ => exact turnI_step7 x h
  | 8, _ => exact turnI_step8 x h
  | 9, _ => exact turnI_step9 x h
  | 10, _ => exact turnI_step10 x h
  | 11, _ => exact turnI_step11 x h
  | 12, _ => exact turnI_step12 x h
  | 13, _ => exact turnI_step13 x h
  | 14, _ => exact turnI_step14 x h
  | 15, _ => exact turnI_step15 x h
  | 16, _ => exact turnI_step16 x h
  | 17, _ => exact turnI_step17 x h
  | 18, _ => exact turnI_step18 x h
  | 19, _ => exact turnI_step19 x h
  | 20, _ => exact turnI_step20 x h
  | 21, _ => exact turnI_step21 x h
  | 22, _ => exact turnI_step22 x h
  | 23, _ => exact turnI_step23 x h
  | 24, _ => exact turnI_step24 x h
  | 25, _ => exact turnI_step25 x h
  | 26, _ => exact turnI_step26 x h
  | 27, _ => exact turnI_step27 x h
  | 28, _ => exact turnI_step28 x h
  | 29, _ => exact turnI_step29 x h
  | 30, _ => exact turnI_step30 x h
  | k + 31, hk => omega
theorem turnI_range (x : Int) (h : 0 ≤ x ∧ x < 4294967296) (k : Nat) (hk : k < 32) : 0 ≤ turnI x k ∧ turnI x k < 8589934592 := by
  unfold turnI
  have h1 := Int.emod_nonneg (x * (2 ^ k : Nat)) (by omega : (4294967296 : Int) ≠ 0)
  have h2 := Int.emod_lt_of_pos (x * (2 ^ k : Nat)) (by omega : (0 : Int) < 4294967296)
  have hp : (0 : Int) < ((2 ^ (32 - k) : Nat) : Int) := by have := Nat.pos_of_ne_zero (Nat.ne_of_gt (Nat.two_pow_pos (32 - k))); omega
  have h3 := Int.ediv_nonneg h.1 (Int.le_of_lt hp)
  have h4 : x / ((2 ^ (32 - k) : Nat) : Int) ≤ x := Int.ediv_le_self _ h.1
  omega
theorem rotl_nat (x : BitVec 32) (n : Nat) (hn : 0 < n ∧ n < 32) : ((rotl x n).toNat : Int) = turnI (x.toNat : Int) n := by
  have hx := lt32 x
  have hp : 2 ^ n * 2 ^ (32 - n) = 4294967296 := by rw [← Nat.pow_add, show n + (32 - n) = 32 by omega]
  have e1 : x.toNat * 2 ^ n % 4294967296 = (x.toNat % 2 ^ (32 - n)) * 2 ^ n := by
    rw [← hp, Nat.mul_comm (2 ^ n), Nat.mul_mod_mul_right]
  have e2 : x.toNat / 2 ^ (32 - n) < 2 ^ n := by
    rw [Nat.div_lt_iff_lt_mul (Nat.two_pow_pos _), hp]; exact hx
  unfold rotl turnI
  rw [BitVec.toNat_or, BitVec.toNat_shiftLeft, BitVec.toNat_ushiftRight, Nat.shiftLeft_eq, Nat.shiftRight_eq_div_pow]
  rw [show (2 : Nat) ^ 32 = 4294967296 from rfl, e1, ← Nat.shiftLeft_eq, ← Nat.shiftLeft_add_eq_or_of_lt e2, Nat.shiftLeft_eq, ← e1]
  omega
theorem rot5 (x : BitVec 32) : turnI (x.toNat : Int) 5 = ((rotl x 5).toNat : Int) := (rotl_nat x 5 (by omega)).symm
theorem rot30 (x : BitVec 32) : turnI (x.toNat : Int) 30 = ((rotl x 30).toNat : Int) := (rotl_nat x 30 (by omega)).symm
theorem rot1 (x : BitVec 32) : turnI (x.toNat : Int) 1 = ((rotl x 1).toNat : Int) := (rotl_nat x 1 (by omega)).symm
theorem turnI_zero (x : Int) (h : 0 ≤ x ∧ x < 4294967296) : turnI x 0 = x := by unfold turnI; omega
theorem turn_any (x : Int) (n : Nat) (w : World) (h : 0 ≤ x ∧ x < 4294967296) (hn : n < 32) :
    Calls Tryd.prog 33 #[.int .i64 x, .int .i64 (n : Int)] w fun e w' => e = .returned (.int .i64 (turnI x n)) ∧ w' = w := by
  have HX : Hid (0 ≤ x ∧ x < 4294967296) := h
  clear h
  go_enter Tryd.func33, Tryd.ntmps33
  go_wp2
  go_loop [0, 5] (fun v i => ∃ k : Nat, k ≤ n ∧ i = .int .i64 k ∧ v = .int .i64 (turnI x k)) (fun _ i => n - (intOf i).toNat)
  case atStart => exact ⟨0, by omega, rfl, by rw [turnI_zero x HX.out]⟩
  case round =>
    obtain ⟨k, hk, rfl, rfl⟩ := hrel
    have hr := turnI_range x HX.out k (by omega)
    by_cases hlt : k < n
    · have HS : Hid (2 * turnI x k % 4294967296 + 2 * turnI x k / 4294967296 = turnI x (k + 1)) := turnI_step x HX.out k (by omega)
      have hlt' : (k : Int) < n := by omega
      have hr2 := turnI_range x HX.out (k + 1) (by omega)
      generalize turnI x k = y at *
      clear hr2
      go_wp2
      go_round
      case rel => exact ⟨k + 1, by omega, by go_num, by rw [← HS.out]⟩
      case measure => simp [intOf]; omega
    · obtain rfl : k = n := by omega
      have hlt' : ¬ (k : Int) < k := by omega
      go_wp2
      go_ret
      exact ⟨rfl, rfl⟩
/-! ### The blocks -/
def blocksTo (all : List Int) : Nat → Five
  | 0 => Plain.start.h
  | j + 1 => compress (blocksTo all j) ((all.drop (64 * j)).take 64)
theorem absorb_short (s : State) : ∀ xs : List Int, s.buf.length + xs.length < 64 → absorb s xs = { h := s.h, buf := s.buf ++ xs }
  | [], _ => by simp [absorb]
  | x :: t, h => by
    have hs : Plain.step s x = { h := s.h, buf := s.buf ++ [x] }   := by unfold Plain.step; rw [if_neg (by simp at h; omega)]
    have e : absorb s (x :: t) = absorb (Plain.step s x) t := rfl
    rw [e, hs, absorb_short _ t (by simp at h ⊢; omega)]
    simp
theorem absorb_block (f : Five) (b : List Int) (hb : b.length = 64) : absorb { h := f, buf := [] } b = { h := compress f b, buf := [] } := by
  obtain ⟨c, x, rfl⟩ : ∃ c x, b = c ++ [x] := ⟨b.dropLast, b.getLast (by intro e; rw [e] at hb; simp at hb), (List.dropLast_concat_getLast _).symm⟩
  have hc : c.length = 63 := by simp at hb; omega
  rw [absorb_append, absorb_short _ c (by simp [hc])]
  show Plain.step _ x = _
  unfold Plain.step
  rw [if_pos (by simp [hc])]
  simp
theorem absorb_blocks (all : List Int) : ∀ j, 64 * j ≤ all.length → absorb Plain.start (all.take (64 * j)) = { h := blocksTo all j, buf := [] }
  | 0, _ => by simp [absorb, blocksTo, Plain.start]
  | j + 1, h => by
    rw [show 64 * (j + 1) = 64 * j + 64 by omega, List.take_add, absorb_append, absorb_blocks all j (by omega), absorb_block _ _ (by simp; omega)]
    rfl
theorem sumOf_blocks (xs : List Int) (m : Nat) (h : (xs ++ endOf xs.length).length = 64 * m) : sumOf xs = blocksTo (xs ++ endOf xs.length) m := by
  have := absorb_blocks (xs ++ endOf xs.length) m (by omega)
  rw [List.take_of_length_le (by omega)] at this
  unfold sumOf
  rw [← absorb_append, this]
end Go.Proofs.YtlnfgebonmfokaaDoor
