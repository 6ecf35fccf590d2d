/- The rounds by whole numbers; the sum's bytes. -/
import Derived.Test.YtlnfgebonmfokaaDoorRefMath
namespace Go.Proofs.YtlnfgebonmfokaaDoor
open Go.RowKit Plain
set_option linter.unusedVariables false
theorem turn_1 (x : Int) (w : World) (h : 0 ≤ x ∧ x < 4294967296) : Calls Tryd.prog 33 #[.int .i64 x, .int .i64 1] w fun e w' => e = .returned (.int .i64 (turnI x 1)) ∧ w' = w := turn_any x 1 w h (by omega)
theorem turn_5 (a : BitVec 32) (w : World) : Calls Tryd.prog 33 #[.int .i64 (a.toNat : Int), .int .i64 5] w fun e w' => e = .returned (.int .i64 ((rotl a 5).toNat : Int)) ∧ w' = w := by
  have := turn_any (a.toNat : Int) 5 w (by have := lt32 a; omega) (by omega)
  rw [rot5] at this
  exact this
theorem turn_30 (a : BitVec 32) (w : World) : Calls Tryd.prog 33 #[.int .i64 (a.toNat : Int), .int .i64 30] w fun e w' => e = .returned (.int .i64 ((rotl a 30).toNat : Int)) ∧ w' = w := by
  have := turn_any (a.toNat : Int) 30 w (by have := lt32 a; omega) (by omega)
  rw [rot30] at this
  exact this
theorem turn_w (a : BitVec 32) (w : World) : Calls Tryd.prog 33 #[.int .i64 (a.toNat : Int), .int .i64 1] w fun e w' => e = .returned (.int .i64 ((rotl a 1).toNat : Int)) ∧ w' = w := by
  have := turn_1 (a.toNat : Int) w (by have := lt32 a; omega)
  rw [rot1] at this
  exact this
theorem f_1 (b c d : BitVec 32) : bits .or .i64 (bits .and .i64 (b.toNat : Int) (c.toNat : Int)) (bits .and .i64 (4294967295 - (b.toNat : Int)) (d.toNat : Int)) = (((b &&& c) ||| (~~~ b &&& d)).toNat : Int) := by
  rw [y_not, y_and, y_and, y_or]
theorem f_2 (b c d : BitVec 32) : bits .xor .i64 (bits .xor .i64 (b.toNat : Int) (c.toNat : Int)) (d.toNat : Int) = ((b ^^^ c ^^^ d).toNat : Int) := by
  rw [y_xor, y_xor]
theorem f_3 (b c d : BitVec 32) : bits .or .i64 (bits .or .i64 (bits .and .i64 (b.toNat : Int) (c.toNat : Int)) (bits .and .i64 (b.toNat : Int) (d.toNat : Int))) (bits .and .i64 (c.toNat : Int) (d.toNat : Int)) = (((b &&& c) ||| (b &&& d) ||| (c &&& d)).toNat : Int) := by
  rw [y_and, y_and, y_and, y_or, y_or]
theorem ra_1 (k : Nat) (h : k < 20) (s : Five) (x : BitVec 32) : (((rotl s.a 5).toNat : Int) + (((s.b &&& s.c) ||| (~~~ s.b &&& s.d)).toNat : Int) + (s.e.toNat : Int) + 1518500249 + (x.toNat : Int)) % 4294967296 = ((round k x s).a.toNat : Int) := by
  have := t_eq (rotl s.a 5) (s.b &&& s.c ||| ~~~s.b &&& s.d) s.e 0x5a827999#32 x
  rw [show ((0x5a827999#32).toNat : Int) = 1518500249 from rfl] at this
  rw [this]
  simp only [round, if_pos h]
theorem ra_2 (k : Nat) (h0 : ¬ k < 20) (h : k < 40) (s : Five) (x : BitVec 32) : (((rotl s.a 5).toNat : Int) + ((s.b ^^^ s.c ^^^ s.d).toNat : Int) + (s.e.toNat : Int) + 1859775393 + (x.toNat : Int)) % 4294967296 = ((round k x s).a.toNat : Int) := by
  have := t_eq (rotl s.a 5) (s.b ^^^ s.c ^^^ s.d) s.e 0x6ed9eba1#32 x
  rw [show ((0x6ed9eba1#32).toNat : Int) = 1859775393 from rfl] at this
  rw [this]
  simp only [round, if_neg h0, if_pos h]
theorem ra_3 (k : Nat) (h0 : ¬ k < 20) (h1 : ¬ k < 40) (h : k < 60) (s : Five) (x : BitVec 32) : (((rotl s.a 5).toNat : Int) + (((s.b &&& s.c) ||| (s.b &&& s.d) ||| (s.c &&& s.d)).toNat : Int) + (s.e.toNat : Int) + 2400959708 + (x.toNat : Int)) % 4294967296 = ((round k x s).a.toNat : Int) := by
  have := t_eq (rotl s.a 5) (s.b &&& s.c ||| s.b &&& s.d ||| s.c &&& s.d) s.e 0x8f1bbcdc#32 x
  rw [show ((0x8f1bbcdc#32).toNat : Int) = 2400959708 from rfl] at this
  rw [this]
  simp only [round, if_neg h0, if_neg h1, if_pos h]
theorem ra_4 (k : Nat) (h0 : ¬ k < 20) (h1 : ¬ k < 40) (h : ¬ k < 60) (s : Five) (x : BitVec 32) : (((rotl s.a 5).toNat : Int) + ((s.b ^^^ s.c ^^^ s.d).toNat : Int) + (s.e.toNat : Int) + 3395469782 + (x.toNat : Int)) % 4294967296 = ((round k x s).a.toNat : Int) := by
  have := t_eq (rotl s.a 5) (s.b ^^^ s.c ^^^ s.d) s.e 0xca62c1d6#32 x
  rw [show ((0xca62c1d6#32).toNat : Int) = 3395469782 from rfl] at this
  rw [this]
  simp only [round, if_neg h0, if_neg h1, if_neg h]
theorem round_rest (k : Nat) (x : BitVec 32) (s : Five) : (round k x s).b = s.a ∧ (round k x s).c = rotl s.b 30 ∧ (round k x s).d = s.c ∧ (round k x s).e = s.d := ⟨rfl, rfl, rfl, rfl⟩
theorem sums_of (R F E X T : BitVec 32) (K : Int) (hK : 0 ≤ K ∧ K < 4294967296) (hT : ((R.toNat : Int) + (F.toNat : Int) + (E.toNat : Int) + K + (X.toNat : Int)) % 4294967296 = (T.toNat : Int)) :
    IntKind.i64.wrap ((R.toNat : Int) + (F.toNat : Int)) = (R.toNat : Int) + (F.toNat : Int) ∧
    IntKind.i64.wrap ((R.toNat : Int) + (F.toNat : Int) + (E.toNat : Int)) = (R.toNat : Int) + (F.toNat : Int) + (E.toNat : Int) ∧
    IntKind.i64.wrap ((R.toNat : Int) + (F.toNat : Int) + (E.toNat : Int) + K) = (R.toNat : Int) + (F.toNat : Int) + (E.toNat : Int) + K ∧
    IntKind.i64.wrap ((R.toNat : Int) + (F.toNat : Int) + (E.toNat : Int) + K + (X.toNat : Int)) = (R.toNat : Int) + (F.toNat : Int) + (E.toNat : Int) + K + (X.toNat : Int) ∧
    ((R.toNat : Int) + (F.toNat : Int) + (E.toNat : Int) + K + (X.toNat : Int)).tmod 4294967296 = (T.toNat : Int) ∧
    IntKind.i64.wrap (T.toNat : Int) = (T.toNat : Int) := by
  have h1 := lt32 R
  have h2 := lt32 F
  have h3 := lt32 E
  have h4 := lt32 X
  have h5 := lt32 T
  refine ⟨IntWalk.i64_in _ ?_, IntWalk.i64_in _ ?_, IntWalk.i64_in _ ?_, IntWalk.i64_in _ ?_, ?_, IntWalk.i64_in _ ?_⟩
  · omega
  · omega
  · omega
  · omega
  · rw [Int.tmod_eq_emod_of_nonneg (by omega)]; exact hT
  · omega
theorem idTo_zeros (s : Five) : V8 zeros20 = idTo s 0 := by
  unfold V8 zeros20 idTo; rfl
end Go.Proofs.YtlnfgebonmfokaaDoor
