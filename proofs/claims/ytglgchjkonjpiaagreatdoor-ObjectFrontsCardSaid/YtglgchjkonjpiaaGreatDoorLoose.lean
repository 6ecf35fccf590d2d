/- Concat of two; Loose: the walks. -/
import Derived.Test.YtglgchjkonjpiaaGreatDoorConcat
import Derived.Test.YtglgchjkonjpiaaGreatDoorWrap
namespace Go.Proofs.YtglgchjkonjpiaaGreatDoor
open Go.RowKit Plain
set_option linter.unusedVariables false
def catN (n m : Nat) : Nat → Nat
  | 0 => 0
  | 1 => n
  | _ => n + m
def catL (xs ys : List Int) : Nat → List Int
  | 0 => []
  | 1 => xs
  | _ => xs ++ ys
set_option maxRecDepth 100000 in
set_option maxHeartbeats 4000000 in
theorem concat_any (g : Nat) (a b : Option Addr) (n m c d : Nat) (xs ys : List Int) (w : World) (k0 : w.cell? ⟨g, 0, none⟩ = some (.slice a n c)) (k1 : w.cell? ⟨g, 1, none⟩ = some (.slice b m d)) (H1 : Bytes w a n xs) (H2 : Bytes w b m ys) (hn : n ≤ 20000000) (hm : m ≤ 20000000) (h0 : 0 < n + m) :
    Calls Tryz.prog 17 #[.slice (some ⟨g, 0, none⟩) 2 2] w fun e w' => (∃ va vc, e = .returned (.slice va (n + m) vc) ∧ Mid w' w.heap.size (.slice va (n + m) vc) (n + m) (xs ++ ys)) ∧ Below w.heap.size w w' := by
  have hg : g < w.heap.size := cell_block k0
  have HX := Lib.hid H1
  have HY := Lib.hid H2
  have K0 := Lib.hid k0
  have K1 := Lib.hid k1
  have w1 : wrap64 (0 + (n : Int)) = n := by rw [Int.zero_add]; exact IntWalk.wrap64_in _ (by omega)
  have w1b : wrap64 (n : Int) = n := IntWalk.wrap64_in _ (by omega)
  have w2 : wrap64 ((n : Int) + (m : Int)) = ((n + m : Nat) : Int) := by
    rw [show (n : Int) + (m : Int) = ((n + m : Nat) : Int) by omega]
    exact IntWalk.wrap64_in _ (by omega)
  have HS : Hid (n + m ≤ 40000000) := by show _ ≤ _; omega
  have H0 := Lib.hid h0
  obtain ⟨t, ht⟩ : ∃ t, n + m = t := ⟨_, rfl⟩
  have HT := Lib.hid ht
  rw [ht] at w2 HS H0 ⊢
  have n1 : ¬ (n : Int) < 0 := by omega
  have n2 : ¬ (t : Int) < 0 := by omega
  clear H1 H2 h0 ht hn hm
  go_enter Tryz.func17, Tryz.ntmps17
  go_wp2_with fail
  go_loop [3, 11] (fun s i => ∃ k : Nat, k ≤ 2 ∧ i = .int .i64 (k : Int) ∧ s = .int .i64 ((catN n m k : Nat) : Int)) (fun s i => 2 - (intOf i).toNat)
  case atStart => exact ⟨0, by omega, rfl, rfl⟩
  case round =>
    obtain ⟨k, hk, rfl, rfl⟩ := hrel
    obtain rfl | rfl | rfl : k = 0 ∨ k = 1 ∨ k = 2 := by omega
    · rw [show catN n m 0 = 0 from rfl]
      go_wp2_with fail
      exact ⟨⟨1, by omega, rfl, congrArg (Value.int .i64) w1b⟩, by simp [intOf]⟩
    · rw [show catN n m 1 = n from rfl]
      go_wp2_with fail
      exact ⟨⟨2, by omega, rfl, by rw [show catN n m 2 = n + m from rfl, HT.out]; exact congrArg (Value.int .i64) w2⟩, by simp [intOf]⟩
    · rw [show catN n m 2 = n + m from rfl, HT.out]
      clear w1 w1b w2 n1
      go_wp2_with fail
      refine (grow_nil t H0.out (by have := HS.out; omega) w).mono ?_
      rintro e w3 ⟨⟨gr, gc, rfl, hmid⟩, hb⟩
      have HM := Lib.hid hmid
      have HB := Lib.hid hb
      clear hmid hb k0 k1
      go_wp2_with fail
      go_loopw [6, 27] (fun v i wr => ∃ (k : Nat) (va : Option Addr) (vc : Nat), k ≤ 2 ∧ i = .int .i64 (k : Int) ∧ v = .slice va (catN n m k) vc ∧ Mid wr w.heap.size (.slice va (catN n m k) vc) (catN n m k) (catL xs ys k) ∧ Below w.heap.size w wr) (fun v i wr => 2 - (intOf i).toNat)
      case atStart => exact ⟨0, some ⟨gr, 0, none⟩, gc, by omega, rfl, rfl, HM.out, HB.out⟩
      case round =>
        clear HM HB
        obtain ⟨k, va, vc, hk, rfl, rfl, hmid, hb⟩ := hrel
        have HM := Lib.hid hmid
        have HB := Lib.hid hb
        have k0 := (hb.cell (p := ⟨g, 0, none⟩) hg).trans K0.out
        have k1 := (hb.cell (p := ⟨g, 1, none⟩) hg).trans K1.out
        clear hmid hb
        have hs := HS.out
        have ht := HT.out
        have h40 : n ≤ 40000000 := by omega
        clear hs ht
        obtain rfl | rfl | rfl : k = 0 ∨ k = 1 ∨ k = 2 := by omega
        · rw [show catN n m 0 = 0 from rfl, show catL xs ys 0 = [] from rfl] at HM
          rw [show catN n m 0 = 0 from rfl]
          have tok : True := trivial
          go_wp2_with (
            have _t := tok
            at_builtin
            refine wpList_append_to rfl _ _ 22 rfl w.heap.size (.slice va 0 vc) 0 [] rfl HM.out _ n xs rfl (src_bytes (HX.out.below HB.out)) n xs (Nat.zero_add n) rfl (by omega) HB.out.size ?_
            intro qa qc w4 hm4 hb4
            have HM4 := Lib.hid hm4
            have HB4 : Hid (Below w.heap.size w w4) := HB.out.trans hb4
            clear tok hm4 hb4 HM
            refine Hid.out ?_)
          refine unhid ?_
          go_wp2_with fail
          exact ⟨⟨1, qa, qc, by omega, rfl, rfl, HM4.out, HB4.out⟩, by simp [intOf]⟩
        · rw [show catN n m 1 = n from rfl, show catL xs ys 1 = xs from rfl] at HM
          rw [show catN n m 1 = n from rfl]
          have tok : True := trivial
          go_wp2_with (
            have _t := tok
            at_builtin
            refine wpList_append_to rfl _ _ 22 rfl w.heap.size (.slice va n vc) n xs rfl HM.out _ m ys rfl (src_bytes (HY.out.below HB.out)) (n + m) (xs ++ ys) rfl rfl (by have := HS.out; have := HT.out; omega) HB.out.size ?_
            intro qa qc w4 hm4 hb4
            have HM4 := Lib.hid hm4
            have HB4 : Hid (Below w.heap.size w w4) := HB.out.trans hb4
            clear tok hm4 hb4 HM
            refine Hid.out ?_)
          refine unhid ?_
          go_wp2_with fail
          exact ⟨⟨2, qa, qc, by omega, rfl, rfl, HM4.out, HB4.out⟩, by simp [intOf]⟩
        · rw [show catN n m 2 = n + m from rfl, HT.out, show catL xs ys 2 = xs ++ ys from rfl] at HM
          rw [show catN n m 2 = n + m from rfl, HT.out]
          go_wp2_with fail
          go_ret
          exact ⟨⟨va, vc, rfl, HM.out⟩, HB.out⟩
end Go.Proofs.YtglgchjkonjpiaaGreatDoor
