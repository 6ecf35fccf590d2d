/- The first bytes, some times. -/
import Derived.Test.YtmdgpabmknigmaaInfE
import Derived.Test.YtmdgpabmknigmaaBase
namespace Go.Proofs.Ytmdgpabmknigmaa
open Go.RowKit Plain
set_option linter.unusedVariables false
theorem Mid.ends {w : World} {base : Nat} {a : Option Addr} {n c : Nat} {xs : List Int} (h : Mid w base (.slice a n c) n xs) : n ≤ c ∧ c ≤ 9223372036854775807 := by
  obtain ⟨a', c', e, h1, h2, h3⟩ := h.shape
  simp only [Value.slice.injEq, true_and] at e
  obtain ⟨rfl, rfl⟩ := e
  exact ⟨h1, h3⟩
/-- xs, so many times. -/
def timesL (xs : List Int) : Nat → List Int
  | 0 => []
  | k + 1 => timesL xs k ++ xs
theorem timesL_len (xs : List Int) : ∀ k, (timesL xs k).length = k * xs.length
  | 0 => by simp [timesL]
  | k + 1 => by rw [timesL, List.length_append, timesL_len xs k, Nat.succ_mul]
theorem timesL_mem (xs : List Int) (h : ∀ x ∈ xs, 0 ≤ x ∧ x ≤ 255) : ∀ k, ∀ x ∈ timesL xs k, 0 ≤ x ∧ x ≤ 255
  | 0, x, hx => by cases hx
  | k + 1, x, hx => by
    rcases List.mem_append.1 hx with hx | hx
    · exact timesL_mem xs h k x hx
    · exact h x hx
/-- A row of at most 2400 bytes of the call's own. -/
def FewRes (w w' : World) (e : Ending) : Prop := ∃ va vc m ys, e = .returned (.slice va m vc) ∧ Mid w' w.heap.size (.slice va m vc) m ys ∧ (∀ y ∈ ys, 0 ≤ y ∧ y ≤ 255) ∧ m ≤ 2400
set_option maxHeartbeats 4000000 in
theorem few_any (w : World) (a : Option Addr) (n c : Nat) (xs : List Int) (t : Int) (H : RowB w a n c xs) :
    Calls Try.prog 11 #[.slice a n c, .int .i64 t] w fun e w' => FewRes w w' e ∧ Below w.heap.size w w' := by
  have hl := H.len
  have hle := H.le
  have hcp := H.cap
  obtain ⟨k, hk, et⟩ : ∃ k : Nat, k ≤ 3 ∧ wrap64 ((IntKind.u64.wrap t).tmod 4) = (k : Int) := by
    have h0 : 0 ≤ IntKind.u64.wrap t := by rw [IntKind.wrap_u64]; omega
    generalize IntKind.u64.wrap t = u at *
    rw [Int.tmod_eq_emod_of_nonneg h0, IntWalk.wrap64_in _ (by omega)]
    exact ⟨(u % 4).toNat, by omega, by omega⟩
  obtain ⟨m0, hm0⟩ : ∃ m, min n 600 = m := ⟨_, rfl⟩
  have k0 : m0 ≤ 600 := by omega
  have kc : m0 ≤ c := by omega
  have hmin : ∀ W : World, Sem.run Try.prog (Builtin.min_ #[3, 3] 3 #[.int .i64 (n : Int), .int .i64 600]) W = .ok (.int .i64 (m0 : Int)) W := fun W => by
    rw [run_min2, show min (n : Int) 600 = (m0 : Int) by omega]
  have HF : Hid (Bytes w a m0 (xs.take 600)) := by have := H.bytes.first 600; rwa [hm0] at this
  have HX : Hid (∀ x ∈ xs.take 600, 0 ≤ x ∧ x ≤ 255) := fun x h => RowB.mem H x (List.mem_of_mem_take h)
  clear H hl hm0 hle
  generalize xs.take 600 = x0 at *
  have ET := Lib.hid et
  go_enter Try.func11, Try.ntmps11
  go_wp2_with fail
  go_loopw [5, 6] (fun v vi wr => ∃ i : Nat, vi = .int .i64 (i : Int) ∧ i ≤ k + 1 ∧ Mid wr w.heap.size v (i * m0) (timesL x0 i) ∧ Below w.heap.size w wr) (fun _ vi _ => k + 1 - (intOf vi).toNat)
  case atStart =>
    refine ⟨0, rfl, by omega, ?_, Below.refl _ _⟩
    rw [Nat.zero_mul]; exact Mid.nil _ _
  case round =>
    obtain ⟨i, rfl, hi, hm, hb⟩ := hrel
    have HM := Lib.hid hm
    have HB := Lib.hid hb
    obtain ⟨va, vc, rfl, -⟩ := hm.shape
    have hsz : w.heap.size ≤ wr.heap.size := hb.size
    have him : i * m0 ≤ 2400 := by
      have : i * m0 ≤ 4 * 600 := Nat.mul_le_mul (by omega) k0
      omega
    obtain ⟨im, eim⟩ : ∃ im, i * m0 = im := ⟨_, rfl⟩
    rw [eim] at HM him ⊢
    have HIM := Lib.hid eim
    clear hm hb eim
    by_cases hlt : i ≤ k
    · have hli : (i : Int) ≤ (k : Int) := by omega
      have tok : True := trivial
      go_wp2_with (
        have _t := tok
        at_builtin
        refine wpList_append_to rfl _ _ 22 rfl w.heap.size (.slice va im vc) im (timesL x0 i) rfl HM.out _ m0 x0 rfl (src_bytes (HF.out.below HB.out)) ((i + 1) * m0) (timesL x0 (i + 1)) (by rw [Nat.succ_mul]; have := HIM.out; omega) rfl (by rw [Nat.succ_mul]; have := HIM.out; omega) hsz ?_
        intro pa pc p2 hm hb
        have HM2 := Lib.hid hm
        have HB2 : Hid (Below w.heap.size w p2) := HB.out.trans hb
        clear tok hm hb
        refine Hid.out ?_)
      refine unhid ?_
      clear HM
      go_wp2_with fail
      go_roundw
      case rel => exact ⟨i + 1, by go_num, by omega, HM2.out, HB2.out⟩
      case measure => simp [intOf]; go_num
    · have hli : ¬ (i : Int) ≤ (k : Int) := by omega
      go_wp2_with fail
      go_ret
      exact ⟨⟨va, vc, im, timesL x0 i, rfl, HM.out, timesL_mem x0 HX.out i, him⟩, HB.out⟩
end Go.Proofs.Ytmdgpabmknigmaa
