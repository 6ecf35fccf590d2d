/- A number's sevens, the lowest first: the walk. -/
import Derived.Test.YtkpnmagcmpljoaaGather
namespace Go.Proofs.Ytkpnmagcmpljoaa
open Go.RowKit
set_option linter.unusedVariables false
namespace Plain
/-- A number's sevens, the lowest first. -/
def lebF : Nat → Nat → List Int
  | 0, _ => []
  | f + 1, n => if n < 128 then [(n : Int)] else ((n % 128 + 128 : Nat) : Int) :: lebF f (n / 128)
def lebBytes (n : Nat) : List Int := lebF 10 n
theorem lebF_len : ∀ f n, (lebF f n).length ≤ f
  | 0, n => by simp [lebF]
  | f + 1, n => by
    rw [lebF]
    split
    · simp
    · have := lebF_len f (n / 128)
      simp only [List.length_cons]; omega
theorem lebF_bytes : ∀ f n, ∀ x ∈ lebF f n, 0 ≤ x ∧ x ≤ 255
  | 0, n, x, h => by simp [lebF] at h
  | f + 1, n, x, h => by
    rw [lebF] at h
    split at h
    · simp at h; omega
    · rcases List.mem_cons.1 h with rfl | h
      · omega
      · exact lebF_bytes f _ x h
end Plain
open Plain
theorem and_127 (m : Nat) (hm : m ≤ 4611686018427387903) : bits .and .i64 (m : Int) 127 = ((m % 128 : Nat) : Int) := by
  show IntKind.i64.wrap ((BitVec.ofInt 64 _ &&& BitVec.ofInt 64 _ : BitVec 64).toNat : Int) = _
  rw [BitVec.toNat_and, BitVec.toNat_ofInt, BitVec.toNat_ofInt]
  have e1 : (((m : Nat) : Int) % ((2 ^ 64 : Nat) : Int)).toNat = m := by omega
  have e2 : ((127 : Int) % ((2 ^ 64 : Nat) : Int)).toNat = 2 ^ 7 - 1 := by decide
  rw [e1, e2, Nat.and_two_pow_sub_one_eq_mod, IntKind.wrap_i64]
  omega
theorem or_128 : ∀ m : Nat, m < 128 → bits .or .i64 (m : Int) 128 = ((m + 128 : Nat) : Int) := by decide +kernel
set_option maxRecDepth 100000 in
set_option maxHeartbeats 2000000 in
theorem leb_any (n : Nat) (hn : n ≤ 4611686018427387903) (w : World) :
    Calls Try.prog 19 #[.int .i64 (n : Int)] w fun e w' => (∃ a k c, e = .returned (.slice a k c) ∧ Own w' w.heap.size (.slice a k c) k (lebBytes n)) ∧ Below w.heap.size w w' := by
  have hn1 : ¬ (n : Int) < 0 := by omega
  have hn2 : ¬ (4611686018427387903 : Int) < n := by omega
  go_enter Try.func19, Try.ntmps19
  go_wp2_with fail
  go_loopw [0] (fun v wr => ∃ (k m : Nat) (a : Option Addr) (c : Nat) (xs : List Int), k ≤ 9 ∧ v = .int .i64 (m : Int) ∧ m ≤ 4611686018427387903 / 128 ^ k ∧ Held wr w.heap.size a k c xs ∧ lebBytes n = xs ++ lebF (10 - k) m ∧ Below w.heap.size w wr) (fun v _ => (intOf v).toNat)
  case atStart => exact ⟨0, n, none, 0, [], by omega, rfl, by simpa using hn, held_nil w, rfl, (Below.refl _ _).alloc (Nat.le_refl _) _⟩
  case round =>
    obtain ⟨k, m, a, c, xs, hk, rfl, hm, hh, hl, hb⟩ := hrel
    have HH : Hid (Held wr w.heap.size a k c xs) := hh
    have HL : Hid (lebBytes n = xs ++ lebF (10 - k) m) := hl
    have HB : Hid (Below w.heap.size w wr) := hb
    have HM : Hid (m ≤ 4611686018427387903 / 128 ^ k) := hm
    have hm5 : m ≤ 4611686018427387903 := Nat.le_trans hm (Nat.div_le_self _ _)
    clear hh hl hb hm
    by_cases hbig : 128 ≤ m
    · have hbi : (128 : Int) ≤ m := by omega
      have HK9 : Hid (k < 9) := by
        rcases Nat.lt_or_ge k 9 with h | h
        · exact h
        · have h9 : k = 9 := by omega
          have := HM.out
          rw [h9] at this
          have e : (4611686018427387903 : Nat) / 128 ^ 9 = 0 := by decide
          omega
      have HMN : Hid (m / 128 ≤ 4611686018427387903 / 128 ^ (k + 1)) := by
        show _ ≤ _
        rw [Nat.pow_succ, ← Nat.div_div_eq_div_mul]
        exact Nat.div_le_div_right HM.out
      have HLN : Hid (lebBytes n = (xs ++ [((m % 128 + 128 : Nat) : Int)]) ++ lebF (10 - (k + 1)) (m / 128)) := by
        show _ = _
        rw [HL.out, show 10 - k = (10 - (k + 1)) + 1 by have := HK9.out; omega, lebF, if_neg (by omega), List.append_assoc]
        rfl
      have ha := and_127 m hm5
      obtain ⟨d, hd⟩ : ∃ d, m % 128 = d := ⟨_, rfl⟩
      have hd5 : d < 128 := by omega
      rw [hd] at ha HLN
      have ho := or_128 d hd5
      obtain ⟨u, hu⟩ : ∃ u, d + 128 = u := ⟨_, rfl⟩
      have hu5 : u < 256 := by omega
      rw [hu] at ho HLN
      obtain ⟨q, hq⟩ : ∃ q, m / 128 = q := ⟨_, rfl⟩
      have hmq : ∀ m' : Int, m' = (m : Int) → m' / 128 = (q : Int) := fun m' h => by rw [h, ← hq]; simp
      have HQ : Hid (q < m) := by show q < m; omega
      rw [hq] at HMN HLN
      clear hd hu hq HL HM
      have hk6 : k ≤ 1000000 := by omega
      go_wp2_with fail
      refine (gather_any w.heap.size u a k c xs wr hu5 hk6 HH.out).mono ?_
      rintro e w2 ⟨rfl, ⟨a2, c2, hh2⟩, hb2⟩
      have HH2 : Hid (Held w2 w.heap.size a2 (k + 1) c2 (xs ++ [(u : Int)])) := hh2
      have HB2 : Hid (Below w.heap.size w w2) := HB.out.trans hb2
      clear hh2 hb2
      go_wp2_with fail
      exact ⟨⟨k + 1, q, a2, c2, xs ++ [(u : Int)], HK9.out, rfl, HMN.out, HH2.out, HLN.out, HB2.out⟩, by simp [intOf]; exact HQ.out⟩
    · have hbi : ¬ (128 : Int) ≤ m := by omega
      have HLN : Hid (lebBytes n = xs ++ [(m : Int)]) := by
        show _ = _
        rw [HL.out, show 10 - k = (9 - k) + 1 by omega, lebF, if_pos (by omega)]
      have hm6 : m < 256 := by omega
      have hk6 : k ≤ 1000000 := by omega
      go_wp2_with fail
      refine (gather_any w.heap.size m a k c xs wr hm6 hk6 HH.out).mono ?_
      rintro e w2 ⟨rfl, ⟨a2, c2, hh2⟩, hb2⟩
      have HH2 : Hid (Held w2 w.heap.size a2 (k + 1) c2 (xs ++ [(m : Int)])) := hh2
      have HB2 : Hid (Below w.heap.size w w2) := HB.out.trans hb2
      have cb : w2.cell? ⟨w.heap.size, 0, none⟩ = some (.slice a2 (k + 1) c2) := (cell_of_row0 _ _ 0 _ _ hh2.cell).trans rfl
      clear hh2 hb2
      go_wp2_with fail
      go_ret
      rw [HLN.out]
      refine ⟨⟨_, _, _, rfl, ?_⟩, HB2.out⟩
      obtain ⟨h1, h2 | ⟨g, cap, cur, h3, h4, h5⟩⟩ := HH2.out.own
      · exact ⟨h1, .inl h2⟩
      · exact ⟨h1, .inr ⟨g, cap, cur, h3, by omega, h5⟩⟩
end Go.Proofs.Ytkpnmagcmpljoaa
