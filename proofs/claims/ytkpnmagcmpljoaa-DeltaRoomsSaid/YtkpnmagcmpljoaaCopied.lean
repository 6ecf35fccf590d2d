/- A step that is a copy: the walk. -/
import Derived.Test.YtkpnmagcmpljoaaSizes
namespace Go.Proofs.Ytkpnmagcmpljoaa
open Go.RowKit Plain
set_option linter.unusedVariables false
theorem and1 : ∀ x : Nat, x < 256 → bits .and .u8 (x : Int) 1 = ((x % 2 : Nat) : Int) := by decide +kernel
theorem byte_high (y k : Nat) (hk : k < 7) (hy : y < 256) : y * 2 ^ (8 * k) < 2 ^ (8 * (k + 1)) := by
  rw [show 8 * (k + 1) = 8 + 8 * k by omega, Nat.pow_add]
  exact Nat.mul_lt_mul_of_pos_right hy (Nat.two_pow_pos _)
theorem high_56 (k : Nat) (hk : k < 7) : 2 ^ (8 * (k + 1)) ≤ 72057594037927936 := by
  have := Nat.pow_le_pow_right (n := 2) (by omega) (show 8 * (k + 1) ≤ 56 by omega)
  simpa using this
theorem byte_sum (n y k : Nat) (hk : k < 7) (hy : y < 256) (hn : n < 2 ^ (8 * k)) : n + y * 2 ^ (8 * k) < 2 ^ (8 * (k + 1)) := by
  rw [show 8 * (k + 1) = 8 + 8 * k by omega, Nat.pow_add]
  have : y * 2 ^ (8 * k) ≤ 255 * 2 ^ (8 * k) := Nat.mul_le_mul_right _ (by omega)
  generalize 2 ^ (8 * k) = p at *
  omega
theorem subA_some (b off c l : Nat) : subA (some ⟨b, off, none⟩) c l = if c = l then some ⟨b, off, none⟩ else some ⟨b, off + l, none⟩ := by
  unfold subA
  split
  · rfl
  · simp [Addr.add]
theorem and_low (n : Nat) (hn : n < 72057594037927936) : bits .and .i64 (n : Int) 4294967295 = ((n % 4294967296 : Nat) : Int) := by
  show IntKind.i64.wrap ((BitVec.ofInt 64 _ &&& BitVec.ofInt 64 _ : BitVec 64).toNat : Int) = _
  rw [BitVec.toNat_and, BitVec.toNat_ofInt, BitVec.toNat_ofInt]
  have e1 : (((n : Nat) : Int) % ((2 ^ 64 : Nat) : Int)).toNat = n := by omega
  have e2 : ((4294967295 : Int) % ((2 ^ 64 : Nat) : Int)).toNat = 2 ^ 32 - 1 := by decide
  rw [e1, e2, Nat.and_two_pow_sub_one_eq_mod, IntKind.wrap_i64]
  omega
/-- What a step tells. -/
def StepRes (w : World) (r : Nat × List Int × List Int) (e : Ending) : Prop :=
  (r.1 ≠ 0 ∧ e = .returned (.tuple #[.slice none 0 0, .slice none 0 0, .int .i64 (r.1 : Int)])) ∨
  (r.1 = 0 ∧ ∃ pa pn pc ra rn rc, e = .returned (.tuple #[.slice pa pn pc, .slice ra rn rc, .int .i64 0]) ∧ pn ≤ pc ∧ (pa = none → pc = 0) ∧ Bytes w pa pn r.2.1 ∧ rn ≤ rc ∧ (ra = none → rc = 0) ∧ Bytes w ra rn r.2.2)
theorem gat_none (c f k : Nat) (n : Nat) (h : ¬ c / 2 ^ k % 2 = 0) : gat c (f + 1) k [] n = none := by
  simp only [gat]; rw [if_neg h]
theorem gat_some (c f k : Nat) (n : Nat) (y : Int) (t : List Int) (h : ¬ c / 2 ^ k % 2 = 0) : gat c (f + 1) k (y :: t) n = gat c f (k + 1) t (n + y.toNat * 2 ^ (8 * k)) := by
  simp only [gat]; rw [if_neg h]
theorem gat_skip (c f k : Nat) (n : Nat) (d : List Int) (h : c / 2 ^ k % 2 = 0) : gat c (f + 1) k d n = gat c f (k + 1) d n := by
  cases d <;> (simp only [gat]; rw [if_pos h])
set_option maxRecDepth 100000 in
set_option maxHeartbeats 2000000 in
theorem copied_any (a0 : Option Addr) (m0 c0 : Nat) (base : List Int) (c : Nat) (a : Option Addr) (m cap : Nat) (d : List Int) (w0 w : World) (hb : Below w0.heap.size w0 w) (h0 : m0 ≤ c0) (hn0 : a0 = none → c0 = 0) (hl0 : m0 ≤ 1000000) (HB : Bytes w0 a0 m0 base)
    (hc : c < 256) (hmc : m ≤ cap) (hnil : a = none → cap = 0) (HD : Bytes w0 a m d) :
    Calls Try.prog 27 #[.slice a0 m0 c0, .int .u8 (c : Int), .slice a m cap] w fun e w' => StepRes w0 (copyOf base c d) e ∧ w' = w := by
  have HBB : Hid (Bytes w0 a0 m0 base) := HB
  have HN0 : Hid (a0 = none → c0 = 0) := hn0
  have HAA : Hid (Bytes w0 a m d ∧ (a = none → cap = 0)) := ⟨HD, hnil⟩
  have HBZ : Hid (Below w0.heap.size w0 w) := hb
  clear HB hn0 HD hnil hb
  go_enter Try.func27, Try.ntmps27
  go_wp2_with fail
  go_loop [2, 9, 13] (fun v x i => ∃ (k n : Nat) (a' : Option Addr) (m' c' : Nat) (ds : List Int), k ≤ 7 ∧ i = .int .i64 (k : Int) ∧ x = .int .i64 (n : Int) ∧ v = .slice a' m' c' ∧ m' ≤ c' ∧ n < 2 ^ (8 * k) ∧ (Bytes w0 a' m' ds ∧ (a' = none → c' = 0)) ∧ gat c 7 0 d 0 = gat c (7 - k) k ds n) (fun _ _ i => 7 - (intOf i).toNat)
  case atStart => exact ⟨0, 0, a, m, cap, d, by omega, rfl, rfl, rfl, hmc, by simp, HAA.out, rfl⟩
  case round =>
    obtain ⟨k, n, a', m', c', ds, hk, rfl, rfl, rfl, hmc', hn, hby, hg⟩ := hrel
    have HN : Hid (n < 2 ^ (8 * k)) := hn
    have HBY : Hid (Bytes w0 a' m' ds ∧ (a' = none → c' = 0)) := hby
    have HG : Hid (gat c 7 0 d 0 = gat c (7 - k) k ds n) := hg
    clear hn hby hg HAA
    by_cases hlt : k < 7
    · have hb5 : c / 2 ^ k < 256 := Nat.lt_of_le_of_lt (Nat.div_le_self _ _) hc
      have hand := and1 _ hb5
      have HGS : Hid (c / 2 ^ k % 2 = 0 → gat c 7 0 d 0 = gat c (7 - (k + 1)) (k + 1) ds n) := fun h => by
        rw [HG.out, show 7 - k = (7 - (k + 1)) + 1 by omega, gat_skip _ _ _ _ _ h]
      have HGN : Hid (¬ c / 2 ^ k % 2 = 0 → ds = [] → gat c 7 0 d 0 = none) := fun h e => by
        rw [HG.out, e, show 7 - k = (7 - (k + 1)) + 1 by omega, gat_none _ _ _ _ h]
      have HGC : Hid (¬ c / 2 ^ k % 2 = 0 → ∀ y t, ds = y :: t → gat c 7 0 d 0 = gat c (7 - (k + 1)) (k + 1) t (n + y.toNat * 2 ^ (8 * k))) := fun h y t e => by
        rw [HG.out, e, show 7 - k = (7 - (k + 1)) + 1 by omega, gat_some _ _ _ _ _ _ h]
      obtain ⟨b, hb⟩ : ∃ b, c / 2 ^ k = b := ⟨_, rfl⟩
      have hcb : ∀ c' : Int, c' = (c : Int) → c' / 2 ^ k = (b : Int) := fun c' hc' => by rw [hc', ← hb]; simp
      rw [hb] at hb5 hand HGS HGN HGC
      obtain ⟨t, ht⟩ : ∃ t, b % 2 = t := ⟨_, rfl⟩
      rw [ht] at hand HGS HGN HGC
      clear HG ht hb
      by_cases h0t : t = 0
      · have hti : ((t : Int) == 0) = true := by simp; omega
        have HNK : Hid (n < 2 ^ (8 * (k + 1))) := Nat.lt_of_lt_of_le HN.out (Nat.pow_le_pow_right (by omega) (by omega))
        subst h0t
        go_wp2_with fail
        go_round
        case rel => exact ⟨k + 1, n, a', m', c', ds, by omega, by go_num, rfl, rfl, hmc', HNK.out, HBY.out, HGS.out rfl⟩
        case measure => simp [intOf]; omega
      · have hti : ((t : Int) == 0) = false := by simp; omega
        have HT0 : Hid (¬ t = 0) := h0t
        by_cases hm0 : m' = 0
        · subst hm0
          have HDS : Hid (ds = []) := List.eq_nil_of_length_eq_zero HBY.out.1.1
          go_wp2_with fail
          go_ret3
          refine ⟨.inl ⟨?_, ?_⟩, rfl⟩
          · unfold copyOf; rw [HGN.out HT0.out HDS.out]; simp
          · unfold copyOf; rw [HGN.out HT0.out HDS.out]; rfl
        · obtain ⟨bb, off, rfl, hcell⟩ : ∃ bb off, a' = some ⟨bb, off, none⟩ ∧ w.cell? ⟨bb, off, none⟩ = some (.int .u8 (ds[0]?.getD 0)) := by
            rcases HBY.out.1.2.2.2 with h | ⟨bb, off, h1, h2⟩
            · exact absurd h hm0
            · exact ⟨bb, off, h1, by
                have h3 := h2 0 (by omega)
                have h4 := (HBZ.out.cell (p := ⟨bb, off + 0, none⟩) (World.block_lt_of_cell? w0 _ h3)).trans h3
                simpa using h4⟩
          have hr := HBY.out.1.2.2.1 0
          have HDD : Hid (ds = ds[0]?.getD 0 :: ds.drop 1) := by
            exact drop_cons ds 0 (by rw [HBY.out.1.1]; omega)
          generalize ds[0]?.getD 0 = y at *
          obtain ⟨y, rfl⟩ := Int.eq_ofNat_of_zero_le hr.1
          have hy5 : y < 256 := by omega
          have h56 := high_56 k hlt
          have hsum := byte_sum n y k hlt hy5 HN.out
          have hor := or_high n y (8 * k) HN.out (by omega)
          have HSUM : Hid (n + y * 2 ^ (8 * k) < 2 ^ (8 * (k + 1))) := hsum
          have HGX : Hid (gat c 7 0 d 0 = gat c (7 - (k + 1)) (k + 1) (ds.drop 1) (n + y * 2 ^ (8 * k))) := by
            have := HGC.out HT0.out (y : Int) (ds.drop 1) HDD.out
            rwa [Int.toNat_natCast] at this
          have HB1 : Hid (Bytes w0 (subA (some ⟨bb, off, none⟩) c' 1) (m' - 1) (ds.drop 1) ∧ (subA (some ⟨bb, off, none⟩) c' 1 = none → c' - 1 = 0)) := ⟨HBY.out.1.from hmc' 1 (by omega), subA_nil HBY.out.2⟩
          rw [subA_some] at HB1
          have hzb : y * 2 ^ (8 * k) < 72057594037927936 := Nat.lt_of_lt_of_le (byte_high y k hlt hy5) h56
          clear h56 hsum HGC HGN HGS HDD HN
          obtain ⟨z, hz⟩ : ∃ z, y * 2 ^ (8 * k) = z := ⟨_, rfl⟩
          have hyz : ∀ y' : Int, y' = (y : Int) → y' * 2 ^ (8 * k) = (z : Int) := fun y' hy' => by rw [hy', ← hz]; simp
          have hz5 : z < 72057594037927936 := by rw [hz] at hzb; exact hzb
          have hwz := wrap_nat z (by omega)
          rw [hz] at hor HSUM HGX
          obtain ⟨u, hu⟩ : ∃ u, n + z = u := ⟨_, rfl⟩
          rw [hu] at hor HSUM HGX
          clear hz hzb hu h0t
          have hm0i : ((m' : Int) == 0) = false := by simp; omega
          go_wp2_with fail
          go_round
          case rel => exact ⟨k + 1, u, _, m' - 1, c' - 1, ds.drop 1, by omega, by go_num, rfl, rfl, by omega, HSUM.out, HB1.out, HGX.out⟩
          case measure => simp [intOf]; omega
    · obtain rfl : k = 7 := by omega
      have HGE : Hid (gat c 7 0 d 0 = some (n, ds)) := by show _ = _; rw [HG.out]; simp [gat]
      have hn56 : n < 72057594037927936 := by have := HN.out; simpa using this
      have hal := and_low n hn56
      have HCO : Hid (copyOf base c d = if base.length < n % 4294967296 + sizeIs n then (4, [], []) else (0, sub base (n % 4294967296) (sizeIs n), ds)) := by
        show _ = _
        unfold copyOf
        rw [HGE.out]
      rw [HBB.out.1] at HCO
      unfold sizeIs at HCO
      have hp5 : n % 4294967296 < 4294967296 := by omega
      have hs5 : n / 4294967296 ≤ 16777216 := by omega
      generalize n % 4294967296 = p at *
      obtain ⟨s, hs⟩ : ∃ s, n / 4294967296 = s := ⟨_, rfl⟩
      have hns : ∀ n' : Int, n' = (n : Int) → n' / 4294967296 = (s : Int) := fun n' hn' => by rw [hn', ← hs]; simp
      rw [hs] at HCO hs5
      clear hs
      clear HG HGE HN
      obtain ⟨v, hv⟩ : ∃ v, (if s = 0 then 65536 else s) = v := ⟨_, rfl⟩
      rw [hv] at HCO
      have fin : ∀ (hs0 : if s = 0 then v = 65536 else v = s), True := fun _ => trivial
      by_cases hs0 : s = 0
      · rw [if_pos hs0] at hv
        subst hs0 hv
        by_cases hbig : m0 < p + 65536
        · have hbi : (m0 : Int) - p < 65536 := by omega
          go_wp2_with fail
          go_ret3
          rw [HCO.out, if_pos hbig]
          exact ⟨.inl ⟨by simp, rfl⟩, rfl⟩
        · have hbi : ¬ (m0 : Int) - p < 65536 := by omega
          have s1 := fun W => slice_sub a0 m0 c0 p (p + 65536) (by omega) (by omega) W
          have e1 : p + 65536 - p = 65536 := by omega
          rw [show ((p + 65536 : Nat) : Int) = (p : Int) + 65536 by omega] at s1
          go_wp2_with fail
          go_ret3
          rw [HCO.out, if_neg hbig]
          refine ⟨.inr ⟨rfl, _, _, _, _, _, _, rfl, by omega, subA_nil HN0.out, ?_, hmc', HBY.out.2, HBY.out.1⟩, rfl⟩
          have := HBB.out.part c0 p (p + 65536) (by omega) (by omega) h0
          rw [e1] at this
          exact this
      · rw [if_neg hs0] at hv
        subst hv
        have hsi : ((s : Int) == 0) = false := by simp; omega
        by_cases hbig : m0 < p + s
        · have hbi : (m0 : Int) - p < s := by omega
          go_wp2_with fail
          go_ret3
          rw [HCO.out, if_pos hbig]
          exact ⟨.inl ⟨by simp, rfl⟩, rfl⟩
        · have hbi : ¬ (m0 : Int) - p < s := by omega
          have s1 := fun W => slice_sub a0 m0 c0 p (p + s) (by omega) (by omega) W
          have e1 : p + s - p = s := by omega
          rw [show ((p + s : Nat) : Int) = (p : Int) + s by omega] at s1
          go_wp2_with fail
          go_ret3
          rw [HCO.out, if_neg hbig]
          refine ⟨.inr ⟨rfl, _, _, _, _, _, _, rfl, by omega, subA_nil HN0.out, ?_, hmc', HBY.out.2, HBY.out.1⟩, rfl⟩
          have := HBB.out.part c0 p (p + s) (by omega) (by omega) h0
          rw [e1] at this
          exact this
end Go.Proofs.Ytkpnmagcmpljoaa
