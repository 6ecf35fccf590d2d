/- A number to the base 8 as text: the walk. -/
import Derived.Test.YthemolkmciofaaaDoorTrDig
namespace Go.Proofs.YthemolkmciofaaaDoor
open Go.RowKit Plain
set_option linter.unusedVariables false
set_option linter.unusedSimpArgs false
def oct : Nat → Nat → List Int → List Int
  | 0, _, acc => acc
  | f + 1, u, acc => if 8 ≤ u then oct f (u / 8) ((48 + (u % 8 : Nat) : Int) :: acc) else ((48 + (u : Nat) : Int)) :: acc
theorem oct_more {f u : Nat} {acc : List Int} (h : 8 ≤ u) : oct (f + 1) u acc = oct f (u / 8) ((48 + (u % 8 : Nat) : Int) :: acc) := by rw [oct, if_pos h]
theorem oct_last {f u : Nat} {acc : List Int} (h : ¬ 8 ≤ u) : oct (f + 1) u acc = ((48 + (u : Nat) : Int)) :: acc := by rw [oct, if_neg h]
theorem and_7 (u : Nat) (hu : u < 262144) : bits .and .u64 (u : Int) 7 = ((u % 8 : Nat) : Int) := by
  show IntKind.u64.wrap ((BitVec.ofInt 64 _ &&& BitVec.ofInt 64 _ : BitVec 64).toNat : Int) = _
  rw [BitVec.toNat_and]
  have h1 : (BitVec.ofInt 64 (u : Int)).toNat = u := by
    rw [BitVec.toNat_ofInt]; omega
  have h2 : (BitVec.ofInt 64 7).toNat = 7 := by decide
  rw [h1, h2]
  have h3 : u &&& 7 = u % 8 := Nat.and_two_pow_sub_one_eq_mod u 3
  rw [h3]
  show (((u % 8 : Nat) : Int)) % 18446744073709551616 = _
  omega
def digs : ByteArray := ⟨#[48, 49, 50, 51, 52, 53, 54, 55, 56, 57, 97, 98, 99, 100, 101, 102, 103, 104, 105, 106, 107, 108, 109, 110, 111, 112, 113, 114, 115, 116, 117, 118, 119, 120, 121, 122]⟩
theorem digs_at (d : Nat) (h : d < 8) (w : World) : (Instr.index 9 (.string digs) (.int .u64 (d : Int))).run Tryd.prog w = .ok (.int .u8 (48 + (d : Int))) w := by
  have h1 : d < digs.size := by have : digs.size = 36 := by decide
                                omega
  rw [run_index_string w 9 digs .u64 _ Tryd.underlying9, dif_pos (by omega)]
  have : ∀ d : Fin 8, ((digs[d.val]?.getD 0).toNat : Int) = 48 + (d.val : Int) := by decide
  have h2 := this ⟨d, h⟩
  have h3 : digs[d]? = some (digs[d]'h1) := getElem?_pos ..
  rw [h3] at h2
  simp only [Option.getD_some] at h2
  simp only [Int.toNat_natCast]
  rw [h2]
def zeros65 : List Int := List.replicate 65 0
theorem zero_65 (w : World) : (zeroValue 84).run Tryd.prog w = .ok (.agg (V8 zeros65)) w := by kernel_rfl
theorem slice_65 (B f : Nat) (hf : f < 65) (w : World) : (Instr.sliceAt 84 (.pointer (some ⟨B, 0, none⟩)) (some (.int .i64 (f : Int))) none none).run Tryd.prog w = .ok (.slice (some ⟨B, f, none⟩) (65 - f) (65 - f)) w := by
  have hal : Tryd.prog.arrayLen 84 = 65 := by kernel_rfl
  have hsz : ∀ W : World, (sizeOf (Tryd.prog.elem 84)).run Tryd.prog W = .ok 1 W := fun W => by kernel_rfl
  rw [run_sliceAt_array_l (P := Tryd.prog) w 84 ⟨B, 0, none⟩ (by kernel_rfl) .i64 (f : Int) (by omega) (by rw [hal]; omega), hsz, hal]
  have e1 : (f : Int).toNat = f := by omega
  simp only [Result.andThen_ok, slicedAt, e1, Nat.mul_one]
  rw [if_neg (by omega)]
  congr 3
  unfold Addr.add
  split <;> simp_all
theorem drop_set (xs : List Int) (m : Nat) (y : Int) (h : m < xs.length) : (xs.set m y).drop m = y :: xs.drop (m + 1) := by
  rw [List.drop_eq_getElem_cons (by rw [List.length_set]; exact h), List.getElem_set_self, List.drop_set_of_lt (by omega)]
theorem bytes_row {W : World} {b : Nat} {xs : List Int} {t : TypeId} {fr : Nat × Nat} (h : W.heap[b]? = some (.cells (V8 xs) t fr)) (hb : ∀ x ∈ xs, 0 ≤ x ∧ x ≤ 255) (m : Nat) (hm : xs.length ≤ 1000000) : Bytes W (some ⟨b, m, none⟩) (xs.length - m) (xs.drop m) := by
  refine ⟨by rw [List.length_drop], by omega, range_of_mem (fun x hx => hb x (List.mem_of_mem_drop hx)), .inr ⟨b, m, rfl, fun j hj => ?_⟩⟩
  rw [cell_of_row _ _ _ _ _ _ h, V8_get xs (m + j) (by omega), List.getElem?_drop]
theorem set_bytes {xs : List Int} (hb : ∀ x ∈ xs, 0 ≤ x ∧ x ≤ 255) (m d : Nat) (hd : d < 8) : ∀ x ∈ xs.set m (48 + (d : Int)), 0 ≤ x ∧ x ≤ 255 := fun x hx => by
  rcases List.mem_or_eq_of_mem_set hx with h | h
  · exact hb x h
  · subst h; omega
theorem V8_set (xs : List Int) (k : Nat) (x : Int) : (V8 xs).setIfInBounds k (.int .u8 x) = V8 (xs.set k x) := by
  apply Array.toList_inj.1
  rw [Array.toList_setIfInBounds, V8_list, V8_list]
  unfold U8
  rw [List.map_set]
set_option maxRecDepth 100000 in
set_option maxHeartbeats 8000000 in
theorem format8 (U : Nat) (hU : U < 262144) (w : World) (hE : Env w) :
    Calls Tryd.prog 45 #[.slice none 0 0, .int .u64 (U : Int), .int .i64 8, .bool false, .bool false] w fun e w' => e = .returned (.tuple #[.slice none 0 0, .string (strOfNums (oct 6 U []))]) ∧ Below w.heap.size w w' := by
  have HE := Lib.hid hE
  have HU := Lib.hid hU
  have hz := zero_65
  clear hE hU
  have HB0 : Hid (Below w.heap.size w (w.alloc (.cells (V8 zeros65) 84))) := (Below.refl _ _).alloc (Nat.le_refl _) _
  have HR0 : Hid ((w.alloc (.cells (V8 zeros65) 84)).heap[w.heap.size]? = some (.cells (V8 zeros65) 84 (0, 0))) := heap_alloc_new _ _
  have hdg : (⟨#[48, 49, 50, 51, 52, 53, 54, 55, 56, 57, 97, 98, 99, 100, 101, 102, 103, 104, 105, 106, 107, 108, 109, 110, 111, 112, 113, 114, 115, 116, 117, 118, 119, 120, 121, 122]⟩ : ByteArray) = digs := rfl
  go_enter Tryd.func45, Tryd.ntmps45
  go_wp2_with fail
  clear hz
  generalize w.alloc (.cells (V8 zeros65) 84) = w0 at *
  refine (pow2_8 w0).mono ?_
  rintro e w' ⟨rfl, rfl⟩
  go_wp2_with fail
  refine (tz_8 w' (HE.out.below HB0.out)).mono ?_
  rintro e w1 ⟨rfl, rfl⟩
  go_wp2_with fail
  clear hdg
  go_loopw [1, 13] (fun uv iv wr => ∃ (f u : Nat) (xs : List Int), uv = .int .u64 (u : Int) ∧ iv = .int .i64 ((60 + f : Nat) : Int) ∧ u < 8 ^ (f + 1) ∧ f ≤ 5 ∧ xs.length = 65 ∧ wr.heap[w.heap.size]? = some (.cells (V8 xs) 84 (0, 0)) ∧ oct (f + 1) u (xs.drop (60 + f)) = oct 6 U [] ∧ (∀ x ∈ xs, 0 ≤ x ∧ x ≤ 255) ∧ Below w.heap.size w wr) (fun uv _ _ => (intOf uv).toNat)
  case atStart => exact ⟨5, U, zeros65, rfl, rfl, HU.out, by omega, rfl, HR0.out, rfl, (fun x hx => by rw [List.eq_of_mem_replicate hx]; omega), HB0.out⟩
  case round =>
    obtain ⟨f, u, xs, rfl, rfl, hu, hf5, hxl, hrow, hoc, hby, hb⟩ := hrel
    have HRW := Lib.hid hrow
    have HOC := Lib.hid hoc
    have HBY := Lib.hid hby
    have HBW := Lib.hid hb
    have HXL := Lib.hid hxl
    have hub : u < 262144 := by
      have : (8 : Nat) ^ (f + 1) ≤ 8 ^ 6 := Nat.pow_le_pow_right (by omega) (by omega)
      omega
    clear hrow hoc hby hb HB0 HR0
    by_cases h8 : 8 ≤ u
    · obtain ⟨f', rfl⟩ : ∃ f', f = f' + 1 := ⟨f - 1, by
        rcases Nat.eq_zero_or_pos f with h0 | h0
        · subst h0; simp at hu; omega
        · omega⟩
      have h8i : (8 : Int) ≤ (u : Int) := by omega
      obtain ⟨n, hn⟩ : ∃ n, 60 + (f' + 1) = n := ⟨_, rfl⟩
      obtain ⟨m, hm⟩ : ∃ m, 60 + f' = m := ⟨_, rfl⟩
      have hnm : n = m + 1 := by omega
      have hm65 : m < 65 := by omega
      rw [hn] at HOC ⊢
      have wi : wrap64 ((n : Int) - 1) = (m : Int) := by
        rw [show (n : Int) - 1 = (m : Int) by omega]
        exact IntWalk.wrap64_in _ (by omega)
      have ha7 := and_7 u hub
      have hd8 : u % 8 < 8 := Nat.mod_lt _ (by omega)
      have hdx := fun W => digs_at (u % 8) hd8 W
      unfold digs at hdx
      have hq : (u : Int) / 8 = ((u / 8 : Nat) : Int) := by omega
      have HUL : Hid (u / 8 < u) := Nat.div_lt_self (by omega) (by omega)
      have HUQ : Hid (u / 8 < 8 ^ (f' + 1)) := by
        show _ < _
        rw [Nat.pow_succ] at hu
        omega
      have HOD := Lib.hid (oct_more (f := f' + 1) (acc := xs.drop n) h8)
      obtain ⟨d, hd⟩ : ∃ d, u % 8 = d := ⟨_, rfl⟩
      obtain ⟨q, hqq⟩ : ∃ q, u / 8 = q := ⟨_, rfl⟩
      rw [hd] at ha7 hd8 hdx HOD
      rw [hqq] at hq HUL HUQ HOD
      obtain ⟨ov, ho⟩ : ∃ ov, wr.cell? ⟨w.heap.size, m, none⟩ = some ov := ⟨_, by rw [cell_of_row wr _ _ _ _ _ HRW.out, Array.getElem?_eq_getElem (by rw [V8_size, HXL.out]; exact hm65)]⟩
      have fo := frozen_of_row wr w.heap.size m (V8 xs) 84 HRW.out
      have hmi : (m : Int) < 65 := by omega
      have hmi2 : ¬ (65 : Int) ≤ (m : Int) := by omega
      have HD8 := Lib.hid hd8
      have HM := Lib.hid hm
      have HNM := Lib.hid hnm
      have HM65 := Lib.hid hm65
      have HF5 : Hid (f' ≤ 5) := by show _ ≤ _; omega
      clear h8 hu hub hd hqq hd8 hn hm hnm hm65 hf5 hxl
      go_wp2_with fail
      refine ⟨⟨f', q, xs.set m (48 + (d : Int)), rfl, by rw [HM.out, wi], HUQ.out, HF5.out, by rw [List.length_set]; exact HXL.out, (heap_setCell_same wr w.heap.size _ _ _ _ HRW.out).trans (by rw [V8_set]), ?_, ?_, HBW.out.setCell (Nat.le_refl _) _⟩, by have := HUL.out; simp [intOf]; omega⟩
      · rw [HM.out, drop_set xs m _ (by rw [HXL.out]; exact HM65.out), ← HNM.out, ← HOC.out, HOD.out]
      · exact set_bytes HBY.out m d HD8.out
    · have h8i : ¬ (8 : Int) ≤ (u : Int) := by omega
      have hu8 : u < 8 := by omega
      obtain ⟨n, hn⟩ : ∃ n, 60 + f = n := ⟨_, rfl⟩
      obtain ⟨m, hm⟩ : ∃ m, 59 + f = m := ⟨_, rfl⟩
      have hnm : n = m + 1 := by omega
      have hm65 : m < 65 := by omega
      rw [hn] at HOC ⊢
      have wi : wrap64 ((n : Int) - 1) = (m : Int) := by
        rw [show (n : Int) - 1 = (m : Int) by omega]
        exact IntWalk.wrap64_in _ (by omega)
      have hdx := fun W => digs_at u hu8 W
      unfold digs at hdx
      have HOD := Lib.hid (oct_last (f := f) (acc := xs.drop n) h8)
      obtain ⟨ov, ho⟩ : ∃ ov, wr.cell? ⟨w.heap.size, m, none⟩ = some ov := ⟨_, by rw [cell_of_row wr _ _ _ _ _ HRW.out, Array.getElem?_eq_getElem (by rw [V8_size, HXL.out]; exact hm65)]⟩
      have fo := frozen_of_row wr w.heap.size m (V8 xs) 84 HRW.out
      have hmi : (m : Int) < 65 := by omega
      have hmi2 : ¬ (65 : Int) ≤ (m : Int) := by omega
      have HR2 : Hid ((wr.setCell ⟨w.heap.size, m, none⟩ (.int .u8 (48 + (u : Int)))).heap[w.heap.size]? = some (.cells (V8 (xs.set m (48 + (u : Int)))) 84 (0, 0))) := (heap_setCell_same wr w.heap.size _ _ _ _ HRW.out).trans (by rw [V8_set])
      have HB2 : Hid (Below w.heap.size w (wr.setCell ⟨w.heap.size, m, none⟩ (.int .u8 (48 + (u : Int))))) := HBW.out.setCell (Nat.le_refl _) _
      have hbr := bytes_row HR2.out (set_bytes HBY.out m u hu8) m (by rw [List.length_set, HXL.out]; decide)
      rw [drop_set xs m _ (by rw [HXL.out]; exact hm65), ← hnm, ← HOD.out, HOC.out, List.length_set, HXL.out] at hbr
      have htx := text_run _ _ _ (65 - m) _ hbr
      have hsl := fun W => slice_65 w.heap.size m hm65 W
      obtain ⟨r, hr⟩ : ∃ r, 65 - m = r := ⟨_, rfl⟩
      rw [hr] at htx
      simp only [hr] at hsl
      clear h8 hu hn hm hnm hm65 hf5 hxl hbr hu8 hub hr HOC HOD HRW HBW
      go_wp2_with fail
      go_ret2
      exact ⟨rfl, HB2.out⟩
end Go.Proofs.YthemolkmciofaaaDoor
