/- The chapter's examples: the walk. -/
import Derived.Test.YtomnogbahjcnnaaDoorOfs
namespace Go.Proofs.YtomnogbahjcnnaaDoor
open Go.RowKit Plain
set_option linter.unusedVariables false
theorem headBytes_bytes (k s : Nat) (hk : k ≤ 7) : ∀ x ∈ headBytes k s, 0 ≤ x ∧ x ≤ 255 := by
  intro x h
  unfold headBytes at h
  split at h
  · simp at h; omega
  · rcases List.mem_cons.1 h with rfl | h
    · omega
    · exact lebF_bytes 10 _ x h
theorem ofsBytes_bytes (n : Nat) : ∀ x ∈ ofsBytes n, 0 ≤ x ∧ x ≤ 255 := fun x h => ofsRise_bytes n x (List.mem_reverse.1 h)
set_option maxRecDepth 100000 in
set_option maxHeartbeats 4000000 in
theorem known_any (w : World) : Calls Tryd.prog 8 #[] w fun e w' => e = .returned (.bool true) ∧ Below w.heap.size w w' := by
  go_enter Tryd.func8, Tryd.ntmps8
  go_wp2_with fail
  refine (leb_any 300 (by omega) w).mono ?_
  rintro e w1 ⟨⟨a1, k1, c1, rfl, ho1⟩, hb1⟩
  have HB1 : Hid (Below w.heap.size w w1) := hb1
  have t1 := text_run w1 a1 k1 c1 _ (ho1.bytes (range_of_mem (lebF_bytes 10 300)))
  rw [show strOfNums (lebBytes 300) = ⟨#[172, 2]⟩ by decide +kernel] at t1
  clear ho1 hb1
  go_wp2_with fail
  refine (ofs_any 128 (by omega) w1).mono ?_
  rintro e w2 ⟨⟨a2, k2, c2, rfl, ho2⟩, hb2⟩
  have HB2 : Hid (Below w.heap.size w w2) := HB1.out.trans (hb2.mono HB1.out.size)
  have t2 := text_run w2 a2 k2 c2 _ (ho2.bytes (range_of_mem (ofsBytes_bytes 128)))
  rw [show strOfNums (ofsBytes 128) = ⟨#[128, 0]⟩ by decide +kernel] at t2
  clear ho2 hb2 t1
  go_wp2_with fail
  refine (ofs_any 300 (by omega) w2).mono ?_
  rintro e w3 ⟨⟨a3, k3, c3, rfl, ho3⟩, hb3⟩
  have HB3 : Hid (Below w.heap.size w w3) := HB2.out.trans (hb3.mono HB2.out.size)
  have t3 := text_run w3 a3 k3 c3 _ (ho3.bytes (range_of_mem (ofsBytes_bytes 300)))
  rw [show strOfNums (ofsBytes 300) = ⟨#[129, 44]⟩ by decide +kernel] at t3
  clear ho3 hb3 t2
  go_wp2_with fail
  refine (head_any 3 5 (by omega) (by omega) w3).mono ?_
  rintro e w4 ⟨⟨a4, k4, c4, rfl, ho4⟩, hb4⟩
  have HB4 : Hid (Below w.heap.size w w4) := HB3.out.trans (hb4.mono HB3.out.size)
  have t4 := text_run w4 a4 k4 c4 _ (ho4.bytes (range_of_mem (headBytes_bytes 3 5 (by omega))))
  rw [show strOfNums (headBytes 3 5) = ⟨#[53]⟩ by decide +kernel] at t4
  clear ho4 hb4 t3
  go_wp2_with fail
  refine (head_any 3 300 (by omega) (by omega) w4).mono ?_
  rintro e w5 ⟨⟨a5, k5, c5, rfl, ho5⟩, hb5⟩
  have HB5 : Hid (Below w.heap.size w w5) := HB4.out.trans (hb5.mono HB4.out.size)
  have t5 := text_run w5 a5 k5 c5 _ (ho5.bytes (range_of_mem (headBytes_bytes 3 300 (by omega))))
  rw [show strOfNums (headBytes 3 300) = ⟨#[188, 18]⟩ by decide +kernel] at t5
  clear ho5 hb5 t4
  go_wp2_with fail
  go_ret
  exact ⟨rfl, HB5.out⟩
end Go.Proofs.YtomnogbahjcnnaaDoor
