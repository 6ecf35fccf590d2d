/- The document's has: the walk. -/
import Derived.Test.YtindmggmblmmcaaGreatDoorCoRTxt
import Derived.BigQuiet
namespace Go.Proofs.YtindmggmblmmcaaGreatDoor
open Go.RowKit Plain
set_option linter.unusedVariables false
set_option linter.unusedSimpArgs false
def hasB (cs l : List UInt8) : Bool := l.any fun c => cs.contains c
set_option maxRecDepth 100000 in
set_option maxHeartbeats 8000000 in
theorem has_any (l cs : List UInt8) (w : World) (hl : l.length ≤ 1000000) (hc : cs.length ≤ 1000) :
    Calls Tryz.prog 55 #[.string (txt l), .string (txt cs)] w fun e w' => e = .returned (.bool (hasB cs l)) ∧ Below w.heap.size w w' := by
  have hz1 := txt_size l
  have hz2 := txt_size cs
  obtain ⟨n, hn⟩ : ∃ n, l.length = n := ⟨_, rfl⟩
  obtain ⟨m, hm⟩ : ∃ n, cs.length = n := ⟨_, rfl⟩
  have HN := Lib.hid hn
  have HM := Lib.hid hm
  have HNB : Hid (n ≤ 1000000 ∧ m ≤ 1000) := by show _ ∧ _; omega
  rw [hn] at hz1
  rw [hm] at hz2
  clear hl hc hn hm
  go_enter Tryz.func55, Tryz.ntmps55
  go_wp2_with fail
  go_loopw [5] (fun i wr => ∃ k : Nat, k ≤ n ∧ i = .int .i64 (k : Int) ∧ hasB cs (l.take k) = false ∧ Below w.heap.size w wr) (fun i _ => n - (intOf i).toNat)
  case atStart => exact ⟨0, Nat.zero_le _, rfl, rfl, Below.refl _ _⟩
  case round =>
    obtain ⟨k, hk, rfl, hno, hb⟩ := hrel
    have HB := Lib.hid hb
    clear hb
    have HNO := Lib.hid hno
    have WK := Lib.hid (next_int k (by have := HNB.out; omega))
    clear hno
    by_cases hkn : k < n
    · have hki : (k : Int) < (n : Int) := by omega
      have HKN := Lib.hid hkn
      obtain ⟨c, hc⟩ : ∃ c, l[k]? = some c := ⟨_, List.getElem?_eq_getElem (by rw [HN.out]; exact hkn)⟩
      have hix := fun W => index_text (txt l) k (by rw [hz1]; exact hkn) (k : Int) rfl W
      rw [at8_txt, hc, Option.getD_some] at hix
      have HC := Lib.hid hc
      have HSN : Hid (hasB cs (l.take (k + 1)) = cs.contains c) := by show _ = _; unfold hasB; rw [any_take_snoc hc]; have := HNO.out; unfold hasB at this; rw [this]; rfl
      clear hkn hk hc
      go_wp2_with fail
      go_loopw [6] (fun i wr => ∃ j : Nat, j ≤ m ∧ i = .int .i64 (j : Int) ∧ c ∉ cs.take j ∧ Below w.heap.size w wr) (fun i _ => m - (intOf i).toNat)
      case atStart => exact ⟨0, Nat.zero_le _, rfl, by simp, HB.out⟩
      case round =>
        rename World => wj
        obtain ⟨j, hj, rfl, hnj, hb⟩ := hrel
        have HBJ := Lib.hid hb
        clear hb
        have HNJ := Lib.hid hnj
        have WJ := Lib.hid (next_int j (by have := HNB.out; omega))
        clear hnj
        by_cases hjm : j < m
        · have hji : (j : Int) < (m : Int) := by omega
          have HJM := Lib.hid hjm
          obtain ⟨d, hd⟩ : ∃ c, cs[j]? = some c := ⟨_, List.getElem?_eq_getElem (by rw [HM.out]; exact hjm)⟩
          have hix2 := fun W => index_text (txt cs) j (by rw [hz2]; exact hjm) (j : Int) rfl W
          rw [at8_txt, hd, Option.getD_some] at hix2
          have HD := Lib.hid hd
          clear hjm hj hd
          by_cases he : c = d
          · subst he
            have hbt : (((c.toNat : Nat) : Int) == ((c.toNat : Nat) : Int)) = true := by simp
            have HF : Hid (hasB cs l = true) := by
              show _ = _
              unfold hasB
              rw [List.any_eq_true]
              exact ⟨c, List.mem_of_getElem? HC.out, by rw [List.contains_iff_mem]; exact List.mem_of_getElem? HD.out⟩
            go_wp2_with fail
            go_quiet (fail)
            go_wp2_with fail
            (try simp only [Exit.inBlock, Exit.then])
            go_ret
            exact ⟨by rw [HF.out] <;> rfl, by first | exact HBJ.out | exact below_drewN' HBJ.out _⟩
          · have i1 : ¬ (c.toNat : Int) = (d.toNat : Int) := fun h => he (UInt8.toNat_inj.1 (by omega))
            have b1 : ((c.toNat : Int) == (d.toNat : Int)) = false := beq_eq_false_iff_ne.2 i1
            have HGO : Hid (c ∉ cs.take (j + 1)) := by
              rw [List.take_add_one, HD.out]
              intro hm
              rcases List.mem_append.1 hm with hm | hm
              · exact HNJ.out hm
              · simp at hm; exact he hm
            clear he
            generalize (c.toNat : Int) = ci at *
            generalize (d.toNat : Int) = di at *
            go_wp2_with fail
            go_quiet (fail)
            go_wp2_with fail
            exact ⟨⟨j + 1, HJM.out, by first | rw [WJ.out _ rfl] | rfl, HGO.out, by first | exact HBJ.out | exact below_drewN' HBJ.out _⟩, by have := HJM.out; (first | rw [WJ.out _ rfl] | skip); simp [intOf]; omega⟩
        · have hji : ¬ (j : Int) < (m : Int) := by omega
          have HGO : Hid (hasB cs (l.take (k + 1)) = false) := by
            show _ = _
            have h1 := HNJ.out
            rw [List.take_of_length_le (by rw [HM.out]; omega)] at h1
            rw [HSN.out, Bool.eq_false_iff]
            intro h2
            exact h1 (List.contains_iff_mem.1 h2)
          clear hjm hj
          go_wp2_with fail
          exact ⟨⟨k + 1, HKN.out, by first | rw [WK.out _ rfl] | rfl, HGO.out, HBJ.out⟩, by have := HKN.out; (first | rw [WK.out _ rfl] | skip); simp [intOf]; omega⟩
    · have hki : ¬ (k : Int) < (n : Int) := by omega
      have HF : Hid (hasB cs l = false) := by
        have h1 := HNO.out
        rw [List.take_of_length_le (by rw [HN.out]; omega)] at h1
        exact h1
      clear hkn hk
      go_wp2_with fail
      go_ret
      exact ⟨by rw [HF.out] <;> rfl, HB.out⟩
end Go.Proofs.YtindmggmblmmcaaGreatDoor
