/- The document's cut: the walk. -/
import Derived.Test.YtindmggmblmmcaaGreatDoorCoKnown
namespace Go.Proofs.YtindmggmblmmcaaGreatDoor
open Go.RowKit Plain
set_option linter.unusedVariables false
set_option linter.unusedSimpArgs false
theorem slice_front (s : ByteArray) (m : Nat) (h2 : m ≤ s.size) (x : Int) (hx : x = (m : Int)) (w : World) : (Instr.slice 9 (.string s) none (some (.int .i64 x)) none).run Tryz.prog w = .ok (.string (s.extract 0 m)) w := by
  subst hx
  have ht := Tryz.underlying9
  simp [Instr.slice, run_underlying ht, Instr.sliceBounds, run_sliceBound, h2]
theorem take_snoc {α : Type} {xs : List α} {k : Nat} {x : α} (h : xs[k]? = some x) : xs.take (k + 1) = xs.take k ++ [x] := by rw [List.take_add_one, h]; rfl
theorem front_txt (l : List UInt8) (k : Nat) : (txt l).extract 0 k = txt (l.take k) := by
  apply bytes_ext
  rw [extract_list, txt_list, txt_list]
theorem tail_txt (l : List UInt8) (k : Nat) : (txt l).extract k (txt l).size = txt (l.drop k) := by
  apply bytes_ext
  rw [ByteArray.data_extract, Array.toList_extract, txt_list, txt_list, txt_size]
  rw [List.extract_eq_take_drop, List.take_of_length_le (by rw [List.length_drop]; exact Nat.le_refl _)]
set_option maxRecDepth 100000 in
set_option maxHeartbeats 8000000 in
theorem rcut_any (l : List UInt8) (c : UInt8) (w : World) (hl : l.length ≤ 1000000) :
    Calls Tryz.prog 49 #[.string (txt l), .int .u8 (c.toNat : Int)] w fun e w' => e = .returned (.tuple #[.string (txt (Lib.cut l [c]).1), .string (txt (Lib.cut l [c]).2.1)]) ∧ Below w.heap.size w w' := by
  have HLB := Lib.hid hl
  obtain ⟨n, hn⟩ : ∃ n, (txt l).size = n := ⟨_, rfl⟩
  have HN := Lib.hid hn
  have HNL : Hid (l.length = n) := by rw [← hn, txt_size]; rfl
  have hlen : (txt l).size = n := hn
  clear hl hn
  go_enter Tryz.func49, Tryz.ntmps49
  go_wp2_with fail
  go_loopw [6] (fun i wr => ∃ k : Nat, k ≤ n ∧ i = .int .i64 (k : Int) ∧ c ∉ l.take k ∧ wr = w) (fun i _ => n - (intOf i).toNat)
  case atStart => exact ⟨0, Nat.zero_le _, rfl, by simp, rfl⟩
  case round =>
    obtain ⟨k, hk, rfl, hno, rfl⟩ := hrel
    have HNO := Lib.hid hno
    have WK := Lib.hid (next_int k (by have := HNL.out; have := HLB.out; omega))
    clear hno
    by_cases h1 : k = n
    · have hki : ¬ (k : Int) < (n : Int) := by omega
      have HC : Hid (Lib.cut l [c] = (l, [], false)) := cut_not l c (by
        have := HNO.out
        rwa [List.take_of_length_le (by have := HNL.out; omega)] at this)
      go_wp2_with fail
      go_ret2
      rw [HC.out]
      exact ⟨rfl, Below.refl _ _⟩
    · have hki : (k : Int) < (n : Int) := by omega
      have hkl : k < l.length := by have := HNL.out; omega
      obtain ⟨b, hb⟩ : ∃ b, l[k]? = some b := ⟨_, List.getElem?_eq_getElem hkl⟩
      have hix := fun W => index_text (txt l) k (by have := HNL.out; have := HN.out; omega) (k : Int) rfl W
      rw [at8_txt, hb, Option.getD_some] at hix
      have HSP : Hid (l = l.take k ++ b :: l.drop (k + 1)) := by
        obtain ⟨h, hg⟩ := List.getElem?_eq_some_iff.1 hb
        show _ = _
        rw [← hg, ← List.drop_eq_getElem_cons h, List.take_append_drop]
      have HSN : Hid (l.take (k + 1) = l.take k ++ [b]) := take_snoc hb
      have HKN : Hid (k + 1 ≤ n) := by show _ ≤ _; omega
      by_cases he : b = c
      · subst he
        have hbt : (((b.toNat : Nat) : Int) == ((b.toNat : Nat) : Int)) = true := by simp
        have HC : Hid (Lib.cut l [b] = (l.take k, l.drop (k + 1), true)) := by
          have := cut_at (l.take k) (l.drop (k + 1)) b HNO.out
          rwa [← HSP.out] at this
        have hs1 := fun W => slice_front (txt l) k (by have := HN.out; omega) (k : Int) rfl W
        rw [front_txt] at hs1
        have hs2 := fun W => slice_tail (txt l) (k + 1) (by have := HN.out; have := HKN.out; omega) ((k : Int) + 1) (by omega) W
        rw [tail_txt] at hs2
        have hwr : IntKind.i64.wrap ((k : Int) + 1) = (k : Int) + 1 := IntWalk.i64_in _ (by have := HNL.out; have := HLB.out; omega)
        have hww : wrap64 ((k : Int) + 1) = (k : Int) + 1 := IntWalk.wrap64_in _ (by have := HNL.out; have := HLB.out; omega)
        clear h1 hb hk
        go_wp2_with fail
        refine wp_region_noPanic ?_
        refine wp_region_held_drew (S := fun _ => True) (by kernel_rfl) ?_ (fun hHeld => ?_)
        · exact True.intro
        refine wpAnyH_take (i := 0) (v := ?_) (by simp only [List.getElem?_toArray, List.getElem?_cons_zero]; rfl) (by kernel_rfl) (by kernel_rfl) (by kernel_rfl) (fun _ _ _ h => h) (Or.inl ⟨by rfl, ?_⟩) (by assumption) ?_
        rotate_left
        · intro W hSW
          go_simp
          try with_reducible rfl
        try simp only [Act.put, List.setIfInBounds_toArray, List.set_cons_zero, List.set_cons_succ]
        refine wpAnyH_take (i := 1) (v := ?_) (by simp only [List.getElem?_toArray, List.getElem?_cons_succ, List.getElem?_cons_zero]; rfl) (by kernel_rfl) (by kernel_rfl) (by kernel_rfl) (fun _ _ _ h => h) (Or.inl ⟨by rfl, ?_⟩) (by assumption) ?_
        rotate_left
        · intro W hSW
          go_simp
          try with_reducible rfl
        try simp only [Act.put, List.setIfInBounds_toArray, List.set_cons_zero, List.set_cons_succ]
        refine wpAnyH_take (i := 2) (v := ?_) (by simp only [List.getElem?_toArray, List.getElem?_cons_succ, List.getElem?_cons_zero]; rfl) (by kernel_rfl) (by kernel_rfl) (by kernel_rfl) (fun _ _ _ h => h) (Or.inl ⟨by rfl, ?_⟩) (by assumption) ?_
        rotate_left
        · intro W hSW
          go_simp
          try with_reducible rfl
        try simp only [Act.put, List.setIfInBounds_toArray, List.set_cons_zero, List.set_cons_succ]
        refine wpAnyH_take (i := 3) (v := ?_) (by simp only [List.getElem?_toArray, List.getElem?_cons_succ, List.getElem?_cons_zero]; rfl) (by kernel_rfl) (by kernel_rfl) (by kernel_rfl) (fun _ _ _ h => h) (Or.inl ⟨by rfl, ?_⟩) (by assumption) ?_
        rotate_left
        · intro W hSW
          go_simp
          try with_reducible rfl
        try simp only [Act.put, List.setIfInBounds_toArray, List.set_cons_zero, List.set_cons_succ]
        refine wpAnyH_take (i := 4) (v := ?_) (by simp only [List.getElem?_toArray, List.getElem?_cons_succ, List.getElem?_cons_zero]; rfl) (by kernel_rfl) (by kernel_rfl) (by kernel_rfl) (fun _ _ _ h => h) (Or.inl ⟨by rfl, ?_⟩) (by assumption) ?_
        rotate_left
        · intro W hSW
          go_simp
          try with_reducible rfl
        try simp only [Act.put, List.setIfInBounds_toArray, List.set_cons_zero, List.set_cons_succ]
        refine wpAnyH_take (i := 5) (v := ?_) (by simp only [List.getElem?_toArray, List.getElem?_cons_succ, List.getElem?_cons_zero]; rfl) (by kernel_rfl) (by kernel_rfl) (by kernel_rfl) (fun _ _ _ h => h) (Or.inl ⟨by rfl, ?_⟩) (by assumption) ?_
        rotate_left
        · intro W hSW
          go_simp
          try with_reducible rfl
        try simp only [Act.put, List.setIfInBounds_toArray, List.set_cons_zero, List.set_cons_succ]
        refine wpAnyH_take (i := 6) (v := ?_) (by simp only [List.getElem?_toArray, List.getElem?_cons_succ, List.getElem?_cons_zero]; rfl) (by kernel_rfl) (by kernel_rfl) (by kernel_rfl) (fun _ _ _ h => h) (Or.inl ⟨by rfl, ?_⟩) (by assumption) ?_
        rotate_left
        · intro W hSW
          go_simp
          try with_reducible rfl
        try simp only [Act.put, List.setIfInBounds_toArray, List.set_cons_zero, List.set_cons_succ]
        refine wpAnyH_take (i := 7) (v := ?_) (by simp only [List.getElem?_toArray, List.getElem?_cons_succ, List.getElem?_cons_zero]; rfl) (by kernel_rfl) (by kernel_rfl) (by kernel_rfl) (fun _ _ _ h => h) (Or.inl ⟨by rfl, ?_⟩) (by assumption) ?_
        rotate_left
        · intro W hSW
          go_simp
          try with_reducible rfl
        try simp only [Act.put, List.setIfInBounds_toArray, List.set_cons_zero, List.set_cons_succ]
        refine wpAnyH_take (i := 8) (v := ?_) (by simp only [List.getElem?_toArray, List.getElem?_cons_succ, List.getElem?_cons_zero]; rfl) (by kernel_rfl) (by kernel_rfl) (by kernel_rfl) (fun _ _ _ h => h) (Or.inl ⟨by rfl, ?_⟩) (by assumption) ?_
        rotate_left
        · intro W hSW
          go_simp
          try with_reducible rfl
        try simp only [Act.put, List.setIfInBounds_toArray, List.set_cons_zero, List.set_cons_succ]
        refine wpAnyH_done (by kernel_rfl) ?_ _
        refine NoPanic.normal ?_
        clear hHeld
        go_wp2_with fail
        go_ret2
        rw [HC.out]
        exact ⟨rfl, (Below.refl _ _).drew⟩
      · have hne : (((b.toNat : Nat) : Int) == ((c.toNat : Nat) : Int)) = false := by
          rw [beq_eq_false_iff_ne]
          intro e
          exact he (UInt8.toNat_inj.1 (by omega))
        have hne2 : ¬ ((b.toNat : Nat) : Int) = ((c.toNat : Nat) : Int) := by
          intro e
          exact he (UInt8.toNat_inj.1 (by omega))
        have HN2 : Hid (c ∉ l.take (k + 1)) := by
          show _ ∉ _
          rw [HSN.out]
          intro hm
          rcases List.mem_append.1 hm with hm | hm
          · exact HNO.out hm
          · exact he (List.mem_singleton.1 hm).symm
        clear h1 hb hk he
        go_wp2_with fail
        try rw [WK.out ((k : Int) + 1) rfl]
        exact ⟨⟨k + 1, HKN.out, rfl, HN2.out, by first | rfl | trivial⟩, by simp [intOf]; have := HKN.out; omega⟩
end Go.Proofs.YtindmggmblmmcaaGreatDoor
