/- The document's text of a person: the walk. -/
import Derived.Test.YtindmggmblmmcaaGreatDoorCoNum
import Derived.BigQuiet
/-! The document's text of a person: the walk. -/
namespace Go.Proofs.YtindmggmblmmcaaGreatDoor
open Go.RowKit Plain
set_option linter.unusedVariables false
set_option linter.unusedSimpArgs false
set_option maxRecDepth 100000 in
set_option maxHeartbeats 8000000 in
theorem rtext_any (x : WX) (w : World) (hE : EnvC w) (hs : WhoSmall x) : Calls Tryz.prog 28 #[.agg (whoA x)] w fun e w' => e = .returned (.string (txt (whoT x))) ∧ Below w.heap.size w w' := by
  have HE := Lib.hid hE
  have HS := Lib.hid hs
  have HTB : Hid (-9223372036854775808 ≤ x.t ∧ x.t ≤ 9223372036854775807) := hs.2.2.2
  have HB0 : Hid (Below w.heap.size w (w.alloc (.cells (whoA x) 25))) := (Below.refl _ _).alloc (Nat.le_refl _) _
  have HR0 : Hid ((w.alloc (.cells (whoA x) 25)).heap[w.heap.size]? = some (.cells (whoA x) 25 (0, 0))) := heap_alloc_new _ _
  have hla := itoa_len x.t HTB.out
  have hn := hs.1
  have hm := hs.2.1
  have hz := hs.2.2.1
  obtain ⟨T1, h1⟩ : ∃ l, x.n.data.toList ++ [32, 60] = l := ⟨_, rfl⟩
  obtain ⟨T2, h2⟩ : ∃ l, T1 ++ x.m.data.toList = l := ⟨_, rfl⟩
  obtain ⟨T3, h3⟩ : ∃ l, T2 ++ [62, 32] = l := ⟨_, rfl⟩
  obtain ⟨T4, h4⟩ : ∃ l, T3 ++ Lib.itoa x.t = l := ⟨_, rfl⟩
  obtain ⟨T5, h5⟩ : ∃ l, T4 ++ [32] = l := ⟨_, rfl⟩
  obtain ⟨T6, h6⟩ : ∃ l, T5 ++ x.z.data.toList = l := ⟨_, rfl⟩
  have l1 : T1.length ≤ 40002 := by rw [← h1, List.length_append, ← Lib.size_eq]; simp; omega
  have l2 : T2.length ≤ 80002 := by rw [← h2, List.length_append, ← Lib.size_eq]; omega
  have l3 : T3.length ≤ 80004 := by rw [← h3, List.length_append]; simp; omega
  have l4 : T4.length ≤ 80025 := by rw [← h4, List.length_append]; omega
  have l5 : T5.length ≤ 80026 := by rw [← h5, List.length_append]; simp; omega
  have HA1 : Hid (∀ W, (binOp .add 9 (.string x.n) (.string ⟨#[32, 60]⟩)).run Tryz.prog W = .ok (.string (txt T1)) W) := fun W => add_txt _ _ _ h1 (by show _ + 2 ≤ _; omega) W
  have HA2 : Hid (∀ W, (binOp .add 9 (.string (txt T1)) (.string x.m)).run Tryz.prog W = .ok (.string (txt T2)) W) := fun W => add_txt _ _ _ (by rw [txt_list]; exact h2) (by rw [txt_size]; omega) W
  have HA3 : Hid (∀ W, (binOp .add 9 (.string (txt T2)) (.string ⟨#[62, 32]⟩)).run Tryz.prog W = .ok (.string (txt T3)) W) := fun W => add_txt _ _ _ (by rw [txt_list]; exact h3) (by rw [txt_size]; show _ + 2 ≤ _; omega) W
  have HA4 : Hid (∀ W, (binOp .add 9 (.string (txt T3)) (.string (txt (Lib.itoa x.t)))).run Tryz.prog W = .ok (.string (txt T4)) W) := fun W => add_txt _ _ _ (by rw [txt_list, txt_list]; exact h4) (by rw [txt_size, txt_size]; omega) W
  have HA5 : Hid (∀ W, (binOp .add 9 (.string (txt T4)) (.string ⟨#[32]⟩)).run Tryz.prog W = .ok (.string (txt T5)) W) := fun W => add_txt _ _ _ (by rw [txt_list]; exact h5) (by rw [txt_size]; show _ + 1 ≤ _; omega) W
  have HA6 : Hid (∀ W, (binOp .add 9 (.string (txt T5)) (.string x.z)).run Tryz.prog W = .ok (.string (txt T6)) W) := fun W => add_txt _ _ _ (by rw [txt_list]; exact h6) (by rw [txt_size]; omega) W
  have HT6 : Hid (whoT x = T6) := by show _ = _; rw [← h6, ← h5, ← h4, ← h3, ← h2, ← h1]; rfl
  clear hs hE hla hn hm hz h1 h2 h3 h4 h5 h6 l1 l2 l3 l4 l5
  go_enter Tryz.func28, Tryz.ntmps28
  go_wp2_with fail
  generalize w.alloc (.cells (whoA x) 25) = w0 at *
  obtain ⟨p0, hp0⟩ : ∃ p, w.heap.size = p := ⟨_, rfl⟩
  rw [hp0] at HR0 ⊢
  have HPE := Lib.hid hp0
  clear hp0
  have HLT : Hid (p0 < w0.heap.size) := (Array.getElem?_eq_some_iff.1 HR0.out).1
  have HC0 : Hid (∀ W, Below w0.heap.size w0 W → W.cell? ⟨p0, 0, none⟩ = some (.string x.n)) := fun W hW => (hW.cell (p := ⟨p0, 0, none⟩) HLT.out).trans (who_cell HR0.out).1
  have HC1 : Hid (∀ W, Below w0.heap.size w0 W → W.cell? ⟨p0, 1, none⟩ = some (.string x.m)) := fun W hW => (hW.cell (p := ⟨p0, 1, none⟩) HLT.out).trans (who_cell HR0.out).2.1
  have HC2 : Hid (∀ W, Below w0.heap.size w0 W → W.cell? ⟨p0, 2, none⟩ = some (.int .i64 x.t)) := fun W hW => (hW.cell (p := ⟨p0, 2, none⟩) HLT.out).trans (who_cell HR0.out).2.2.1
  have HC3 : Hid (∀ W, Below w0.heap.size w0 W → W.cell? ⟨p0, 3, none⟩ = some (.string x.z)) := fun W hW => (hW.cell (p := ⟨p0, 3, none⟩) HLT.out).trans (who_cell HR0.out).2.2.2
  refine wp_region_noPanic ?_
  refine wp_region_held_drew (S := fun W => Below w0.heap.size w0 W) (by kernel_rfl) ?_ (fun hHeld => ?_)
  · exact (Below.refl _ _).drew
  refine wpAnyH_take (i := 0) (v := ?_) (by simp only [List.getElem?_toArray, List.getElem?_cons_zero]; rfl) (by kernel_rfl) (by kernel_rfl) (by kernel_rfl) (fun _ _ _ h => h) (Or.inl ⟨by rfl, ?_⟩) (by assumption) ?_
  rotate_left
  · intro W hSW
    go_simp
    try with_reducible rfl
  try simp only [Act.put, List.setIfInBounds_toArray, List.set_cons_zero, List.set_cons_succ]
  refine wpAnyH_take (i := 1) (by simp only [List.getElem?_toArray, List.getElem?_cons_succ, List.getElem?_cons_zero]; rfl) (by kernel_rfl) (by kernel_rfl) (by kernel_rfl) (fun _ _ _ h => h) (yieldsIf_load_str (by rfl) 9 _ rfl p0 0 rfl x.n (fun W hSW => HC0.out W hSW) Tryz.underlying9) (by assumption) ?_
  try simp only [Act.put, List.setIfInBounds_toArray, List.set_cons_zero, List.set_cons_succ]
  refine wpAnyH_take (i := 2) (by simp only [List.getElem?_toArray, List.getElem?_cons_succ, List.getElem?_cons_zero]; rfl) (by kernel_rfl) (by kernel_rfl) (by kernel_rfl) (fun _ _ _ h => h) (yieldsIf_eql (by rfl) .add 9 _ _ _ rfl (.string x.n) (.string ⟨#[32, 60]⟩) rfl rfl (.string (txt T1)) (guard_addn _ _ _ _) (fun W => HA1.out W)) (by assumption) ?_
  try simp only [Act.put, List.setIfInBounds_toArray, List.set_cons_zero, List.set_cons_succ]
  refine wpAnyH_take (i := 3) (v := ?_) (by simp only [List.getElem?_toArray, List.getElem?_cons_succ, List.getElem?_cons_zero]; rfl) (by kernel_rfl) (by kernel_rfl) (by kernel_rfl) (fun _ _ _ h => h) (Or.inl ⟨by rfl, ?_⟩) (by assumption) ?_
  rotate_left
  · intro W hSW
    go_simp
    try with_reducible rfl
  try simp only [Act.put, List.setIfInBounds_toArray, List.set_cons_zero, List.set_cons_succ]
  refine wpAnyH_take (i := 4) (by simp only [List.getElem?_toArray, List.getElem?_cons_succ, List.getElem?_cons_zero]; rfl) (by kernel_rfl) (by kernel_rfl) (by kernel_rfl) (fun _ _ _ h => h) (yieldsIf_load_str (by rfl) 9 _ rfl p0 1 rfl x.m (fun W hSW => HC1.out W hSW) Tryz.underlying9) (by assumption) ?_
  try simp only [Act.put, List.setIfInBounds_toArray, List.set_cons_zero, List.set_cons_succ]
  refine wpAnyH_take (i := 5) (by simp only [List.getElem?_toArray, List.getElem?_cons_succ, List.getElem?_cons_zero]; rfl) (by kernel_rfl) (by kernel_rfl) (by kernel_rfl) (fun _ _ _ h => h) (yieldsIf_eql (by rfl) .add 9 _ _ _ rfl (.string (txt T1)) (.string x.m) rfl rfl (.string (txt T2)) (guard_addn _ _ _ _) (fun W => HA2.out W)) (by assumption) ?_
  try simp only [Act.put, List.setIfInBounds_toArray, List.set_cons_zero, List.set_cons_succ]
  refine wpAnyH_take (i := 6) (by simp only [List.getElem?_toArray, List.getElem?_cons_succ, List.getElem?_cons_zero]; rfl) (by kernel_rfl) (by kernel_rfl) (by kernel_rfl) (fun _ _ _ h => h) (yieldsIf_eql (by rfl) .add 9 _ _ _ rfl (.string (txt T2)) (.string ⟨#[62, 32]⟩) rfl rfl (.string (txt T3)) (guard_addn _ _ _ _) (fun W => HA3.out W)) (by assumption) ?_
  try simp only [Act.put, List.setIfInBounds_toArray, List.set_cons_zero, List.set_cons_succ]
  refine wpAnyH_take (i := 7) (v := ?_) (by simp only [List.getElem?_toArray, List.getElem?_cons_succ, List.getElem?_cons_zero]; rfl) (by kernel_rfl) (by kernel_rfl) (by kernel_rfl) (fun _ _ _ h => h) (Or.inl ⟨by rfl, ?_⟩) (by assumption) ?_
  rotate_left
  · intro W hSW
    go_simp
    try with_reducible rfl
  try simp only [Act.put, List.setIfInBounds_toArray, List.set_cons_zero, List.set_cons_succ]
  refine wpAnyH_take (i := 8) (by simp only [List.getElem?_toArray, List.getElem?_cons_succ, List.getElem?_cons_zero]; rfl) (by kernel_rfl) (by kernel_rfl) (by kernel_rfl) (fun _ _ _ h => h) (yieldsIf_load_int (by rfl) 3 _ rfl p0 2 rfl x.t (fun W hSW => HC2.out W hSW) Tryz.underlying3) (by assumption) ?_
  try simp only [Act.put, List.setIfInBounds_toArray, List.set_cons_zero, List.set_cons_succ]
  refine wpAnyH_take (i := 12) (v := ?_) (by simp only [List.getElem?_toArray, List.getElem?_cons_succ, List.getElem?_cons_zero]; rfl) (by kernel_rfl) (by kernel_rfl) (by kernel_rfl) (fun _ _ _ h => h) (Or.inl ⟨by rfl, ?_⟩) (by assumption) ?_
  rotate_left
  · intro W hSW
    go_simp
    try with_reducible rfl
  try simp only [Act.put, List.setIfInBounds_toArray, List.set_cons_zero, List.set_cons_succ]
  refine wpAnyH_take (i := 13) (by simp only [List.getElem?_toArray, List.getElem?_cons_succ, List.getElem?_cons_zero]; rfl) (by kernel_rfl) (by kernel_rfl) (by kernel_rfl) (fun _ _ _ h => h) (yieldsIf_load_str (by rfl) 9 _ rfl p0 3 rfl x.z (fun W hSW => HC3.out W hSW) Tryz.underlying9) (by assumption) ?_
  try simp only [Act.put, List.setIfInBounds_toArray, List.set_cons_zero, List.set_cons_succ]
  refine wpAnyH_ready (rs := [9]) (by kernel_rfl) (by simp) ?_
  refine AllReadyH.cons (by simp only [List.getElem?_toArray, List.getElem?_cons_succ, List.getElem?_cons_zero]; rfl) (fun K hK => ?_) AllReadyH.nil
  go_simp
  refine (rdec_any x.t HTB.out.1 HTB.out.2 _).mono ?_
  rintro e v1 ⟨rfl, hb⟩
  have hb1 : Below w0.heap.size w0 v1 := (Below.refl _ _).drew.trans hb
  have HV1 := Lib.hid hb1
  clear hb hb1
  go_wp2_with fail
  refine hK.out _ _ (HV1.out) (fun hHeld2 => ?_)
  clear hK K hHeld
  have hHeld := hHeld2
  clear hHeld2
  try simp only [Act.put, List.setIfInBounds_toArray, List.set_cons_zero, List.set_cons_succ]
  refine wpAnyH_take (i := 10) (by simp only [List.getElem?_toArray, List.getElem?_cons_succ, List.getElem?_cons_zero]; rfl) (by kernel_rfl) (by kernel_rfl) (by kernel_rfl) (fun _ _ _ h => h) (yieldsIf_eql (by rfl) .add 9 _ _ _ rfl (.string (txt T3)) (.string (txt (Lib.itoa x.t))) rfl rfl (.string (txt T4)) (guard_addn _ _ _ _) (fun W => HA4.out W)) (by assumption) ?_
  try simp only [Act.put, List.setIfInBounds_toArray, List.set_cons_zero, List.set_cons_succ]
  refine wpAnyH_take (i := 11) (by simp only [List.getElem?_toArray, List.getElem?_cons_succ, List.getElem?_cons_zero]; rfl) (by kernel_rfl) (by kernel_rfl) (by kernel_rfl) (fun _ _ _ h => h) (yieldsIf_eql (by rfl) .add 9 _ _ _ rfl (.string (txt T4)) (.string ⟨#[32]⟩) rfl rfl (.string (txt T5)) (guard_addn _ _ _ _) (fun W => HA5.out W)) (by assumption) ?_
  try simp only [Act.put, List.setIfInBounds_toArray, List.set_cons_zero, List.set_cons_succ]
  refine wpAnyH_take (i := 14) (by simp only [List.getElem?_toArray, List.getElem?_cons_succ, List.getElem?_cons_zero]; rfl) (by kernel_rfl) (by kernel_rfl) (by kernel_rfl) (fun _ _ _ h => h) (yieldsIf_eql (by rfl) .add 9 _ _ _ rfl (.string (txt T5)) (.string x.z) rfl rfl (.string (txt T6)) (guard_addn _ _ _ _) (fun W => HA6.out W)) (by assumption) ?_
  try simp only [Act.put, List.setIfInBounds_toArray, List.set_cons_zero, List.set_cons_succ]
  refine wpAnyH_take (i := 15) (v := ?_) (by simp only [List.getElem?_toArray, List.getElem?_cons_succ, List.getElem?_cons_zero]; rfl) (by kernel_rfl) (by kernel_rfl) (by kernel_rfl) (fun _ _ _ h => h) (Or.inl ⟨by rfl, ?_⟩) (by assumption) ?_
  rotate_left
  · intro W hSW
    go_simp
    try with_reducible rfl
  try simp only [Act.put, List.setIfInBounds_toArray, List.set_cons_zero, List.set_cons_succ]
  refine wpAnyH_done (by kernel_rfl) ?_ _
  refine NoPanic.normal ?_
  clear hHeld
  go_wp2_with fail
  go_ret
  rw [HT6.out]
  exact ⟨rfl, HB0.out.trans (HV1.out.mono HB0.out.size)⟩
end Go.Proofs.YtindmggmblmmcaaGreatDoor
/-! The document's has: the walk. -/
namespace Go.Proofs.YtindmggmblmmcaaGreatDoor
open Go.RowKit Plain
set_option linter.unusedVariables false
set_option linter.unusedSimpArgs false
def hasB (cs l : List UInt8) : Bool := l.any fun c => cs.contains c
set_option maxRecDepth 100000 in
set_option maxHeartbeats 8000000 in
theorem has_any (l cs : List UInt8) (w : World) (hl : l.length ≤ 1000000) (hc : cs.length ≤ 1000) :
    Calls Tryz.prog 55 #[.string (txt l), .string (txt cs)] w fun e w' => e = .returned (.bool (hasB cs l)) ∧ Below w.heap.size w w' := by
  have hz1 := txt_size l
  have hz2 := txt_size cs
  obtain ⟨n, hn⟩ : ∃ n, l.length = n := ⟨_, rfl⟩
  obtain ⟨m, hm⟩ : ∃ n, cs.length = n := ⟨_, rfl⟩
  have HN := Lib.hid hn
  have HM := Lib.hid hm
  have HNB : Hid (n ≤ 1000000 ∧ m ≤ 1000) := by show _ ∧ _; omega
  rw [hn] at hz1
  rw [hm] at hz2
  clear hl hc hn hm
  go_enter Tryz.func55, Tryz.ntmps55
  go_wp2_with fail
  go_loopw [5] (fun i wr => ∃ k : Nat, k ≤ n ∧ i = .int .i64 (k : Int) ∧ hasB cs (l.take k) = false ∧ Below w.heap.size w wr) (fun i _ => n - (intOf i).toNat)
  case atStart => exact ⟨0, Nat.zero_le _, rfl, rfl, Below.refl _ _⟩
  case round =>
    obtain ⟨k, hk, rfl, hno, hb⟩ := hrel
    have HB := Lib.hid hb
    clear hb
    have HNO := Lib.hid hno
    have WK := Lib.hid (next_int k (by have := HNB.out; omega))
    clear hno
    by_cases hkn : k < n
    · have hki : (k : Int) < (n : Int) := by omega
      have HKN := Lib.hid hkn
      obtain ⟨c, hc⟩ : ∃ c, l[k]? = some c := ⟨_, List.getElem?_eq_getElem (by rw [HN.out]; exact hkn)⟩
      have hix := fun W => index_text (txt l) k (by rw [hz1]; exact hkn) (k : Int) rfl W
      rw [at8_txt, hc, Option.getD_some] at hix
      have HC := Lib.hid hc
      have HSN : Hid (hasB cs (l.take (k + 1)) = cs.contains c) := by show _ = _; unfold hasB; rw [any_take_snoc hc]; have := HNO.out; unfold hasB at this; rw [this]; rfl
      clear hkn hk hc
      go_wp2_with fail
      go_loopw [6] (fun i wr => ∃ j : Nat, j ≤ m ∧ i = .int .i64 (j : Int) ∧ c ∉ cs.take j ∧ Below w.heap.size w wr) (fun i _ => m - (intOf i).toNat)
      case atStart => exact ⟨0, Nat.zero_le _, rfl, by simp, HB.out⟩
      case round =>
        rename World => wj
        obtain ⟨j, hj, rfl, hnj, hb⟩ := hrel
        have HBJ := Lib.hid hb
        clear hb
        have HNJ := Lib.hid hnj
        have WJ := Lib.hid (next_int j (by have := HNB.out; omega))
        clear hnj
        by_cases hjm : j < m
        · have hji : (j : Int) < (m : Int) := by omega
          have HJM := Lib.hid hjm
          obtain ⟨d, hd⟩ : ∃ c, cs[j]? = some c := ⟨_, List.getElem?_eq_getElem (by rw [HM.out]; exact hjm)⟩
          have hix2 := fun W => index_text (txt cs) j (by rw [hz2]; exact hjm) (j : Int) rfl W
          rw [at8_txt, hd, Option.getD_some] at hix2
          have HD := Lib.hid hd
          clear hjm hj hd
          by_cases he : c = d
          · subst he
            have hbt : (((c.toNat : Nat) : Int) == ((c.toNat : Nat) : Int)) = true := by simp
            have HF : Hid (hasB cs l = true) := by
              show _ = _
              unfold hasB
              rw [List.any_eq_true]
              exact ⟨c, List.mem_of_getElem? HC.out, by rw [List.contains_iff_mem]; exact List.mem_of_getElem? HD.out⟩
            go_wp2_with fail
            go_quiet (fail)
            go_wp2_with fail
            (try simp only [Exit.inBlock, Exit.then])
            go_ret
            exact ⟨by rw [HF.out] <;> rfl, by first | exact HBJ.out | exact below_drewN' HBJ.out _⟩
          · have i1 : ¬ (c.toNat : Int) = (d.toNat : Int) := fun h => he (UInt8.toNat_inj.1 (by omega))
            have b1 : ((c.toNat : Int) == (d.toNat : Int)) = false := beq_eq_false_iff_ne.2 i1
            have HGO : Hid (c ∉ cs.take (j + 1)) := by
              rw [List.take_add_one, HD.out]
              intro hm
              rcases List.mem_append.1 hm with hm | hm
              · exact HNJ.out hm
              · simp at hm; exact he hm
            clear he
            generalize (c.toNat : Int) = ci at *
            generalize (d.toNat : Int) = di at *
            go_wp2_with fail
            go_quiet (fail)
            go_wp2_with fail
            exact ⟨⟨j + 1, HJM.out, by first | rw [WJ.out _ rfl] | rfl, HGO.out, by first | exact HBJ.out | exact below_drewN' HBJ.out _⟩, by have := HJM.out; (first | rw [WJ.out _ rfl] | skip); simp [intOf]; omega⟩
        · have hji : ¬ (j : Int) < (m : Int) := by omega
          have HGO : Hid (hasB cs (l.take (k + 1)) = false) := by
            show _ = _
            have h1 := HNJ.out
            rw [List.take_of_length_le (by rw [HM.out]; omega)] at h1
            rw [HSN.out, Bool.eq_false_iff]
            intro h2
            exact h1 (List.contains_iff_mem.1 h2)
          clear hjm hj
          go_wp2_with fail
          exact ⟨⟨k + 1, HKN.out, by first | rw [WK.out _ rfl] | rfl, HGO.out, HBJ.out⟩, by have := HKN.out; (first | rw [WK.out _ rfl] | skip); simp [intOf]; omega⟩
    · have hki : ¬ (k : Int) < (n : Int) := by omega
      have HF : Hid (hasB cs l = false) := by
        have h1 := HNO.out
        rw [List.take_of_length_le (by rw [HN.out]; omega)] at h1
        exact h1
      clear hkn hk
      go_wp2_with fail
      go_ret
      exact ⟨by rw [HF.out] <;> rfl, HB.out⟩
end Go.Proofs.YtindmggmblmmcaaGreatDoor
/-! The document's test of a person: the walk. -/
namespace Go.Proofs.YtindmggmblmmcaaGreatDoor
open Go.RowKit Plain
set_option linter.unusedVariables false
set_option linter.unusedSimpArgs false
theorem whoB_has (x : WX) : whoB x = (!(hasB badW x.n.data.toList || hasB badW x.m.data.toList) && decide (0 ≤ x.t) && decide (x.t ≤ 4611686018427387903) && zoneB x.z.data.toList) := by
  unfold whoB noAny hasB
  rw [List.any_append]
set_option maxRecDepth 100000 in
set_option maxHeartbeats 8000000 in
theorem rperson_any (x : WX) (w : World) (hs : WhoSmall x) : Calls Tryz.prog 26 #[.agg (whoA x)] w fun e w' => e = .returned (.bool (whoB x)) ∧ Below w.heap.size w w' := by
  have HS := Lib.hid hs
  have HB0 : Hid (Below w.heap.size w (w.alloc (.cells (whoA x) 25))) := (Below.refl _ _).alloc (Nat.le_refl _) _
  have HR0 : Hid ((w.alloc (.cells (whoA x) 25)).heap[w.heap.size]? = some (.cells (whoA x) 25 (0, 0))) := heap_alloc_new _ _
  obtain ⟨hc0, hc1, hc2, hc3⟩ := who_cell HR0.out
  have HA := Lib.hid fun W => has_any x.n.data.toList badW W (by rw [← Lib.size_eq]; have := HS.out.1; omega) (by decide)
  have HM := Lib.hid fun W => has_any x.m.data.toList badW W (by rw [← Lib.size_eq]; have := HS.out.2.1; omega) (by decide)
  simp only [txt_of] at HA HM
  obtain ⟨b1, hb1⟩ : ∃ b, hasB badW x.n.data.toList = b := ⟨_, rfl⟩
  obtain ⟨b2, hb2⟩ : ∃ b, hasB badW x.m.data.toList = b := ⟨_, rfl⟩
  have HWB : Hid (whoB x = (!(b1 || b2) && decide (0 ≤ x.t) && decide (x.t ≤ 4611686018427387903) && zoneB x.z.data.toList)) := by show _ = _; rw [whoB_has, hb1, hb2]
  simp only [hb1] at HA
  simp only [hb2] at HM
  clear hs hb1 hb2
  go_enter Tryz.func26, Tryz.ntmps26
  go_wp2_with fail
  clear hc0 hc1 hc2 hc3
  generalize w.alloc (.cells (whoA x) 25) = w0 at *
  obtain ⟨p0, hp0⟩ : ∃ p, w.heap.size = p := ⟨_, rfl⟩
  simp only [hp0] at HR0 ⊢
  have HPE := Lib.hid hp0
  clear hp0
  refine (HA.out w0).mono ?_
  rintro e w1 ⟨rfl, hb⟩
  have HR1 := Lib.hid ((hb.block p0 (Array.getElem?_eq_some_iff.1 HR0.out).1).trans HR0.out)
  have HB1 := Lib.hid (HB0.out.trans (hb.mono HB0.out.size))
  clear hb
  cases b1
  rotate_left
  · have HF : Hid (whoB x = false) := by show _ = _; rw [HWB.out]; rfl
    go_wp2_with fail
    go_ret
    exact ⟨by rw [HF.out] <;> rfl, HB1.out⟩
  obtain ⟨hc0, hc1, hc2, hc3⟩ := who_cell HR1.out
  go_wp2_with fail
  clear hc0 hc1 hc2 hc3
  refine (HM.out w1).mono ?_
  rintro e w2 ⟨rfl, hb⟩
  have HR2 := Lib.hid ((hb.block p0 (Array.getElem?_eq_some_iff.1 HR1.out).1).trans HR1.out)
  have HB2 := Lib.hid (HB1.out.trans (hb.mono HB1.out.size))
  clear hb
  cases b2
  rotate_left
  · have HF : Hid (whoB x = false) := by show _ = _; rw [HWB.out]; rfl
    go_wp2_with fail
    go_ret
    exact ⟨by rw [HF.out] <;> rfl, HB2.out⟩
  obtain ⟨-, -, hc2, hc3⟩ := who_cell HR2.out
  by_cases h0 : x.t < 0
  · have HF : Hid (whoB x = false) := by show _ = _; rw [HWB.out, decide_eq_false (by omega : ¬ 0 ≤ x.t)]; rfl
    go_wp2_with fail
    go_ret
    exact ⟨by rw [HF.out] <;> rfl, HB2.out⟩
  by_cases h1 : 4611686018427387904 ≤ x.t
  · have HF : Hid (whoB x = false) := by show _ = _; rw [HWB.out, decide_eq_true (by omega : 0 ≤ x.t), decide_eq_false (by omega : ¬ x.t ≤ 4611686018427387903)]; rfl
    go_wp2_with fail
    go_ret
    exact ⟨by rw [HF.out] <;> rfl, HB2.out⟩
  have HZB : Hid (whoB x = zoneB x.z.data.toList) := by show _ = _; rw [HWB.out, decide_eq_true (by omega : 0 ≤ x.t), decide_eq_true (by omega : x.t ≤ 4611686018427387903)]; simp
  have HSZ := Lib.hid (Lib.size_eq x.z)
  by_cases h5 : x.z.size = 5
  rotate_left
  · have hn : ((x.z.size : Int) != 5) = true := bne_iff_ne.2 (by omega)
    have hn2 : ¬ (x.z.size : Int) = 5 := by omega
    have HF : Hid (whoB x = false) := by show _ = _; rw [HZB.out]; unfold zoneB; rw [decide_eq_false (by rw [← HSZ.out]; exact h5)]; rfl
    clear h5
    go_wp2_with fail
    go_ret
    exact ⟨by rw [HF.out] <;> rfl, HB2.out⟩
  have hi5 : (x.z.size : Int) = 5 := by omega
  have hix := fun W => index_text x.z 0 (by omega) 0 rfl W
  obtain ⟨q, hq⟩ : ∃ q, x.z.data.toList[0]?.getD 0 = q := ⟨_, rfl⟩
  have h8 : at8 x.z 0 = q.toNat := by unfold at8; rw [hq]
  rw [h8] at hix
  have HZ : Hid (whoB x = ((q == 43 || q == 45) && (x.z.data.toList.drop 1).all digB)) := by show _ = _; rw [HZB.out]; unfold zoneB; rw [hq, decide_eq_true (by rw [← HSZ.out]; exact h5)]; rfl
  have H5 := Lib.hid h5
  clear h8 hq h5
  by_cases hz : q = 43 ∨ q = 45
  rotate_left
  · have n43 : ¬ q = 43 := fun e => hz (.inl e)
    have n45 : ¬ q = 45 := fun e => hz (.inr e)
    have i43 : ¬ (q.toNat : Int) = 43 := fun e => n43 (UInt8.toNat_inj.1 (by show q.toNat = 43; omega))
    have i45 : ¬ (q.toNat : Int) = 45 := fun e => n45 (UInt8.toNat_inj.1 (by show q.toNat = 45; omega))
    have b43 : ((q.toNat : Int) != 43) = true := bne_iff_ne.2 i43
    have b45 : ((q.toNat : Int) != 45) = true := bne_iff_ne.2 i45
    have HF : Hid (whoB x = false) := by show _ = _; rw [HZ.out, beq_eq_false_iff_ne.2 n43, beq_eq_false_iff_ne.2 n45]; rfl
    clear hz n43 n45
    generalize (q.toNat : Int) = qi at *
    go_wp2_with fail
    go_ret
    exact ⟨by rw [HF.out] <;> rfl, HB2.out⟩
  have HQ : Hid ((q == 43 || q == 45) = true) := by show _ = _; rcases hz with rfl | rfl <;> rfl
  have hqi : (q.toNat : Int) = 43 ∨ (¬ (q.toNat : Int) = 43 ∧ (q.toNat : Int) = 45) := by
    rcases hz with rfl | rfl
    · exact .inl rfl
    · exact .inr ⟨by decide, rfl⟩
  clear hz
  generalize (q.toNat : Int) = qi at *
  rcases hqi with rfl | ⟨g43, rfl⟩
  all_goals
    go_wp2_with fail
    clear hix hc2 hc3
    go_loopw [3] (fun i wr => ∃ m : Nat, 1 ≤ m ∧ m ≤ 5 ∧ i = .int .i64 (m : Int) ∧ (∀ j, 1 ≤ j → j < m → digB (x.z.data.toList[j]?.getD 0) = true) ∧ wr = w2) (fun i _ => 5 - (intOf i).toNat)
    case atStart => exact ⟨1, by omega, by omega, rfl, fun j h h' => by omega, rfl⟩
    case round =>
      obtain ⟨m, hm1, hm, rfl, hno, rfl⟩ := hrel
      rename World => w2
      have HNO := Lib.hid hno
      have HM1 := Lib.hid hm1
      have WM := Lib.hid (next_int m (by omega))
      obtain ⟨-, -, -, hc3⟩ := who_cell HR2.out
      clear hno hm1
      by_cases hms : m < 5
      · have hmi : (m : Int) < 5 := by omega
        have HMS := Lib.hid hms
        have hix2 := fun W => index_text x.z m (by rw [H5.out]; exact hms) (m : Int) rfl W
        obtain ⟨c, hc⟩ : ∃ q, x.z.data.toList[m]?.getD 0 = q := ⟨_, rfl⟩
        have h8 : at8 x.z m = c.toNat := by unfold at8; rw [hc]
        rw [h8] at hix2
        have HGO : Hid (digB c = true → ∀ j, 1 ≤ j → j < m + 1 → digB (x.z.data.toList[j]?.getD 0) = true) := fun h j hj1 hj => by
          by_cases hjm : j = m
          · rw [hjm, hc]; exact h
          · exact HNO.out j hj1 (by omega)
        have HBAD : Hid (digB c = false → whoB x = false) := fun h => by
          have hl : m < x.z.data.toList.length := by rw [← Lib.size_eq, H5.out]; exact HMS.out
          have h1 : (x.z.data.toList.drop 1).all digB = false := by
            rw [List.all_eq_false]
            refine ⟨x.z.data.toList[m], ?_, ?_⟩
            · have : x.z.data.toList[m] = (x.z.data.toList.drop 1)[m - 1]'(by rw [List.length_drop]; have := HM1.out; omega) := by rw [List.getElem_drop]; congr 1; have := HM1.out; omega
              rw [this]; exact List.getElem_mem _
            · rw [List.getElem?_eq_getElem hl] at hc
              rw [show x.z.data.toList[m] = c from hc, h]; decide
          rw [HZ.out, h1, Bool.and_false]
        have hcs : c.toNat < 48 ∨ (48 ≤ c.toNat ∧ c.toNat ≤ 57) ∨ 57 < c.toNat := by omega
        have HD : Hid (digB c = (decide (48 ≤ c.toNat) && decide (c.toNat ≤ 57))) := rfl
        clear hc h8 hms hm
        rcases hcs with g | ⟨g, g'⟩ | g
        · have g1 : (c.toNat : Int) < 48 := by omega
          have HF := Lib.hid (HBAD.out (by rw [HD.out, decide_eq_false (by omega)]; rfl))
          clear g
          generalize (c.toNat : Int) = ci at *
          go_wp2_with fail
          (try simp only [Exit.inBlock, Exit.then])
          go_ret
          exact ⟨by rw [HF.out] <;> rfl, HB2.out⟩
        · have g1 : ¬ (c.toNat : Int) < 48 := by omega
          have g2 : ¬ (57 : Int) < (c.toNat : Int) := by omega
          have HG := Lib.hid (HGO.out (by rw [HD.out, decide_eq_true g, decide_eq_true g']; rfl))
          clear g g'
          generalize (c.toNat : Int) = ci at *
          go_wp2_with fail
          exact ⟨⟨m + 1, by omega, HMS.out, by first | rw [WM.out _ rfl] | rfl, HG.out, by first | rfl | trivial⟩, by have := HMS.out; (first | rw [WM.out _ rfl] | skip); simp [intOf]; omega⟩
        · have g1 : ¬ (c.toNat : Int) < 48 := by omega
          have g2 : (57 : Int) < (c.toNat : Int) := by omega
          have HF := Lib.hid (HBAD.out (by rw [HD.out, decide_eq_false (by omega : ¬ c.toNat ≤ 57), Bool.and_false]))
          clear g
          generalize (c.toNat : Int) = ci at *
          go_wp2_with fail
          (try simp only [Exit.inBlock, Exit.then])
          go_ret
          exact ⟨by rw [HF.out] <;> rfl, HB2.out⟩
      · have hmi : ¬ (m : Int) < 5 := by omega
        have HF : Hid (whoB x = true) := by
          have h1 : (x.z.data.toList.drop 1).all digB = true := by
            rw [List.all_eq_true]
            intro c hc
            obtain ⟨j, hj⟩ := List.mem_iff_getElem?.1 hc
            have hjl := (List.getElem?_eq_some_iff.1 hj).1
            rw [List.length_drop, ← Lib.size_eq, H5.out] at hjl
            have := HNO.out (1 + j) (by omega) (by omega)
            rw [List.getElem?_drop] at hj
            rw [hj] at this
            exact this
          show _ = _
          rw [HZ.out, h1, HQ.out]; rfl
        clear hms hm
        go_wp2_with fail
        go_ret
        exact ⟨by rw [HF.out] <;> rfl, HB2.out⟩
end Go.Proofs.YtindmggmblmmcaaGreatDoor
