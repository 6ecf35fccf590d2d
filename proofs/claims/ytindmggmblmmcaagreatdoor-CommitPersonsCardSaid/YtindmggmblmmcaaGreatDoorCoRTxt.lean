/- The document's text of a person: the walk. -/
import Derived.Test.YtindmggmblmmcaaGreatDoorCoNum
namespace Go.Proofs.YtindmggmblmmcaaGreatDoor
open Go.RowKit Plain
set_option linter.unusedVariables false
set_option linter.unusedSimpArgs false
set_option maxRecDepth 100000 in
set_option maxHeartbeats 8000000 in
theorem rtext_any (x : WX) (w : World) (hE : EnvC w) (hs : WhoSmall x) : Calls Tryz.prog 28 #[.agg (whoA x)] w fun e w' => e = .returned (.string (txt (whoT x))) ∧ Below w.heap.size w w' := by
  have HE := Lib.hid hE
  have HS := Lib.hid hs
  have HTB : Hid (-9223372036854775808 ≤ x.t ∧ x.t ≤ 9223372036854775807) := hs.2.2.2
  have HB0 : Hid (Below w.heap.size w (w.alloc (.cells (whoA x) 25))) := (Below.refl _ _).alloc (Nat.le_refl _) _
  have HR0 : Hid ((w.alloc (.cells (whoA x) 25)).heap[w.heap.size]? = some (.cells (whoA x) 25 (0, 0))) := heap_alloc_new _ _
  have hla := itoa_len x.t HTB.out
  have hn := hs.1
  have hm := hs.2.1
  have hz := hs.2.2.1
  obtain ⟨T1, h1⟩ : ∃ l, x.n.data.toList ++ [32, 60] = l := ⟨_, rfl⟩
  obtain ⟨T2, h2⟩ : ∃ l, T1 ++ x.m.data.toList = l := ⟨_, rfl⟩
  obtain ⟨T3, h3⟩ : ∃ l, T2 ++ [62, 32] = l := ⟨_, rfl⟩
  obtain ⟨T4, h4⟩ : ∃ l, T3 ++ Lib.itoa x.t = l := ⟨_, rfl⟩
  obtain ⟨T5, h5⟩ : ∃ l, T4 ++ [32] = l := ⟨_, rfl⟩
  obtain ⟨T6, h6⟩ : ∃ l, T5 ++ x.z.data.toList = l := ⟨_, rfl⟩
  have l1 : T1.length ≤ 40002 := by rw [← h1, List.length_append, ← Lib.size_eq]; simp; omega
  have l2 : T2.length ≤ 80002 := by rw [← h2, List.length_append, ← Lib.size_eq]; omega
  have l3 : T3.length ≤ 80004 := by rw [← h3, List.length_append]; simp; omega
  have l4 : T4.length ≤ 80025 := by rw [← h4, List.length_append]; omega
  have l5 : T5.length ≤ 80026 := by rw [← h5, List.length_append]; simp; omega
  have HA1 : Hid (∀ W, (binOp .add 9 (.string x.n) (.string ⟨#[32, 60]⟩)).run Tryz.prog W = .ok (.string (txt T1)) W) := fun W => add_txt _ _ _ h1 (by show _ + 2 ≤ _; omega) W
  have HA2 : Hid (∀ W, (binOp .add 9 (.string (txt T1)) (.string x.m)).run Tryz.prog W = .ok (.string (txt T2)) W) := fun W => add_txt _ _ _ (by rw [txt_list]; exact h2) (by rw [txt_size]; omega) W
  have HA3 : Hid (∀ W, (binOp .add 9 (.string (txt T2)) (.string ⟨#[62, 32]⟩)).run Tryz.prog W = .ok (.string (txt T3)) W) := fun W => add_txt _ _ _ (by rw [txt_list]; exact h3) (by rw [txt_size]; show _ + 2 ≤ _; omega) W
  have HA4 : Hid (∀ W, (binOp .add 9 (.string (txt T3)) (.string (txt (Lib.itoa x.t)))).run Tryz.prog W = .ok (.string (txt T4)) W) := fun W => add_txt _ _ _ (by rw [txt_list, txt_list]; exact h4) (by rw [txt_size, txt_size]; omega) W
  have HA5 : Hid (∀ W, (binOp .add 9 (.string (txt T4)) (.string ⟨#[32]⟩)).run Tryz.prog W = .ok (.string (txt T5)) W) := fun W => add_txt _ _ _ (by rw [txt_list]; exact h5) (by rw [txt_size]; show _ + 1 ≤ _; omega) W
  have HA6 : Hid (∀ W, (binOp .add 9 (.string (txt T5)) (.string x.z)).run Tryz.prog W = .ok (.string (txt T6)) W) := fun W => add_txt _ _ _ (by rw [txt_list]; exact h6) (by rw [txt_size]; omega) W
  have HT6 : Hid (whoT x = T6) := by show _ = _; rw [← h6, ← h5, ← h4, ← h3, ← h2, ← h1]; rfl
  clear hs hE hla hn hm hz h1 h2 h3 h4 h5 h6 l1 l2 l3 l4 l5
  go_enter Tryz.func28, Tryz.ntmps28
  go_wp2_with fail
  generalize w.alloc (.cells (whoA x) 25) = w0 at *
  obtain ⟨p0, hp0⟩ : ∃ p, w.heap.size = p := ⟨_, rfl⟩
  rw [hp0] at HR0 ⊢
  have HPE := Lib.hid hp0
  clear hp0
  have HLT : Hid (p0 < w0.heap.size) := (Array.getElem?_eq_some_iff.1 HR0.out).1
  have HC0 : Hid (∀ W, Below w0.heap.size w0 W → W.cell? ⟨p0, 0, none⟩ = some (.string x.n)) := fun W hW => (hW.cell (p := ⟨p0, 0, none⟩) HLT.out).trans (who_cell HR0.out).1
  have HC1 : Hid (∀ W, Below w0.heap.size w0 W → W.cell? ⟨p0, 1, none⟩ = some (.string x.m)) := fun W hW => (hW.cell (p := ⟨p0, 1, none⟩) HLT.out).trans (who_cell HR0.out).2.1
  have HC2 : Hid (∀ W, Below w0.heap.size w0 W → W.cell? ⟨p0, 2, none⟩ = some (.int .i64 x.t)) := fun W hW => (hW.cell (p := ⟨p0, 2, none⟩) HLT.out).trans (who_cell HR0.out).2.2.1
  have HC3 : Hid (∀ W, Below w0.heap.size w0 W → W.cell? ⟨p0, 3, none⟩ = some (.string x.z)) := fun W hW => (hW.cell (p := ⟨p0, 3, none⟩) HLT.out).trans (who_cell HR0.out).2.2.2
  refine wp_region_noPanic ?_
  refine wp_region_held_drew (S := fun W => Below w0.heap.size w0 W) (by kernel_rfl) ?_ (fun hHeld => ?_)
  · exact (Below.refl _ _).drew
  refine wpAnyH_take (i := 0) (v := ?_) (by simp only [List.getElem?_toArray, List.getElem?_cons_zero]; rfl) (by kernel_rfl) (by kernel_rfl) (by kernel_rfl) (fun _ _ _ h => h) (Or.inl ⟨by rfl, ?_⟩) (by assumption) ?_
  rotate_left
  · intro W hSW
    go_simp
    try with_reducible rfl
  try simp only [Act.put, List.setIfInBounds_toArray, List.set_cons_zero, List.set_cons_succ]
  refine wpAnyH_take (i := 1) (by simp only [List.getElem?_toArray, List.getElem?_cons_succ, List.getElem?_cons_zero]; rfl) (by kernel_rfl) (by kernel_rfl) (by kernel_rfl) (fun _ _ _ h => h) (yieldsIf_load_str (by rfl) 9 _ rfl p0 0 rfl x.n (fun W hSW => HC0.out W hSW) Tryz.underlying9) (by assumption) ?_
  try simp only [Act.put, List.setIfInBounds_toArray, List.set_cons_zero, List.set_cons_succ]
  refine wpAnyH_take (i := 2) (by simp only [List.getElem?_toArray, List.getElem?_cons_succ, List.getElem?_cons_zero]; rfl) (by kernel_rfl) (by kernel_rfl) (by kernel_rfl) (fun _ _ _ h => h) (yieldsIf_eql (by rfl) .add 9 _ _ _ rfl (.string x.n) (.string ⟨#[32, 60]⟩) rfl rfl (.string (txt T1)) (guard_addn _ _ _ _) (fun W => HA1.out W)) (by assumption) ?_
  try simp only [Act.put, List.setIfInBounds_toArray, List.set_cons_zero, List.set_cons_succ]
  refine wpAnyH_take (i := 3) (v := ?_) (by simp only [List.getElem?_toArray, List.getElem?_cons_succ, List.getElem?_cons_zero]; rfl) (by kernel_rfl) (by kernel_rfl) (by kernel_rfl) (fun _ _ _ h => h) (Or.inl ⟨by rfl, ?_⟩) (by assumption) ?_
  rotate_left
  · intro W hSW
    go_simp
    try with_reducible rfl
  try simp only [Act.put, List.setIfInBounds_toArray, List.set_cons_zero, List.set_cons_succ]
  refine wpAnyH_take (i := 4) (by simp only [List.getElem?_toArray, List.getElem?_cons_succ, List.getElem?_cons_zero]; rfl) (by kernel_rfl) (by kernel_rfl) (by kernel_rfl) (fun _ _ _ h => h) (yieldsIf_load_str (by rfl) 9 _ rfl p0 1 rfl x.m (fun W hSW => HC1.out W hSW) Tryz.underlying9) (by assumption) ?_
  try simp only [Act.put, List.setIfInBounds_toArray, List.set_cons_zero, List.set_cons_succ]
  refine wpAnyH_take (i := 5) (by simp only [List.getElem?_toArray, List.getElem?_cons_succ, List.getElem?_cons_zero]; rfl) (by kernel_rfl) (by kernel_rfl) (by kernel_rfl) (fun _ _ _ h => h) (yieldsIf_eql (by rfl) .add 9 _ _ _ rfl (.string (txt T1)) (.string x.m) rfl rfl (.string (txt T2)) (guard_addn _ _ _ _) (fun W => HA2.out W)) (by assumption) ?_
  try simp only [Act.put, List.setIfInBounds_toArray, List.set_cons_zero, List.set_cons_succ]
  refine wpAnyH_take (i := 6) (by simp only [List.getElem?_toArray, List.getElem?_cons_succ, List.getElem?_cons_zero]; rfl) (by kernel_rfl) (by kernel_rfl) (by kernel_rfl) (fun _ _ _ h => h) (yieldsIf_eql (by rfl) .add 9 _ _ _ rfl (.string (txt T2)) (.string ⟨#[62, 32]⟩) rfl rfl (.string (txt T3)) (guard_addn _ _ _ _) (fun W => HA3.out W)) (by assumption) ?_
  try simp only [Act.put, List.setIfInBounds_toArray, List.set_cons_zero, List.set_cons_succ]
  refine wpAnyH_take (i := 7) (v := ?_) (by simp only [List.getElem?_toArray, List.getElem?_cons_succ, List.getElem?_cons_zero]; rfl) (by kernel_rfl) (by kernel_rfl) (by kernel_rfl) (fun _ _ _ h => h) (Or.inl ⟨by rfl, ?_⟩) (by assumption) ?_
  rotate_left
  · intro W hSW
    go_simp
    try with_reducible rfl
  try simp only [Act.put, List.setIfInBounds_toArray, List.set_cons_zero, List.set_cons_succ]
  refine wpAnyH_take (i := 8) (by simp only [List.getElem?_toArray, List.getElem?_cons_succ, List.getElem?_cons_zero]; rfl) (by kernel_rfl) (by kernel_rfl) (by kernel_rfl) (fun _ _ _ h => h) (yieldsIf_load_int (by rfl) 3 _ rfl p0 2 rfl x.t (fun W hSW => HC2.out W hSW) Tryz.underlying3) (by assumption) ?_
  try simp only [Act.put, List.setIfInBounds_toArray, List.set_cons_zero, List.set_cons_succ]
  refine wpAnyH_take (i := 12) (v := ?_) (by simp only [List.getElem?_toArray, List.getElem?_cons_succ, List.getElem?_cons_zero]; rfl) (by kernel_rfl) (by kernel_rfl) (by kernel_rfl) (fun _ _ _ h => h) (Or.inl ⟨by rfl, ?_⟩) (by assumption) ?_
  rotate_left
  · intro W hSW
    go_simp
    try with_reducible rfl
  try simp only [Act.put, List.setIfInBounds_toArray, List.set_cons_zero, List.set_cons_succ]
  refine wpAnyH_take (i := 13) (by simp only [List.getElem?_toArray, List.getElem?_cons_succ, List.getElem?_cons_zero]; rfl) (by kernel_rfl) (by kernel_rfl) (by kernel_rfl) (fun _ _ _ h => h) (yieldsIf_load_str (by rfl) 9 _ rfl p0 3 rfl x.z (fun W hSW => HC3.out W hSW) Tryz.underlying9) (by assumption) ?_
  try simp only [Act.put, List.setIfInBounds_toArray, List.set_cons_zero, List.set_cons_succ]
  refine wpAnyH_ready (rs := [9]) (by kernel_rfl) (by simp) ?_
  refine AllReadyH.cons (by simp only [List.getElem?_toArray, List.getElem?_cons_succ, List.getElem?_cons_zero]; rfl) (fun K hK => ?_) AllReadyH.nil
  go_simp
  refine (rdec_any x.t HTB.out.1 HTB.out.2 _).mono ?_
  rintro e v1 ⟨rfl, hb⟩
  have hb1 : Below w0.heap.size w0 v1 := (Below.refl _ _).drew.trans hb
  have HV1 := Lib.hid hb1
  clear hb hb1
  go_wp2_with fail
  refine hK.out _ _ (HV1.out) (fun hHeld2 => ?_)
  clear hK K hHeld
  have hHeld := hHeld2
  clear hHeld2
  try simp only [Act.put, List.setIfInBounds_toArray, List.set_cons_zero, List.set_cons_succ]
  refine wpAnyH_take (i := 10) (by simp only [List.getElem?_toArray, List.getElem?_cons_succ, List.getElem?_cons_zero]; rfl) (by kernel_rfl) (by kernel_rfl) (by kernel_rfl) (fun _ _ _ h => h) (yieldsIf_eql (by rfl) .add 9 _ _ _ rfl (.string (txt T3)) (.string (txt (Lib.itoa x.t))) rfl rfl (.string (txt T4)) (guard_addn _ _ _ _) (fun W => HA4.out W)) (by assumption) ?_
  try simp only [Act.put, List.setIfInBounds_toArray, List.set_cons_zero, List.set_cons_succ]
  refine wpAnyH_take (i := 11) (by simp only [List.getElem?_toArray, List.getElem?_cons_succ, List.getElem?_cons_zero]; rfl) (by kernel_rfl) (by kernel_rfl) (by kernel_rfl) (fun _ _ _ h => h) (yieldsIf_eql (by rfl) .add 9 _ _ _ rfl (.string (txt T4)) (.string ⟨#[32]⟩) rfl rfl (.string (txt T5)) (guard_addn _ _ _ _) (fun W => HA5.out W)) (by assumption) ?_
  try simp only [Act.put, List.setIfInBounds_toArray, List.set_cons_zero, List.set_cons_succ]
  refine wpAnyH_take (i := 14) (by simp only [List.getElem?_toArray, List.getElem?_cons_succ, List.getElem?_cons_zero]; rfl) (by kernel_rfl) (by kernel_rfl) (by kernel_rfl) (fun _ _ _ h => h) (yieldsIf_eql (by rfl) .add 9 _ _ _ rfl (.string (txt T5)) (.string x.z) rfl rfl (.string (txt T6)) (guard_addn _ _ _ _) (fun W => HA6.out W)) (by assumption) ?_
  try simp only [Act.put, List.setIfInBounds_toArray, List.set_cons_zero, List.set_cons_succ]
  refine wpAnyH_take (i := 15) (v := ?_) (by simp only [List.getElem?_toArray, List.getElem?_cons_succ, List.getElem?_cons_zero]; rfl) (by kernel_rfl) (by kernel_rfl) (by kernel_rfl) (fun _ _ _ h => h) (Or.inl ⟨by rfl, ?_⟩) (by assumption) ?_
  rotate_left
  · intro W hSW
    go_simp
    try with_reducible rfl
  try simp only [Act.put, List.setIfInBounds_toArray, List.set_cons_zero, List.set_cons_succ]
  refine wpAnyH_done (by kernel_rfl) ?_ _
  refine NoPanic.normal ?_
  clear hHeld
  go_wp2_with fail
  go_ret
  rw [HT6.out]
  exact ⟨rfl, HB0.out.trans (HV1.out.mono HB0.out.size)⟩
end Go.Proofs.YtindmggmblmmcaaGreatDoor
