/- An extra: right, text; a line is written: the walks. -/
import Derived.Test.YtindmggmblmmcaaGreatDoorCoPer
namespace Go.Proofs.YtindmggmblmmcaaGreatDoor
open Go.RowKit Plain
set_option linter.unusedVariables false
set_option linter.unusedSimpArgs false
def extR (x : ByteArray × ByteArray) : Bool := !(x.1.data.toList == [] || x.1.data.toList == [116, 114, 101, 101] || x.1.data.toList == [112, 97, 114, 101, 110, 116] || x.1.data.toList == [97, 117, 116, 104, 111, 114] || x.1.data.toList == [99, 111, 109, 109, 105, 116, 116, 101, 114]) && noAny [32, 10] x.1.data.toList
def extT (x : ByteArray × ByteArray) : List UInt8 := x.1.data.toList ++ [32] ++ Lib.replaceAll x.2.data.toList [10] [10, 32]
def ExtSmall (x : ByteArray × ByteArray) : Prop := x.1.size ≤ 40000 ∧ x.2.size ≤ 40000
theorem replaceK_len (old new : List UInt8) : ∀ (k : Nat) (s : List UInt8), (Lib.replaceK old new k s).length ≤ s.length + k * new.length
  | 0, s => by simp [Lib.replaceK]
  | k + 1, s => by
    unfold Lib.replaceK
    split
    · exact Nat.le_add_right _ _
    · have ih := replaceK_len old new k (s.drop ((Lib.index s old).toNat + old.length))
      rw [List.length_drop] at ih
      rw [List.length_append, List.length_append, List.length_take, Nat.succ_mul]
      omega
theorem replace_len (s old new : List UInt8) : (Lib.replaceAll s old new).length ≤ s.length + (s.length + 1) * new.length := by
  unfold Lib.replaceAll Lib.replace
  split
  · omega
  · refine Nat.le_trans (replaceK_len _ _ _ _) (Nat.add_le_add_left (Nat.mul_le_mul_right _ ?_) _)
    unfold Lib.replaceNum
    rw [if_pos (.inl (by decide))]
    exact Lib.count_le _ _
theorem extT_len {x : ByteArray × ByteArray} (h : ExtSmall x) : (extT x).length ≤ 160003 := by
  have h1 := replace_len x.2.data.toList [10] [10, 32]
  unfold extT
  rw [List.length_append, List.length_append]
  obtain ⟨h2, h3⟩ := h
  rw [Lib.size_eq] at h2 h3
  simp only [List.length_cons, List.length_nil] at h1 ⊢
  omega
set_option maxRecDepth 100000 in
set_option maxHeartbeats 8000000 in
theorem extright_any (x : ByteArray × ByteArray) (w : World) (hs : ExtSmall x) : Calls Tryz.prog 60 #[.agg (extE x).toArray] w fun e w' => e = .returned (.bool (extR x)) ∧ Below w.heap.size w w' := by
  have HB0 : Hid (Below w.heap.size w (w.alloc (.cells (extE x).toArray 76))) := (Below.refl _ _).alloc (Nat.le_refl _) _
  have HR0 : Hid ((w.alloc (.cells (extE x).toArray 76)).heap[w.heap.size]? = some (.cells (extE x).toArray 76 (0, 0))) := heap_alloc_new _ _
  have hc0 : (w.alloc (.cells (extE x).toArray 76)).cell? ⟨w.heap.size, 0, none⟩ = some (.string x.1) := by rw [cell_of_row _ _ _ _ _ _ HR0.out]; rfl
  obtain ⟨e0, he0⟩ : ∃ e, (x.1.data.toList == []) = e := ⟨_, rfl⟩
  have HE0 : Hid (∀ W, (binOp .eql 9 (.string x.1) (.string ⟨#[]⟩)).run Tryz.prog W = .ok (.bool e0) W) := fun W => by rw [str_eql, ← he0]
  obtain ⟨e1, he1⟩ : ∃ e, (x.1.data.toList == [116, 114, 101, 101]) = e := ⟨_, rfl⟩
  have HE1 : Hid (∀ W, (binOp .eql 9 (.string x.1) (.string ⟨#[116, 114, 101, 101]⟩)).run Tryz.prog W = .ok (.bool e1) W) := fun W => by rw [str_eql, ← he1]
  obtain ⟨e2, he2⟩ : ∃ e, (x.1.data.toList == [112, 97, 114, 101, 110, 116]) = e := ⟨_, rfl⟩
  have HE2 : Hid (∀ W, (binOp .eql 9 (.string x.1) (.string ⟨#[112, 97, 114, 101, 110, 116]⟩)).run Tryz.prog W = .ok (.bool e2) W) := fun W => by rw [str_eql, ← he2]
  obtain ⟨e3, he3⟩ : ∃ e, (x.1.data.toList == [97, 117, 116, 104, 111, 114]) = e := ⟨_, rfl⟩
  have HE3 : Hid (∀ W, (binOp .eql 9 (.string x.1) (.string ⟨#[97, 117, 116, 104, 111, 114]⟩)).run Tryz.prog W = .ok (.bool e3) W) := fun W => by rw [str_eql, ← he3]
  obtain ⟨e4, he4⟩ : ∃ e, (x.1.data.toList == [99, 111, 109, 109, 105, 116, 116, 101, 114]) = e := ⟨_, rfl⟩
  have HE4 : Hid (∀ W, (binOp .eql 9 (.string x.1) (.string ⟨#[99, 111, 109, 109, 105, 116, 116, 101, 114]⟩)).run Tryz.prog W = .ok (.bool e4) W) := fun W => by rw [str_eql, ← he4]
  have HX : Hid (extR x = (!(e0 || e1 || e2 || e3 || e4) && noAny [32, 10] x.1.data.toList)) := by show _ = _; unfold extR; rw [he0, he1, he2, he3, he4]
  have HC := Lib.hid fun W => containsAny_any x.1 ⟨#[32, 10]⟩ W (by have := hs.1; omega) (by decide) (by decide) (by unfold Ascii; decide)
  simp only [containsAny_has] at HC
  clear he0 he1 he2 he3 he4 hs
  cases e0
  rotate_left
  · have HF : Hid (extR x = false) := by show _ = _; rw [HX.out]; rfl
    have H0 := HE0
    go_enter Tryz.func60, Tryz.ntmps60
    go_wp2_with (first

      | refine wpList_eql (by rfl) .eql 9 _ _ _ rfl (.string x.1) (.string ⟨#[]⟩) rfl rfl (.bool true) (guard_eq _ _ _ _) H0.out ?_)
    go_ret
    exact ⟨by rw [HF.out] <;> rfl, HB0.out⟩
  cases e1
  rotate_left
  · have HF : Hid (extR x = false) := by show _ = _; rw [HX.out]; rfl
    have H0 := HE0
    have H1 := HE1
    go_enter Tryz.func60, Tryz.ntmps60
    go_wp2_with (first
      | refine wpList_eql (by rfl) .eql 9 _ _ _ rfl (.string x.1) (.string ⟨#[]⟩) rfl rfl (.bool false) (guard_eq _ _ _ _) H0.out ?_
      | refine wpList_eql (by rfl) .eql 9 _ _ _ rfl (.string x.1) (.string ⟨#[116, 114, 101, 101]⟩) rfl rfl (.bool true) (guard_eq _ _ _ _) H1.out ?_)
    go_ret
    exact ⟨by rw [HF.out] <;> rfl, HB0.out⟩
  cases e2
  rotate_left
  · have HF : Hid (extR x = false) := by show _ = _; rw [HX.out]; rfl
    have H0 := HE0
    have H1 := HE1
    have H2 := HE2
    go_enter Tryz.func60, Tryz.ntmps60
    go_wp2_with (first
      | refine wpList_eql (by rfl) .eql 9 _ _ _ rfl (.string x.1) (.string ⟨#[]⟩) rfl rfl (.bool false) (guard_eq _ _ _ _) H0.out ?_
      | refine wpList_eql (by rfl) .eql 9 _ _ _ rfl (.string x.1) (.string ⟨#[116, 114, 101, 101]⟩) rfl rfl (.bool false) (guard_eq _ _ _ _) H1.out ?_
      | refine wpList_eql (by rfl) .eql 9 _ _ _ rfl (.string x.1) (.string ⟨#[112, 97, 114, 101, 110, 116]⟩) rfl rfl (.bool true) (guard_eq _ _ _ _) H2.out ?_)
    go_ret
    exact ⟨by rw [HF.out] <;> rfl, HB0.out⟩
  cases e3
  rotate_left
  · have HF : Hid (extR x = false) := by show _ = _; rw [HX.out]; rfl
    have H0 := HE0
    have H1 := HE1
    have H2 := HE2
    have H3 := HE3
    go_enter Tryz.func60, Tryz.ntmps60
    go_wp2_with (first
      | refine wpList_eql (by rfl) .eql 9 _ _ _ rfl (.string x.1) (.string ⟨#[]⟩) rfl rfl (.bool false) (guard_eq _ _ _ _) H0.out ?_
      | refine wpList_eql (by rfl) .eql 9 _ _ _ rfl (.string x.1) (.string ⟨#[116, 114, 101, 101]⟩) rfl rfl (.bool false) (guard_eq _ _ _ _) H1.out ?_
      | refine wpList_eql (by rfl) .eql 9 _ _ _ rfl (.string x.1) (.string ⟨#[112, 97, 114, 101, 110, 116]⟩) rfl rfl (.bool false) (guard_eq _ _ _ _) H2.out ?_
      | refine wpList_eql (by rfl) .eql 9 _ _ _ rfl (.string x.1) (.string ⟨#[97, 117, 116, 104, 111, 114]⟩) rfl rfl (.bool true) (guard_eq _ _ _ _) H3.out ?_)
    go_ret
    exact ⟨by rw [HF.out] <;> rfl, HB0.out⟩
  cases e4
  rotate_left
  · have HF : Hid (extR x = false) := by show _ = _; rw [HX.out]; rfl
    have H0 := HE0
    have H1 := HE1
    have H2 := HE2
    have H3 := HE3
    have H4 := HE4
    go_enter Tryz.func60, Tryz.ntmps60
    go_wp2_with (first
      | refine wpList_eql (by rfl) .eql 9 _ _ _ rfl (.string x.1) (.string ⟨#[]⟩) rfl rfl (.bool false) (guard_eq _ _ _ _) H0.out ?_
      | refine wpList_eql (by rfl) .eql 9 _ _ _ rfl (.string x.1) (.string ⟨#[116, 114, 101, 101]⟩) rfl rfl (.bool false) (guard_eq _ _ _ _) H1.out ?_
      | refine wpList_eql (by rfl) .eql 9 _ _ _ rfl (.string x.1) (.string ⟨#[112, 97, 114, 101, 110, 116]⟩) rfl rfl (.bool false) (guard_eq _ _ _ _) H2.out ?_
      | refine wpList_eql (by rfl) .eql 9 _ _ _ rfl (.string x.1) (.string ⟨#[97, 117, 116, 104, 111, 114]⟩) rfl rfl (.bool false) (guard_eq _ _ _ _) H3.out ?_
      | refine wpList_eql (by rfl) .eql 9 _ _ _ rfl (.string x.1) (.string ⟨#[99, 111, 109, 109, 105, 116, 116, 101, 114]⟩) rfl rfl (.bool true) (guard_eq _ _ _ _) H4.out ?_)
    go_ret
    exact ⟨by rw [HF.out] <;> rfl, HB0.out⟩
  obtain ⟨b, hb⟩ : ∃ b, (x.1.data.toList.any fun c => ([32, 10] : List UInt8).contains c) = b := ⟨_, rfl⟩
  have HBB := Lib.hid hb
  have HF : Hid (extR x = !b) := by show _ = _; rw [HX.out]; unfold noAny; rw [hb]; rfl
  clear hb
  have H0 := HE0
  have H1 := HE1
  have H2 := HE2
  have H3 := HE3
  have H4 := HE4
  go_enter Tryz.func60, Tryz.ntmps60
  go_wp2_with (first
    | refine wpList_eql (by rfl) .eql 9 _ _ _ rfl (.string x.1) (.string ⟨#[]⟩) rfl rfl (.bool false) (guard_eq _ _ _ _) H0.out ?_
    | refine wpList_eql (by rfl) .eql 9 _ _ _ rfl (.string x.1) (.string ⟨#[116, 114, 101, 101]⟩) rfl rfl (.bool false) (guard_eq _ _ _ _) H1.out ?_
    | refine wpList_eql (by rfl) .eql 9 _ _ _ rfl (.string x.1) (.string ⟨#[112, 97, 114, 101, 110, 116]⟩) rfl rfl (.bool false) (guard_eq _ _ _ _) H2.out ?_
    | refine wpList_eql (by rfl) .eql 9 _ _ _ rfl (.string x.1) (.string ⟨#[97, 117, 116, 104, 111, 114]⟩) rfl rfl (.bool false) (guard_eq _ _ _ _) H3.out ?_
    | refine wpList_eql (by rfl) .eql 9 _ _ _ rfl (.string x.1) (.string ⟨#[99, 111, 109, 109, 105, 116, 116, 101, 114]⟩) rfl rfl (.bool false) (guard_eq _ _ _ _) H4.out ?_)
  refine (HC.out _).mono ?_
  rintro e w' ⟨rfl, hb⟩
  rw [HBB.out]
  have HB1 := Lib.hid (HB0.out.trans (hb.mono HB0.out.size))
  clear hb
  go_wp2_with fail
  go_ret
  exact ⟨by rw [HF.out] <;> rfl, HB1.out⟩
set_option maxRecDepth 100000 in
set_option maxHeartbeats 8000000 in
theorem exttext_any (x : ByteArray × ByteArray) (w : World) (hE : EnvC w) (hs : ExtSmall x) : Calls Tryz.prog 35 #[.agg (extE x).toArray] w fun e w' => e = .returned (.string (txt (extT x))) ∧ Below w.heap.size w w' := by
  have HB0 : Hid (Below w.heap.size w (w.alloc (.cells (extE x).toArray 76))) := (Below.refl _ _).alloc (Nat.le_refl _) _
  have HR0 : Hid ((w.alloc (.cells (extE x).toArray 76)).heap[w.heap.size]? = some (.cells (extE x).toArray 76 (0, 0))) := heap_alloc_new _ _
  have HE1 : Hid (EnvC (w.alloc (.cells (extE x).toArray 76))) := hE.below HB0.out
  have h1 := hs.1
  have h2 := hs.2
  have h3 := replace_len x.2.data.toList [10] [10, 32]
  rw [← Lib.size_eq] at h3
  simp only [List.length_cons, List.length_nil] at h3
  obtain ⟨T1, hT1⟩ : ∃ l, x.1.data.toList ++ [32] = l := ⟨_, rfl⟩
  obtain ⟨T2, hT2⟩ : ∃ l, Lib.replaceAll x.2.data.toList [10] [10, 32] = l := ⟨_, rfl⟩
  obtain ⟨T3, hT3⟩ : ∃ l, T1 ++ T2 = l := ⟨_, rfl⟩
  have l1 : T1.length ≤ 40001 := by rw [← hT1, List.length_append, ← Lib.size_eq]; simp; omega
  have l2 : T2.length ≤ 120002 := by rw [← hT2]; omega
  have HA1 : Hid (∀ W, (binOp .add 9 (.string x.1) (.string ⟨#[32]⟩)).run Tryz.prog W = .ok (.string (txt T1)) W) := fun W => add_txt _ _ _ hT1 (by show _ + 1 ≤ _; omega) W
  have HA2 : Hid (∀ W, (binOp .add 9 (.string (txt T1)) (.string (txt T2))).run Tryz.prog W = .ok (.string (txt T3)) W) := fun W => add_txt _ _ _ (by rw [txt_list, txt_list]; exact hT3) (by rw [txt_size, txt_size]; omega) W
  have HT : Hid (extT x = T3) := by show _ = _; rw [← hT3, ← hT2, ← hT1]; rfl
  have HRA : Hid (∀ W, (∃ m, W.cell? ⟨0, 0, none⟩ = some (.int .i64 m)) → Calls Tryz.prog 63 #[.string x.2, .string ⟨#[10]⟩, .string ⟨#[10, 32]⟩] W fun e w' => e = .returned (.string (txt T2)) ∧ Below W.heap.size W w') := fun W ⟨m, hm⟩ => by
    have h := Tryz.strings_ReplaceAll x.2 ⟨#[10]⟩ ⟨#[10, 32]⟩ m W (by omega) hm (by decide) (by
      have := Lib.countB_le (⟨#[10]⟩ : ByteArray) (by decide) _ x.2 (Nat.le_refl _)
      show _ + _ * 2 ≤ _
      omega)
    rw [show (⟨(Lib.replaceAll x.2.data.toList (⟨#[10]⟩ : ByteArray).data.toList (⟨#[10, 32]⟩ : ByteArray).data.toList).toArray⟩ : ByteArray) = txt T2 by rw [← hT2]; rfl] at h
    exact h
  clear hE hs h1 h2 h3 l1 l2 hT1 hT2 hT3
  go_enter Tryz.func35, Tryz.ntmps35
  go_wp2_with fail
  generalize w.alloc (.cells (extE x).toArray 76) = w0 at *
  obtain ⟨p0, hp0⟩ : ∃ p, w.heap.size = p := ⟨_, rfl⟩
  rw [hp0] at HR0
  simp only [hp0]
  have HPE := Lib.hid hp0
  clear hp0
  have hmw := HE1.out.env.most
  have HLT : Hid (p0 < w0.heap.size) := (Array.getElem?_eq_some_iff.1 HR0.out).1
  have HC0 : Hid (∀ W, Below w0.heap.size w0 W → W.cell? ⟨p0, 0, none⟩ = some (.string x.1)) := fun W hW => (hW.cell (p := ⟨p0, 0, none⟩) HLT.out).trans (by rw [cell_of_row _ _ _ _ _ _ HR0.out]; rfl)
  have HC1 : Hid (∀ W, Below w0.heap.size w0 W → W.cell? ⟨p0, 1, none⟩ = some (.string x.2)) := fun W hW => (hW.cell (p := ⟨p0, 1, none⟩) HLT.out).trans (by rw [cell_of_row _ _ _ _ _ _ HR0.out]; rfl)
  refine wp_region_noPanic ?_
  refine wp_region_held_drew (S := fun W => Below w0.heap.size w0 W) (by kernel_rfl) ?_ (fun hHeld => ?_)
  · exact (Below.refl _ _).drew
  refine wpAnyH_take (i := 0) (v := ?_) (by simp only [List.getElem?_toArray, List.getElem?_cons_zero]; rfl) (by kernel_rfl) (by kernel_rfl) (by kernel_rfl) (fun _ _ _ h => h) (Or.inl ⟨by rfl, ?_⟩) (by assumption) ?_
  rotate_left
  · intro W hSW
    go_simp
    try with_reducible rfl
  try simp only [Act.put, List.setIfInBounds_toArray, List.set_cons_zero, List.set_cons_succ]
  refine wpAnyH_take (i := 1) (by simp only [List.getElem?_toArray, List.getElem?_cons_succ, List.getElem?_cons_zero]; rfl) (by kernel_rfl) (by kernel_rfl) (by kernel_rfl) (fun _ _ _ h => h) (yieldsIf_load_str (by rfl) 9 _ rfl p0 0 rfl x.1 (fun W hSW => HC0.out W hSW) Tryz.underlying9) (by assumption) ?_
  try simp only [Act.put, List.setIfInBounds_toArray, List.set_cons_zero, List.set_cons_succ]
  refine wpAnyH_take (i := 2) (by simp only [List.getElem?_toArray, List.getElem?_cons_succ, List.getElem?_cons_zero]; rfl) (by kernel_rfl) (by kernel_rfl) (by kernel_rfl) (fun _ _ _ h => h) (yieldsIf_eql (by rfl) .add 9 _ _ _ rfl (.string x.1) (.string ⟨#[32]⟩) rfl rfl (.string (txt T1)) (guard_addn _ _ _ _) (fun W => HA1.out W)) (by assumption) ?_
  try simp only [Act.put, List.setIfInBounds_toArray, List.set_cons_zero, List.set_cons_succ]
  refine wpAnyH_take (i := 3) (v := ?_) (by simp only [List.getElem?_toArray, List.getElem?_cons_succ, List.getElem?_cons_zero]; rfl) (by kernel_rfl) (by kernel_rfl) (by kernel_rfl) (fun _ _ _ h => h) (Or.inl ⟨by rfl, ?_⟩) (by assumption) ?_
  rotate_left
  · intro W hSW
    go_simp
    try with_reducible rfl
  try simp only [Act.put, List.setIfInBounds_toArray, List.set_cons_zero, List.set_cons_succ]
  refine wpAnyH_take (i := 4) (by simp only [List.getElem?_toArray, List.getElem?_cons_succ, List.getElem?_cons_zero]; rfl) (by kernel_rfl) (by kernel_rfl) (by kernel_rfl) (fun _ _ _ h => h) (yieldsIf_load_str (by rfl) 9 _ rfl p0 1 rfl x.2 (fun W hSW => HC1.out W hSW) Tryz.underlying9) (by assumption) ?_
  try simp only [Act.put, List.setIfInBounds_toArray, List.set_cons_zero, List.set_cons_succ]
  refine wpAnyH_ready (rs := [5]) (by kernel_rfl) (by simp) ?_
  refine AllReadyH.cons (by simp only [List.getElem?_toArray, List.getElem?_cons_succ, List.getElem?_cons_zero]; rfl) (fun K hK => ?_) AllReadyH.nil
  go_simp
  refine (HRA.out _ (by exact hmw)).mono ?_
  rintro e v1 ⟨rfl, hb⟩
  have hb1 : Below w0.heap.size w0 v1 := (Below.refl _ _).drew.trans hb
  have HV1 := Lib.hid hb1
  clear hb hb1
  go_wp2_with fail
  refine hK.out _ _ (HV1.out) (fun hHeld2 => ?_)
  clear hK K hHeld
  have hHeld := hHeld2
  clear hHeld2
  try simp only [Act.put, List.setIfInBounds_toArray, List.set_cons_zero, List.set_cons_succ]
  refine wpAnyH_take (i := 6) (by simp only [List.getElem?_toArray, List.getElem?_cons_succ, List.getElem?_cons_zero]; rfl) (by kernel_rfl) (by kernel_rfl) (by kernel_rfl) (fun _ _ _ h => h) (yieldsIf_eql (by rfl) .add 9 _ _ _ rfl (.string (txt T1)) (.string (txt T2)) rfl rfl (.string (txt T3)) (guard_addn _ _ _ _) (fun W => HA2.out W)) (by assumption) ?_
  try simp only [Act.put, List.setIfInBounds_toArray, List.set_cons_zero, List.set_cons_succ]
  refine wpAnyH_take (i := 7) (v := ?_) (by simp only [List.getElem?_toArray, List.getElem?_cons_succ, List.getElem?_cons_zero]; rfl) (by kernel_rfl) (by kernel_rfl) (by kernel_rfl) (fun _ _ _ h => h) (Or.inl ⟨by rfl, ?_⟩) (by assumption) ?_
  rotate_left
  · intro W hSW
    go_simp
    try with_reducible rfl
  try simp only [Act.put, List.setIfInBounds_toArray, List.set_cons_zero, List.set_cons_succ]
  refine wpAnyH_done (by kernel_rfl) ?_ _
  refine NoPanic.normal ?_
  clear hHeld
  go_wp2_with fail
  go_ret
  exact ⟨by rw [HT.out] <;> rfl, HB0.out.trans (HV1.out.mono HB0.out.size)⟩
/-- Where a line's parts lie. -/
def PartsIn (w : World) (b : Nat) (v : Value) (ps : List ByteArray) : Prop := (ps = [] ∧ v = .slice none 0 0) ∨ ∃ g cap t, v = .slice (some ⟨g, 0, none⟩) ps.length cap ∧ t ≠ 5 ∧ g ≠ b ∧ w.heap[g]? = some (.cells (ps.map Value.string).toArray t (0, 0))
def catB (ps : List ByteArray) : List UInt8 := ps.flatMap (·.data.toList)
theorem catB_take (ps : List ByteArray) (k : Nat) (p : ByteArray) (h : ps[k]? = some p) : catB (ps.take (k + 1)) = catB (ps.take k) ++ p.data.toList := by
  unfold catB
  rw [List.take_add_one, h, List.flatMap_append]; simp
theorem catB_len (ps : List ByteArray) (h : ∀ p ∈ ps, p.size ≤ 1000000000) : (catB ps).length ≤ ps.length * 1000000000 := by
  induction ps with
  | nil => simp [catB]
  | cons p ps ih =>
    have h1 := h p (List.mem_cons_self ..)
    have h2 := ih fun q hq => h q (List.mem_cons_of_mem _ hq)
    unfold catB at h2 ⊢
    rw [List.flatMap_cons, List.length_append, List.length_cons, ← Lib.size_eq, Nat.succ_mul]; omega
theorem parts_cell {w : World} {b : Nat} {v : Value} {ps : List ByteArray} (h : PartsIn w b v ps) {k : Nat} {p : ByteArray} (hp : ps[k]? = some p) : ∃ g cap, v = .slice (some ⟨g, 0, none⟩) ps.length cap ∧ ∀ W, KeepsF b w W → W.cell? ⟨g, k, none⟩ = some (.string p) := by
  rcases h with ⟨rfl, -⟩ | ⟨g, cap, t, rfl, ht, hg, hh⟩
  · simp at hp
  · refine ⟨g, cap, rfl, fun W hW => ?_⟩
    rw [cell_of_row _ _ _ _ _ _ (hW g _ t (0, 0) hg (.inl ht) hh)]
    simp [hp]
theorem parts_shape {w : World} {b : Nat} {v : Value} {ps : List ByteArray} (h : PartsIn w b v ps) : ∃ a cap, v = .slice a ps.length cap := by
  rcases h with ⟨rfl, rfl⟩ | ⟨g, cap, t, rfl, -⟩
  · exact ⟨_, _, rfl⟩
  · exact ⟨_, _, rfl⟩
set_option maxRecDepth 100000 in
set_option maxHeartbeats 8000000 in
theorem line_any (B b : Nat) (l : List UInt8) (v : Value) (ps : List ByteArray) (w : World) (h : Lib.IsBuilder 79 5 B b (Lib.byteCells l) w) (hl : l.length ≤ 100000000000) (hp : PartsIn w b v ps) (hn : ps.length ≤ 10) (hs : ∀ p ∈ ps, p.size ≤ 1000000000) (hBw : B ≤ w.heap.size) :
    Calls Tryz.prog 32 #[.pointer (some ⟨b, 0, none⟩), v] w fun e w' => e = .returned (.tuple #[]) ∧ Lib.IsBuilder 79 5 B b (Lib.byteCells (l ++ catB ps ++ [10])) w' ∧ Below B w w' := by
  have HP := Lib.hid hp
  obtain ⟨a, cap, rfl⟩ := parts_shape hp
  have HSZ := Lib.hid hs
  have HLL := Lib.hid hl
  have HBW := Lib.hid hBw
  have H0 : Hid (Lib.IsBuilder 79 5 B b (Lib.byteCells (l ++ catB (ps.take 0))) w) := by show Lib.IsBuilder _ _ _ _ _ _; simpa [catB] using h
  obtain ⟨n, hN⟩ : ∃ n, ps.length = n := ⟨_, rfl⟩
  have HN := Lib.hid hN
  have HNB : Hid (n ≤ 10) := by rw [← hN]; exact hn
  rw [hN]
  clear h hl hp hn hs hBw hN
  go_enter Tryz.func32, Tryz.ntmps32
  go_wp2_with fail
  go_loopw [8] (fun i wr => ∃ k : Nat, k ≤ n ∧ i = .int .i64 (k : Int) ∧ Lib.IsBuilder 79 5 B b (Lib.byteCells (l ++ catB (ps.take k))) wr ∧ Below B w wr ∧ KeepsF b w wr) (fun i _ => n - (intOf i).toNat)
  case atStart => exact ⟨0, Nat.zero_le _, rfl, H0.out, Below.refl _ _, KeepsF.refl _ _⟩
  case round =>
    obtain ⟨k, hk, rfl, hu, hb, hkf⟩ := hrel
    have HU := Lib.hid hu
    have HB := Lib.hid hb
    have HK := Lib.hid hkf
    have HBR : Hid (B ≤ wr.heap.size) := by have := HB.out.size; have := HBW.out; show _ ≤ _; omega
    have WK := Lib.hid (next_int k (by have := HNB.out; omega))
    have HLN : Hid ((l ++ catB (ps.take k)).length ≤ 110000000000) := by
      have h1 := catB_len (ps.take k) fun p hp => HSZ.out p (List.mem_of_mem_take hp)
      have h2 := HLL.out
      have h3 := HNB.out
      rw [List.length_take, HN.out] at h1
      have h4 : min k n * 1000000000 ≤ 10 * 1000000000 := Nat.mul_le_mul_right _ (by omega)
      show _ ≤ _
      rw [List.length_append]; omega
    clear hu hb hkf H0
    by_cases hkn : k < n
    · have hki : (k : Int) < (n : Int) := by omega
      have HKN := Lib.hid hkn
      obtain ⟨p, hp⟩ : ∃ p, ps[k]? = some p := ⟨_, List.getElem?_eq_getElem (by rw [HN.out]; exact hkn)⟩
      obtain ⟨g, cap', e1, hc⟩ := parts_cell HP.out hp
      simp only [Value.slice.injEq] at e1
      obtain ⟨rfl, -, rfl⟩ := e1
      have hcell := hc wr HK.out
      have HPS := Lib.hid (HSZ.out p (List.mem_of_getElem? hp))
      have HTK := Lib.hid (catB_take ps k p hp)
      clear hp hc hkn hk
      go_wp2_with fail
      clear hcell hki
      refine (writeStr_k B b (l ++ catB (ps.take k)) p wr HU.out (by have := HLN.out; have := HPS.out; omega) HBR.out).mono ?_
      rintro e w2 ⟨rfl, ⟨hu, hb⟩, hk2⟩
      rw [List.append_assoc, ← HTK.out] at hu
      have HU2 := Lib.hid hu
      have HB2 := Lib.hid (HB.out.trans hb)
      have HK2 := Lib.hid (HK.out.trans hk2)
      clear hu hb hk2
      go_wp2_with fail
      exact ⟨⟨k + 1, HKN.out, by first | rw [WK.out _ rfl] | rfl, .inr HU2.out, HB2.out, HK2.out⟩, by have := HKN.out; (first | rw [WK.out _ rfl] | skip); simp [intOf]; omega⟩
    · have hki : ¬ (k : Int) < (n : Int) := by omega
      have HT : Hid (ps.take k = ps) := List.take_of_length_le (by rw [HN.out]; omega)
      rw [HT.out] at HU HLN
      clear hkn hk
      go_wp2_with fail
      refine (writeByte_k B b (Lib.byteCells (l ++ catB ps)) 10 wr HU.out (by have := HLN.out; rw [Lib.byteCells_length]; omega) HBR.out).mono ?_
      rintro e w2 ⟨rfl, ⟨hu, hb⟩, -⟩
      have HU2 : Hid (Lib.BuilderAt 79 5 B b (.pointer (some ⟨b, 0, none⟩)) (Lib.byteCells (l ++ catB ps ++ [10])) w2) := by
        have e : Lib.byteCells (l ++ catB ps) ++ [.int .u8 10] = Lib.byteCells (l ++ catB ps ++ [10]) := by unfold Lib.byteCells; simp
        rw [e] at hu; exact hu
      have HB2 := Lib.hid (HB.out.trans hb)
      clear hu hb
      go_wp2_with fail
      refine bodyPost_end (results_none rfl _ _ _) rfl ?_
      exact ⟨rfl, .inr HU2.out, HB2.out⟩
end Go.Proofs.YtindmggmblmmcaaGreatDoor
