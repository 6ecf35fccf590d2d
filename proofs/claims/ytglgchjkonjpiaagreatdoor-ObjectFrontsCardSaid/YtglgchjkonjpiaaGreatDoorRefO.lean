/- The document's Open of objects: the walk. -/
import Derived.Test.YtglgchjkonjpiaaGreatDoorFewO
import Derived.Test.YtglgchjkonjpiaaGreatDoorRefOpen
namespace Go.Proofs.YtglgchjkonjpiaaGreatDoor
open Go.RowKit Plain
set_option linter.unusedVariables false
/-- What the document's Open tells. -/
def RefO (bs : List Int) (e : Ending) (w' : World) : Prop :=
  (∃ k : Nat, openN bs 100000 = .error k ∧ k ≠ 0 ∧ e = .returned (.tuple #[.int .i64 0, .slice none 0 0, .int .i64 (k : Int)])) ∨
  (∃ n m, openN bs 100000 = .ok (n, m) ∧ (n ≠ bs.length ∨ ∀ k ys, ¬ IsObj m k ys) ∧ e = .returned (.tuple #[.int .i64 0, .slice none 0 0, .int .i64 4])) ∨
  (∃ (m : List Int) (k : Nat) (ys : List Int) (va : Option Addr) (vl vc : Nat), openN bs 100000 = .ok (bs.length, m) ∧ m.length ≤ 100000 ∧ IsObj m k ys ∧ e = .returned (.tuple #[.int .i64 (k : Int), .slice va vl vc, .int .i64 0]) ∧ RowB w' va vl vc ys)
theorem no_obj {m : List Int} (h : ∀ j, j < 5 → ∀ ys, ¬ IsObj m j ys) (k : Nat) (ys : List Int) : ¬ IsObj m k ys := fun ho => h k (by have := ho.2.1; omega) ys ho
theorem obj_part {m : List Int} {k : Nat} {ys : List Int} (h : IsObj m k ys) : ∃ j, j ≤ m.length ∧ ys = m.drop j := by
  obtain ⟨-, -, h⟩ := h
  refine ⟨(numsOf (frontOf (k : Int) ys.length)).length, ?_, ?_⟩
  · conv => rhs; rw [h]
    unfold wholeOf
    rw [List.length_append]
    omega
  · conv => rhs; rw [h]
    unfold wholeOf
    rw [List.drop_left]
theorem obj_text {m : List Int} {k i : Nat} (h1 : 1 ≤ k) (h4 : k ≤ 4) (hm : ∀ x ∈ m, 0 ≤ x ∧ x ≤ 255) (ml : Nat) (hl : m.length = ml) : strOfNums (wholeOf (k : Int) (ml - i) (m.drop i)) = strOfNums m ↔ IsObj m k (m.drop i) := by
  have hd : ∀ x ∈ m.drop i, 0 ≤ x ∧ x ≤ 255 := fun x h => hm x (List.mem_of_mem_drop h)
  constructor
  · intro h
    have h2 := congrArg numsOf h
    rw [numsOf_str _ (whole_mem _ _ hd), numsOf_str _ hm] at h2
    exact ⟨h1, h4, by rw [List.length_drop, hl]; exact h2.symm⟩
  · rintro ⟨-, -, h⟩
    rw [List.length_drop, hl] at h
    rw [← h]
theorem text_no (s t : ByteArray) (h : ¬ s = t) : (s.toList == t.toList) = false := beq_list s t h
set_option maxRecDepth 100000 in
set_option maxHeartbeats 8000000 in
theorem refO_any (a : Option Addr) (n c : Nat) (bs : List Int) (w : World) (H : RowB w a n c bs) (hn : n ≤ 1000000) :
    Calls Tryz.prog 15 #[.slice a n c] w fun e w' => RefO bs e w' ∧ Below w.heap.size w w' := by
  have HL : Hid (bs.length = n) := H.len
  go_enter Tryz.func15, Tryz.ntmps15
  go_wp2_with fail
  refine (refOpen_any a n c bs 100000 100000 w H (by omega) rfl (by omega)).mono ?_
  rintro e w1 (⟨q, m, va, vc, ho, rfl, hrow, hmm, hb, hq⟩ | ⟨k, ho, hk, rfl, hb⟩)
  · have HO := Lib.hid ho
    have HR := Lib.hid hrow
    have HB := Lib.hid hb
    have HMM := Lib.hid hmm
    have HME := Lib.hid hrow.mem
    clear ho hrow hb hq H
    obtain ⟨ml, hml2⟩ : ∃ ml, m.length = ml := ⟨_, rfl⟩
    have HML := Lib.hid hml2
    rw [hml2] at HR hmm ⊢
    clear hml2
    by_cases h1 : q = n
    · subst h1
      have HO2 : Hid (openN bs 100000 = .ok (bs.length, m)) := by show _ = _; rw [HL.out]; exact HO.out
      go_wp2_with fail
      go_loopw [8] (fun v wr => ∃ k : Nat, 1 ≤ k ∧ k ≤ 5 ∧ v = .int .i64 (k : Int) ∧ (∀ j, j < k → ∀ ys, ¬ IsObj m j ys) ∧ Below w.heap.size w wr ∧ RowB wr va ml vc m) (fun v _ => 5 - (intOf v).toNat)
      case atStart => exact ⟨1, by omega, by omega, rfl, fun j hj ys ho => by have := ho.1; omega, HB.out, HR.out⟩
      case round =>
        clear HR HB
        obtain ⟨k, hk1, hk5, rfl, hno, hb, hrow⟩ := hrel
        have HB := Lib.hid hb
        have HR := Lib.hid hrow
        have HNO := Lib.hid hno
        clear hb hrow hno
        by_cases h5 : k = 5
        · subst h5
          have HQ : Hid (∀ k ys, ¬ IsObj m k ys) := no_obj HNO.out
          go_wp2_with fail
          go_ret3
          exact ⟨.inr (.inl ⟨_, m, HO2.out, .inr HQ.out, rfl⟩), HB.out⟩
        · have hk4 : k ≤ 4 := by omega
          have hk4i : (k : Int) ≤ 4 := by omega
          have w8 : wrap64 ((k : Int) + 1) = ((k + 1 : Nat) : Int) := by
            rw [show (k : Int) + 1 = ((k + 1 : Nat) : Int) by omega]; exact IntWalk.wrap64_in _ (by omega)
          go_wp2_with fail
          go_loopw [9] (fun v wr => ∃ i : Nat, i ≤ ml + 1 ∧ v = .int .i64 (i : Int) ∧ (∀ j, j < i → ¬ IsObj m k (m.drop j)) ∧ Below w.heap.size w wr ∧ RowB wr va ml vc m) (fun v _ => ml + 1 - (intOf v).toNat)
          case atStart => exact ⟨0, by omega, rfl, fun j hj => by omega, HB.out, HR.out⟩
          case round =>
            clear HR HB
            obtain ⟨i, hi, rfl, hni, hb, hrow⟩ := hrel
            have HB := Lib.hid hb
            have HRM := Lib.hid hrow
            have HNI := Lib.hid hni
            clear hb hrow hni
            by_cases hii : i = ml + 1
            · subst hii
              have hil : ¬ ((ml + 1 : Nat) : Int) ≤ (ml : Int) := by omega
              have hil2 : ¬ (ml : Int) + 1 ≤ (ml : Int) := by omega
              have HNX : Hid (∀ j, j < k + 1 → ∀ ys, ¬ IsObj m j ys) := fun j hj ys ho => by
                by_cases hjk : j = k
                · subst hjk
                  obtain ⟨p, hp, rfl⟩ := obj_part ho
                  exact HNI.out p (by have := HML.out; omega) ho
                · exact HNO.out j (by omega) ys ho
              go_wp2_with fail
              exact ⟨⟨k + 1, by omega, by omega, by first | rfl | exact congrArg (Value.int .i64) w8, HNX.out, HB.out, HRM.out⟩, by simp [intOf]; omega⟩
            · have him : i ≤ ml := by omega
              have hil : (i : Int) ≤ (ml : Int) := by omega
              have w9 : wrap64 ((i : Int) + 1) = ((i + 1 : Nat) : Int) := by
                rw [show (i : Int) + 1 = ((i + 1 : Nat) : Int) by omega]; exact IntWalk.wrap64_in _ (by have := HMM.out; have := HML.out; omega)
              have HSB := Lib.hid (HRM.out.part i him)
              have hsl := slice_from va ml vc i him HRM.out.le
              have HWO := Lib.hid (fun Wd (h : Bytes Wd (subA va vc i) (ml - i) (m.drop i)) => whole_row (k : Int) (subA va vc i) (ml - i) (vc - i) (m.drop i) (by have := HMM.out; have := HML.out; omega) Wd h)
              have HTX := Lib.hid (obj_text (m := m) (i := i) hk1 hk4 HME.out ml HML.out)
              generalize wholeOf (k : Int) (ml - i) (m.drop i) = T at *
              obtain ⟨sl, hsl2⟩ : ∃ sl, ml - i = sl := ⟨_, rfl⟩
              obtain ⟨sc, hsc⟩ : ∃ sc, vc - i = sc := ⟨_, rfl⟩
              obtain ⟨sa, hsa⟩ : ∃ sa, subA va vc i = sa := ⟨_, rfl⟩
              rw [hsl2, hsc, hsa] at hsl HSB HWO
              clear hsl2 hsc hsa
              have hmin : m = m := rfl
              clear hmin
              by_cases heq : strOfNums T = strOfNums m
              · have HOB : Hid (IsObj m k (m.drop i)) := HTX.out.1 heq
                have hte : ∀ W xa xn xc, Bytes W xa xn T → (convert 22 9 (.slice xa xn xc)).run Tryz.prog W = .ok (.string (strOfNums m)) W := fun W xa xn xc h => by rw [← heq]; exact text_run W xa xn xc T h
                have HTE := Lib.hid hte
                clear hte heq
                have HSM := Lib.hid (fun W (h : Bytes W va ml m) => text_run W va ml vc m h)
                generalize strOfNums m = sm at *
                go_wp2_with fail
                refine wp_region_noPanic ?_
                refine wp_region_held_drew (S := fun W => Below wr.heap.size wr W) (by kernel_rfl) ?_ (fun hHeld => ?_)
                · exact (Below.refl _ _).drew
                refine wpAnyH_take (i := 0) (v := ?_) (by simp only [List.getElem?_toArray, List.getElem?_cons_zero]; rfl) (by kernel_rfl) (by kernel_rfl) (by kernel_rfl) (fun _ _ _ h => h) (Or.inl ⟨by rfl, ?_⟩) (by assumption) ?_
                rotate_left
                · intro W hSW
                  go_simp
                  try with_reducible rfl
                try simp only [Act.put, List.setIfInBounds_toArray, List.set_cons_zero, List.set_cons_succ]
                refine wpAnyH_take (i := 1) (v := ?_) (by simp only [List.getElem?_toArray, List.getElem?_cons_succ, List.getElem?_cons_zero]; rfl) (by kernel_rfl) (by kernel_rfl) (by kernel_rfl) (fun _ _ _ h => h) (Or.inl ⟨by rfl, ?_⟩) (by assumption) ?_
                rotate_left
                · intro W hSW
                  go_simp
                  try with_reducible rfl
                try simp only [Act.put, List.setIfInBounds_toArray, List.set_cons_zero, List.set_cons_succ]
                refine wpAnyH_take (i := 2) (v := ?_) (by simp only [List.getElem?_toArray, List.getElem?_cons_succ, List.getElem?_cons_zero]; rfl) (by kernel_rfl) (by kernel_rfl) (by kernel_rfl) (fun _ _ _ h => h) (Or.inl ⟨by rfl, ?_⟩) (by assumption) ?_
                rotate_left
                · intro W hSW
                  go_simp
                  try with_reducible rfl
                try simp only [Act.put, List.setIfInBounds_toArray, List.set_cons_zero, List.set_cons_succ]
                refine wpAnyH_take (i := 3) (v := ?_) (by simp only [List.getElem?_toArray, List.getElem?_cons_succ, List.getElem?_cons_zero]; rfl) (by kernel_rfl) (by kernel_rfl) (by kernel_rfl) (fun _ _ _ h => h) (Or.inl ⟨by rfl, ?_⟩) (by assumption) ?_
                rotate_left
                · intro W hSW
                  go_simp
                  try with_reducible rfl
                try simp only [Act.put, List.setIfInBounds_toArray, List.set_cons_zero, List.set_cons_succ]
                refine wpAnyH_take (i := 6) (v := ?_) (by simp only [List.getElem?_toArray, List.getElem?_cons_succ, List.getElem?_cons_zero]; rfl) (by kernel_rfl) (by kernel_rfl) (by kernel_rfl) (fun _ _ _ h => h) (Or.inl ⟨by rfl, ?_⟩) (by assumption) ?_
                rotate_left
                · intro W hSW
                  go_simp
                  try with_reducible rfl
                try simp only [Act.put, List.setIfInBounds_toArray, List.set_cons_zero, List.set_cons_succ]
                refine wpAnyH_take (i := 7) (v := ?_) (by simp only [List.getElem?_toArray, List.getElem?_cons_succ, List.getElem?_cons_zero]; rfl) (by kernel_rfl) (by kernel_rfl) (by kernel_rfl) (fun _ _ _ h => h) (Or.inl ⟨by rfl, ?_⟩) (by assumption) ?_
                rotate_left
                · intro W hSW
                  have tx := HSM.out W ((HRM.out.below hSW).bytes)
                  go_simp
                  try with_reducible rfl
                try simp only [Act.put, List.setIfInBounds_toArray, List.set_cons_zero, List.set_cons_succ]
                refine wpAnyH_ready (rs := [4]) (by kernel_rfl) (by simp) ?_
                refine AllReadyH.cons (by simp only [List.getElem?_toArray, List.getElem?_cons_succ, List.getElem?_cons_zero]; rfl) (fun K hK => ?_) AllReadyH.nil
                go_simp
                refine (HWO.out _ (HSB.out.below (Below.refl _ _).drew).bytes).mono ?_
                rintro e v1 ⟨⟨xa, xn, xc, rfl, hrow⟩, hb⟩
                have hbb : Below wr.heap.size wr v1 := (Below.refl _ _).drew.trans hb
                have HWv1 : Hid (Below wr.heap.size wr v1) := hbb
                have HWX := Lib.hid hrow
                clear hrow
                clear hb
                go_wp2_with fail
                refine hK.out _ _ hbb (fun hHeld2 => ?_)
                clear hK K hHeld hHeld2
                try simp only [Act.put, List.setIfInBounds_toArray, List.set_cons_zero, List.set_cons_succ]
                refine wpAnyH_weaken (S2 := fun W => Below v1.heap.size v1 W) (fun W hW => hbb.trans (Below.mono hW hbb.size)) _ _ _ _ ?_
                have hHeld : Below v1.heap.size v1 v1 := Below.refl _ _
                clear hbb
                refine wpAnyH_take (i := 5) (v := ?_) (by simp only [List.getElem?_toArray, List.getElem?_cons_succ, List.getElem?_cons_zero]; rfl) (by kernel_rfl) (by kernel_rfl) (by kernel_rfl) (fun _ _ _ h => h) (Or.inl ⟨by rfl, ?_⟩) (by assumption) ?_
                rotate_left
                · intro W hSW
                  have tx := HTE.out W xa xn xc ((HWX.out.below hSW).bytes)
                  go_simp
                  try with_reducible rfl
                try simp only [Act.put, List.setIfInBounds_toArray, List.set_cons_zero, List.set_cons_succ]
                refine wpAnyH_take (i := 8) (v := ?_) (by simp only [List.getElem?_toArray, List.getElem?_cons_succ, List.getElem?_cons_zero]; rfl) (by kernel_rfl) (by kernel_rfl) (by kernel_rfl) (fun _ _ _ h => h) (Or.inl ⟨by rfl, ?_⟩) (by assumption) ?_
                rotate_left
                · intro W hSW
                  go_simp
                  try with_reducible rfl
                try simp only [Act.put, List.setIfInBounds_toArray, List.set_cons_zero, List.set_cons_succ]
                refine wpAnyH_done (by kernel_rfl) ?_ _
                refine NoPanic.normal ?_
                have HB1 : Hid (Below w.heap.size w v1) := HB.out.trans (HWv1.out.mono HB.out.size)
                have HS1 := Lib.hid (HSB.out.below HWv1.out)
                clear HWO HTX HTE HSM HSB
                go_wp2_with fail
                go_region
                go_wp2_with fail
                go_ret3
                exact ⟨.inr (.inr ⟨m, k, _, sa, sl, sc, HO2.out, HMM.out, HOB.out, rfl, HS1.out.below (Below.refl _ _).drew⟩), HB1.out.drew⟩
              · have hne := text_no _ _ heq
                have HOB : Hid (∀ j, j < i + 1 → ¬ IsObj m k (m.drop j)) := fun j hj ho => by
                  by_cases hji : j = i
                  · subst hji; exact heq (HTX.out.2 ho)
                  · exact HNI.out j (by omega) ho
                clear heq
                go_wp2_with fail
                refine wp_region_noPanic ?_
                refine wp_region_held_drew (S := fun W => Below wr.heap.size wr W) (by kernel_rfl) ?_ (fun hHeld => ?_)
                · exact (Below.refl _ _).drew
                refine wpAnyH_take (i := 0) (v := ?_) (by simp only [List.getElem?_toArray, List.getElem?_cons_zero]; rfl) (by kernel_rfl) (by kernel_rfl) (by kernel_rfl) (fun _ _ _ h => h) (Or.inl ⟨by rfl, ?_⟩) (by assumption) ?_
                rotate_left
                · intro W hSW
                  go_simp
                  try with_reducible rfl
                try simp only [Act.put, List.setIfInBounds_toArray, List.set_cons_zero, List.set_cons_succ]
                refine wpAnyH_take (i := 1) (v := ?_) (by simp only [List.getElem?_toArray, List.getElem?_cons_succ, List.getElem?_cons_zero]; rfl) (by kernel_rfl) (by kernel_rfl) (by kernel_rfl) (fun _ _ _ h => h) (Or.inl ⟨by rfl, ?_⟩) (by assumption) ?_
                rotate_left
                · intro W hSW
                  go_simp
                  try with_reducible rfl
                try simp only [Act.put, List.setIfInBounds_toArray, List.set_cons_zero, List.set_cons_succ]
                refine wpAnyH_take (i := 2) (v := ?_) (by simp only [List.getElem?_toArray, List.getElem?_cons_succ, List.getElem?_cons_zero]; rfl) (by kernel_rfl) (by kernel_rfl) (by kernel_rfl) (fun _ _ _ h => h) (Or.inl ⟨by rfl, ?_⟩) (by assumption) ?_
                rotate_left
                · intro W hSW
                  go_simp
                  try with_reducible rfl
                try simp only [Act.put, List.setIfInBounds_toArray, List.set_cons_zero, List.set_cons_succ]
                refine wpAnyH_take (i := 3) (v := ?_) (by simp only [List.getElem?_toArray, List.getElem?_cons_succ, List.getElem?_cons_zero]; rfl) (by kernel_rfl) (by kernel_rfl) (by kernel_rfl) (fun _ _ _ h => h) (Or.inl ⟨by rfl, ?_⟩) (by assumption) ?_
                rotate_left
                · intro W hSW
                  go_simp
                  try with_reducible rfl
                try simp only [Act.put, List.setIfInBounds_toArray, List.set_cons_zero, List.set_cons_succ]
                refine wpAnyH_take (i := 6) (v := ?_) (by simp only [List.getElem?_toArray, List.getElem?_cons_succ, List.getElem?_cons_zero]; rfl) (by kernel_rfl) (by kernel_rfl) (by kernel_rfl) (fun _ _ _ h => h) (Or.inl ⟨by rfl, ?_⟩) (by assumption) ?_
                rotate_left
                · intro W hSW
                  go_simp
                  try with_reducible rfl
                try simp only [Act.put, List.setIfInBounds_toArray, List.set_cons_zero, List.set_cons_succ]
                refine wpAnyH_take (i := 7) (v := ?_) (by simp only [List.getElem?_toArray, List.getElem?_cons_succ, List.getElem?_cons_zero]; rfl) (by kernel_rfl) (by kernel_rfl) (by kernel_rfl) (fun _ _ _ h => h) (Or.inl ⟨by rfl, ?_⟩) (by assumption) ?_
                rotate_left
                · intro W hSW
                  have tx := text_run W va ml vc m ((HRM.out.below hSW).bytes)
                  go_simp
                  try with_reducible rfl
                try simp only [Act.put, List.setIfInBounds_toArray, List.set_cons_zero, List.set_cons_succ]
                refine wpAnyH_ready (rs := [4]) (by kernel_rfl) (by simp) ?_
                refine AllReadyH.cons (by simp only [List.getElem?_toArray, List.getElem?_cons_succ, List.getElem?_cons_zero]; rfl) (fun K hK => ?_) AllReadyH.nil
                go_simp
                refine (HWO.out _ (HSB.out.below (Below.refl _ _).drew).bytes).mono ?_
                rintro e v1 ⟨⟨xa, xn, xc, rfl, hrow⟩, hb⟩
                have hbb : Below wr.heap.size wr v1 := (Below.refl _ _).drew.trans hb
                have HWv1 : Hid (Below wr.heap.size wr v1) := hbb
                have HWX := Lib.hid hrow
                clear hrow
                clear hb
                go_wp2_with fail
                refine hK.out _ _ hbb (fun hHeld2 => ?_)
                clear hK K hHeld hHeld2
                try simp only [Act.put, List.setIfInBounds_toArray, List.set_cons_zero, List.set_cons_succ]
                refine wpAnyH_weaken (S2 := fun W => Below v1.heap.size v1 W) (fun W hW => hbb.trans (Below.mono hW hbb.size)) _ _ _ _ ?_
                have hHeld : Below v1.heap.size v1 v1 := Below.refl _ _
                clear hbb
                refine wpAnyH_take (i := 5) (v := ?_) (by simp only [List.getElem?_toArray, List.getElem?_cons_succ, List.getElem?_cons_zero]; rfl) (by kernel_rfl) (by kernel_rfl) (by kernel_rfl) (fun _ _ _ h => h) (Or.inl ⟨by rfl, ?_⟩) (by assumption) ?_
                rotate_left
                · intro W hSW
                  have tx := text_run W xa xn xc T ((HWX.out.below hSW).bytes)
                  go_simp
                  try with_reducible rfl
                try simp only [Act.put, List.setIfInBounds_toArray, List.set_cons_zero, List.set_cons_succ]
                refine wpAnyH_take (i := 8) (v := ?_) (by simp only [List.getElem?_toArray, List.getElem?_cons_succ, List.getElem?_cons_zero]; rfl) (by kernel_rfl) (by kernel_rfl) (by kernel_rfl) (fun _ _ _ h => h) (Or.inl ⟨by rfl, ?_⟩) (by assumption) ?_
                rotate_left
                · intro W hSW
                  go_simp
                  try with_reducible rfl
                try simp only [Act.put, List.setIfInBounds_toArray, List.set_cons_zero, List.set_cons_succ]
                refine wpAnyH_done (by kernel_rfl) ?_ _
                refine NoPanic.normal ?_
                have HB1 : Hid (Below w.heap.size w v1) := HB.out.trans (HWv1.out.mono HB.out.size)
                have HR1 := Lib.hid (HRM.out.below HWv1.out)
                go_wp2_with fail
                exact ⟨⟨i + 1, by omega, by first | rfl | exact congrArg (Value.int .i64) w9, HOB.out, HB1.out, HR1.out⟩, by simp [intOf]; omega⟩
    · have e1 : ¬ (q : Int) = (n : Int) := by omega
      have e2 : ((q : Int) == (n : Int)) = false := beq_eq_false_iff_ne.2 e1
      have H1 : Hid (q ≠ bs.length) := by show _ ≠ _; rw [HL.out]; exact h1
      go_wp2_with fail
      go_ret3
      exact ⟨.inr (.inl ⟨q, m, HO.out, .inl H1.out, rfl⟩), HB.out⟩
  · have hki : ¬ ((k : Int) = 0) := by omega
    have hkb : ((k : Int) == 0) = false := by simp; omega
    have hkc : ((k : Int) != 0) = true := by simp; omega
    have HO := Lib.hid ho
    have HK := Lib.hid hk
    have HB := Lib.hid hb
    clear ho hk hb H
    go_wp2_with fail
    go_ret3
    exact ⟨.inl ⟨k, HO.out, HK.out, rfl⟩, HB.out⟩
end Go.Proofs.YtglgchjkonjpiaaGreatDoor
