/- Names; an entry's key; two entries compared: the walks. -/
import Derived.Test.YthemolkmciofaaaDoorTrMode
namespace Go.Proofs.YthemolkmciofaaaDoor
open Go.RowKit Plain
set_option linter.unusedVariables false
set_option linter.unusedSimpArgs false
theorem slash_idx (l : List UInt8) : Lib.containsAny l [47, 0] = l.any slash0 := by
  unfold Lib.containsAny
  induction l with
  | nil => rfl
  | cons b l ih =>
    have hc : ([47, 0] : List UInt8).contains b = slash0 b := by
      unfold slash0
      simp only [List.contains_cons, List.contains_nil, Bool.or_false]
    have hge := Lib.indexAny_ge [47, 0] l
    unfold Lib.indexAny
    rw [List.any_cons, hc, ← ih]
    cases h : slash0 b
    · simp only [Bool.false_eq_true, if_false, Bool.false_or]
      split
      · rename_i e
        rw [beq_iff_eq.1 e]
      · rename_i e
        have : Lib.indexAny l [47, 0] ≠ -1 := fun e2 => e (beq_iff_eq.2 e2)
        rw [decide_eq_decide]
        omega
    · simp
set_option maxRecDepth 100000 in
set_option maxHeartbeats 4000000 in
theorem rightName_any (s : ByteArray) (w : World) :
    Calls Tryd.prog 20 #[.string s] w fun e w' => e = .returned (.bool (nameOk s.data.toList)) ∧ Below w.heap.size w w' := by
  have HSZ := Lib.hid (Lib.size_eq s)
  have hEQ : ∀ c : ByteArray, (s.toList == c.toList) = (s.data.toList == c.data.toList) := fun c => by rw [Lib.toList_data, Lib.toList_data]
  obtain ⟨e1, he1⟩ : ∃ e, (s.data.toList == ([] : List UInt8)) = e := ⟨_, rfl⟩
  obtain ⟨e2, he2⟩ : ∃ e, (s.data.toList == ([46] : List UInt8)) = e := ⟨_, rfl⟩
  obtain ⟨e3, he3⟩ : ∃ e, (s.data.toList == ([46, 46] : List UInt8)) = e := ⟨_, rfl⟩
  have HN1 := Lib.hid (fun W => ne_str s ⟨#[]⟩ e1 ((hEQ _).trans he1) W)
  have HN2 := Lib.hid (fun W => ne_str s ⟨#[46]⟩ e2 ((hEQ _).trans he2) W)
  have HN3 := Lib.hid (fun W => ne_str s ⟨#[46, 46]⟩ e3 ((hEQ _).trans he3) W)
  have HOK : Hid (nameOk s.data.toList = (!e1 && decide (s.data.toList.length ≤ 255) && !e2 && !e3 && !(s.data.toList.any slash0))) := by
    show _ = _
    unfold nameOk
    have : s.data.toList.isEmpty = e1 := by rw [← he1]; cases s.data.toList <;> rfl
    rw [this, he2, he3]
  clear he1 he2 he3 hEQ
  cases e1
  · by_cases h255 : s.size ≤ 255
    · have hle : (s.size : Int) ≤ 255 := by omega
      have HD : Hid (decide (s.data.toList.length ≤ 255) = true) := decide_eq_true (by rw [← HSZ.out]; exact h255)
      rw [HD.out] at HOK
      cases e2
      · cases e3
        · have HC := Lib.hid (containsAny_any s ⟨#[47, 0]⟩ w (by omega) (by decide) (by decide) (by unfold Ascii; decide))
          have hca : Lib.containsAny s.data.toList (⟨#[47, 0]⟩ : ByteArray).data.toList = s.data.toList.any slash0 := slash_idx _
          rw [hca] at HC
          clear h255 hca
          generalize s.data.toList.any slash0 = an at *
          go_enter Tryd.func20, Tryd.ntmps20
          go_wp2_with (first
            | refine wpList_eql (by rfl) .neq 9 _ _ _ rfl (.string s) (.string ⟨#[]⟩) rfl rfl (.bool true) (guard_ne _ _ _ _) HN1.out ?_
            | refine wpList_eql (by rfl) .neq 9 _ _ _ rfl (.string s) (.string ⟨#[46]⟩) rfl rfl (.bool true) (guard_ne _ _ _ _) HN2.out ?_
            | refine wpList_eql (by rfl) .neq 9 _ _ _ rfl (.string s) (.string ⟨#[46, 46]⟩) rfl rfl (.bool true) (guard_ne _ _ _ _) HN3.out ?_)
          refine HC.out.mono ?_
          rintro e w1 ⟨rfl, hb⟩
          have HB := Lib.hid hb
          clear hb
          go_wp2_with fail
          go_ret
          exact ⟨by rw [HOK.out]; cases an <;> rfl, HB.out⟩
        · have HF : Hid (nameOk s.data.toList = false) := by show _ = _; rw [HOK.out]; rfl
          clear h255 HOK
          go_enter Tryd.func20, Tryd.ntmps20
          go_wp2_with (first
            | refine wpList_eql (by rfl) .neq 9 _ _ _ rfl (.string s) (.string ⟨#[]⟩) rfl rfl (.bool true) (guard_ne _ _ _ _) HN1.out ?_
            | refine wpList_eql (by rfl) .neq 9 _ _ _ rfl (.string s) (.string ⟨#[46]⟩) rfl rfl (.bool true) (guard_ne _ _ _ _) HN2.out ?_
            | refine wpList_eql (by rfl) .neq 9 _ _ _ rfl (.string s) (.string ⟨#[46, 46]⟩) rfl rfl (.bool false) (guard_ne _ _ _ _) HN3.out ?_)
          go_ret
          exact ⟨by rw [HF.out]; rfl, Below.refl _ _⟩
      · have HF : Hid (nameOk s.data.toList = false) := by show _ = _; rw [HOK.out]; rfl
        clear h255 HOK
        go_enter Tryd.func20, Tryd.ntmps20
        go_wp2_with (first
          | refine wpList_eql (by rfl) .neq 9 _ _ _ rfl (.string s) (.string ⟨#[]⟩) rfl rfl (.bool true) (guard_ne _ _ _ _) HN1.out ?_
          | refine wpList_eql (by rfl) .neq 9 _ _ _ rfl (.string s) (.string ⟨#[46]⟩) rfl rfl (.bool false) (guard_ne _ _ _ _) HN2.out ?_)
        go_ret
        exact ⟨by rw [HF.out]; rfl, Below.refl _ _⟩
    · have hle : ¬ (s.size : Int) ≤ 255 := by omega
      have HF : Hid (nameOk s.data.toList = false) := by
        show _ = _
        rw [HOK.out, decide_eq_false (by rw [← HSZ.out]; exact h255)]; rfl
      clear h255 HOK
      go_enter Tryd.func20, Tryd.ntmps20
      go_wp2_with (first
        | refine wpList_eql (by rfl) .neq 9 _ _ _ rfl (.string s) (.string ⟨#[]⟩) rfl rfl (.bool true) (guard_ne _ _ _ _) HN1.out ?_)
      go_ret
      exact ⟨by rw [HF.out]; rfl, Below.refl _ _⟩
  · have HF : Hid (nameOk s.data.toList = false) := by show _ = _; rw [HOK.out]; rfl
    clear HOK
    go_enter Tryd.func20, Tryd.ntmps20
    go_wp2_with (first
      | refine wpList_eql (by rfl) .neq 9 _ _ _ rfl (.string s) (.string ⟨#[]⟩) rfl rfl (.bool false) (guard_ne _ _ _ _) HN1.out ?_)
    go_ret
    exact ⟨by rw [HF.out]; rfl, Below.refl _ _⟩
set_option maxRecDepth 100000 in
set_option maxHeartbeats 4000000 in
theorem key_any (x : TE) (h20 : x.n.length = 20) (hp : x.p.size ≤ 100000) (w : World) :
    Calls Tryd.prog 27 #[.agg (entA x)] w fun e w' => e = .returned (.string (txt (keyT x))) ∧ Below w.heap.size w w' := by
  have HRW : Hid ((w.alloc (.cells (entA x) 30)).heap[w.heap.size]? = some (.cells (entA x) 30 (0, 0))) := heap_alloc_new _ _
  have HB1 : Hid (Below w.heap.size w (w.alloc (.cells (entA x) 30))) := (Below.refl _ _).alloc (Nat.le_refl _) _
  have hcm := range_mode (row_ent HRW.out)
  have hcn := range_name (row_ent HRW.out)
  rw [Nat.zero_add] at hcn
  have ha := add_str x.p ⟨#[47]⟩ (by show _ + 1 ≤ _; omega)
  have HK : Hid (txt (keyT x) = if x.k = 16384 then x.p ++ ⟨#[47]⟩ else x.p) := by
    show _ = _
    unfold keyT
    split
    · exact bytes_ext (by rw [txt_list, ByteArray.data_append, Array.toList_append])
    · exact txt_of _
  obtain ⟨q, hq⟩ : ∃ q, x.p ++ (⟨#[47]⟩ : ByteArray) = q := ⟨_, rfl⟩
  rw [hq] at ha HK
  generalize txt (keyT x) = kt at *
  generalize x.p = p at *
  generalize x.k = k at *
  clear hp h20 hq
  by_cases hk : k = 16384
  · subst hk
    have hkt : kt = q := by rw [HK.out, if_pos rfl]
    subst hkt
    go_enter Tryd.func27, Tryd.ntmps27
    go_wp2_with fail
    go_ret
    exact ⟨rfl, HB1.out⟩
  · have hkt : kt = p := by rw [HK.out, if_neg hk]
    have hkb : (k == 16384) = false := beq_eq_false_iff_ne.2 hk
    subst hkt
    go_enter Tryd.func27, Tryd.ntmps27
    go_wp2_with fail
    go_ret
    exact ⟨rfl, HB1.out⟩
end Go.Proofs.YthemolkmciofaaaDoor
