/- Words kept, directories that are doubtful: the walks. -/
import Derived.Test.YtmjpejnpcmodgaaDoorNmByte
namespace Go.Proofs.YtmjpejnpcmodgaaDoor
open Go.RowKit Plain
set_option linter.unusedVariables false
set_option linter.unusedSimpArgs false
theorem slice_front (s : ByteArray) (m : Nat) (h2 : m ≤ s.size) (x : Int) (hx : x = (m : Int)) (w : World) : (Instr.slice 9 (.string s) none (some (.int .i64 x)) none).run Tryd.prog w = .ok (.string (s.extract 0 m)) w := by
  subst hx
  have ht := Tryd.underlying9
  simp [Instr.slice, run_underlying ht, Instr.sliceBounds, run_sliceBound, h2]
theorem slice_to3 (s : ByteArray) (h : 3 ≤ s.size) (W : World) : (Instr.slice 9 (.string s) none (some (.int .i64 3)) none).run Tryd.prog W = .ok (.string (s.extract 0 3)) W := slice_front s 3 h 3 rfl W
set_option maxRecDepth 100000 in
set_option maxHeartbeats 8000000 in
theorem resv_any (s : ByteArray) (w : World) : Calls Tryd.prog 22 #[.string s] w fun e w' => e = .returned (.bool (resv s.data.toList)) ∧ Below w.heap.size w w' := by
  have HSZ := Lib.hid (Lib.size_eq s)
  obtain ⟨b1, hb1⟩ : ∃ b, (s.data.toList == ([97, 117, 120] : List UInt8)) = b := ⟨_, rfl⟩
  have H1 : Hid (∀ W, (binOp .eql 9 (.string s) (.string ⟨#[97, 117, 120]⟩)).run Tryd.prog W = .ok (.bool b1) W) := fun W => by rw [str_eql, ← hb1]
  obtain ⟨b2, hb2⟩ : ∃ b, (s.data.toList == ([99, 111, 110] : List UInt8)) = b := ⟨_, rfl⟩
  have H2 : Hid (∀ W, (binOp .eql 9 (.string s) (.string ⟨#[99, 111, 110]⟩)).run Tryd.prog W = .ok (.bool b2) W) := fun W => by rw [str_eql, ← hb2]
  obtain ⟨b3, hb3⟩ : ∃ b, (s.data.toList == ([112, 114, 110] : List UInt8)) = b := ⟨_, rfl⟩
  have H3 : Hid (∀ W, (binOp .eql 9 (.string s) (.string ⟨#[112, 114, 110]⟩)).run Tryd.prog W = .ok (.bool b3) W) := fun W => by rw [str_eql, ← hb3]
  obtain ⟨b4, hb4⟩ : ∃ b, (s.data.toList == ([110, 117, 108] : List UInt8)) = b := ⟨_, rfl⟩
  have H4 : Hid (∀ W, (binOp .eql 9 (.string s) (.string ⟨#[110, 117, 108]⟩)).run Tryd.prog W = .ok (.bool b4) W) := fun W => by rw [str_eql, ← hb4]
  obtain ⟨b5, hb5⟩ : ∃ b, (s.data.toList.take 3 == ([99, 111, 109] : List UInt8)) = b := ⟨_, rfl⟩
  obtain ⟨b6, hb6⟩ : ∃ b, (s.data.toList.take 3 == ([108, 112, 116] : List UInt8)) = b := ⟨_, rfl⟩
  have he3 : (s.extract 0 3).data.toList = s.data.toList.take 3 := by rw [extract_list]
  have H5 : Hid (∀ W, (binOp .eql 9 (.string (s.extract 0 3)) (.string ⟨#[99, 111, 109]⟩)).run Tryd.prog W = .ok (.bool b5) W) := fun W => by rw [str_eql, he3, ← hb5]
  have H6 : Hid (∀ W, (binOp .eql 9 (.string (s.extract 0 3)) (.string ⟨#[108, 112, 116]⟩)).run Tryd.prog W = .ok (.bool b6) W) := fun W => by rw [str_eql, he3, ← hb6]
  have HR : Hid (resv s.data.toList = (b1 || b2 || b3 || b4 || (decide (s.data.toList.length = 4) && (b5 || b6) && decide (49 ≤ at8 s 3) && decide (at8 s 3 ≤ 57)))) := by
    show _ = _
    unfold resv
    rw [hb1, hb2, hb3, hb4, hb5, hb6]
    rfl
  clear hb1 hb2 hb3 hb4 hb5 hb6 he3
  cases b1
  rotate_left
  · have HF : Hid (resv s.data.toList = true) := by show _ = _; rw [HR.out]; rfl
    clear HR
    go_enter Tryd.func22, Tryd.ntmps22
    go_wp2_with (first
      | refine wpList_eql (by rfl) .eql 9 _ _ _ rfl (.string s) (.string ⟨#[97, 117, 120]⟩) rfl rfl (.bool true) (guard_eq _ _ _ _) H1.out ?_)
    go_ret
    exact ⟨by rw [HF.out]; rfl, Below.refl _ _⟩
  cases b2
  rotate_left
  · have HF : Hid (resv s.data.toList = true) := by show _ = _; rw [HR.out]; rfl
    clear HR
    go_enter Tryd.func22, Tryd.ntmps22
    go_wp2_with (first
      | refine wpList_eql (by rfl) .eql 9 _ _ _ rfl (.string s) (.string ⟨#[97, 117, 120]⟩) rfl rfl (.bool false) (guard_eq _ _ _ _) H1.out ?_
      | refine wpList_eql (by rfl) .eql 9 _ _ _ rfl (.string s) (.string ⟨#[99, 111, 110]⟩) rfl rfl (.bool true) (guard_eq _ _ _ _) H2.out ?_)
    go_ret
    exact ⟨by rw [HF.out]; rfl, Below.refl _ _⟩
  cases b3
  rotate_left
  · have HF : Hid (resv s.data.toList = true) := by show _ = _; rw [HR.out]; rfl
    clear HR
    go_enter Tryd.func22, Tryd.ntmps22
    go_wp2_with (first
      | refine wpList_eql (by rfl) .eql 9 _ _ _ rfl (.string s) (.string ⟨#[97, 117, 120]⟩) rfl rfl (.bool false) (guard_eq _ _ _ _) H1.out ?_
      | refine wpList_eql (by rfl) .eql 9 _ _ _ rfl (.string s) (.string ⟨#[99, 111, 110]⟩) rfl rfl (.bool false) (guard_eq _ _ _ _) H2.out ?_
      | refine wpList_eql (by rfl) .eql 9 _ _ _ rfl (.string s) (.string ⟨#[112, 114, 110]⟩) rfl rfl (.bool true) (guard_eq _ _ _ _) H3.out ?_)
    go_ret
    exact ⟨by rw [HF.out]; rfl, Below.refl _ _⟩
  cases b4
  rotate_left
  · have HF : Hid (resv s.data.toList = true) := by show _ = _; rw [HR.out]; rfl
    clear HR
    go_enter Tryd.func22, Tryd.ntmps22
    go_wp2_with (first
      | refine wpList_eql (by rfl) .eql 9 _ _ _ rfl (.string s) (.string ⟨#[97, 117, 120]⟩) rfl rfl (.bool false) (guard_eq _ _ _ _) H1.out ?_
      | refine wpList_eql (by rfl) .eql 9 _ _ _ rfl (.string s) (.string ⟨#[99, 111, 110]⟩) rfl rfl (.bool false) (guard_eq _ _ _ _) H2.out ?_
      | refine wpList_eql (by rfl) .eql 9 _ _ _ rfl (.string s) (.string ⟨#[112, 114, 110]⟩) rfl rfl (.bool false) (guard_eq _ _ _ _) H3.out ?_
      | refine wpList_eql (by rfl) .eql 9 _ _ _ rfl (.string s) (.string ⟨#[110, 117, 108]⟩) rfl rfl (.bool true) (guard_eq _ _ _ _) H4.out ?_)
    go_ret
    exact ⟨by rw [HF.out]; rfl, Below.refl _ _⟩
  by_cases h4 : s.size = 4
  rotate_left
  · have hi4 : ((s.size : Int) == 4) = false := beq_eq_false_iff_ne.2 (by omega)
    have hd : decide (s.data.toList.length = 4) = false := decide_eq_false (by rw [← HSZ.out]; exact h4)
    have HF : Hid (resv s.data.toList = false) := by show _ = _; rw [HR.out, hd]; rfl
    clear HR
    go_enter Tryd.func22, Tryd.ntmps22
    go_wp2_with (first
      | refine wpList_eql (by rfl) .eql 9 _ _ _ rfl (.string s) (.string ⟨#[97, 117, 120]⟩) rfl rfl (.bool false) (guard_eq _ _ _ _) H1.out ?_
      | refine wpList_eql (by rfl) .eql 9 _ _ _ rfl (.string s) (.string ⟨#[99, 111, 110]⟩) rfl rfl (.bool false) (guard_eq _ _ _ _) H2.out ?_
      | refine wpList_eql (by rfl) .eql 9 _ _ _ rfl (.string s) (.string ⟨#[112, 114, 110]⟩) rfl rfl (.bool false) (guard_eq _ _ _ _) H3.out ?_
      | refine wpList_eql (by rfl) .eql 9 _ _ _ rfl (.string s) (.string ⟨#[110, 117, 108]⟩) rfl rfl (.bool false) (guard_eq _ _ _ _) H4.out ?_)
    go_ret
    exact ⟨by rw [HF.out]; rfl, Below.refl _ _⟩
  have hd : decide (s.data.toList.length = 4) = true := decide_eq_true (by rw [← HSZ.out]; exact h4)
  have hi4 : (s.size : Int) = 4 := by omega
  have hs3 := fun W => slice_to3 s (by omega) W
  have hix := fun W => index_text s 3 (by omega) 3 rfl W
  rw [hd] at HR
  clear hd h4
  generalize at8 s 3 = c3 at *
  have h13 : c3 < 49 ∨ (49 ≤ c3 ∧ c3 ≤ 57) ∨ 57 < c3 := by omega
  cases b5
  · cases b6
    · have HF : Hid (resv s.data.toList = false) := by show _ = _; rw [HR.out]; rfl
      clear HR
      go_enter Tryd.func22, Tryd.ntmps22
      go_wp2_with (first
        | refine wpList_eql (by rfl) .eql 9 _ _ _ rfl (.string s) (.string ⟨#[97, 117, 120]⟩) rfl rfl (.bool false) (guard_eq _ _ _ _) H1.out ?_
        | refine wpList_eql (by rfl) .eql 9 _ _ _ rfl (.string s) (.string ⟨#[99, 111, 110]⟩) rfl rfl (.bool false) (guard_eq _ _ _ _) H2.out ?_
        | refine wpList_eql (by rfl) .eql 9 _ _ _ rfl (.string s) (.string ⟨#[112, 114, 110]⟩) rfl rfl (.bool false) (guard_eq _ _ _ _) H3.out ?_
        | refine wpList_eql (by rfl) .eql 9 _ _ _ rfl (.string s) (.string ⟨#[110, 117, 108]⟩) rfl rfl (.bool false) (guard_eq _ _ _ _) H4.out ?_
        | refine wpList_eql (by rfl) .eql 9 _ _ _ rfl (.string (s.extract 0 3)) (.string ⟨#[99, 111, 109]⟩) rfl rfl (.bool false) (guard_eq _ _ _ _) H5.out ?_
        | refine wpList_eql (by rfl) .eql 9 _ _ _ rfl (.string (s.extract 0 3)) (.string ⟨#[108, 112, 116]⟩) rfl rfl (.bool false) (guard_eq _ _ _ _) H6.out ?_)
      go_ret
      exact ⟨by rw [HF.out]; rfl, Below.refl _ _⟩
    · rcases h13 with h | ⟨h, h'⟩ | h
      · have g1 : ¬ (49 : Int) ≤ (c3 : Int) := by omega
        have hd1 : decide (49 ≤ c3) = false := decide_eq_false (by omega)
        clear h
        have HF : Hid (resv s.data.toList = false) := by show _ = _; rw [HR.out, hd1]; rfl
        clear HR
        go_enter Tryd.func22, Tryd.ntmps22
        go_wp2_with (first
          | refine wpList_eql (by rfl) .eql 9 _ _ _ rfl (.string s) (.string ⟨#[97, 117, 120]⟩) rfl rfl (.bool false) (guard_eq _ _ _ _) H1.out ?_
          | refine wpList_eql (by rfl) .eql 9 _ _ _ rfl (.string s) (.string ⟨#[99, 111, 110]⟩) rfl rfl (.bool false) (guard_eq _ _ _ _) H2.out ?_
          | refine wpList_eql (by rfl) .eql 9 _ _ _ rfl (.string s) (.string ⟨#[112, 114, 110]⟩) rfl rfl (.bool false) (guard_eq _ _ _ _) H3.out ?_
          | refine wpList_eql (by rfl) .eql 9 _ _ _ rfl (.string s) (.string ⟨#[110, 117, 108]⟩) rfl rfl (.bool false) (guard_eq _ _ _ _) H4.out ?_
          | refine wpList_eql (by rfl) .eql 9 _ _ _ rfl (.string (s.extract 0 3)) (.string ⟨#[99, 111, 109]⟩) rfl rfl (.bool false) (guard_eq _ _ _ _) H5.out ?_
          | refine wpList_eql (by rfl) .eql 9 _ _ _ rfl (.string (s.extract 0 3)) (.string ⟨#[108, 112, 116]⟩) rfl rfl (.bool true) (guard_eq _ _ _ _) H6.out ?_)
        go_ret
        exact ⟨by rw [HF.out]; rfl, Below.refl _ _⟩
      · have g1 : (49 : Int) ≤ (c3 : Int) := by omega
        have g2 : (c3 : Int) ≤ 57 := by omega
        have hd1 : decide (49 ≤ c3) = true := decide_eq_true (by omega)
        have hd2 : decide (c3 ≤ 57) = true := decide_eq_true (by omega)
        clear h h'
        have HF : Hid (resv s.data.toList = true) := by show _ = _; rw [HR.out, hd1, hd2]; rfl
        clear HR
        go_enter Tryd.func22, Tryd.ntmps22
        go_wp2_with (first
          | refine wpList_eql (by rfl) .eql 9 _ _ _ rfl (.string s) (.string ⟨#[97, 117, 120]⟩) rfl rfl (.bool false) (guard_eq _ _ _ _) H1.out ?_
          | refine wpList_eql (by rfl) .eql 9 _ _ _ rfl (.string s) (.string ⟨#[99, 111, 110]⟩) rfl rfl (.bool false) (guard_eq _ _ _ _) H2.out ?_
          | refine wpList_eql (by rfl) .eql 9 _ _ _ rfl (.string s) (.string ⟨#[112, 114, 110]⟩) rfl rfl (.bool false) (guard_eq _ _ _ _) H3.out ?_
          | refine wpList_eql (by rfl) .eql 9 _ _ _ rfl (.string s) (.string ⟨#[110, 117, 108]⟩) rfl rfl (.bool false) (guard_eq _ _ _ _) H4.out ?_
          | refine wpList_eql (by rfl) .eql 9 _ _ _ rfl (.string (s.extract 0 3)) (.string ⟨#[99, 111, 109]⟩) rfl rfl (.bool false) (guard_eq _ _ _ _) H5.out ?_
          | refine wpList_eql (by rfl) .eql 9 _ _ _ rfl (.string (s.extract 0 3)) (.string ⟨#[108, 112, 116]⟩) rfl rfl (.bool true) (guard_eq _ _ _ _) H6.out ?_)
        go_ret
        exact ⟨by rw [HF.out]; rfl, Below.refl _ _⟩
      · have g1 : (49 : Int) ≤ (c3 : Int) := by omega
        have g2 : ¬ (c3 : Int) ≤ 57 := by omega
        have hd1 : decide (49 ≤ c3) = true := decide_eq_true (by omega)
        have hd2 : decide (c3 ≤ 57) = false := decide_eq_false (by omega)
        clear h
        have HF : Hid (resv s.data.toList = false) := by show _ = _; rw [HR.out, hd1, hd2]; rfl
        clear HR
        go_enter Tryd.func22, Tryd.ntmps22
        go_wp2_with (first
          | refine wpList_eql (by rfl) .eql 9 _ _ _ rfl (.string s) (.string ⟨#[97, 117, 120]⟩) rfl rfl (.bool false) (guard_eq _ _ _ _) H1.out ?_
          | refine wpList_eql (by rfl) .eql 9 _ _ _ rfl (.string s) (.string ⟨#[99, 111, 110]⟩) rfl rfl (.bool false) (guard_eq _ _ _ _) H2.out ?_
          | refine wpList_eql (by rfl) .eql 9 _ _ _ rfl (.string s) (.string ⟨#[112, 114, 110]⟩) rfl rfl (.bool false) (guard_eq _ _ _ _) H3.out ?_
          | refine wpList_eql (by rfl) .eql 9 _ _ _ rfl (.string s) (.string ⟨#[110, 117, 108]⟩) rfl rfl (.bool false) (guard_eq _ _ _ _) H4.out ?_
          | refine wpList_eql (by rfl) .eql 9 _ _ _ rfl (.string (s.extract 0 3)) (.string ⟨#[99, 111, 109]⟩) rfl rfl (.bool false) (guard_eq _ _ _ _) H5.out ?_
          | refine wpList_eql (by rfl) .eql 9 _ _ _ rfl (.string (s.extract 0 3)) (.string ⟨#[108, 112, 116]⟩) rfl rfl (.bool true) (guard_eq _ _ _ _) H6.out ?_)
        go_ret
        exact ⟨by rw [HF.out]; rfl, Below.refl _ _⟩
  · rcases h13 with h | ⟨h, h'⟩ | h
    · have g1 : ¬ (49 : Int) ≤ (c3 : Int) := by omega
      have hd1 : decide (49 ≤ c3) = false := decide_eq_false (by omega)
      clear h
      have HF : Hid (resv s.data.toList = false) := by show _ = _; rw [HR.out, hd1]; rfl
      clear HR
      go_enter Tryd.func22, Tryd.ntmps22
      go_wp2_with (first
        | refine wpList_eql (by rfl) .eql 9 _ _ _ rfl (.string s) (.string ⟨#[97, 117, 120]⟩) rfl rfl (.bool false) (guard_eq _ _ _ _) H1.out ?_
        | refine wpList_eql (by rfl) .eql 9 _ _ _ rfl (.string s) (.string ⟨#[99, 111, 110]⟩) rfl rfl (.bool false) (guard_eq _ _ _ _) H2.out ?_
        | refine wpList_eql (by rfl) .eql 9 _ _ _ rfl (.string s) (.string ⟨#[112, 114, 110]⟩) rfl rfl (.bool false) (guard_eq _ _ _ _) H3.out ?_
        | refine wpList_eql (by rfl) .eql 9 _ _ _ rfl (.string s) (.string ⟨#[110, 117, 108]⟩) rfl rfl (.bool false) (guard_eq _ _ _ _) H4.out ?_
        | refine wpList_eql (by rfl) .eql 9 _ _ _ rfl (.string (s.extract 0 3)) (.string ⟨#[99, 111, 109]⟩) rfl rfl (.bool true) (guard_eq _ _ _ _) H5.out ?_)
      go_ret
      exact ⟨by rw [HF.out]; rfl, Below.refl _ _⟩
    · have g1 : (49 : Int) ≤ (c3 : Int) := by omega
      have g2 : (c3 : Int) ≤ 57 := by omega
      have hd1 : decide (49 ≤ c3) = true := decide_eq_true (by omega)
      have hd2 : decide (c3 ≤ 57) = true := decide_eq_true (by omega)
      clear h h'
      have HF : Hid (resv s.data.toList = true) := by show _ = _; rw [HR.out, hd1, hd2]; rfl
      clear HR
      go_enter Tryd.func22, Tryd.ntmps22
      go_wp2_with (first
        | refine wpList_eql (by rfl) .eql 9 _ _ _ rfl (.string s) (.string ⟨#[97, 117, 120]⟩) rfl rfl (.bool false) (guard_eq _ _ _ _) H1.out ?_
        | refine wpList_eql (by rfl) .eql 9 _ _ _ rfl (.string s) (.string ⟨#[99, 111, 110]⟩) rfl rfl (.bool false) (guard_eq _ _ _ _) H2.out ?_
        | refine wpList_eql (by rfl) .eql 9 _ _ _ rfl (.string s) (.string ⟨#[112, 114, 110]⟩) rfl rfl (.bool false) (guard_eq _ _ _ _) H3.out ?_
        | refine wpList_eql (by rfl) .eql 9 _ _ _ rfl (.string s) (.string ⟨#[110, 117, 108]⟩) rfl rfl (.bool false) (guard_eq _ _ _ _) H4.out ?_
        | refine wpList_eql (by rfl) .eql 9 _ _ _ rfl (.string (s.extract 0 3)) (.string ⟨#[99, 111, 109]⟩) rfl rfl (.bool true) (guard_eq _ _ _ _) H5.out ?_)
      go_ret
      exact ⟨by rw [HF.out]; rfl, Below.refl _ _⟩
    · have g1 : (49 : Int) ≤ (c3 : Int) := by omega
      have g2 : ¬ (c3 : Int) ≤ 57 := by omega
      have hd1 : decide (49 ≤ c3) = true := decide_eq_true (by omega)
      have hd2 : decide (c3 ≤ 57) = false := decide_eq_false (by omega)
      clear h
      have HF : Hid (resv s.data.toList = false) := by show _ = _; rw [HR.out, hd1, hd2]; rfl
      clear HR
      go_enter Tryd.func22, Tryd.ntmps22
      go_wp2_with (first
        | refine wpList_eql (by rfl) .eql 9 _ _ _ rfl (.string s) (.string ⟨#[97, 117, 120]⟩) rfl rfl (.bool false) (guard_eq _ _ _ _) H1.out ?_
        | refine wpList_eql (by rfl) .eql 9 _ _ _ rfl (.string s) (.string ⟨#[99, 111, 110]⟩) rfl rfl (.bool false) (guard_eq _ _ _ _) H2.out ?_
        | refine wpList_eql (by rfl) .eql 9 _ _ _ rfl (.string s) (.string ⟨#[112, 114, 110]⟩) rfl rfl (.bool false) (guard_eq _ _ _ _) H3.out ?_
        | refine wpList_eql (by rfl) .eql 9 _ _ _ rfl (.string s) (.string ⟨#[110, 117, 108]⟩) rfl rfl (.bool false) (guard_eq _ _ _ _) H4.out ?_
        | refine wpList_eql (by rfl) .eql 9 _ _ _ rfl (.string (s.extract 0 3)) (.string ⟨#[99, 111, 109]⟩) rfl rfl (.bool true) (guard_eq _ _ _ _) H5.out ?_)
      go_ret
      exact ⟨by rw [HF.out]; rfl, Below.refl _ _⟩
set_option maxRecDepth 100000 in
theorem doubt_any (s : ByteArray) (w : World) (hs : s.size ≤ 100000) : Calls Tryd.prog 10 #[.string s] w fun e w' => e = .returned (.bool (doubtL s.data.toList)) ∧ Below w.heap.size w w' := by
  obtain ⟨b1, h1⟩ : ∃ b, Lib.hasSuffix s.data.toList [46, 105] = b := ⟨_, rfl⟩
  obtain ⟨b2, h2⟩ : ∃ b, Lib.hasSuffix s.data.toList [46, 100] = b := ⟨_, rfl⟩
  obtain ⟨b3, h3⟩ : ∃ b, Lib.hasSuffix s.data.toList [46, 104, 103] = b := ⟨_, rfl⟩
  have HD : Hid (doubtL s.data.toList = (b1 || b2 || b3)) := by show _ = _; unfold doubtL; rw [h1, h2, h3]
  have C1 : Hid (∀ W, Calls Tryd.prog 19 #[.string s, .string ⟨#[46, 105]⟩] W fun e w' => e = .returned (.bool b1) ∧ w' = W) := fun W => by
    have := Tryd.strings_HasSuffix s ⟨#[46, 105]⟩ W (by omega)
    rwa [show Lib.hasSuffix s.data.toList (⟨#[46, 105]⟩ : ByteArray).data.toList = b1 from h1] at this
  have C2 : Hid (∀ W, Calls Tryd.prog 19 #[.string s, .string ⟨#[46, 100]⟩] W fun e w' => e = .returned (.bool b2) ∧ w' = W) := fun W => by
    have := Tryd.strings_HasSuffix s ⟨#[46, 100]⟩ W (by omega)
    rwa [show Lib.hasSuffix s.data.toList (⟨#[46, 100]⟩ : ByteArray).data.toList = b2 from h2] at this
  have C3 : Hid (∀ W, Calls Tryd.prog 19 #[.string s, .string ⟨#[46, 104, 103]⟩] W fun e w' => e = .returned (.bool b3) ∧ w' = W) := fun W => by
    have := Tryd.strings_HasSuffix s ⟨#[46, 104, 103]⟩ W (by omega)
    rwa [show Lib.hasSuffix s.data.toList (⟨#[46, 104, 103]⟩ : ByteArray).data.toList = b3 from h3] at this
  clear h1 h2 h3
  go_enter Tryd.func10, Tryd.ntmps10
  go_wp2_with fail
  refine (C1.out _).mono ?_
  rintro e w1 ⟨rfl, rfl⟩
  cases b1
  · go_wp2_with fail
    refine (C2.out _).mono ?_
    rintro e w2 ⟨rfl, rfl⟩
    cases b2
    · go_wp2_with fail
      refine (C3.out _).mono ?_
      rintro e w3 ⟨rfl, rfl⟩
      cases b3
      · go_wp2_with fail
        go_ret
        exact ⟨by rw [HD.out]; rfl, Below.refl _ _⟩
      · go_wp2_with fail
        go_ret
        exact ⟨by rw [HD.out]; rfl, Below.refl _ _⟩
    · go_wp2_with fail
      go_ret
      exact ⟨by rw [HD.out]; rfl, Below.refl _ _⟩
  · go_wp2_with fail
    go_ret
    exact ⟨by rw [HD.out]; rfl, Below.refl _ _⟩
end Go.Proofs.YtmjpejnpcmodgaaDoor
