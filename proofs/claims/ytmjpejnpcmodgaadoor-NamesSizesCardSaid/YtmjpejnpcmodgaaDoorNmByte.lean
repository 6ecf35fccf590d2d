/- Bytes told: the walks. -/
import Derived.Test.YtmjpejnpcmodgaaDoorNmRow
import Derived.Test.YtmjpejnpcmodgaaDoorNmMath2
import Derived.Test.YtmjpejnpcmodgaaDoorRight
import Derived.Deep.RegionHeld3
import Derived.Laws.MakeOwn
namespace Go.Proofs.YtmjpejnpcmodgaaDoor
open Go.RowKit Plain
set_option linter.unusedVariables false
set_option linter.unusedSimpArgs false
theorem great_any (b : UInt8) (w : World) : Calls Tryd.prog 29 #[.int .u8 (b.toNat : Int)] w fun e w' => e = .returned (.int .u8 ((greatB b).toNat : Int)) ∧ w' = w := by
  have hlt := b.toNat_lt
  by_cases h : 97 ≤ b.toNat ∧ b.toNat ≤ 122
  · have g1 : (97 : Int) ≤ (b.toNat : Int) := by omega
    have g2 : (b.toNat : Int) ≤ 122 := by omega
    have HE : Hid (((greatB b).toNat : Int) = (b.toNat : Int) - 97 + 65) := by
      show _ = _
      unfold greatB
      rw [if_pos h, UInt8.toNat_sub_of_le _ _ (by rw [UInt8.le_iff_toNat_le]; show 32 ≤ _; omega)]
      show ((b.toNat - 32 : Nat) : Int) = _
      omega
    obtain ⟨d, hd⟩ : ∃ d, (b.toNat : Int) - 97 = d := ⟨_, rfl⟩
    have r1 : d % 256 = d := by omega
    have r2 : (d + 65) % 256 = d + 65 := by omega
    have HD := Lib.hid hd
    clear hlt h
    generalize (b.toNat : Int) = c at *
    go_enter Tryd.func29, Tryd.ntmps29
    go_wp2_with fail
    go_ret
    rw [HE.out, HD.out]
    exact ⟨rfl, rfl⟩
  · have HE : Hid ((greatB b).toNat = b.toNat) := by show _ = _; unfold greatB; rw [if_neg h]
    by_cases g : 97 ≤ b.toNat
    · have g1 : (97 : Int) ≤ (b.toNat : Int) := by omega
      have g2 : ¬ (b.toNat : Int) ≤ 122 := by omega
      clear hlt h g
      go_enter Tryd.func29, Tryd.ntmps29
      go_wp2_with fail
      go_ret
      rw [HE.out]
      exact ⟨rfl, rfl⟩
    · have g1 : ¬ (97 : Int) ≤ (b.toNat : Int) := by omega
      clear hlt h g
      go_enter Tryd.func29, Tryd.ntmps29
      go_wp2_with fail
      go_ret
      rw [HE.out]
      exact ⟨rfl, rfl⟩
def hexS : ByteArray := ⟨#[48, 49, 50, 51, 52, 53, 54, 55, 56, 57, 97, 98, 99, 100, 101, 102]⟩
theorem hex_at (n : Nat) (h : n < 16) : at8 hexS n = (dig n).toNat := by
  have : ∀ n, n < 16 → at8 hexS n = (dig n).toNat := by decide +kernel
  exact this n h
theorem hex_idx (n : Nat) (h : n < hexS.size) : (hexS[n]'h).toNat = (dig n).toNat := by
  have : ∀ (n : Nat) (h : n < 16), (hexS[n]'h).toNat = (dig n).toNat := by decide +kernel
  exact this n h
theorem lit_text (w : World) (l : List UInt8) (n : Nat) (hn : l.length = n) (hb : n ≤ 1000) (cs : Array Value) (hcs : cs = ((numsOf (txt l)).map (Value.int .u8)).toArray) (t : TypeId) : (convert 42 9 (.slice (some ⟨w.heap.size, 0, none⟩) n n)).run Tryd.prog (w.alloc (.cells cs t)) = .ok (.string (txt l)) (w.alloc (.cells cs t)) := by
  subst hcs
  have h := text_run (w.alloc (.cells ((numsOf (txt l)).map (Value.int .u8)).toArray t)) (some ⟨w.heap.size, 0, none⟩) n n (numsOf (txt l)) (Bytes.lit w w.heap.size rfl (numsOf (txt l)) t (0, 0) n (by rw [numsOf_length, txt_size]; exact hn) (by omega) (by
    intro x hx
    unfold numsOf at hx
    rw [txt_list] at hx
    obtain ⟨b, -, rfl⟩ := List.mem_map.1 hx
    have := b.toNat_lt
    omega))
  rw [h, str_nums]
set_option maxRecDepth 100000 in
theorem byNum_any (b : UInt8) (w : World) : Calls Tryd.prog 23 #[.int .u8 (b.toNat : Int)] w fun e w' => e = .returned (.string (txt (byNum b))) ∧ Below w.heap.size w w' := by
  have hlt := b.toNat_lt
  obtain ⟨n, hn⟩ : ∃ n, b.toNat = n := ⟨_, rfl⟩
  obtain ⟨q, hq⟩ : ∃ q, n / 16 = q := ⟨_, rfl⟩
  obtain ⟨r, hr⟩ : ∃ r, n % 16 = r := ⟨_, rfl⟩
  have HE : Hid (byNum b = [126, dig q, dig r]) := by show _ = _; unfold byNum; rw [hn, hq, hr]
  have hdiv : (n : Int) / 16 = (q : Int) := by omega
  have hand : bits .and .u8 (n : Int) 15 = (r : Int) := by
    have key : ∀ k, k < 256 → bits .and .u8 ((k : Nat) : Int) 15 = ((k % 16 : Nat) : Int) := by decide +kernel
    rw [key n (by omega), hr]
  have hq16 : (q : Int) < 16 := by omega
  have hr16 : (r : Int) < 16 := by omega
  have hct : (convert 42 9 (.slice (some ⟨w.heap.size, 0, none⟩) 3 3)).run Tryd.prog (w.alloc (.cells #[.int .u8 126, .int .u8 ((dig q).toNat : Int), .int .u8 ((dig r).toNat : Int)] 5)).drew = .ok (.string (txt [126, dig q, dig r])) (w.alloc (.cells #[.int .u8 126, .int .u8 ((dig q).toNat : Int), .int .u8 ((dig r).toNat : Int)] 5)).drew := lit_text w.drew [126, dig q, dig r] 3 rfl (by omega) _ rfl _
  have hqn : q < 16 := by omega
  have hrn : r < 16 := by omega
  have hq1 := hex_idx q hqn
  have hr1 := hex_idx r hrn
  rw [hn]
  clear hn hq hr hlt
  unfold hexS at hq1 hr1
  go_enter Tryd.func23, Tryd.ntmps23
  go_wp2_with fail
  refine wp_region_noPanic ?_
  refine wp_region_held_drew (S := fun _ => True) (by kernel_rfl) ?_ (fun hHeld => ?_)
  · exact True.intro
  refine wpAnyH_take (i := 0) (v := ?_) (by simp only [List.getElem?_toArray, List.getElem?_cons_zero]; rfl) (by kernel_rfl) (by kernel_rfl) (by kernel_rfl) (fun _ _ _ h => h) (Or.inl ⟨by rfl, ?_⟩) (by assumption) ?_
  rotate_left
  · intro W hSW
    go_simp
    try with_reducible rfl
  try simp only [Act.put, List.setIfInBounds_toArray, List.set_cons_zero, List.set_cons_succ]
  refine wpAnyH_take (i := 1) (v := ?_) (by simp only [List.getElem?_toArray, List.getElem?_cons_succ, List.getElem?_cons_zero]; rfl) (by kernel_rfl) (by kernel_rfl) (by kernel_rfl) (fun _ _ _ h => h) (Or.inl ⟨by rfl, ?_⟩) (by assumption) ?_
  rotate_left
  · intro W hSW
    go_simp
    try with_reducible rfl
  try simp only [Act.put, List.setIfInBounds_toArray, List.set_cons_zero, List.set_cons_succ]
  refine wpAnyH_take (i := 2) (v := ?_) (by simp only [List.getElem?_toArray, List.getElem?_cons_succ, List.getElem?_cons_zero]; rfl) (by kernel_rfl) (by kernel_rfl) (by kernel_rfl) (fun _ _ _ h => h) (Or.inl ⟨by rfl, ?_⟩) (by assumption) ?_
  rotate_left
  · intro W hSW
    go_simp
    try with_reducible rfl
  try simp only [Act.put, List.setIfInBounds_toArray, List.set_cons_zero, List.set_cons_succ]
  refine wpAnyH_take (i := 3) (v := ?_) (by simp only [List.getElem?_toArray, List.getElem?_cons_succ, List.getElem?_cons_zero]; rfl) (by kernel_rfl) (by kernel_rfl) (by kernel_rfl) (fun _ _ _ h => h) (Or.inl ⟨by rfl, ?_⟩) (by assumption) ?_
  rotate_left
  · intro W hSW
    go_simp
    try with_reducible rfl
  try simp only [Act.put, List.setIfInBounds_toArray, List.set_cons_zero, List.set_cons_succ]
  refine wpAnyH_take (i := 4) (v := ?_) (by simp only [List.getElem?_toArray, List.getElem?_cons_succ, List.getElem?_cons_zero]; rfl) (by kernel_rfl) (by kernel_rfl) (by kernel_rfl) (fun _ _ _ h => h) (Or.inl ⟨by rfl, ?_⟩) (by assumption) ?_
  rotate_left
  · intro W hSW
    go_simp
    try with_reducible rfl
  try simp only [Act.put, List.setIfInBounds_toArray, List.set_cons_zero, List.set_cons_succ]
  refine wpAnyH_take (i := 5) (v := ?_) (by simp only [List.getElem?_toArray, List.getElem?_cons_succ, List.getElem?_cons_zero]; rfl) (by kernel_rfl) (by kernel_rfl) (by kernel_rfl) (fun _ _ _ h => h) (Or.inl ⟨by rfl, ?_⟩) (by assumption) ?_
  rotate_left
  · intro W hSW
    go_simp
    try with_reducible rfl
  try simp only [Act.put, List.setIfInBounds_toArray, List.set_cons_zero, List.set_cons_succ]
  refine wpAnyH_ready (rs := [6]) (by kernel_rfl) (by simp) ?_
  refine AllReadyH.cons (by simp only [List.getElem?_toArray, List.getElem?_cons_succ, List.getElem?_cons_zero]; rfl) (fun K hK => ?_) AllReadyH.nil
  go_simp
  refine hK.out _ _ (True.intro) (fun hHeld2 => ?_)
  clear hK K hHeld
  have hHeld := hHeld2
  clear hHeld2
  try simp only [Act.put, List.setIfInBounds_toArray, List.set_cons_zero, List.set_cons_succ]
  refine wpAnyH_ready (rs := [7]) (by kernel_rfl) (by simp) ?_
  refine AllReadyH.cons (by simp only [List.getElem?_toArray, List.getElem?_cons_succ, List.getElem?_cons_zero]; rfl) (fun K hK => ?_) AllReadyH.nil
  go_simp
  refine hK.out _ _ (True.intro) (fun hHeld2 => ?_)
  clear hK K hHeld
  have hHeld := hHeld2
  clear hHeld2
  try simp only [Act.put, List.setIfInBounds_toArray, List.set_cons_zero, List.set_cons_succ]
  refine wpAnyH_take (i := 8) (v := ?_) (by simp only [List.getElem?_toArray, List.getElem?_cons_succ, List.getElem?_cons_zero]; rfl) (by kernel_rfl) (by kernel_rfl) (by kernel_rfl) (fun _ _ _ h => h) (Or.inl ⟨by rfl, ?_⟩) (by assumption) ?_
  rotate_left
  · intro W hSW
    go_simp
    try with_reducible rfl
  try simp only [Act.put, List.setIfInBounds_toArray, List.set_cons_zero, List.set_cons_succ]
  refine wpAnyH_done (by kernel_rfl) ?_ _
  refine NoPanic.normal ?_
  clear hHeld
  go_wp2_with fail
  go_ret
  rw [HE.out]
  exact ⟨rfl, (Below.refl _ _).drew.alloc (Nat.le_refl _) _⟩
theorem index_byte_has (l : List UInt8) (c : UInt8) : decide (0 ≤ Lib.indexByte l c) = l.contains c := by
  induction l with
  | nil => rfl
  | cons b l ih =>
    have hge := Lib.indexByte_ge l c
    unfold Lib.indexByte
    rw [List.contains_cons, ← ih]
    by_cases h : b = c
    · subst h; simp
    · have e1 : (b == c) = false := beq_eq_false_iff_ne.2 h
      have e2 : (c == b) = false := beq_eq_false_iff_ne.2 (fun e => h e.symm)
      rw [e1, e2]
      simp only [Bool.false_eq_true, if_false, Bool.false_or]
      split
      · rename_i e
        rw [beq_iff_eq.1 e]
      · rename_i e
        have : Lib.indexByte l c ≠ -1 := fun e2 => e (beq_iff_eq.2 e2)
        rw [decide_eq_decide]
        omega
theorem guard_addn (x y : Operand) (s t : ByteArray) (W : World) : (eqGuard .add 9 x y (.string s) (.string t)).run Tryd.prog W = .ok () W := by simp [eqGuard]
theorem add_txt (a b : ByteArray) (l : List UInt8) (h : a.data.toList ++ b.data.toList = l) (hs : a.size + b.size ≤ 1000000000) (W : World) : (binOp .add 9 (.string a) (.string b)).run Tryd.prog W = .ok (.string (txt l)) W := by
  have h1 := add_str a b hs W
  have h2 : (binOp .add 9 (.string a) (.string b)).run Tryd.prog W = .ok (.string (a ++ b)) W := by simpa [binOp, run_underlying Tryd.underlying9] using h1
  have e : a ++ b = txt l := bytes_ext (by rw [txt_list, ← h, ByteArray.data_append, Array.toList_append])
  rw [h2, e]
set_option maxRecDepth 100000 in
set_option maxHeartbeats 4000000 in
theorem tokB_any (b : UInt8) (w : World) : Calls Tryd.prog 20 #[.int .u8 (b.toNat : Int)] w fun e w' => e = .returned (.string (txt (tokB b))) ∧ Below w.heap.size w w' := by
  have hlt := b.toNat_lt
  have HBN := Lib.hid (fun W => byNum_any b W)
  have HIX := Lib.hid (fun W => Tryd.strings_IndexByte ⟨#[92, 58, 42, 63, 34, 60, 62, 124]⟩ (b.toNat : Int) W)
  by_cases h1 : 65 ≤ b.toNat ∧ b.toNat ≤ 90
  · have g1 : (65 : Int) ≤ (b.toNat : Int) := by omega
    have g2 : (b.toNat : Int) ≤ 90 := by omega
    have HE : Hid (tokB b = [95, b + 32]) := by show _ = _; unfold tokB; rw [if_pos h1]
    have h32 : (b + 32).toNat = b.toNat + 32 := by
      rw [UInt8.toNat_add]
      show (b.toNat + 32) % 256 = _
      omega
    obtain ⟨d, hd⟩ : ∃ d, (b.toNat : Int) - 65 = d := ⟨_, rfl⟩
    obtain ⟨y, hy⟩ : ∃ y, d + 97 = y := ⟨_, rfl⟩
    have r1 : d % 256 = d := by omega
    have r2 : y % 256 = y := by omega
    have HY : Hid (y = ((b + 32).toNat : Int)) := by show _ = _; rw [h32]; omega
    have hct : (convert 42 9 (.slice (some ⟨w.heap.size, 0, none⟩) 1 1)).run Tryd.prog (w.alloc (.cells #[.int .u8 y] 5)) = .ok (.string (txt [b + 32])) (w.alloc (.cells #[.int .u8 y] 5)) := by
      rw [HY.out]; exact lit_text w [b + 32] 1 rfl (by omega) _ rfl _
    have HA : Hid (∀ W, (binOp .add 9 (.string ⟨#[95]⟩) (.string (txt [b + 32]))).run Tryd.prog W = .ok (.string (txt [95, b + 32])) W) := fun W => add_txt _ _ _ (by rw [txt_list]; rfl) (by rw [txt_size]; show 1 + 1 ≤ _; omega) W
    clear hlt h1 h32
    generalize (b.toNat : Int) = c at *
    go_enter Tryd.func20, Tryd.ntmps20
    go_wp2_with (first
      | refine wpList_eql (by rfl) .add 9 _ _ _ rfl (.string ⟨#[95]⟩) (.string (txt [b + 32])) rfl rfl (.string (txt [95, b + 32])) (guard_addn _ _ _ _) HA.out ?_)
    go_ret
    rw [HE.out]
    exact ⟨rfl, (Below.refl _ _).alloc (Nat.le_refl _) _⟩
  · have g12 : (¬ (65 : Int) ≤ (b.toNat : Int)) ∨ ((65 : Int) ≤ (b.toNat : Int) ∧ ¬ (b.toNat : Int) ≤ 90) := by omega
    by_cases h2 : b = 95
    · subst h2
      have HE : Hid (tokB 95 = [95, 95]) := rfl
      go_enter Tryd.func20, Tryd.ntmps20
      go_wp2_with fail
      go_ret
      rw [HE.out]
      exact ⟨rfl, Below.refl _ _⟩
    · have hn95 : ¬ (b.toNat : Int) = 95 := fun e => h2 (UInt8.toNat_inj.1 (by show b.toNat = 95; omega))
      have hb95 : ((b.toNat : Int) == 95) = false := beq_eq_false_iff_ne.2 hn95
      have HT : Hid (∀ o, oddB b = o → tokB b = if o = true then byNum b else [b]) := fun o ho => by unfold tokB; rw [if_neg h1, if_neg h2, ho]
      by_cases h3 : b.toNat < 32
      · have g3 : (b.toNat : Int) < 32 := by omega
        have HE : Hid (tokB b = byNum b) := by show _ = _; rw [HT.out true (by unfold oddB; rw [decide_eq_true h3]; rfl)]; rfl
        clear h1 h2 h3 hlt
        rcases g12 with g1 | ⟨g1, g2⟩
        all_goals
          go_enter Tryd.func20, Tryd.ntmps20
          go_wp2_with fail
          refine (HBN.out _).mono ?_
          rintro e w2 ⟨rfl, hb⟩
          have HB := Lib.hid hb
          clear hb
          go_wp2_with fail
          go_ret
          rw [HE.out]
          exact ⟨rfl, HB.out⟩
      · have g3 : ¬ (b.toNat : Int) < 32 := by omega
        by_cases h4 : 125 < b.toNat
        · have g4 : (125 : Int) < (b.toNat : Int) := by omega
          have HE : Hid (tokB b = byNum b) := by show _ = _; rw [HT.out true (by unfold oddB; rw [decide_eq_true h4]; simp)]; rfl
          clear h1 h2 h3 h4 hlt
          rcases g12 with g1 | ⟨g1, g2⟩
          all_goals
            go_enter Tryd.func20, Tryd.ntmps20
            go_wp2_with fail
            refine (HBN.out _).mono ?_
            rintro e w2 ⟨rfl, hb⟩
            have HB := Lib.hid hb
            clear hb
            go_wp2_with fail
            go_ret
            rw [HE.out]
            exact ⟨rfl, HB.out⟩
        · have g4 : ¬ (125 : Int) < (b.toNat : Int) := by omega
          have HOD : Hid (oddB b = ([92, 58, 42, 63, 34, 60, 62, 124] : List UInt8).contains b) := by show _ = _; unfold oddB; rw [decide_eq_false h3, decide_eq_false h4]; simp
          have HIB := Lib.hid (index_byte_has [92, 58, 42, 63, 34, 60, 62, 124] b)
          obtain ⟨i, hi⟩ : ∃ i, Lib.indexByte ([92, 58, 42, 63, 34, 60, 62, 124] : List UInt8) b = i := ⟨_, rfl⟩
          rw [hi] at HIB
          have HII := Lib.hid hi
          have hct : (convert 42 9 (.slice (some ⟨w.heap.size, 0, none⟩) 1 1)).run Tryd.prog (w.alloc (.cells #[.int .u8 (b.toNat : Int)] 5)) = .ok (.string (txt [b])) (w.alloc (.cells #[.int .u8 (b.toNat : Int)] 5)) := lit_text w [b] 1 rfl (by omega) _ rfl _
          clear h1 h2 h3 h4 hlt hi
          by_cases h5 : 0 ≤ i
          · have HE : Hid (tokB b = byNum b) := by show _ = _; rw [HT.out true (by rw [HOD.out, ← HIB.out, decide_eq_true h5])]; rfl
            clear hct
            rcases g12 with g1 | ⟨g1, g2⟩
            all_goals
              go_enter Tryd.func20, Tryd.ntmps20
              go_wp2_with fail
              refine (HIX.out _).mono ?_
              rintro e w2 ⟨rfl, rfl⟩
              try rw [UInt8.ofInt_natCast]
              rw [show Lib.indexByte (⟨#[92, 58, 42, 63, 34, 60, 62, 124]⟩ : ByteArray).data.toList _ = i from by simpa using HII.out]
              go_wp2_with fail
              refine (HBN.out _).mono ?_
              rintro e w2 ⟨rfl, hb⟩
              have HB := Lib.hid hb
              clear hb
              go_wp2_with fail
              go_ret
              rw [HE.out]
              exact ⟨rfl, HB.out⟩
          · have HE : Hid (tokB b = [b]) := by show _ = _; rw [HT.out false (by rw [HOD.out, ← HIB.out, decide_eq_false h5])]; rfl
            rcases g12 with g1 | ⟨g1, g2⟩
            all_goals
              go_enter Tryd.func20, Tryd.ntmps20
              go_wp2_with fail
              refine (HIX.out _).mono ?_
              rintro e w2 ⟨rfl, rfl⟩
              rw [show Lib.indexByte (⟨#[92, 58, 42, 63, 34, 60, 62, 124]⟩ : ByteArray).data.toList _ = i from by simpa using HII.out]
              go_wp2_with fail
              go_ret
              rw [HE.out]
              exact ⟨rfl, (Below.refl _ _).alloc (Nat.le_refl _) _⟩
end Go.Proofs.YtmjpejnpcmodgaaDoor
