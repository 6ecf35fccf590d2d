/- trans.number, trans.cutValue: the walks. -/
import Derived.Test.YtkpiinjhcckhfaaGreatDoorTrM
import Derived.Test.YtkpiinjhcckhfaaGreatDoorChMake
/-! trans.number, trans.cutValue: the walks. -/
namespace Go.Proofs.YtkpiinjhcckhfaaGreatDoor
open Go.RowKit Plain Go.ChangeShapes Go.WideShapes Go.ChangeAt Go.Great
set_option linter.unusedVariables false
set_option linter.unusedSimpArgs false
theorem eq0_nat (n : Nat) : (((n : Nat) : Int) == 0) = (n == 0) := by
  rw [Bool.eq_iff_iff, beq_iff_eq, beq_iff_eq]; omega
set_option maxRecDepth 100000 in
set_option maxHeartbeats 8000000 in
theorem numw_any (l : List UInt8) (w : World) (hE : EnvC w) (hl : l.length ≤ 1000000) :
    Calls Tryz.prog 79 #[.string (txt l)] w fun e w' => e = .returned (.tuple #[.int .i64 (numW l).1, .bool (numW l).2]) ∧ Below w.heap.size w w' := by
  have HE := Lib.hid hE
  have HCP0 := Tryz.strings_CutPrefix (txt l) ⟨#[45]⟩ w
  rw [txt_list] at HCP0
  clear hE
  by_cases h45 : ∃ r, l = 45 :: r
  · obtain ⟨r, rfl⟩ := h45
    have e1 : Lib.trimPrefix (45 :: r) (⟨#[45]⟩ : ByteArray).data.toList = r := by
      unfold Lib.trimPrefix Lib.hasPrefix
      simp
    have e2 : Lib.hasPrefix (45 :: r) (⟨#[45]⟩ : ByteArray).data.toList = true := by
      unfold Lib.hasPrefix
      simp
    rw [e1, e2] at HCP0
    have HCP := Lib.hid HCP0
    have HFD := Lib.hid (fromDec_any (txt r) (by rw [txt_size]; simp at hl; omega) w HE.out.tab HE.out.errs)
    rw [txt_list] at HFD
    have HLE := Lib.hid (decF_top r)
    have HNP : Hid (numW (45 :: r) = (-((decF r).1 : Int), (((decF r).2 : Nat) : Int) == 0)) := by show _ = _; rw [eq0_nat]; rfl
    rw [HNP.out]
    clear HCP0 e1 e2 hl HNP
    generalize (decF r).1 = n1 at *
    obtain ⟨n2, hn2⟩ : ∃ n2 : Int, (((decF r).2 : Nat) : Int) = n2 := ⟨_, rfl⟩
    rw [hn2] at HFD ⊢
    clear hn2
    have HNEG : Hid (wrap64 (-(n1 : Int)) = -(n1 : Int)) := IntWalk.wrap64_in _ (by have := HLE.out; omega)
    go_enter Tryz.func79, Tryz.ntmps79
    go_wp2_with fail
    refine HCP.out.mono ?_
    rintro e w1 ⟨rfl, rfl⟩
    go_wp2_with fail
    refine HFD.out.mono ?_
    rintro e w2 ⟨rfl, hb⟩
    have HB := Lib.hid hb
    clear hb
    go_wp2_with fail
    go_ret2
    exact ⟨by rw [show wrap64 (-(n1 : Int)) = -(n1 : Int) from HNEG.out] <;> rfl, HB.out⟩
  · have e2 : Lib.hasPrefix l (⟨#[45]⟩ : ByteArray).data.toList = false := by
      unfold Lib.hasPrefix
      cases l with
      | nil => rfl
      | cons a r =>
        have : ¬ a = 45 := fun e => h45 ⟨r, by rw [e]⟩
        show ([45] : List UInt8).isPrefixOf (a :: r) = false
        simp [List.isPrefixOf, Ne.symm this]
    have e1 : Lib.trimPrefix l (⟨#[45]⟩ : ByteArray).data.toList = l := by
      unfold Lib.trimPrefix
      rw [e2]; rfl
    rw [e1, e2] at HCP0
    have HCP := Lib.hid HCP0
    have HFD := Lib.hid (fromDec_any (txt l) (by rw [txt_size]; omega) w HE.out.tab HE.out.errs)
    rw [txt_list] at HFD
    have HNP : Hid (numW l = (((decF l).1 : Int), (((decF l).2 : Nat) : Int) == 0)) := by
      show _ = _
      rw [eq0_nat]
      unfold numW
      split
      · rename_i r; exact absurd ⟨r, rfl⟩ h45
      · rfl
    rw [HNP.out]
    clear HCP0 e1 e2 hl HNP h45
    change Hid (Calls Tryz.prog 100 #[.string (txt l), _] w _) at HCP
    generalize (decF l).1 = n1 at *
    obtain ⟨n2, hn2⟩ : ∃ n2 : Int, (((decF l).2 : Nat) : Int) = n2 := ⟨_, rfl⟩
    rw [hn2] at HFD ⊢
    clear hn2
    go_enter Tryz.func79, Tryz.ntmps79
    go_wp2_with fail
    refine HCP.out.mono ?_
    rintro e w1 ⟨rfl, rfl⟩
    go_wp2_with fail
    refine HFD.out.mono ?_
    rintro e w2 ⟨rfl, hb⟩
    have HB := Lib.hid hb
    clear hb
    go_wp2_with fail
    go_ret2
    exact ⟨rfl, HB.out⟩
/-- What a value is cut to. -/
def cutV (l : List UInt8) : List UInt8 × List UInt8 × Bool := match endX l with
  | some n => (Lib.replaceAll (l.take n) [10, 32] [10], l.drop (n + 1), true)
  | none => ([], [], false)
theorem txt_take (l : List UInt8) (k : Nat) : (txt l).extract 0 k = txt (l.take k) := by
  apply bytes_ext
  rw [extract_list, txt_list, txt_list]
theorem nil_txt : (⟨#[]⟩ : ByteArray) = txt [] := rfl
set_option maxRecDepth 100000 in
set_option maxHeartbeats 16000000 in
theorem cutv_any (l : List UInt8) (w : World) (hE : EnvC w) (hl : l.length ≤ 1000000) : Calls Tryz.prog 102 #[.string (txt l)] w fun e w' => e = .returned (.tuple #[.string (txt (cutV l).1), .string (txt (cutV l).2.1), .bool (cutV l).2.2]) ∧ Below w.heap.size w w' := by
  have HL := Lib.hid hl
  have HE := Lib.hid hE
  have hix := fun (r : List UInt8) W => Tryz.strings_IndexByte (txt r) 10 W
  simp only [txt_list] at hix
  have HIX : Hid (∀ (r : List UInt8) W, Calls Tryz.prog 120 #[.string (txt r), .int .u8 10] W fun e w' => e = .returned (.int .i64 (Lib.indexByte r 10)) ∧ w' = W) := fun r W => hix r W
  have hpp := fun (r : List UInt8) W => Tryz.strings_HasPrefix (txt r) ⟨#[32]⟩ W
  simp only [txt_list] at hpp
  have HPP : Hid (∀ (r : List UInt8) W, Calls Tryz.prog 110 #[.string (txt r), .string ⟨#[32]⟩] W fun e w' => e = .returned (.bool (Lib.hasPrefix r [32])) ∧ w' = W) := fun r W => hpp r W
  clear hl hix hpp hE
  go_enter Tryz.func102, Tryz.ntmps102
  go_wp2_with fail
  go_loopw [5] (fun i wr => ∃ k : Nat, k ≤ l.length ∧ i = .int .i64 (k : Int) ∧ wr = w ∧ endX l = (endX (l.drop k)).map (· + k)) (fun i _ => l.length - (intOf i).toNat)
  case atStart => exact ⟨0, Nat.zero_le _, rfl, rfl, by simp⟩
  case round =>
    obtain ⟨k, hk, rfl, rfl, he⟩ := hrel
    have HEX := Lib.hid he
    have HK := Lib.hid hk
    have hle : k ≤ (txt l).size := by rw [txt_size]; exact hk
    have hex : (txt l).extract k (txt l).size = txt (l.drop k) := txt_drop l k
    clear he hk
    go_wp2_with fail
    clear hle hex
    refine (HIX.out (l.drop k) _).mono ?_
    rintro e w2 ⟨rfl, rfl⟩
    by_cases hn : Lib.indexByte (l.drop k) 10 < 0
    · have HF : Hid (cutV l = ([], [], false)) := by show _ = _; unfold cutV; rw [HEX.out, endX_miss hn]; rfl
      generalize Lib.indexByte (l.drop k) 10 = ix at *
      go_wp2_with fail
      (try simp only [Exit.inBlock, Exit.then])
      go_ret3
      exact ⟨by rw [HF.out] <;> rfl, Below.refl _ _⟩
    · obtain ⟨n, hnn⟩ : ∃ n : Nat, Lib.indexByte (l.drop k) 10 = (n : Int) := ⟨(Lib.indexByte (l.drop k) 10).toNat, by omega⟩
      have HH := Lib.hid (endX_hit hnn)
      have hnl := (nl_lt (l := l.drop k) (by omega)).1
      rw [hnn, List.length_drop] at hnl
      have hnl : n < l.length - k := by simpa using hnl
      rw [hnn]
      obtain ⟨a2, ha2⟩ : ∃ a, k + n = a := ⟨_, rfl⟩
      have HA2 := Lib.hid ha2
      have hnlt : ¬ (n : Int) < 0 := by omega
      have hw0 : wrap64 ((k : Int) + (n : Int)) = (a2 : Int) := by rw [show (k : Int) + (n : Int) = (a2 : Int) by omega]; exact IntWalk.wrap64_in _ (by have := HL.out; omega)
      have hw1 : wrap64 ((a2 : Int) + 1) = ((a2 + 1 : Nat) : Int) := next_int a2 (by have := HL.out; omega) _ rfl
      have HAL : Hid (a2 + 1 ≤ l.length) := by show _ ≤ _; omega
      have hle : a2 + 1 ≤ (txt l).size := by rw [txt_size]; exact HAL.out
      have hex : (txt l).extract (a2 + 1) (txt l).size = txt (l.drop (a2 + 1)) := txt_drop l (a2 + 1)
      have HDD : Hid ((l.drop k).drop (n + 1) = l.drop (a2 + 1)) := by show _ = _; rw [List.drop_drop, ← Nat.add_assoc, HA2.out]
      rw [HDD.out] at HH
      clear hn hnn hnl ha2
      go_wp2_with fail
      refine (HPP.out (l.drop (a2 + 1)) _).mono ?_
      rintro e w3 ⟨rfl, rfl⟩
      rename World => wr
      cases hp : Lib.hasPrefix (l.drop (a2 + 1)) [32]
      · have HF : Hid (cutV l = (Lib.replaceAll (l.take a2) [10, 32] [10], l.drop (a2 + 1), true)) := by show _ = _; unfold cutV; rw [HEX.out, HH.out.1 hp, Option.map_some, show n + k = a2 by have := HA2.out; omega]
        obtain ⟨mx, hmx⟩ := HE.out.env.most
        obtain ⟨VV, hVV⟩ : ∃ v, l.take a2 = v := ⟨_, rfl⟩
        have HVL : Hid (VV.length ≤ 1000000) := by rw [← hVV]; show _ ≤ _; rw [List.length_take]; have := HL.out; omega
        have HRA0 : ∀ W, W.cell? ⟨0, 0, none⟩ = some (.int .i64 mx) → Calls Tryz.prog 76 #[.string (txt VV), .string ⟨#[10, 32]⟩, .string ⟨#[10]⟩] W fun e w' => e = .returned (.string (txt (Lib.replaceAll VV [10, 32] [10]))) ∧ Below W.heap.size W w' := fun W hW => by
          have h := Tryz.strings_ReplaceAll (txt VV) ⟨#[10, 32]⟩ ⟨#[10]⟩ mx W (by rw [txt_size]; have := HVL.out; omega) hW (by decide) (by
            have := Lib.countB_le (⟨#[10, 32]⟩ : ByteArray) (by decide) _ (txt VV) (Nat.le_refl _)
            rw [txt_size] at this ⊢
            have := HVL.out
            show _ + _ * 1 ≤ _
            omega)
          rw [show (⟨(Lib.replaceAll (txt VV).data.toList (⟨#[10, 32]⟩ : ByteArray).data.toList (⟨#[10]⟩ : ByteArray).data.toList).toArray⟩ : ByteArray) = txt (Lib.replaceAll VV [10, 32] [10]) by rw [txt_list]; rfl] at h
          exact h
        have HRA := Lib.hid HRA0
        have hle2 : a2 ≤ (txt l).size := by omega
        have hex2 : (txt l).extract 0 a2 = txt VV := by rw [txt_take, hVV]
        rw [hVV] at HF
        have HMX := Lib.hid hmx
        have hw2 : IntKind.i64.wrap ((a2 : Int) + 1) = ((a2 + 1 : Nat) : Int) := by rw [IntKind.wrap_i64]; have := HAL.out; have := HL.out; omega
        have hg1 : (0 : Int) ≤ (a2 : Int) + 1 := by omega
        have hg2 : (a2 : Int) + 1 ≤ ((txt l).size : Int) := by omega
        clear hp hVV HRA0 hmx
        go_wp2_with fail
        refine wp_region_noPanic ?_
        refine wp_region_held_drew (S := fun W => Below wr.heap.size wr W) (by kernel_rfl) ?_ (fun hHeld => ?_)
        · exact (Below.refl _ _).drew
        refine tkV 0 (v := ?_) (hw := ?_) (h := ?_)
        rotate_left
        · intro W hSW
          go_simp
          try with_reducible rfl
        try simp only [Act.put, List.setIfInBounds_toArray, List.set_cons_zero, List.set_cons_succ]
        refine tkV 1 (v := ?_) (hw := ?_) (h := ?_)
        rotate_left
        · intro W hSW
          go_simp
          try with_reducible rfl
        try simp only [Act.put, List.setIfInBounds_toArray, List.set_cons_zero, List.set_cons_succ]
        refine tkV 2 (v := ?_) (hw := ?_) (h := ?_)
        rotate_left
        · intro W hSW
          go_simp
          try with_reducible rfl
        try simp only [Act.put, List.setIfInBounds_toArray, List.set_cons_zero, List.set_cons_succ]
        refine tkV 4 (v := ?_) (hw := ?_) (h := ?_)
        rotate_left
        · intro W hSW
          go_simp
          try with_reducible rfl
        try simp only [Act.put, List.setIfInBounds_toArray, List.set_cons_zero, List.set_cons_succ]
        refine tkV 5 (v := ?_) (hw := ?_) (h := ?_)
        rotate_left
        · intro W hSW
          go_simp
          try with_reducible rfl
        try simp only [Act.put, List.setIfInBounds_toArray, List.set_cons_zero, List.set_cons_succ]
        refine tkV 6 (v := ?_) (hw := ?_) (h := ?_)
        rotate_left
        · intro W hSW
          go_simp
          try with_reducible rfl
        try simp only [Act.put, List.setIfInBounds_toArray, List.set_cons_zero, List.set_cons_succ]
        refine tkV 7 (v := ?_) (hw := ?_) (h := ?_)
        rotate_left
        · intro W hSW
          go_simp
          try with_reducible rfl
        try simp only [Act.put, List.setIfInBounds_toArray, List.set_cons_zero, List.set_cons_succ]
        refine wpAnyH_ready (rs := [3]) (by kernel_rfl) (by simp) ?_
        refine AllReadyH.cons (by simp only [List.getElem?_toArray, List.getElem?_cons_succ, List.getElem?_cons_zero]; rfl) (fun K hK => ?_) AllReadyH.nil
        go_simp
        refine (HRA.out _ ((Below.refl _ _).drew.cell (p := ⟨0, 0, none⟩) (World.block_lt_of_cell? wr _ HMX.out) |>.trans HMX.out)).mono ?_
        rintro e w5 ⟨rfl, hb5⟩
        have HBW : Hid (Below wr.heap.size wr w5) := (Below.refl _ _).drew.trans hb5
        clear hb5
        go_wp2_with fail
        refine hK.out _ _ (HBW.out) (fun hHeld2 => ?_)
        clear hK K hHeld
        have hHeld := hHeld2
        clear hHeld2
        try simp only [Act.put, List.setIfInBounds_toArray, List.set_cons_zero, List.set_cons_succ]
        refine tkV 8 (v := ?_) (hw := ?_) (h := ?_)
        rotate_left
        · intro W hSW
          go_simp
          try with_reducible rfl
        try simp only [Act.put, List.setIfInBounds_toArray, List.set_cons_zero, List.set_cons_succ]
        refine tkV 9 (v := ?_) (hw := ?_) (h := ?_)
        rotate_left
        · intro W hSW
          go_simp
          try with_reducible rfl
        try simp only [Act.put, List.setIfInBounds_toArray, List.set_cons_zero, List.set_cons_succ]
        refine tkV 10 (v := ?_) (hw := ?_) (h := ?_)
        rotate_left
        · intro W hSW
          go_simp
          try with_reducible rfl
        try simp only [Act.put, List.setIfInBounds_toArray, List.set_cons_zero, List.set_cons_succ]
        refine wpAnyH_done (by kernel_rfl) ?_ _
        refine NoPanic.normal ?_
        clear hHeld
        go_wp2_with fail
        (try simp only [Exit.inBlock, Exit.then])
        go_ret3
        exact ⟨by rw [HF.out] <;> rfl, HBW.out⟩
      · have HF : Hid (endX l = (endX (l.drop (a2 + 1))).map (· + (a2 + 1))) := by
          show _ = _
          rw [HEX.out, HH.out.2 hp, map_add, show k + (n + 1) = a2 + 1 by have := HA2.out; omega]
        clear hp hle hex
        go_wp2_with fail
        exact ⟨⟨a2 + 1, HAL.out, by first | rfl | trivial | rw [hw1], by trivial, HF.out⟩, by have := HAL.out; have := HA2.out; have := HK.out; (try simp only [hw1]); simp [intOf]; omega⟩
end Go.Proofs.YtkpiinjhcckhfaaGreatDoor
/-! trans.parseExtras: the walk. -/
namespace Go.Proofs.YtkpiinjhcckhfaaGreatDoor
open Go.RowKit Plain Go.ChangeShapes Go.WideShapes Go.ChangeAt Go.Great
set_option linter.unusedVariables false
set_option linter.unusedSimpArgs false
def sLen : Value → Nat | .string s => s.size | _ => 0
theorem exW_cut (f : Nat) {l : List UInt8} (hl : l ≠ []) : exW (f + 1) l = if (Lib.cut l [32]).2.2 = true then (if (cutV (Lib.cut l [32]).2.1).2.2 = true then (exW f (cutV (Lib.cut l [32]).2.1).2.1).map ((txt (Lib.cut l [32]).1, txt (cutV (Lib.cut l [32]).2.1).1) :: ·) else none) else none := by
  conv => lhs; unfold exW
  rw [if_neg hl]
  split
  · unfold cutV
    cases endX (Lib.cut l [32]).2.1 with
    | none => rfl
    | some n => rfl
  · rfl
theorem cutV_len (l : List UInt8) : (cutV l).2.1.length ≤ l.length ∧ ((cutV l).2.2 = true → (cutV l).2.1.length < l.length) := by
  unfold cutV
  cases h : endX l with
  | none => exact ⟨Nat.zero_le _, fun h => by cases h⟩
  | some n =>
    have := endX_lt h
    show (l.drop (n + 1)).length ≤ _ ∧ (_ → (l.drop (n + 1)).length < _)
    rw [List.length_drop]
    exact ⟨by omega, fun _ => by omega⟩
/-- What parseExtras hands back. -/
def ExtsT (e : Ending) (w' : World) (base : Nat) : Option (List (ByteArray × ByteArray)) → Prop
  | some xs => ∃ v, e = .returned (.tuple #[v, .bool true]) ∧ OwnG 2 extE 79 w' base v xs
  | none => e = .returned (.tuple #[.slice none 0 0, .bool false])
set_option maxRecDepth 100000 in
set_option maxHeartbeats 32000000 in
theorem texts_any (L : List UInt8) (w : World) (hE : EnvC w) (hl : L.length ≤ 100000) :
    Calls Tryz.prog 80 #[.string (txt L)] w fun e w' => ExtsT e w' w.heap.size (exW (L.length + 1) L) ∧ Below w.heap.size w w' := by
  have HL := Lib.hid hl
  have HE := Lib.hid hE
  obtain ⟨o, ho⟩ : ∃ o, exW (L.length + 1) L = o := ⟨_, rfl⟩
  rw [ho]
  have HO := Lib.hid ho
  clear hl hE ho
  go_enter Tryz.func80, Tryz.ntmps80
  go_wp2_with fail
  go_loopw [0, 4] (fun r v wr => ∃ (f : Nat) (done : List (ByteArray × ByteArray)) (l : List UInt8), r = .string (txt l) ∧ l.length < f ∧ done.length + l.length ≤ L.length ∧ o = (exW f l).map (done ++ ·) ∧ OwnG 2 extE 79 wr w.heap.size v done ∧ Below w.heap.size w wr) (fun r _ _ => sLen r)
  case atStart => exact ⟨L.length + 1, [], L, rfl, by omega, by simp, by rw [← HO.out]; cases exW (L.length + 1) L <;> rfl, OwnG.nil _ _ _, Below.refl _ _⟩
  case round =>
    obtain ⟨f, done, l, rfl, hf, hdl, ho, hown, hb⟩ := hrel
    obtain ⟨ga, gc, rfl⟩ := hown.shape
    have HOW := Lib.hid hown
    have HB := Lib.hid hb
    have HF := Lib.hid hf
    have HDL := Lib.hid hdl
    have HOO := Lib.hid ho
    clear hf hdl ho hown hb HO
    obtain ⟨f, rfl⟩ : ∃ g, f = g + 1 := ⟨f - 1, by have := HF.out; omega⟩
    by_cases hl : l = []
    · subst hl
      have HOK : Hid (o = some done) := by
        show _ = _
        rw [HOO.out]
        unfold exW
        rw [if_pos rfl, Option.map_some, List.append_nil]
      have HNE : Hid (∀ W, (binOp .neq 9 (.string (txt [])) (.string ⟨#[]⟩)).run Tryz.prog W = .ok (.bool false) W) := fun W => ne_lit [] W
      obtain ⟨dn, hdn⟩ : ∃ n, done.length = n := ⟨_, rfl⟩
      have HET : Hid (ExtsT (.returned (.tuple #[.slice ga dn gc, .bool true])) wr w.heap.size o) := by
        show ExtsT _ _ _ _
        rw [HOK.out]
        exact ⟨_, rfl, by rw [← hdn]; exact HOW.out⟩
      rw [hdn]
      clear hdn
      go_wp2_with (first
        | refine wpList_eql (by rfl) .neq 9 _ _ _ rfl (.string (txt [])) (.string ⟨#[]⟩) rfl rfl (.bool false) (guard_ne _ _ _ _) HNE.out ?_)
      go_ret2
      exact ⟨HET.out, HB.out⟩
    · have HNE : Hid (∀ W, (binOp .neq 9 (.string (txt l)) (.string ⟨#[]⟩)).run Tryz.prog W = .ok (.bool true) W) := fun W => by
        rw [ne_lit l W]
        cases l with
        | nil => exact absurd rfl hl
        | cons c t => rfl
      have ho := HOO.out
      rw [exW_cut f hl] at ho
      have HOC := Lib.hid ho
      have hsz : (txt l).size = l.length := txt_size l
      have HLL : Hid (l.length ≤ 100000) := by show _ ≤ _; have := HL.out; have := HDL.out; omega
      have HC1 := Lib.hid (cut_len l 32)
      clear ho hl hsz HOO
      go_wp2_with (first
        | refine wpList_eql (by rfl) .neq 9 _ _ _ rfl (.string (txt l)) (.string ⟨#[]⟩) rfl rfl (.bool true) (guard_ne _ _ _ _) HNE.out ?_)
      clear HNE
      refine (cut_any l 32 wr (HE.out.env.below HB.out) (by have := HLL.out; omega)).mono ?_
      rintro e w1 ⟨rfl, hb1⟩
      have HB1 := Lib.hid (HB.out.trans (hb1.mono HB.out.size))
      have HOW1 := Lib.hid (HOW.out.below hb1)
      clear hb1
      obtain ⟨⟨K, V, ok⟩, hcut⟩ : ∃ c, Lib.cut l [32] = c := ⟨_, rfl⟩
      rw [hcut] at HOC HC1 ⊢
      dsimp only at HOC HC1 ⊢
      have HVL : Hid (V.length ≤ l.length) := HC1.out.2
      clear hcut HC1
      cases ok
      · have HNO : Hid (o = none) := by
          show _ = _
          rw [HOC.out]
          rfl
        have HET : Hid (ExtsT (.returned (.tuple #[.slice none 0 0, .bool false])) w1 w.heap.size o) := by
          show ExtsT _ _ _ _
          rw [HNO.out]
          rfl
        go_wp2_with fail
        (try simp only [Exit.inBlock, Exit.then])
        go_ret2
        exact ⟨HET.out, HB1.out⟩
      · have hc2 := cutV_len V
        go_wp2_with fail
        refine (cutv_any V w1 (HE.out.below HB1.out) (by have := HVL.out; have := HLL.out; omega)).mono ?_
        rintro e w2 ⟨rfl, hb2⟩
        have HB2 := Lib.hid (HB1.out.trans (hb2.mono HB1.out.size))
        have HOW2 := Lib.hid (HOW1.out.below hb2)
        clear hb2
        obtain ⟨⟨X, R, ok⟩, hcut⟩ : ∃ c, cutV V = c := ⟨_, rfl⟩
        rw [hcut] at HOC hc2 ⊢
        dsimp only at HOC hc2 ⊢
        have HRL := Lib.hid hc2
        clear hcut hc2
        cases ok
        · have HNO : Hid (o = none) := by
            show _ = _
            rw [HOC.out]
            rfl
          have HET : Hid (ExtsT (.returned (.tuple #[.slice none 0 0, .bool false])) w2 w.heap.size o) := by
            show ExtsT _ _ _ _
            rw [HNO.out]
            rfl
          go_wp2_with fail
          (try simp only [Exit.inBlock, Exit.then])
          go_ret2
          exact ⟨HET.out, HB2.out⟩
        · have HRR : Hid (R.length < l.length) := Nat.lt_of_lt_of_le (HRL.out.2 rfl) HVL.out
          have HGO : Hid (o = (exW f R).map ((done ++ [(txt K, txt X)]) ++ ·)) := by
            show _ = _
            rw [HOC.out]
            simp only [if_true]
            rw [Option.map_map]
            cases exW f R with
            | none => rfl
            | some p => simp
          obtain ⟨V2, hV2⟩ : ∃ v, txt X = v := ⟨_, rfl⟩
          obtain ⟨K2, hK2⟩ : ∃ v, txt K = v := ⟨_, rfl⟩
          rw [hV2, hK2] at HGO
          simp only [hV2, hK2]
          clear hV2 hK2 HOC HRL
          have HBA : Hid (Below w2.heap.size w2 (w2.alloc (.cells (extE (K2, V2)).toArray 79))) := (Below.refl _ _).alloc (Nat.le_refl _) _
          have HOA := Lib.hid (HOW2.out.below HBA.out)
          have HBB := Lib.hid (HB2.out.trans (HBA.out.mono HB2.out.size))
          have HRW1 : Hid (∀ (j : Nat) y, [(K2, V2)][j]? = some y → (w2.alloc (.cells (extE (K2, V2)).toArray 79)).rangeAt w2.heap.size (0 + j * 2) (extE y)) := one_G w2 79 (K2, V2)
          have HDLB : Hid (done.length + 1 ≤ 100001) := by have := HDL.out; have := HL.out; show _ ≤ _; omega
          have hsl1 := slice_G1 elem_ext (by decide) (by decide) (by decide) extE_len (K2, V2) (.agg (extE (K2, V2)).toArray) rfl w2
          have HSZ : Hid (sLen (.string (txt R)) < sLen (.string (txt l))) := by show (txt R).size < (txt l).size; rw [txt_size, txt_size]; exact HRR.out
          go_wp2_with (first
            | refine wpList_buildQ rfl 79 _ rfl #[(0, .string K2), (1, .string V2)] (map_two _ _ _ _ _ rfl rfl) _ (build_ext K2 V2) ?_
            | refine wpList_slice rfl 37 1 #[(0, _)] rfl #[(0, .agg (extE (K2, V2)).toArray)] (map_one _ _ _ rfl) _ _ hsl1 ?_
            | (refine wpList_append_G elem_ext extE_len (by decide) (by decide) extE_one rfl _ _ rfl w.heap.size (.slice ga done.length gc) done done.length rfl rfl HOA.out w2.heap.size 0 1 1 [(K2, V2)] rfl (by decide) rfl HRW1.out (done.length + 1) (done ++ [(K2, V2)]) rfl rfl (by have := HDLB.out; omega) HBB.out.size ?_
               rintro g2 gc2 w7 ho7 hg7 hgg hgl
               have HO7 := Lib.hid ho7
               have HB7 := Lib.hid (HBB.out.grown hg7 HBB.out.size fun g hg => (HOA.out.lt hg).1)
               clear ho7 hg7 hgg hgl))
          exact ⟨⟨f, done ++ [(K2, V2)], R, rfl, by have := HRR.out; have := HF.out; omega, by have := HRR.out; have := HDL.out; rw [List.length_append]; simp only [List.length_cons, List.length_nil]; omega, HGO.out, by first | exact HO7.out | (rw [List.length_append]; exact HO7.out), HB7.out⟩, HSZ.out⟩
end Go.Proofs.YtkpiinjhcckhfaaGreatDoor
