/- ManifestPrints: the walk. -/
import Derived.Test.YtcccnnmcmeoajaaDoorMfKnown
namespace Go.Proofs.YtcccnnmcmeoajaaDoor
open Go.RowKit Plain
set_option linter.unusedVariables false
set_option linter.unusedSimpArgs false
theorem yieldsIf_conv {P : Program} {ops : Array Oper} {S : World → Prop} {op : Oper} {a : Act} (hw : Region.wanted op (yielded ops a.tmps) = true) (t1 t2 : TypeId) (x : Operand) (ho : op.op = .convert t1 t2 x)
    (u : Value) (h1 : a.eval x = u) (v : Value) (hr : ∀ W, S W → (convert t1 t2 u).run P W = .ok v W) : YieldsIf P ops S op v a := by
  refine .inl ⟨hw, fun W hS => ?_⟩
  unfold execOp
  simp [ho, h1, hr W hS]
theorem as_n (n : Nat) (ys : List MF) (hn : ys.length = n) (hb : n ≤ 1000000) (a : Option Addr) (c : Nat) (w : World) (h : FsAt w a ys) :
    Calls Tryd.prog 7 #[.slice a n c] w fun e w' => (∃ v, e = .returned v ∧ OwnF 42 w' w.heap.size v ys) ∧ Below w.heap.size w w' := by
  subst hn; exact as_any a c ys w h hb
theorem same_n (n : Nat) (ys : List MF) (hn : ys.length = n) (hb : n ≤ 1000000) (a1 a2 : Option Addr) (c1 c2 : Nat) (w : World) (h1 : FsAt w a1 ys) (h2 : FsAt w a2 ys) :
    Calls Tryd.prog 12 #[.slice a1 n c1, .slice a2 n c2] w fun e w' => e = .returned (.bool true) ∧ Below w.heap.size w w' := by
  subst hn; exact same_any a1 a2 c1 c2 ys w h1 h2 hb
theorem print_n (n : Nat) (ys : List MF) (hn : ys.length = n) (hb : n ≤ 100000) (a : Option Addr) (c : Nat) (w : World) (h : FsAt w a ys) (hgf : ∀ x ∈ ys, GoodF x) (hE : Env w) :
    Calls Tryd.prog 8 #[.slice a n c] w fun e w' => MfPrint e w' ys ∧ Below w.heap.size w w' := by
  subst hn; exact mfprint_any a c ys w h hb hgf hE
theorem rright_n (n : Nat) (ys : List MF) (hn : ys.length = n) (hb : n ≤ 1000000) (a : Option Addr) (c : Nat) (w : World) (h : FsAt w a ys) :
    Calls Tryd.prog 9 #[.slice a n c] w fun e w' => e = .returned (.bool (rightM ys)) ∧ Below w.heap.size w w' := by
  subst hn; exact rfright_any a c ys w h hb
theorem rprint_n (n : Nat) (ys : List MF) (hn : ys.length = n) (hb : n ≤ 100000) (a : Option Addr) (c : Nat) (w : World) (h : FsAt w a ys) (hgf : ∀ x ∈ ys, GoodF x) (hr : rightM ys = true) :
    Calls Tryd.prog 11 #[.slice a n c] w fun e w' => e = .returned (.string (txt (textF ys))) ∧ Below w.heap.size w w' := by
  subst hn; exact rfprint_any a c ys w h hb hgf (small_of hr)
set_option maxRecDepth 100000 in
set_option maxHeartbeats 32000000 in
theorem lawprints_any (a : Option Addr) (c : Nat) (xs : List MF) (w : World) (hE : Env w) (h : FsAt w a xs) (hn : xs.length ≤ 9223372036854775807) (hg : ∀ x ∈ xs, GoodF x) :
    Calls Tryd.prog 3 #[.slice a xs.length c] w fun e w' => e = .returned (.bool true) ∧ Below w.heap.size w w' := by
  have HE := Lib.hid hE
  obtain ⟨ys, hys⟩ : ∃ ys, (xs.take 40).map fewF = ys := ⟨_, rfl⟩
  have HYG : Hid (∀ y ∈ ys, GoodF y) := fun y hy => by
    rw [← hys] at hy
    obtain ⟨x, hx, rfl⟩ := List.mem_map.1 hy
    exact hg x (List.mem_of_mem_take hx)
  have HFEW := Lib.hid (few_any a c xs w h hn)
  rw [hys] at HFEW
  obtain ⟨n, hyn⟩ : ∃ n, ys.length = n := ⟨_, rfl⟩
  have HN := Lib.hid hyn
  have HNB : Hid (n ≤ 40) := by
    show _ ≤ _
    rw [← hyn, ← hys, List.length_map, List.length_take]; omega
  obtain ⟨xn, hxn⟩ : ∃ n, xs.length = n := ⟨_, rfl⟩
  rw [hxn] at HFEW ⊢
  clear hys hyn hxn h hg hn hE
  go_enter Tryd.func3, Tryd.ntmps3
  go_wp2_with fail
  refine HFEW.out.mono ?_
  rintro e w1 ⟨⟨v, rfl, ho⟩, hb⟩
  have HW1 := Lib.hid hb
  obtain ⟨la, lc, rfl, hat, -, -⟩ := ho.at
  have HA1 := Lib.hid hat
  clear hat ho hb HFEW
  rw [HN.out]
  go_wp2_with fail
  refine (as_n n ys HN.out (by have := HNB.out; omega) la lc w1 HA1.out).mono ?_
  rintro e w2 ⟨⟨v, rfl, ho⟩, hb⟩
  have HW2 := Lib.hid (HW1.out.trans (hb.mono HW1.out.size))
  have HA2 := Lib.hid (HA1.out.below hb)
  obtain ⟨ra, rc, rfl, hat, -, -⟩ := ho.at
  have HR2 := Lib.hid hat
  clear hat ho hb HA1 HW1
  rw [HN.out]
  go_wp2_with fail
  refine (print_n n ys HN.out (by have := HNB.out; omega) la lc w2 HA2.out HYG.out (HE.out.below HW2.out)).mono ?_
  rintro e w3 ⟨hpo, hb⟩
  have HW3 := Lib.hid (HW2.out.trans (hb.mono HW2.out.size))
  have HA3 := Lib.hid (HA2.out.below hb)
  have HR3 := Lib.hid (HR2.out.below hb)
  clear hb HA2 HR2 HW2
  have HRT := Lib.hid (rright_n n ys HN.out (by have := HNB.out; omega) ra rc w3 HR3.out)
  cases hr : rightM ys
  · obtain rfl := hpo.no hr
    rw [hr] at HRT
    clear hr hpo
    go_wp2_with fail
    refine HRT.out.mono ?_
    rintro e w4 ⟨rfl, hb⟩
    have HW4 := Lib.hid (HW3.out.trans (hb.mono HW3.out.size))
    clear hb HRT
    go_wp2_with fail
    refine (known_any w4 (HE.out.below HW4.out)).mono ?_
    rintro e w5 ⟨rfl, hb⟩
    have HW5 := Lib.hid (HW4.out.trans (hb.mono HW4.out.size))
    clear hb
    go_wp2_with fail
    go_ret
    exact ⟨rfl, HW5.out⟩
  · obtain ⟨ba, bc, rfl, hbt⟩ := hpo.yes hr
    rw [hr] at HRT
    have HRR := Lib.hid hr
    clear hr hpo
    obtain ⟨TX, hTX⟩ : ∃ t, txt (textF ys) = t := ⟨_, rfl⟩
    obtain ⟨tl, htl⟩ : ∃ t, (textF ys).length = t := ⟨_, rfl⟩
    rw [hTX, htl] at hbt
    rw [htl]
    have HBT := Lib.hid hbt
    have HTX := Lib.hid hTX
    clear hbt hTX htl
    go_wp2_with fail
    refine HRT.out.mono ?_
    rintro e w4 ⟨rfl, hb⟩
    have HW4 := Lib.hid (HW3.out.trans (hb.mono HW3.out.size))
    have HA4 := Lib.hid (HA3.out.below hb)
    have HR4 := Lib.hid (HR3.out.below hb)
    have HB4 := Lib.hid (HBT.out.below hb)
    have HCV : Hid (∀ W, Below w4.heap.size w4 W → (convert 26 9 (.slice ba tl bc)).run Tryd.prog W = .ok (.string TX) W) := fun W hW => by
      have := text_run W ba tl bc _ (HB4.out.below hW)
      rwa [str_nums] at this
    have HRP : Hid (∀ W, Below w4.heap.size w4 W → Calls Tryd.prog 11 #[.slice ra n rc] W fun e w' => e = .returned (.string TX) ∧ Below W.heap.size W w') := fun W hW => by
      rw [← HTX.out]
      exact rprint_n n ys HN.out (by have := HNB.out; omega) ra rc W (HR4.out.below hW) HYG.out HRR.out
    have HAS : Hid (∀ W, Below w4.heap.size w4 W → Calls Tryd.prog 7 #[.slice la n lc] W fun e w' => (∃ v, e = .returned v ∧ OwnF 42 w' W.heap.size v ys) ∧ Below W.heap.size W w') := fun W hW =>
      as_n n ys HN.out (by have := HNB.out; omega) la lc W (HA4.out.below hW)
    have HSAME : Hid (∀ a7 c7 W, FsAt W a7 ys → Below w4.heap.size w4 W → Calls Tryd.prog 12 #[.slice a7 n c7, .slice ra n rc] W fun e w' => e = .returned (.bool true) ∧ Below W.heap.size W w') := fun a7 c7 W h7 hW =>
      same_n n ys HN.out (by have := HNB.out; omega) a7 ra c7 rc W h7 (HR4.out.below hW)
    clear hb HRT HW3 HA3 HR3 HBT
    go_wp2_with fail
    refine wp_region_noPanic ?_
    refine wp_region_held_drew (S := fun W => Below w4.heap.size w4 W) (by kernel_rfl) ?_ (fun hHeld => ?_)
    · exact (Below.refl _ _).drew
    refine wpAnyH_ready (rs := [0]) (by kernel_rfl) (by simp) ?_
    refine AllReadyH.cons (by simp only [List.getElem?_toArray, List.getElem?_cons_zero]; rfl) (fun K hK => ?_) AllReadyH.nil
    go_simp
    refine (known_any _ (HE.out.below (HW4.out.trans ((Below.refl _ _).drew.mono HW4.out.size)))).mono ?_
    rintro e v5 ⟨rfl, hb⟩
    have hb5 : Below w4.heap.size w4 v5 := (Below.refl _ _).drew.trans hb
    have HB5 := Lib.hid hb5
    clear hb
    go_wp2_with fail
    refine hK.out _ _ (hb5) (fun hHeld2 => ?_)
    clear hK K hHeld
    have hHeld := hHeld2
    clear hHeld2
    try simp only [Act.put, List.setIfInBounds_toArray, List.set_cons_zero, List.set_cons_succ]
    clear hb5
    refine wpAnyH_take (i := 1) (v := ?_) (by simp only [List.getElem?_toArray, List.getElem?_cons_succ, List.getElem?_cons_zero]; rfl) (by kernel_rfl) (by kernel_rfl) (by kernel_rfl) (fun _ _ _ h => h) (Or.inl ⟨by rfl, ?_⟩) (by assumption) ?_
    rotate_left
    · intro W hSW
      go_simp
      try with_reducible rfl
    try simp only [Act.put, List.setIfInBounds_toArray, List.set_cons_zero, List.set_cons_succ]
    refine wpAnyH_take (i := 2) (v := ?_) (by simp only [List.getElem?_toArray, List.getElem?_cons_succ, List.getElem?_cons_zero]; rfl) (by kernel_rfl) (by kernel_rfl) (by kernel_rfl) (fun _ _ _ h => h) (Or.inl ⟨by rfl, ?_⟩) (by assumption) ?_
    rotate_left
    · intro W hSW
      go_simp
      try with_reducible rfl
    try simp only [Act.put, List.setIfInBounds_toArray, List.set_cons_zero, List.set_cons_succ]
    refine wpAnyH_take (i := 3) (v := ?_) (by simp only [List.getElem?_toArray, List.getElem?_cons_succ, List.getElem?_cons_zero]; rfl) (by kernel_rfl) (by kernel_rfl) (by kernel_rfl) (fun _ _ _ h => h) (Or.inl ⟨by rfl, ?_⟩) (by assumption) ?_
    rotate_left
    · intro W hSW
      go_simp
      try with_reducible rfl
    try simp only [Act.put, List.setIfInBounds_toArray, List.set_cons_zero, List.set_cons_succ]
    refine wpAnyH_take (i := 4) (v := ?_) (by simp only [List.getElem?_toArray, List.getElem?_cons_succ, List.getElem?_cons_zero]; rfl) (by kernel_rfl) (by kernel_rfl) (by kernel_rfl) (fun _ _ _ h => h) (Or.inl ⟨by rfl, ?_⟩) (by assumption) ?_
    rotate_left
    · intro W hSW
      go_simp
      try with_reducible rfl
    try simp only [Act.put, List.setIfInBounds_toArray, List.set_cons_zero, List.set_cons_succ]
    refine wpAnyH_take (i := 5) (v := ?_) (by simp only [List.getElem?_toArray, List.getElem?_cons_succ, List.getElem?_cons_zero]; rfl) (by kernel_rfl) (by kernel_rfl) (by kernel_rfl) (fun _ _ _ h => h) (Or.inl ⟨by rfl, ?_⟩) (by assumption) ?_
    rotate_left
    · intro W hSW
      go_simp
      try with_reducible rfl
    try simp only [Act.put, List.setIfInBounds_toArray, List.set_cons_zero, List.set_cons_succ]
    refine wpAnyH_take (i := 6) (v := ?_) (by simp only [List.getElem?_toArray, List.getElem?_cons_succ, List.getElem?_cons_zero]; rfl) (by kernel_rfl) (by kernel_rfl) (by kernel_rfl) (fun _ _ _ h => h) (Or.inl ⟨by rfl, ?_⟩) (by assumption) ?_
    rotate_left
    · intro W hSW
      go_simp
      try with_reducible rfl
    try simp only [Act.put, List.setIfInBounds_toArray, List.set_cons_zero, List.set_cons_succ]
    refine wpAnyH_take (i := 7) (by simp only [List.getElem?_toArray, List.getElem?_cons_succ, List.getElem?_cons_zero]; rfl) (by kernel_rfl) (by kernel_rfl) (by kernel_rfl) (fun _ _ _ h => h) (yieldsIf_conv (by rfl) 26 9 _ rfl (.slice ba tl bc) rfl (.string TX) (fun W hSW => HCV.out W hSW)) (by assumption) ?_
    try simp only [Act.put, List.setIfInBounds_toArray, List.set_cons_zero, List.set_cons_succ]
    refine wpAnyH_take (i := 8) (v := ?_) (by simp only [List.getElem?_toArray, List.getElem?_cons_succ, List.getElem?_cons_zero]; rfl) (by kernel_rfl) (by kernel_rfl) (by kernel_rfl) (fun _ _ _ h => h) (Or.inl ⟨by rfl, ?_⟩) (by assumption) ?_
    rotate_left
    · intro W hSW
      go_simp
      try with_reducible rfl
    try simp only [Act.put, List.setIfInBounds_toArray, List.set_cons_zero, List.set_cons_succ]
    refine wpAnyH_ready (rs := [9]) (by kernel_rfl) (by simp) ?_
    refine AllReadyH.cons (by simp only [List.getElem?_toArray, List.getElem?_cons_succ, List.getElem?_cons_zero]; rfl) (fun K hK => ?_) AllReadyH.nil
    go_simp
    refine (HRP.out _ HB5.out).mono ?_
    rintro e v6 ⟨rfl, hb⟩
    have hb6 : Below w4.heap.size w4 v6 := HB5.out.trans (hb.mono HB5.out.size)
    have HB6 := Lib.hid hb6
    clear hb
    go_wp2_with fail
    refine hK.out _ _ (hb6) (fun hHeld2 => ?_)
    clear hK K hHeld
    have hHeld := hHeld2
    clear hHeld2
    try simp only [Act.put, List.setIfInBounds_toArray, List.set_cons_zero, List.set_cons_succ]
    clear hb6
    refine wpAnyH_take (i := 10) (by simp only [List.getElem?_toArray, List.getElem?_cons_succ, List.getElem?_cons_zero]; rfl) (by kernel_rfl) (by kernel_rfl) (by kernel_rfl) (fun _ _ _ h => h) (yieldsIf_eql (by rfl) .eql 9 _ _ _ rfl (.string TX) (.string TX) rfl rfl (.bool true) (fun W => guard_eq _ _ _ _ W) (fun W => eq_self TX W)) (by assumption) ?_
    try simp only [Act.put, List.setIfInBounds_toArray, List.set_cons_zero, List.set_cons_succ]
    refine wpAnyH_take (i := 11) (v := ?_) (by simp only [List.getElem?_toArray, List.getElem?_cons_succ, List.getElem?_cons_zero]; rfl) (by kernel_rfl) (by kernel_rfl) (by kernel_rfl) (fun _ _ _ h => h) (Or.inl ⟨by rfl, ?_⟩) (by assumption) ?_
    rotate_left
    · intro W hSW
      go_simp
      try with_reducible rfl
    try simp only [Act.put, List.setIfInBounds_toArray, List.set_cons_zero, List.set_cons_succ]
    refine wpAnyH_take (i := 12) (v := ?_) (by simp only [List.getElem?_toArray, List.getElem?_cons_succ, List.getElem?_cons_zero]; rfl) (by kernel_rfl) (by kernel_rfl) (by kernel_rfl) (fun _ _ _ h => h) (Or.inl ⟨by rfl, ?_⟩) (by assumption) ?_
    rotate_left
    · intro W hSW
      go_simp
      try with_reducible rfl
    try simp only [Act.put, List.setIfInBounds_toArray, List.set_cons_zero, List.set_cons_succ]
    refine wpAnyH_take (i := 13) (v := ?_) (by simp only [List.getElem?_toArray, List.getElem?_cons_succ, List.getElem?_cons_zero]; rfl) (by kernel_rfl) (by kernel_rfl) (by kernel_rfl) (fun _ _ _ h => h) (Or.inl ⟨by rfl, ?_⟩) (by assumption) ?_
    rotate_left
    · intro W hSW
      go_simp
      try with_reducible rfl
    try simp only [Act.put, List.setIfInBounds_toArray, List.set_cons_zero, List.set_cons_succ]
    refine wpAnyH_take (i := 15) (v := ?_) (by simp only [List.getElem?_toArray, List.getElem?_cons_succ, List.getElem?_cons_zero]; rfl) (by kernel_rfl) (by kernel_rfl) (by kernel_rfl) (fun _ _ _ h => h) (Or.inl ⟨by rfl, ?_⟩) (by assumption) ?_
    rotate_left
    · intro W hSW
      go_simp
      try with_reducible rfl
    try simp only [Act.put, List.setIfInBounds_toArray, List.set_cons_zero, List.set_cons_succ]
    refine wpAnyH_ready (rs := [14]) (by kernel_rfl) (by simp) ?_
    refine AllReadyH.cons (by simp only [List.getElem?_toArray, List.getElem?_cons_succ, List.getElem?_cons_zero]; rfl) (fun K hK => ?_) AllReadyH.nil
    go_simp
    refine (HAS.out _ HB6.out).mono ?_
    rintro e v7 ⟨⟨v, rfl, ho⟩, hb⟩
    obtain ⟨a7, c7, rfl, hat7, -, -⟩ := ho.at
    rw [HN.out]
    have hb7 : Below w4.heap.size w4 v7 := HB6.out.trans (hb.mono HB6.out.size)
    have HB7 := Lib.hid hb7
    have HSM := Lib.hid (HSAME.out a7 c7 v7 hat7 hb7)
    clear ho hat7 hb
    go_wp2_with fail
    refine hK.out _ _ (hb7) (fun hHeld2 => ?_)
    clear hK K hHeld
    have hHeld := hHeld2
    clear hHeld2
    try simp only [Act.put, List.setIfInBounds_toArray, List.set_cons_zero, List.set_cons_succ]
    clear hb7
    refine wpAnyH_ready (rs := [16]) (by kernel_rfl) (by simp) ?_
    refine AllReadyH.cons (by simp only [List.getElem?_toArray, List.getElem?_cons_succ, List.getElem?_cons_zero]; rfl) (fun K hK => ?_) AllReadyH.nil
    go_simp
    refine (HSM.out).mono ?_
    rintro e v8 ⟨rfl, hb⟩
    have hb8 : Below w4.heap.size w4 v8 := HB7.out.trans (hb.mono HB7.out.size)
    have HB8 := Lib.hid hb8
    clear hb HSM
    go_wp2_with fail
    refine hK.out _ _ (hb8) (fun hHeld2 => ?_)
    clear hK K hHeld
    have hHeld := hHeld2
    clear hHeld2
    try simp only [Act.put, List.setIfInBounds_toArray, List.set_cons_zero, List.set_cons_succ]
    clear hb8
    refine wpAnyH_take (i := 17) (v := ?_) (by simp only [List.getElem?_toArray, List.getElem?_cons_succ, List.getElem?_cons_zero]; rfl) (by kernel_rfl) (by kernel_rfl) (by kernel_rfl) (fun _ _ _ h => h) (Or.inl ⟨by rfl, ?_⟩) (by assumption) ?_
    rotate_left
    · intro W hSW
      go_simp
      try with_reducible rfl
    try simp only [Act.put, List.setIfInBounds_toArray, List.set_cons_zero, List.set_cons_succ]
    refine wpAnyH_take (i := 18) (v := ?_) (by simp only [List.getElem?_toArray, List.getElem?_cons_succ, List.getElem?_cons_zero]; rfl) (by kernel_rfl) (by kernel_rfl) (by kernel_rfl) (fun _ _ _ h => h) (Or.inl ⟨by rfl, ?_⟩) (by assumption) ?_
    rotate_left
    · intro W hSW
      go_simp
      try with_reducible rfl
    try simp only [Act.put, List.setIfInBounds_toArray, List.set_cons_zero, List.set_cons_succ]
    refine wpAnyH_done (by kernel_rfl) ?_ _
    refine NoPanic.normal ?_
    clear hHeld
    go_wp2_with fail
    go_ret
    exact ⟨rfl, HW4.out.trans (HB8.out.mono HW4.out.size)⟩
end Go.Proofs.YtcccnnmcmeoajaaDoor
