/- The document's Body of any entries. -/
import Derived.Test.YthemolkmciofaaaDoorTzRef
namespace Go.Proofs.YthemolkmciofaaaDoor
open Go.RowKit Plain Go.ChangeShapes Go.WideShapes Go.ChangeAt Go.Great
set_option linter.unusedVariables false
set_option linter.unusedSimpArgs false
theorem slice_id20 (B o : Nat) (w : World) : (Instr.sliceAt 27 (.pointer (some ⟨B, o, none⟩)) none none none).run Tryd.prog w = .ok (.slice (some ⟨B, o, none⟩) 20 20) w := by
  have hal : Tryd.prog.arrayLen 27 = 20 := by kernel_rfl
  have hsz : ∀ W : World, (sizeOf (Tryd.prog.elem 27)).run Tryd.prog W = .ok 1 W := fun W => by kernel_rfl
  rw [run_sliceAt_array_all (P := Tryd.prog) w 27 ⟨B, o, none⟩ (by kernel_rfl), hal]
  try rw [hsz]
  try simp [Result.andThen_ok, slicedAt]
  try (unfold Addr.add; split <;> simp_all)
theorem digitsL_len (k : Int) : (digitsL k).length ≤ 6 := by
  unfold digitsL
  repeat' split
  all_goals simp
theorem lineT_len2 (x : TE) (h20 : x.n.length = 20) (hp : x.p.size ≤ 1000) : (lineT x).length ≤ 1028 := by
  unfold lineT
  have := digitsL_len x.k
  rw [Lib.size_eq] at hp
  simp only [List.length_append, List.length_cons, bytesI_len]
  omega
theorem textT_any (n : Nat) : ∀ (xs : List TE), xs.length ≤ n → (∀ x ∈ xs, x.n.length = 20) → (∀ x ∈ xs, x.p.size ≤ 1000) → (textT xs).length ≤ 1028 * n := by
  induction n with
  | zero => intro xs h _ _; rw [List.length_eq_zero_iff.1 (Nat.le_zero.1 h)]; simp [textT]
  | succ n ih =>
    intro xs h h1 h2
    cases xs with
    | nil => simp [textT]
    | cons x xs =>
      have e : textT (x :: xs) = lineT x ++ textT xs := by unfold textT; simp
      have := ih xs (by simpa using h) (fun y hy => h1 y (by simp [hy])) (fun y hy => h2 y (by simp [hy]))
      have := lineT_len2 x (h1 x (by simp)) (h2 x (by simp))
      rw [e, List.length_append]
      omega
set_option maxRecDepth 100000 in
set_option maxHeartbeats 16000000 in
theorem refbody_any (a : Option Addr) (c : Nat) (xs : List TE) (w : World) (h : EsAt w a xs) (hn : xs.length ≤ 1000) (hgf : ∀ x ∈ xs, GoodE x) (hps : ∀ x ∈ xs, x.p.size ≤ 1000) :
    Calls Tryd.prog 15 #[.slice a xs.length c] w fun e w' => (∃ a' c', e = .returned (.slice a' (textT xs).length c') ∧ RowB w' a' (textT xs).length c' (numsOf (txt (textT xs)))) ∧ Below w.heap.size w w' := by
  have H := Lib.hid h
  have HG := Lib.hid hgf
  have HPS := Lib.hid hps
  obtain ⟨n, hnl⟩ : ∃ n, xs.length = n := ⟨_, rfl⟩
  have HN := Lib.hid hnl
  have HNB : Hid (n ≤ 1000) := by show _ ≤ _; omega
  have HTLA : Hid (∀ k, (textT (xs.take k)).length ≤ 1028000) := fun k => by
    have := textT_any 1000 (xs.take k) (by rw [List.length_take]; omega) (fun x hx => (hgf x (List.mem_of_mem_take hx)).1) (fun x hx => hps x (List.mem_of_mem_take hx))
    omega
  rw [hnl]
  clear h hn hgf hnl hps
  go_enter Tryd.func15, Tryd.ntmps15
  go_wp2_with fail
  go_loopw [3, 4] (fun v i wr => ∃ (k m : Nat) (va : Option Addr) (vc : Nat), k ≤ n ∧ i = .int .i64 (k : Int) ∧ v = .slice va m vc ∧ m = (textT (xs.take k)).length ∧ Mid wr w.heap.size v m (numsOf (txt (textT (xs.take k)))) ∧ Below w.heap.size w wr) (fun _ i _ => n - (intOf i).toNat)
  case atStart => exact ⟨0, 0, none, 0, by omega, rfl, rfl, by rw [List.take_zero]; rfl, by rw [List.take_zero]; exact Mid.nil _ _, Below.refl _ _⟩
  case round =>
    obtain ⟨k, m, va, vc, hk, rfl, rfl, hml, hm, hb⟩ := hrel
    have HM := Lib.hid hm
    have HW := Lib.hid hb
    have HML := Lib.hid hml
    have WK := Lib.hid (next_int k (by have := HNB.out; omega))
    clear hm hb hml
    by_cases hkn : k = n
    · subst hkn
      have hki : ¬ (k : Int) < (k : Int) := by omega
      have HR : Hid (RowB wr va (textT xs).length vc (numsOf (txt (textT xs)))) := by
        have hall : xs.take k = xs := List.take_of_length_le (by rw [HN.out]; omega)
        have h1 := HM.out
        have h2 := HML.out
        rw [hall] at h1 h2
        subst h2
        exact h1.row (range_of_mem (numsOf_bytes _))
      have HE : Hid (m = (textT xs).length) := by
        have hall : xs.take k = xs := List.take_of_length_le (by rw [HN.out]; omega)
        have h2 := HML.out
        rwa [hall] at h2
      clear hk
      go_wp2_with fail
      go_ret
      exact ⟨⟨va, vc, by rw [HE.out]; rfl, HR.out⟩, HW.out⟩
    · have hki : (k : Int) < (n : Int) := by omega
      have hk0 : (0 : Int) ≤ (k : Int) := Int.natCast_nonneg k
      obtain ⟨b, off, x, rfl, hp, h20, hbl, hr⟩ := H.out.at (k := k) (by rw [HN.out]; omega)
      have HC : Hid (∀ W, Below w.heap.size w W → W.rangeAt b (off + k * 22) (entL x)) := fun W hW => range_below hr hW hbl
      have H20 := Lib.hid h20
      have hxm := List.mem_of_getElem? hp
      have hgx := HG.out x hxm
      have HNI := Lib.hid (nums_id x.n hgx.2)
      have HBT := Lib.hid hgx.2
      have HXP : Hid (x.p.size ≤ 1000) := HPS.out x hxm
      have HLT : Hid (textT (xs.take (k + 1)) = textT (xs.take k) ++ digitsL x.k ++ [32] ++ x.p.data.toList ++ [0] ++ bytesI x.n) := by
        show _ = _
        rw [textT_snoc hp]
        unfold lineT
        simp
      have HKL : Hid (k < n) := by show _ < _; omega
      obtain ⟨D, hD⟩ : ∃ d, txt (digitsL x.k) = d := ⟨_, rfl⟩
      have HD := Lib.hid hD
      have HDS : Hid (D.size ≤ 6) := by rw [← hD, txt_size]; exact digitsL_len _
      have HLIM : Hid (m ≤ 1028000 ∧ D.size ≤ 6 ∧ x.p.size ≤ 1000) := ⟨by rw [HML.out]; exact HTLA.out k, HDS.out, HXP.out⟩
      have HDG : Hid (∀ W, Calls Tryd.prog 23 #[.int .i64 x.k] W fun e w' => e = .returned (.string D) ∧ Below W.heap.size W w') := fun W => by rw [← hD]; exact refdigits_any x.k W
      have q1 : wr.cell? ⟨b, off + k * 22, none⟩ = some (.int .i64 x.k) := range_mode (HC.out wr HW.out)
      have tok : True := trivial
      clear hp h20 hbl hr hxm hgx hD hk hkn
      go_wp2_with fail
      refine (HDG.out _).mono ?_
      rintro e w1 ⟨rfl, hb⟩
      have HM1 := Lib.hid (HM.out.below hb)
      have HB1 := Lib.hid (HW.out.trans (hb.mono HW.out.size))
      clear hb q1
      go_wp2_with (have _t := tok; at_builtin; clear tok; refine Hid.out ?_)
      refine unhid ?_
      refine wpList_append_to rfl _ _ 9 rfl w.heap.size _ m (numsOf (txt (textT (xs.take k)))) rfl HM1.out (.string D) D.size (numsOf D) rfl (by rw [nums_cells]; exact Src.ofString _ Tryd.underlying9 D) (m + D.size) (numsOf (txt (textT (xs.take k))) ++ (numsOf D)) rfl rfl (by have := HLIM.out; omega) HB1.out.size ?_
      rintro a2 ca2 w2 hm hb
      obtain ⟨m2, hm2⟩ : ∃ j, m + D.size = j := ⟨_, rfl⟩
      rw [hm2] at hm ⊢
      have HM2 := Lib.hid hm
      have HB2 := Lib.hid (HB1.out.trans hb)
      have HE2 := Lib.hid hm2
      have HLIM2 : Hid (m2 ≤ 1028006) := by have := HLIM.out; show _ ≤ _; omega
      clear hm hb hm2 HM1 HB1 HM HW
      have tok : True := trivial
      go_wp2_with (have _t := tok; at_builtin; clear tok; refine Hid.out ?_)
      refine unhid ?_
      have HY2 : Hid (Below w2.heap.size w2 (w2.alloc (.cells #[.int .u8 32] 5))) := (Below.refl _ _).alloc (Nat.le_refl _) _
      refine wpList_append_to rfl _ _ 39 rfl w.heap.size _ m2 (numsOf (txt (textT (xs.take k))) ++ numsOf D) rfl (HM2.out.below HY2.out) (.slice (some ⟨w2.heap.size, 0, none⟩) 1 1) 1 ([32]) rfl (src_bytes (Bytes.lit w2 w2.heap.size rfl [32] 5 (0, 0) 1 rfl (by omega) (by intro y hy; simp at hy; omega))) (m2 + 1) (numsOf (txt (textT (xs.take k))) ++ numsOf D ++ ([32])) rfl rfl (by have := HLIM2.out; omega) (Nat.le_trans HB2.out.size HY2.out.size) ?_
      rintro a3 ca3 w3 hm hb
      obtain ⟨m3, hm3⟩ : ∃ j, m2 + 1 = j := ⟨_, rfl⟩
      rw [hm3] at hm ⊢
      have HM3 := Lib.hid hm
      have HB3 := Lib.hid ((HB2.out.trans (HY2.out.mono HB2.out.size)).trans hb)
      have HE3 := Lib.hid hm3
      have HLIM3 : Hid (m3 ≤ 1028007 ∧ x.p.size ≤ 1000) := by have := HLIM2.out; have := HLIM.out; show _ ∧ _; omega
      clear hm hb hm3 HM2 HB2 HY2
      have q2 : w3.cell? ⟨b, off + k * 22 + 1, none⟩ = some (.string x.p) := range_name (HC.out w3 HB3.out)
      have tok : True := trivial
      go_wp2_with (have _t := tok; at_builtin; clear tok; refine Hid.out ?_)
      refine unhid ?_
      refine wpList_append_to rfl _ _ 9 rfl w.heap.size _ m3 (numsOf (txt (textT (xs.take k))) ++ numsOf D ++ [32]) rfl HM3.out (.string x.p) x.p.size (numsOf x.p) rfl (by rw [nums_cells]; exact Src.ofString _ Tryd.underlying9 x.p) (m3 + x.p.size) (numsOf (txt (textT (xs.take k))) ++ numsOf D ++ [32] ++ (numsOf x.p)) rfl rfl (by have := HLIM3.out; omega) HB3.out.size ?_
      rintro a4 ca4 w4 hm hb
      obtain ⟨m4, hm4⟩ : ∃ j, m3 + x.p.size = j := ⟨_, rfl⟩
      rw [hm4] at hm ⊢
      have HM4 := Lib.hid hm
      have HB4 := Lib.hid (HB3.out.trans hb)
      have HE4 := Lib.hid hm4
      have HLIM4 : Hid (m4 ≤ 1029007) := by have := HLIM3.out; show _ ≤ _; omega
      clear hm hb hm4 HM3 HB3 q2
      have tok : True := trivial
      go_wp2_with (have _t := tok; at_builtin; clear tok; refine Hid.out ?_)
      refine unhid ?_
      have HY4 : Hid (Below w4.heap.size w4 (w4.alloc (.cells #[.int .u8 0] 5))) := (Below.refl _ _).alloc (Nat.le_refl _) _
      refine wpList_append_to rfl _ _ 39 rfl w.heap.size _ m4 (numsOf (txt (textT (xs.take k))) ++ numsOf D ++ [32] ++ numsOf x.p) rfl (HM4.out.below HY4.out) (.slice (some ⟨w4.heap.size, 0, none⟩) 1 1) 1 ([0]) rfl (src_bytes (Bytes.lit w4 w4.heap.size rfl [0] 5 (0, 0) 1 rfl (by omega) (by intro y hy; simp at hy; omega))) (m4 + 1) (numsOf (txt (textT (xs.take k))) ++ numsOf D ++ [32] ++ numsOf x.p ++ ([0])) rfl rfl (by have := HLIM4.out; omega) (Nat.le_trans HB4.out.size HY4.out.size) ?_
      rintro a5 ca5 w5 hm hb
      obtain ⟨m5, hm5⟩ : ∃ j, m4 + 1 = j := ⟨_, rfl⟩
      rw [hm5] at hm ⊢
      have HM5 := Lib.hid hm
      have HB5 := Lib.hid ((HB4.out.trans (HY4.out.mono HB4.out.size)).trans hb)
      have HE5 := Lib.hid hm5
      have HLIM5 : Hid (m5 ≤ 1029008) := by have := HLIM4.out; show _ ≤ _; omega
      clear hm hb hm5 HM4 HB4 HY4
      have HB20 : Hid (Bytes w5 (some ⟨b, off + k * 22 + 2, none⟩) 20 x.n) := by
        have hrg := range_id (HC.out w5 HB5.out)
        refine ⟨H20.out, by omega, range_of_mem HBT.out, .inr ⟨b, off + k * 22 + 2, rfl, fun j hj => hrg j _ ?_⟩⟩
        unfold U8
        have h20 := H20.out
        rw [List.getElem?_map, List.getElem?_eq_getElem (by omega)]
        rfl
      have hsid := fun W => slice_id20 b (off + k * 22 + 2) W
      have tok : True := trivial
      go_wp2_with (have _t := tok; at_builtin; clear tok; refine Hid.out ?_)
      refine unhid ?_
      refine wpList_append_to rfl _ _ 39 rfl w.heap.size _ m5 (numsOf (txt (textT (xs.take k))) ++ numsOf D ++ [32] ++ numsOf x.p ++ [0]) rfl HM5.out (.slice (some ⟨b, off + k * 22 + 2, none⟩) 20 20) 20 (x.n) rfl (src_bytes HB20.out) (m5 + 20) (numsOf (txt (textT (xs.take k))) ++ numsOf D ++ [32] ++ numsOf x.p ++ [0] ++ (x.n)) rfl rfl (by have := HLIM5.out; omega) HB5.out.size ?_
      rintro a6 ca6 w6 hm hb
      have HB6 := Lib.hid (HB5.out.trans hb)
      have HE6 : Hid (m5 + 20 = (textT (xs.take (k + 1))).length) := by
        show _ = _
        rw [HLT.out]
        simp only [List.length_append, bytesI_len, List.length_cons, List.length_nil]
        have h1 := HML.out
        have h2 : (digitsL x.k).length = D.size := by rw [← HD.out, txt_size]
        have h3 := H20.out
        have h4 := HE2.out
        have h5 := HE3.out
        have h6 := HE4.out
        have h7 := HE5.out
        rw [Lib.size_eq] at h6
        omega
      have HM6 : Hid (Mid w6 w.heap.size (.slice a6 (m5 + 20) ca6) (m5 + 20) (numsOf (txt (textT (xs.take (k + 1)))))) := by
        show Mid _ _ _ _ _
        rw [HLT.out]
        simp only [numsOf_app, HD.out, HNI.out]
        exact hm
      obtain ⟨m6, hm6⟩ : ∃ j, m5 + 20 = j := ⟨_, rfl⟩
      rw [hm6] at HE6 HM6 ⊢
      clear hm hb hm6 hsid HB20
      go_wp2_with fail
      exact ⟨⟨k + 1, m6, a6, ca6, HKL.out, by first | rw [WK.out _ rfl] | rfl, rfl, HE6.out, HM6.out, HB6.out⟩, by have := HKL.out; (first | rw [WK.out _ rfl] | skip); simp [intOf]; omega⟩
end Go.Proofs.YthemolkmciofaaaDoor
