/- untold: the walk. -/
import Derived.Test.YtmjpejnpcmodgaaDoorNmTold
import Derived.Test.YtmjpejnpcmodgaaDoorBytes
namespace Go.Proofs.YtmjpejnpcmodgaaDoor
open Go.RowKit Plain
set_option linter.unusedVariables false
set_option linter.unusedSimpArgs false
theorem nums_cat (a b : List UInt8) : numsOf (txt (a ++ b)) = numsOf (txt a) ++ numsOf (txt b) := by
  unfold numsOf
  rw [txt_list, txt_list, txt_list, List.map_append]
theorem nums_good (l : List UInt8) : ∀ j : Nat, 0 ≤ (numsOf (txt l))[j]?.getD 0 ∧ (numsOf (txt l))[j]?.getD 0 ≤ 255 := fun j => by
  unfold numsOf
  rw [List.getElem?_map]
  cases h : (txt l).data.toList[j]? with
  | none => simp
  | some b => have := b.toNat_lt; simp; omega
theorem nib_index : ∀ c : Fin 256, Lib.indexByte hexS.data.toList (c.val.toUInt8) = nib c.val := by decide +kernel
theorem hexI_any (b : UInt8) (w : World) : Calls Tryd.prog 30 #[.string ⟨#[48, 49, 50, 51, 52, 53, 54, 55, 56, 57, 97, 98, 99, 100, 101, 102]⟩, .int .u8 (b.toNat : Int)] w fun e w' => e = .returned (.int .i64 (nib b.toNat)) ∧ w' = w := by
  have h := Tryd.strings_IndexByte hexS (b.toNat : Int) w
  have e : Lib.indexByte hexS.data.toList ((b.toNat : Int).toNat.toUInt8) = nib b.toNat := nib_index ⟨b.toNat, b.toNat_lt⟩
  rw [e] at h
  exact h
theorem hexV_nib (b : UInt8) : max (nib b.toNat) 0 = (hexV b : Int) := by
  unfold nib hexV
  split
  · omega
  · split
    · omega
    · decide
theorem hexV_le (b : UInt8) : hexV b ≤ 15 := by unfold hexV; split <;> (try split) <;> omega
theorem numB_nat (d e : UInt8) : ((numB d e).toNat : Int) = 16 * (hexV d : Int) + (hexV e : Int) := by
  have h1 := hexV_le d
  have h2 := hexV_le e
  unfold numB
  rw [UInt8.toNat_ofNat_of_lt' (by show _ < 256; omega)]
  omega
set_option maxRecDepth 100000 in
set_option maxHeartbeats 16000000 in
theorem untold_any (l : List UInt8) (w : World) (hl : l.length ≤ 100000) :
    Calls Tryd.prog 15 #[.string (txt l)] w fun e w' => e = .returned (.string (txt (untoldL l))) ∧ Below w.heap.size w w' := by
  obtain ⟨n, hn⟩ : ∃ n, (txt l).size = n := ⟨_, rfl⟩
  have HN := Lib.hid hn
  have HNL : Hid (l.length = n) := by rw [← hn, txt_size]; rfl
  have HNB : Hid (n ≤ 100000) := by rw [← HNL.out]; exact hl
  have hlen : (txt l).size = n := hn
  clear hl hn
  go_enter Tryd.func15, Tryd.ntmps15
  go_wp2_with fail
  go_loopw [3, 4] (fun b i wr => ∃ (k : Nat) (V : List UInt8) (a : Option Addr) (cp vn : Nat), k ≤ n ∧ V.length = vn ∧ vn ≤ k ∧ i = .int .i64 (k : Int) ∧ b = .slice a vn cp ∧ untoldL l = V ++ untoldL (l.drop k) ∧ Mid wr w.heap.size (.slice a vn cp) vn (numsOf (txt V)) ∧ Below w.heap.size w wr) (fun _ i _ => n - (intOf i).toNat)
  case atStart => exact ⟨0, [], none, 0, 0, Nat.zero_le _, rfl, Nat.zero_le _, rfl, rfl, rfl, Mid.nil _ _, Below.refl _ _⟩
  case round =>
    obtain ⟨k, V, a, cp, vn, hk, hvn, hvk, rfl, rfl, hinv, hmid, hb⟩ := hrel
    have HM := Lib.hid hmid
    have HBW := Lib.hid hb
    have HVN := Lib.hid hvn
    have HVB := Lib.hid hvk
    have HINV := Lib.hid hinv
    have W1 := Lib.hid (next_int k (by have := HNB.out; omega))
    clear hmid hb hvn hvk hinv
    by_cases hkn : k < n
    · have hki : (k : Int) < (n : Int) := by omega
      have HKN := Lib.hid hkn
      obtain ⟨q, hq⟩ : ∃ b, l[k]? = some b := ⟨_, List.getElem?_eq_getElem (by rw [HNL.out]; exact hkn)⟩
      have hix := fun W => index_text (txt l) k (by rw [HN.out]; exact hkn) (k : Int) rfl W
      rw [at8_txt, hq, Option.getD_some] at hix
      have HD1 : Hid (l.drop k = q :: l.drop (k + 1)) := by
        obtain ⟨h, hg⟩ := List.getElem?_eq_some_iff.1 hq
        show _ = _
        rw [← hg, ← List.drop_eq_getElem_cons h]
      obtain ⟨v2, hv2⟩ : ∃ n, vn + 1 = n := ⟨_, rfl⟩
      have HV2 := Lib.hid hv2
      have HBD : Hid (v2 ≤ 70368744177664) := by show _ ≤ _; have := HVB.out; have := HNB.out; omega
      clear hv2 hq
      have hw1 : wrap64 ((k : Int) + 1) = ((k + 1 : Nat) : Int) := W1.out _ rfl
      obtain ⟨k1, hk1e⟩ : ∃ x, k + 1 = x := ⟨_, rfl⟩
      have HK1 := Lib.hid hk1e
      rw [hk1e] at hw1
      have hw2 : wrap64 ((k : Int) + 2) = ((k + 2 : Nat) : Int) := by rw [show (k : Int) + 2 = ((k + 2 : Nat) : Int) by omega]; exact IntWalk.wrap64_in _ (by have := HNB.out; omega)
      obtain ⟨k2, hk2e⟩ : ∃ x, k + 2 = x := ⟨_, rfl⟩
      have HK2 := Lib.hid hk2e
      rw [hk2e] at hw2
      have hwA : IntKind.i64.wrap ((k : Int) + 1) = (k1 : Int) := by rw [show (k : Int) + 1 = (k1 : Int) by omega]; exact IntWalk.i64_in _ (by have := HNB.out; omega)
      have hwB : IntKind.i64.wrap ((k : Int) + 2) = (k2 : Int) := by rw [show (k : Int) + 2 = (k2 : Int) by omega]; exact IntWalk.i64_in _ (by have := HNB.out; omega)
      clear hk1e hk2e
      by_cases h95 : q = 95 ∧ k1 < n
      · obtain ⟨rfl, hk1n⟩ := h95
        have hk1i : (k1 : Int) < (n : Int) := by omega
        have WM2 : Hid (∀ x : Int, x = (k1 : Int) + 1 → wrap64 x = ((k + 2 : Nat) : Int)) := fun x hx => by
          have h1 := HK1.out
          have := next_int k1 (by have := HNB.out; omega) x hx
          rw [this]; omega
        have HKS : Hid (k + 2 ≤ n) := by have := HK1.out; show _ ≤ _; omega
        obtain ⟨d, hd⟩ : ∃ b, l[k + 1]? = some b := ⟨_, List.getElem?_eq_getElem (by rw [HNL.out, HK1.out]; exact hk1n)⟩
        have hix2 := fun W => index_text (txt l) (k + 1) (by rw [HN.out, HK1.out]; exact hk1n) (k1 : Int) (by have := HK1.out; omega) W
        rw [at8_txt, hd, Option.getD_some] at hix2
        have HD2 : Hid (l.drop k = 95 :: d :: l.drop (k + 2)) := by
          obtain ⟨h, hg⟩ := List.getElem?_eq_some_iff.1 hd
          show _ = _
          rw [HD1.out, ← hg, ← List.drop_eq_getElem_cons h]
        have HCS : Hid (untoldL (l.drop k) = greatB d :: untoldL (l.drop (k + 2))) := by show _ = _; rw [HD2.out, untold_95]
        have HGR := Lib.hid (great_any d wr)
        have HST : Hid (untoldL l = (V ++ [(greatB d)]) ++ untoldL (l.drop (k + 2))) := by show _ = _; rw [HINV.out, HCS.out, List.append_assoc]; rfl
        have HZS : Hid (numsOf (txt V) ++ [((greatB d).toNat : Int)] = numsOf (txt (V ++ [(greatB d)]))) := by show _ = _; rw [nums_cat]; rfl
        have HVN2 : Hid ((V ++ [(greatB d)]).length = v2 ∧ v2 ≤ k + 2) := by show _ ∧ _; rw [List.length_append, HVN.out]; have := HV2.out; have := HVB.out; exact ⟨HV2.out, by omega⟩
        have HLB : Hid (0 ≤ ((greatB d).toNat : Int) ∧ ((greatB d).toNat : Int) ≤ 255) := by have := ((greatB d)).toNat_lt; show _ ∧ _; omega
        clear hd hk1n hkn hk HD1 hwA hwB hw2
        generalize ((d.toNat : Nat) : Int) = di at *
        go_wp2_with fail
        refine HGR.out.mono ?_
        rintro e w2 ⟨rfl, rfl⟩
        generalize (((greatB d).toNat : Nat) : Int) = gi at *
        go_wp2_with (refine wpList_append_to rfl _ _ 42 rfl w.heap.size _ vn (numsOf (txt V)) rfl (HM.out.below ((Below.refl _ _).alloc (Nat.le_refl _) _)) _ 1 [gi] rfl (src_bytes (Bytes.lit w2 w2.heap.size rfl [gi] 5 (0, 0) 1 rfl (by omega) (by first | (simp; done) | simpa using HLB.out))) v2 _ HV2.out HZS.out HBD.out (by have := HBW.out.size; simp; omega) ?_; rintro a' c' w' hm hb; have HM2 := Lib.hid hm; have HB2 := Lib.hid (HBW.out.trans (((Below.refl _ _).alloc HBW.out.size _).trans hb)); clear hm hb)
        exact ⟨⟨k + 2, V ++ [greatB d], a', c', v2, HKS.out, HVN2.out.1, HVN2.out.2, by first | rw [WM2.out _ rfl] | rfl, by first | rfl | trivial, HST.out, HM2.out, HB2.out⟩, by have := HKS.out; (first | rw [WM2.out _ rfl] | skip); simp [intOf]; omega⟩
      · have hno : ¬ q = 95 ∨ (q = 95 ∧ ¬ k1 < n) := by
          by_cases hq5 : q = 95
          · exact .inr ⟨hq5, fun h => h95 ⟨hq5, h⟩⟩
          · exact .inl hq5
        have ht95 : (¬ ((q.toNat : Nat) : Int) = 95) ∨ (((q.toNat : Nat) : Int) = 95 ∧ ¬ (k1 : Int) < (n : Int)) := by
          rcases hno with h | ⟨h, h'⟩
          · exact .inl fun e => h (UInt8.toNat_inj.1 (by show q.toNat = 95; omega))
          · exact .inr ⟨by rw [h]; rfl, by omega⟩
        clear h95
        by_cases h126 : q = 126 ∧ k2 < n
        · obtain ⟨rfl, hk2n⟩ := h126
          have hk1i : (k1 : Int) < (n : Int) := by have := HK1.out; have := HK2.out; omega
          have hk2i : (k2 : Int) < (n : Int) := by omega
          have HKS : Hid (k + 3 ≤ n) := by have := HK2.out; show _ ≤ _; omega
          obtain ⟨d, hd⟩ : ∃ b, l[k + 1]? = some b := ⟨_, List.getElem?_eq_getElem (by rw [HNL.out]; have := HK2.out; omega)⟩
          obtain ⟨e, he⟩ : ∃ b, l[k + 2]? = some b := ⟨_, List.getElem?_eq_getElem (by rw [HNL.out]; have := HK2.out; omega)⟩
          have hix2 := fun W => index_text (txt l) (k + 1) (by rw [HN.out]; have := HK2.out; omega) (k1 : Int) (by have := HK1.out; omega) W
          have hix3 := fun W => index_text (txt l) (k + 2) (by rw [HN.out]; have := HK2.out; omega) (k2 : Int) (by have := HK2.out; omega) W
          rw [at8_txt, hd, Option.getD_some] at hix2
          rw [at8_txt, he, Option.getD_some] at hix3
          have HD2 : Hid (l.drop k = 126 :: d :: e :: l.drop (k + 3)) := by
            obtain ⟨h, hg⟩ := List.getElem?_eq_some_iff.1 hd
            obtain ⟨h', hg'⟩ := List.getElem?_eq_some_iff.1 he
            show _ = _
            rw [HD1.out, List.drop_eq_getElem_cons h, hg, List.drop_eq_getElem_cons h', hg']
          have HCS : Hid (untoldL (l.drop k) = numB d e :: untoldL (l.drop (k + 3))) := by show _ = _; rw [HD2.out, untold_126]
          have HST : Hid (untoldL l = (V ++ [(numB d e)]) ++ untoldL (l.drop (k + 3))) := by show _ = _; rw [HINV.out, HCS.out, List.append_assoc]; rfl
          have HZS : Hid (numsOf (txt V) ++ [((numB d e).toNat : Int)] = numsOf (txt (V ++ [(numB d e)]))) := by show _ = _; rw [nums_cat]; rfl
          have HVN2 : Hid ((V ++ [(numB d e)]).length = v2 ∧ v2 ≤ k + 3) := by show _ ∧ _; rw [List.length_append, HVN.out]; have := HV2.out; have := HVB.out; exact ⟨HV2.out, by omega⟩
          have HLB : Hid (0 ≤ ((numB d e).toNat : Int) ∧ ((numB d e).toNat : Int) ≤ 255) := by have := ((numB d e)).toNat_lt; show _ ∧ _; omega
          have hle1 := hexV_le d
          have hle2 := hexV_le e
          obtain ⟨x, hx⟩ : ∃ x, hexV d = x := ⟨_, rfl⟩
          obtain ⟨y, hy⟩ : ∃ y, hexV e = y := ⟨_, rfl⟩
          rw [hx] at hle1
          rw [hy] at hle2
          have hm1 := fun (ts : Array TypeId) (t : TypeId) (W : World) => run_max2 (P := Tryd.prog) ts t .i64 .i64 (nib d.toNat) 0 W
          have hm2 := fun (ts : Array TypeId) (t : TypeId) (W : World) => run_max2 (P := Tryd.prog) ts t .i64 .i64 (nib e.toNat) 0 W
          rw [hexV_nib, hx] at hm1
          rw [hexV_nib, hy] at hm2
          have hor := or_shl (x : Int) (y : Int) (by omega) (by omega)
          rw [show 16 * (x : Int) + (y : Int) = ((numB d e).toNat : Int) by rw [numB_nat, hx, hy]] at hor
          have hsh : wrap64 ((x : Int) * 16) = (x : Int) * 16 := IntWalk.wrap64_in _ (by omega)
          have hi126 : ¬ (((126 : UInt8).toNat : Nat) : Int) = 95 := by decide
          have WM2 : Hid (∀ z : Int, z = (k2 : Int) + 1 → wrap64 z = ((k + 3 : Nat) : Int)) := fun z hz => by
            have h1 := HK2.out
            have := next_int k2 (by have := HNB.out; omega) z hz
            rw [this]; omega
          clear hd he hk2n hkn hk HD1 hx hy hle1 hle2 hno ht95
          go_wp2_with fail
          refine wp_region_noPanic ?_
          refine wp_region_held_drew (S := fun _ => True) (by kernel_rfl) ?_ (fun hHeld => ?_)
          · exact True.intro
          refine wpAnyH_take (i := 0) (v := ?_) (by simp only [List.getElem?_toArray, List.getElem?_cons_zero]; rfl) (by kernel_rfl) (by kernel_rfl) (by kernel_rfl) (fun _ _ _ h => h) (Or.inl ⟨by rfl, ?_⟩) (by assumption) ?_
          rotate_left
          · intro W hSW
            go_simp
            try with_reducible rfl
          try simp only [Act.put, List.setIfInBounds_toArray, List.set_cons_zero, List.set_cons_succ]
          refine wpAnyH_take (i := 1) (v := ?_) (by simp only [List.getElem?_toArray, List.getElem?_cons_succ, List.getElem?_cons_zero]; rfl) (by kernel_rfl) (by kernel_rfl) (by kernel_rfl) (fun _ _ _ h => h) (Or.inl ⟨by rfl, ?_⟩) (by assumption) ?_
          rotate_left
          · intro W hSW
            go_simp
            try with_reducible rfl
          try simp only [Act.put, List.setIfInBounds_toArray, List.set_cons_zero, List.set_cons_succ]
          refine wpAnyH_take (i := 2) (v := ?_) (by simp only [List.getElem?_toArray, List.getElem?_cons_succ, List.getElem?_cons_zero]; rfl) (by kernel_rfl) (by kernel_rfl) (by kernel_rfl) (fun _ _ _ h => h) (Or.inl ⟨by rfl, ?_⟩) (by assumption) ?_
          rotate_left
          · intro W hSW
            go_simp
            try with_reducible rfl
          try simp only [Act.put, List.setIfInBounds_toArray, List.set_cons_zero, List.set_cons_succ]
          refine wpAnyH_take (i := 3) (v := ?_) (by simp only [List.getElem?_toArray, List.getElem?_cons_succ, List.getElem?_cons_zero]; rfl) (by kernel_rfl) (by kernel_rfl) (by kernel_rfl) (fun _ _ _ h => h) (Or.inl ⟨by rfl, ?_⟩) (by assumption) ?_
          rotate_left
          · intro W hSW
            go_simp
            try with_reducible rfl
          try simp only [Act.put, List.setIfInBounds_toArray, List.set_cons_zero, List.set_cons_succ]
          refine wpAnyH_take (i := 5) (v := ?_) (by simp only [List.getElem?_toArray, List.getElem?_cons_succ, List.getElem?_cons_zero]; rfl) (by kernel_rfl) (by kernel_rfl) (by kernel_rfl) (fun _ _ _ h => h) (Or.inl ⟨by rfl, ?_⟩) (by assumption) ?_
          rotate_left
          · intro W hSW
            go_simp
            try with_reducible rfl
          try simp only [Act.put, List.setIfInBounds_toArray, List.set_cons_zero, List.set_cons_succ]
          refine wpAnyH_take (i := 6) (v := ?_) (by simp only [List.getElem?_toArray, List.getElem?_cons_succ, List.getElem?_cons_zero]; rfl) (by kernel_rfl) (by kernel_rfl) (by kernel_rfl) (fun _ _ _ h => h) (Or.inl ⟨by rfl, ?_⟩) (by assumption) ?_
          rotate_left
          · intro W hSW
            go_simp
            try with_reducible rfl
          try simp only [Act.put, List.setIfInBounds_toArray, List.set_cons_zero, List.set_cons_succ]
          refine wpAnyH_take (i := 7) (v := ?_) (by simp only [List.getElem?_toArray, List.getElem?_cons_succ, List.getElem?_cons_zero]; rfl) (by kernel_rfl) (by kernel_rfl) (by kernel_rfl) (fun _ _ _ h => h) (Or.inl ⟨by rfl, ?_⟩) (by assumption) ?_
          rotate_left
          · intro W hSW
            go_simp
            try with_reducible rfl
          try simp only [Act.put, List.setIfInBounds_toArray, List.set_cons_zero, List.set_cons_succ]
          refine wpAnyH_take (i := 8) (v := ?_) (by simp only [List.getElem?_toArray, List.getElem?_cons_succ, List.getElem?_cons_zero]; rfl) (by kernel_rfl) (by kernel_rfl) (by kernel_rfl) (fun _ _ _ h => h) (Or.inl ⟨by rfl, ?_⟩) (by assumption) ?_
          rotate_left
          · intro W hSW
            go_simp
            try with_reducible rfl
          try simp only [Act.put, List.setIfInBounds_toArray, List.set_cons_zero, List.set_cons_succ]
          refine wpAnyH_ready (rs := [4]) (by kernel_rfl) (by simp) ?_
          refine AllReadyH.cons (by simp only [List.getElem?_toArray, List.getElem?_cons_succ, List.getElem?_cons_zero]; rfl) (fun K hK => ?_) AllReadyH.nil
          go_simp
          refine (hexI_any d _).mono ?_
          rintro e1 v1 ⟨rfl, rfl⟩
          go_wp2_with fail
          refine hK.out _ _ (True.intro) (fun hHeld2 => ?_)
          clear hK K hHeld
          have hHeld := hHeld2
          clear hHeld2
          try simp only [Act.put, List.setIfInBounds_toArray, List.set_cons_zero, List.set_cons_succ]
          refine wpAnyH_ready (rs := [9]) (by kernel_rfl) (by simp) ?_
          refine AllReadyH.cons (by simp only [List.getElem?_toArray, List.getElem?_cons_succ, List.getElem?_cons_zero]; rfl) (fun K hK => ?_) AllReadyH.nil
          go_simp
          refine (hexI_any e _).mono ?_
          rintro e2 v2 ⟨rfl, rfl⟩
          go_wp2_with fail
          refine hK.out _ _ (True.intro) (fun hHeld2 => ?_)
          clear hK K hHeld
          have hHeld := hHeld2
          clear hHeld2
          try simp only [Act.put, List.setIfInBounds_toArray, List.set_cons_zero, List.set_cons_succ]
          refine wpAnyH_take (i := 10) (v := ?_) (by simp only [List.getElem?_toArray, List.getElem?_cons_succ, List.getElem?_cons_zero]; rfl) (by kernel_rfl) (by kernel_rfl) (by kernel_rfl) (fun _ _ _ h => h) (Or.inl ⟨by rfl, ?_⟩) (by assumption) ?_
          rotate_left
          · intro W hSW
            go_simp
            try with_reducible rfl
          try simp only [Act.put, List.setIfInBounds_toArray, List.set_cons_zero, List.set_cons_succ]
          refine wpAnyH_take (i := 11) (v := ?_) (by simp only [List.getElem?_toArray, List.getElem?_cons_succ, List.getElem?_cons_zero]; rfl) (by kernel_rfl) (by kernel_rfl) (by kernel_rfl) (fun _ _ _ h => h) (Or.inl ⟨by rfl, ?_⟩) (by assumption) ?_
          rotate_left
          · intro W hSW
            go_simp
            try with_reducible rfl
          try simp only [Act.put, List.setIfInBounds_toArray, List.set_cons_zero, List.set_cons_succ]
          refine wpAnyH_done (by kernel_rfl) ?_ _
          refine NoPanic.normal ?_
          clear hHeld
          have HBW := Lib.hid HBW.out.drew
          have HM := Lib.hid (HM.out.below (Below.refl _ _).drew)
          generalize nib d.toNat = nd at *
          generalize nib e.toNat = ne at *
          generalize (((numB d e).toNat : Nat) : Int) = gi at *
          generalize wr.drew = wd at *
          go_wp2_with (refine wpList_append_to rfl _ _ 42 rfl w.heap.size _ vn (numsOf (txt V)) rfl (HM.out.below ((Below.refl _ _).alloc (Nat.le_refl _) _)) _ 1 [gi] rfl (src_bytes (Bytes.lit wd wd.heap.size rfl [gi] 5 (0, 0) 1 rfl (by omega) (by first | (simp; done) | simpa using HLB.out))) v2 _ HV2.out HZS.out HBD.out (by have := HBW.out.size; simp; omega) ?_; rintro a' c' w' hm hb; have HM2 := Lib.hid hm; have HB2 := Lib.hid (HBW.out.trans (((Below.refl _ _).alloc HBW.out.size _).trans hb)); clear hm hb)
          exact ⟨⟨k + 3, V ++ [numB d e], a', c', v2, HKS.out, HVN2.out.1, HVN2.out.2, by first | rw [WM2.out _ rfl] | rfl, by first | rfl | trivial, HST.out, HM2.out, HB2.out⟩, by have := HKS.out; (first | rw [WM2.out _ rfl] | skip); simp [intOf]; omega⟩
        · have hno2 : ¬ q = 126 ∨ (q = 126 ∧ ¬ k2 < n) := by
            by_cases hq5 : q = 126
            · exact .inr ⟨hq5, fun h => h126 ⟨hq5, h⟩⟩
            · exact .inl hq5
          have HCS : Hid (untoldL (l.drop k) = q :: untoldL (l.drop (k + 1))) := by
            show _ = _
            rw [HD1.out]
            have h1 := HK1.out
            have h2 := HK2.out
            rcases hno with hq5 | ⟨hq5, hk1n⟩
            · rcases hno2 with hq6 | ⟨hq6, hk2n⟩
              · exact untold_other q hq5 hq6 _
              · have hl2 : (l.drop (k + 1)).length ≤ 1 := by rw [List.length_drop, HNL.out]; omega
                rcases hr : l.drop (k + 1) with _ | ⟨d, _ | ⟨e, r⟩⟩
                · simp [untoldL]
                · simp [untoldL, hq5]
                · rw [hr] at hl2; simp at hl2
            · have hl2 : l.drop (k + 1) = [] := List.drop_of_length_le (by rw [HNL.out]; omega)
              rw [hl2]; simp [untoldL]
          have ht126 : (¬ ((q.toNat : Nat) : Int) = 126) ∨ (((q.toNat : Nat) : Int) = 126 ∧ ¬ (k2 : Int) < (n : Int)) := by
            rcases hno2 with h | ⟨h, h'⟩
            · exact .inl fun e => h (UInt8.toNat_inj.1 (by show q.toNat = 126; omega))
            · exact .inr ⟨by rw [h]; rfl, by omega⟩
          have HKS : Hid (k + 1 ≤ n) := HKN.out
          have WM2 : Hid (∀ x : Int, x = (k : Int) + 1 → wrap64 x = ((k + 1 : Nat) : Int)) := W1.out
          have HST : Hid (untoldL l = (V ++ [q]) ++ untoldL (l.drop (k + 1))) := by show _ = _; rw [HINV.out, HCS.out, List.append_assoc]; rfl
          have HZS : Hid (numsOf (txt V) ++ [(q.toNat : Int)] = numsOf (txt (V ++ [q]))) := by show _ = _; rw [nums_cat]; rfl
          have HVN2 : Hid ((V ++ [q]).length = v2 ∧ v2 ≤ k + 1) := by show _ ∧ _; rw [List.length_append, HVN.out]; have := HV2.out; have := HVB.out; exact ⟨HV2.out, by omega⟩
          have HLB : Hid (0 ≤ (q.toNat : Int) ∧ (q.toNat : Int) ≤ 255) := by have := (q).toNat_lt; show _ ∧ _; omega
          clear hkn hk HD1 h126 hno hno2 hwA hwB
          generalize ((q.toNat : Nat) : Int) = qi at *
          rcases ht95 with g1 | ⟨rfl, g1⟩
          · have gb : (qi == 95) = false := beq_eq_false_iff_ne.2 g1
            rcases ht126 with g2 | ⟨rfl, g2⟩
            · have gb2 : (qi == 126) = false := beq_eq_false_iff_ne.2 g2
              go_wp2_with (refine wpList_append_to rfl _ _ 42 rfl w.heap.size _ vn (numsOf (txt V)) rfl (HM.out.below ((Below.refl _ _).alloc (Nat.le_refl _) _)) _ 1 [qi] rfl (src_bytes (Bytes.lit wr wr.heap.size rfl [qi] 5 (0, 0) 1 rfl (by omega) (by first | (simp; done) | simpa using HLB.out))) v2 _ HV2.out HZS.out HBD.out (by have := HBW.out.size; simp; omega) ?_; rintro a' c' w' hm hb; have HM2 := Lib.hid hm; have HB2 := Lib.hid (HBW.out.trans (((Below.refl _ _).alloc HBW.out.size _).trans hb)); clear hm hb)
              exact ⟨⟨k + 1, V ++ [q], a', c', v2, HKS.out, HVN2.out.1, HVN2.out.2, by first | rw [WM2.out _ rfl] | rfl, by first | rfl | trivial, HST.out, HM2.out, HB2.out⟩, by have := HKS.out; (first | rw [WM2.out _ rfl] | skip); simp [intOf]; omega⟩
            · go_wp2_with (refine wpList_append_to rfl _ _ 42 rfl w.heap.size _ vn (numsOf (txt V)) rfl (HM.out.below ((Below.refl _ _).alloc (Nat.le_refl _) _)) _ 1 [126] rfl (src_bytes (Bytes.lit wr wr.heap.size rfl [126] 5 (0, 0) 1 rfl (by omega) (by first | (simp; done) | simpa using HLB.out))) v2 _ HV2.out HZS.out HBD.out (by have := HBW.out.size; simp; omega) ?_; rintro a' c' w' hm hb; have HM2 := Lib.hid hm; have HB2 := Lib.hid (HBW.out.trans (((Below.refl _ _).alloc HBW.out.size _).trans hb)); clear hm hb)
              exact ⟨⟨k + 1, V ++ [q], a', c', v2, HKS.out, HVN2.out.1, HVN2.out.2, by first | rw [WM2.out _ rfl] | rfl, by first | rfl | trivial, HST.out, HM2.out, HB2.out⟩, by have := HKS.out; (first | rw [WM2.out _ rfl] | skip); simp [intOf]; omega⟩
          · go_wp2_with (refine wpList_append_to rfl _ _ 42 rfl w.heap.size _ vn (numsOf (txt V)) rfl (HM.out.below ((Below.refl _ _).alloc (Nat.le_refl _) _)) _ 1 [95] rfl (src_bytes (Bytes.lit wr wr.heap.size rfl [95] 5 (0, 0) 1 rfl (by omega) (by first | (simp; done) | simpa using HLB.out))) v2 _ HV2.out HZS.out HBD.out (by have := HBW.out.size; simp; omega) ?_; rintro a' c' w' hm hb; have HM2 := Lib.hid hm; have HB2 := Lib.hid (HBW.out.trans (((Below.refl _ _).alloc HBW.out.size _).trans hb)); clear hm hb)
            exact ⟨⟨k + 1, V ++ [q], a', c', v2, HKS.out, HVN2.out.1, HVN2.out.2, by first | rw [WM2.out _ rfl] | rfl, by first | rfl | trivial, HST.out, HM2.out, HB2.out⟩, by have := HKS.out; (first | rw [WM2.out _ rfl] | skip); simp [intOf]; omega⟩
    · have hki : ¬ (k : Int) < (n : Int) := by omega
      have HE : Hid (V = untoldL l) := by
        have h1 := HINV.out
        rw [List.drop_of_length_le (by rw [HNL.out]; omega)] at h1
        show _ = _
        rw [h1]
        show V = V ++ []
        rw [List.append_nil]
      rw [HE.out] at HM
      have ht := text_run wr a vn cp _ (HM.out.bytes (nums_good _))
      rw [str_nums] at ht
      clear hkn hk
      go_wp2_with fail
      go_ret
      exact ⟨rfl, HBW.out⟩
end Go.Proofs.YtmjpejnpcmodgaaDoor
