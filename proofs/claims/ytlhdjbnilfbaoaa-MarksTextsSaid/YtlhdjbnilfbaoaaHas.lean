/- slices.Contains of pairs: the walks. -/
import Derived.Test.YtlhdjbnilfbaoaaEqPair
namespace Go.Proofs.Ytlhdjbnilfbaoaa
open Go.RowKit
set_option linter.unusedVariables false
set_option maxRecDepth 100000 in
set_option maxHeartbeats 8000000 in
theorem pindex_any (a : Option Addr) (c : Nat) (ps : List (List Int)) (q : List Int) (w : World) (h : PsAt w a ps) (hn : ps.length ≤ 1000000) (hq : q.length = 40) :
    Calls Try.prog 38 #[.slice a ps.length c, .agg (V8 q)] w fun e w' => e = .returned (.int .i64 (foundV (foundI (fun p => q == p) ps))) ∧ Below w.heap.size w w' := by
  have HBX : Hid (Below w.heap.size w (w.alloc (.cells (V8 q) 46))) := (Below.refl _ _).alloc (Nat.le_refl _) _
  have HQB := Lib.hid (Boxed.new w q 46)
  have HS := Lib.hid h
  have HQL := Lib.hid hq
  obtain ⟨n, hnl⟩ : ∃ n, ps.length = n := ⟨_, rfl⟩
  have HN := Lib.hid hnl
  rw [hnl] at hn ⊢
  clear h hnl hq
  go_enter Try.func38, Try.ntmps38
  go_wp2_with fail
  go_loopw [8] (fun i wr => ∃ k : Nat, k ≤ n ∧ i = .int .i64 (k : Int) ∧ (∀ p ∈ ps.take k, (q == p) = false) ∧ Below (w.heap.size + 1) (w.alloc (.cells (V8 q) 46)) wr) (fun i _ => n - (intOf i).toNat)
  case atStart => exact ⟨0, by omega, rfl, by simp, Below.refl _ _⟩
  case round =>
    obtain ⟨k, hk, rfl, hf, hb⟩ := hrel
    have HF := Lib.hid hf
    have HB := Lib.hid (HBX.out.trans (hb.mono (by omega)))
    have HQR := Lib.hid (range_below HQB.out.2 hb (by omega))
    have HBB := Lib.hid hb
    clear hf hb
    have wk := next_int k (by omega)
    by_cases hkn : k = n
    · subst hkn
      have HE : Hid (foundV (foundI (fun p => q == p) ps) = -1) := by
        have := HF.out
        rw [List.take_of_length_le (by rw [HN.out]; omega)] at this
        show _ = _
        rw [foundI_none this]; rfl
      go_wp2_with fail
      go_ret
      rw [HE.out]
      exact ⟨rfl, HB.out⟩
    · have hkl : k < n := by omega
      have hki : (k : Int) < (n : Int) := by omega
      obtain ⟨b, off, p, rfl, hp, h40, hbl, hr⟩ := HS.out.at (k := k) (by rw [HN.out]; exact hkl)
      have HR := Lib.hid (range_below hr HB.out hbl)
      have HP := Lib.hid hp
      have H40 := Lib.hid h40
      have he := fun W => eql_pair W q p HQL.out h40
      clear hr hp h40
      cases hqp : (q == p)
      · rw [hqp] at he
        have HF2 := Lib.hid (take_all_snoc HF.out HP.out hqp)
        clear hqp
        go_wp2_with fail
        refine wp_region_noPanic ?_
        refine wp_region_held_drew (S := fun W => W.rangeAt b (off + k * 40) (U8 p) ∧ W.rangeAt w.heap.size 0 (U8 q)) (by kernel_rfl) ?_ (fun hHeld => ?_)
        · exact ⟨(World.rangeAt_drew _ _ _ _).2 HR.out, (World.rangeAt_drew _ _ _ _).2 HQR.out⟩
        refine wpAnyH_take (i := 0) (by simp only [List.getElem?_toArray, List.getElem?_cons_zero]; rfl) (by kernel_rfl) (by kernel_rfl) (by kernel_rfl) (fun _ _ _ h => h) (yieldsIf_load_v8 (by rfl) 46 _ rfl w.heap.size 0 rfl q _ (fun W hSW => hSW.2) Try.underlying46 rfl (pair_infoL _ HQL.out)) (by assumption) ?_
        try simp only [Act.put, List.setIfInBounds_toArray, List.set_cons_zero, List.set_cons_succ]
        refine wpAnyH_take (i := 1) (v := ?_) (by simp only [List.getElem?_toArray, List.getElem?_cons_succ, List.getElem?_cons_zero]; rfl) (by kernel_rfl) (by kernel_rfl) (by kernel_rfl) (fun _ _ _ h => h) (Or.inl ⟨by rfl, ?_⟩) (by assumption) ?_
        rotate_left
        · intro W hSW
          go_simp
          try with_reducible rfl
        try simp only [Act.put, List.setIfInBounds_toArray, List.set_cons_zero, List.set_cons_succ]
        refine wpAnyH_take (i := 2) (v := ?_) (by simp only [List.getElem?_toArray, List.getElem?_cons_succ, List.getElem?_cons_zero]; rfl) (by kernel_rfl) (by kernel_rfl) (by kernel_rfl) (fun _ _ _ h => h) (Or.inl ⟨by rfl, ?_⟩) (by assumption) ?_
        rotate_left
        · intro W hSW
          go_simp
          try with_reducible rfl
        try simp only [Act.put, List.setIfInBounds_toArray, List.set_cons_zero, List.set_cons_succ]
        refine wpAnyH_take (i := 3) (v := ?_) (by simp only [List.getElem?_toArray, List.getElem?_cons_succ, List.getElem?_cons_zero]; rfl) (by kernel_rfl) (by kernel_rfl) (by kernel_rfl) (fun _ _ _ h => h) (Or.inl ⟨by rfl, ?_⟩) (by assumption) ?_
        rotate_left
        · intro W hSW
          go_simp
          try with_reducible rfl
        try simp only [Act.put, List.setIfInBounds_toArray, List.set_cons_zero, List.set_cons_succ]
        refine wpAnyH_take (i := 4) (by simp only [List.getElem?_toArray, List.getElem?_cons_succ, List.getElem?_cons_zero]; rfl) (by kernel_rfl) (by kernel_rfl) (by kernel_rfl) (fun _ _ _ h => h) (yieldsIf_load_v8 (by rfl) 46 _ rfl b (off + k * 40) rfl p _ (fun W hSW => hSW.1) Try.underlying46 rfl (pair_infoL _ H40.out)) (by assumption) ?_
        try simp only [Act.put, List.setIfInBounds_toArray, List.set_cons_zero, List.set_cons_succ]
        refine wpAnyH_take (i := 5) (v := ?_) (by simp only [List.getElem?_toArray, List.getElem?_cons_succ, List.getElem?_cons_zero]; rfl) (by kernel_rfl) (by kernel_rfl) (by kernel_rfl) (fun _ _ _ h => h) (Or.inl ⟨by rfl, ?_⟩) (by assumption) ?_
        rotate_left
        · intro W hSW
          go_simp
          try with_reducible rfl
        try simp only [Act.put, List.setIfInBounds_toArray, List.set_cons_zero, List.set_cons_succ]
        refine wpAnyH_done (by kernel_rfl) ?_ _
        refine NoPanic.normal ?_
        go_wp2_with fail
        exact ⟨⟨k + 1, by omega, by first | rfl | exact congrArg (Value.int .i64) (wk _ rfl), HF2.out, HBB.out.drew⟩, by simp [intOf] <;> omega⟩
      · rw [hqp] at he
        have HE : Hid (foundV (foundI (fun p => q == p) ps) = (k : Int)) := by
          show _ = _
          rw [foundI_at HF.out HP.out hqp]; rfl
        clear hqp
        go_wp2_with fail
        refine wp_region_noPanic ?_
        refine wp_region_held_drew (S := fun W => W.rangeAt b (off + k * 40) (U8 p) ∧ W.rangeAt w.heap.size 0 (U8 q)) (by kernel_rfl) ?_ (fun hHeld => ?_)
        · exact ⟨(World.rangeAt_drew _ _ _ _).2 HR.out, (World.rangeAt_drew _ _ _ _).2 HQR.out⟩
        refine wpAnyH_take (i := 0) (by simp only [List.getElem?_toArray, List.getElem?_cons_zero]; rfl) (by kernel_rfl) (by kernel_rfl) (by kernel_rfl) (fun _ _ _ h => h) (yieldsIf_load_v8 (by rfl) 46 _ rfl w.heap.size 0 rfl q _ (fun W hSW => hSW.2) Try.underlying46 rfl (pair_infoL _ HQL.out)) (by assumption) ?_
        try simp only [Act.put, List.setIfInBounds_toArray, List.set_cons_zero, List.set_cons_succ]
        refine wpAnyH_take (i := 1) (v := ?_) (by simp only [List.getElem?_toArray, List.getElem?_cons_succ, List.getElem?_cons_zero]; rfl) (by kernel_rfl) (by kernel_rfl) (by kernel_rfl) (fun _ _ _ h => h) (Or.inl ⟨by rfl, ?_⟩) (by assumption) ?_
        rotate_left
        · intro W hSW
          go_simp
          try with_reducible rfl
        try simp only [Act.put, List.setIfInBounds_toArray, List.set_cons_zero, List.set_cons_succ]
        refine wpAnyH_take (i := 2) (v := ?_) (by simp only [List.getElem?_toArray, List.getElem?_cons_succ, List.getElem?_cons_zero]; rfl) (by kernel_rfl) (by kernel_rfl) (by kernel_rfl) (fun _ _ _ h => h) (Or.inl ⟨by rfl, ?_⟩) (by assumption) ?_
        rotate_left
        · intro W hSW
          go_simp
          try with_reducible rfl
        try simp only [Act.put, List.setIfInBounds_toArray, List.set_cons_zero, List.set_cons_succ]
        refine wpAnyH_take (i := 3) (v := ?_) (by simp only [List.getElem?_toArray, List.getElem?_cons_succ, List.getElem?_cons_zero]; rfl) (by kernel_rfl) (by kernel_rfl) (by kernel_rfl) (fun _ _ _ h => h) (Or.inl ⟨by rfl, ?_⟩) (by assumption) ?_
        rotate_left
        · intro W hSW
          go_simp
          try with_reducible rfl
        try simp only [Act.put, List.setIfInBounds_toArray, List.set_cons_zero, List.set_cons_succ]
        refine wpAnyH_take (i := 4) (by simp only [List.getElem?_toArray, List.getElem?_cons_succ, List.getElem?_cons_zero]; rfl) (by kernel_rfl) (by kernel_rfl) (by kernel_rfl) (fun _ _ _ h => h) (yieldsIf_load_v8 (by rfl) 46 _ rfl b (off + k * 40) rfl p _ (fun W hSW => hSW.1) Try.underlying46 rfl (pair_infoL _ H40.out)) (by assumption) ?_
        try simp only [Act.put, List.setIfInBounds_toArray, List.set_cons_zero, List.set_cons_succ]
        refine wpAnyH_take (i := 5) (v := ?_) (by simp only [List.getElem?_toArray, List.getElem?_cons_succ, List.getElem?_cons_zero]; rfl) (by kernel_rfl) (by kernel_rfl) (by kernel_rfl) (fun _ _ _ h => h) (Or.inl ⟨by rfl, ?_⟩) (by assumption) ?_
        rotate_left
        · intro W hSW
          go_simp
          try with_reducible rfl
        try simp only [Act.put, List.setIfInBounds_toArray, List.set_cons_zero, List.set_cons_succ]
        refine wpAnyH_done (by kernel_rfl) ?_ _
        refine NoPanic.normal ?_
        go_wp2_with fail
        go_ret
        rw [HE.out]
        exact ⟨rfl, HB.out.drew⟩
theorem contains_found (q : List Int) (ps : List (List Int)) : ((foundV (foundI (fun p => q == p) ps)) ≥ 0 ↔ q ∈ ps) := by
  cases hf : foundI (fun p => q == p) ps with
  | none =>
    have := foundI_no hf
    constructor
    · intro h; exact absurd h (by decide)
    · intro h; have := this q h; simp at this
  | some k =>
    obtain ⟨p, h1, h2, -⟩ := foundI_some hf
    constructor
    · intro _
      have : q = p := by simpa using h2
      rw [this]; exact List.mem_of_getElem? h1
    · intro _; show (0 : Int) ≤ (k : Int); omega
set_option maxRecDepth 100000 in
set_option maxHeartbeats 4000000 in
theorem contains_any (a : Option Addr) (c : Nat) (ps : List (List Int)) (q : List Int) (w : World) (h : PsAt w a ps) (hn : ps.length ≤ 1000000) (hq : q.length = 40) :
    Calls Try.prog 29 #[.slice a ps.length c, .agg (V8 q)] w fun e w' => e = .returned (.bool (decide (q ∈ ps))) ∧ Below w.heap.size w w' := by
  have HB0 : Hid (Below w.heap.size w (w.alloc (.cells (V8 q) 46))) := (Below.refl _ _).alloc (Nat.le_refl _) _
  have HR : Hid ((w.alloc (.cells (V8 q) 46)).rangeAt w.heap.size 0 (U8 q)) := box_range w q _
  have HS := Lib.hid h
  have HN := Lib.hid hn
  have HQ := Lib.hid hq
  have HC := Lib.hid (contains_found q ps)
  clear h hn hq
  go_enter Try.func29, Try.ntmps29
  go_wp2_with (refine wpList_load_v8_g rfl 46 _ rfl w.heap.size 0 rfl q _ HR.out Try.underlying46 rfl (pair_infoL _ HQ.out) ?_)
  refine (pindex_any a c ps q _ (HS.out.below HB0.out) HN.out HQ.out).mono ?_
  rintro e w1 ⟨rfl, hb⟩
  have HB1 := Lib.hid (HB0.out.trans (hb.mono HB0.out.size))
  obtain ⟨v, hv⟩ : ∃ v, foundV (foundI (fun p => q == p) ps) = v := ⟨_, rfl⟩
  rw [hv] at HC
  rw [hv]
  clear hb hv
  go_wp2_with fail
  go_ret
  refine ⟨?_, HB1.out⟩
  show Ending.returned (.bool (decide ((0 : Int) ≤ v))) = _
  have e : decide ((0 : Int) ≤ v) = decide (q ∈ ps) := decide_eq_decide.2 HC.out
  rw [e]
end Go.Proofs.Ytlhdjbnilfbaoaa
