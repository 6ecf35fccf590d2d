/- change.printExtras: the walk. -/
import Derived.Test.YthokcdjmhhlcdaaGreatDoorChValue
import Derived.Laws.MakeOwn
import Derived.Laws.OwnMore
namespace Go.Proofs.YthokcdjmhhlcdaaGreatDoor
open Go.RowKit Go.Shelf Plain
set_option linter.unusedVariables false
set_option linter.unusedSimpArgs false
theorem guard_add (x y : Operand) (s t : ByteArray) (W : World) : (eqGuard .add 9 x y (.string s) (.string t)).run Tryz.prog W = .ok () W := by simp [eqGuard]
theorem add_op (a b : ByteArray) (h : a.size + b.size ≤ 1000000000) (W : World) : (binOp .add 9 (.string a) (.string b)).run Tryz.prog W = .ok (.string (a ++ b)) W := by
  have := add_str a b h W
  simpa [binOp, run_underlying Tryz.underlying9] using this
theorem make_ss (k : Nat) (hk : k ≤ 1000000) (w : World) : (Instr.makeSlice 24 (.int .i64 (k : Int)) (.int .i64 (k : Int))).run Tryz.prog w = .ok (.slice (some ⟨w.heap.size, 0, none⟩) k k) (w.alloc (.cells (Lib.cellsOf [] k) 9)) := by
  obtain ⟨-, i, z, hi, hz0, hz1, hz2, hz3⟩ := elem_str
  have hzz : z = .string ByteArray.empty := by
    have h : (Tryz.prog.info? 9).map (fun i => i.zero) = some (some (.string ByteArray.empty)) := by kernel_rfl
    rw [hi] at h
    simp only [Option.map_some, Option.some.injEq] at h
    rw [hz0] at h
    exact Option.some.inj h
  subst hzz
  rw [run_make (P := Tryz.prog) w 24 9 i (.string ByteArray.empty) Tryz.underlying24 hi hz0 .i64 .i64 k k (by omega) (Int.le_refl _) (by rw [hz2]; omega) (by omega), hz1]
  have e : madeCells (Value.string ByteArray.empty).cells ((k : Int).toNat * 1) = Lib.cellsOf [] k := by
    rw [Lib.cellsOf_nil, Int.toNat_natCast, Nat.mul_one]
    rfl
  rw [e]
  rfl
theorem cell_setCell_ne (w : World) (g k b o : Nat) (v : Value) (h : b ≠ g) : (w.setCell ⟨g, k, none⟩ v).cell? ⟨b, o, none⟩ = w.cell? ⟨b, o, none⟩ := by
  unfold World.cell?
  rw [heap_setCell_ne w ⟨g, k, none⟩ v b h]
theorem join_len (c : UInt8) (B : Nat) : ∀ ws : List (List UInt8), (∀ v ∈ ws, v.length ≤ B) → (Lib.join ws [c]).length ≤ ws.length * (B + 1)
  | [], _ => by rw [Lib.join_nil]; simp
  | [w], h => by
    rw [Lib.join_one]
    have := h w (by simp)
    simp; omega
  | w :: v :: ws, h => by
    have ih := join_len c B (v :: ws) (fun x hx => h x (List.mem_cons_of_mem _ hx))
    have := h w (by simp)
    rw [join_cons2, List.length_append, List.length_cons, List.length_cons, Nat.succ_mul]
    omega
def wordB (x : ByteArray × ByteArray) : ByteArray := txt (extL x)
def wordsB (xs : List (ByteArray × ByteArray)) : List ByteArray := xs.map wordB
theorem words_lists (xs : List (ByteArray × ByteArray)) : (wordsB xs).map (·.data.toList) = xs.map extL := by
  unfold wordsB wordB
  rw [List.map_map]
  apply List.map_congr_left
  intro x hx
  exact txt_list _
theorem extL_len (x : ByteArray × ByteArray) (h : x.1.size ≤ 100000 ∧ x.2.size ≤ 100000) : (extL x).length ≤ 300001 := by
  unfold extL
  have := valueL_len x.2.data.toList
  rw [List.length_append, List.length_cons]
  rw [Lib.size_eq, Lib.size_eq] at h
  omega
theorem exsL_len (xs : List (ByteArray × ByteArray)) (h : ∀ x ∈ xs, x.1.size ≤ 100000 ∧ x.2.size ≤ 100000) : (exsL xs).length ≤ xs.length * 300002 := by
  unfold exsL
  have := join_len 0 300001 (xs.map extL) (fun v hv => by
    obtain ⟨x, hx, rfl⟩ := List.mem_map.1 hv
    exact extL_len x (h x hx))
  rwa [List.length_map] at this
set_option maxRecDepth 100000 in
set_option maxHeartbeats 16000000 in
theorem printexts_any (a : Option Addr) (cc : Nat) (xs : List (ByteArray × ByteArray)) (w : World) (h : RowAt 2 extE w a xs) (hn : xs.length ≤ 100000) (hs : ∀ x ∈ xs, x.1.size ≤ 100000 ∧ x.2.size ≤ 100000) :
    Calls Tryz.prog 16 #[.slice a xs.length cc] w fun e w' => e = .returned (.string (txt (exsL xs))) ∧ Below w.heap.size w w' := by
  have HSM := Lib.hid hs
  have HA := Lib.hid h
  obtain ⟨n, hN⟩ : ∃ n, xs.length = n := ⟨_, rfl⟩
  have HN := Lib.hid hN
  have HNB : Hid (n ≤ 100000) := by rw [← hN]; exact hn
  rw [hN]
  have hmk := fun W => make_ss n (by omega) W
  have HB0 : Hid (Below w.heap.size w (w.alloc (.cells (Lib.cellsOf [] n) 9))) := (Below.refl _ _).alloc (Nat.le_refl _) _
  have HG0 : Hid ((w.alloc (.cells (Lib.cellsOf [] n) 9)).heap[w.heap.size]? = some (.cells (Lib.cellsOf (wordsB (xs.take 0)) n) 9 (0, 0))) := heap_alloc_new _ _
  clear h hn hs hN
  go_enter Tryz.func16, Tryz.ntmps16
  go_wp2_with fail
  clear hmk
  generalize w.alloc (.cells (Lib.cellsOf [] n) 9) = w0 at *
  obtain ⟨g, hg⟩ : ∃ g, w.heap.size = g := ⟨_, rfl⟩
  have HGB : Hid (w.heap.size ≤ g) := by show _ ≤ _; omega
  rw [hg] at HG0
  simp only [hg]
  have HGE := Lib.hid hg
  clear hg
  go_loopw [11] (fun i wr => ∃ k : Nat, k ≤ n ∧ i = .int .i64 (k : Int) ∧ wr.heap[g]? = some (.cells (Lib.cellsOf (wordsB (xs.take k)) n) 9 (0, 0)) ∧ Below w.heap.size w wr) (fun i _ => n - (intOf i).toNat)
  case atStart => exact ⟨0, Nat.zero_le _, rfl, HG0.out, HB0.out⟩
  case round =>
    obtain ⟨k, hk, rfl, hgr, hb⟩ := hrel
    have HGR := Lib.hid hgr
    have HBW := Lib.hid hb
    have WK := Lib.hid (next_int k (by have := HNB.out; omega))
    clear hgr hb HG0 HB0
    by_cases hkn : k < n
    · have hki : (k : Int) < (n : Int) := by omega
      have HKN := Lib.hid hkn
      rcases HA.out with h0 | ⟨b, off, rfl, hbl, hc⟩
      · rw [HN.out] at h0; omega
      obtain ⟨x, hp⟩ : ∃ x, xs[k]? = some x := ⟨_, List.getElem?_eq_getElem (by rw [HN.out]; exact hkn)⟩
      have HP := Lib.hid hp
      have HXS := Lib.hid (HSM.out x (List.mem_of_getElem? hp))
      have HRX := Lib.hid (range_below (hc k x hp) HBW.out hbl)
      have hze := zero_ext
      have HZX : Hid ((wr.alloc (.cells zextA 48)).heap[wr.heap.size]? = some (.cells zextA 48 (0, 0))) := heap_alloc_new _ _
      have HXA : Hid (((wr.alloc (.cells zextA 48)).setRow wr.heap.size (extE x).toArray).heap[wr.heap.size]? = some (.cells (extE x).toArray 48 (0, 0))) := setRow_heap _ _ _ _ _ _ HZX.out
      have HBS : Hid (Below wr.heap.size wr ((wr.alloc (.cells zextA 48)).setRow wr.heap.size (extE x).toArray)) := below_setRow ((Below.refl _ _).alloc (Nat.le_refl _) _) (Nat.le_refl _) _
      have HLR := Lib.hid (Array.getElem?_eq_some_iff.1 HGR.out).1
      have HG3 := Lib.hid ((HBS.out.block g HLR.out).trans HGR.out)
      have HLEN : Hid ((wordsB (xs.take k)).length = k) := by show _ = _; unfold wordsB; rw [List.length_map, List.length_take, HN.out]; omega
      have HNX : Hid ((Lib.cellsOf (wordsB (xs.take k)) n)[k]? = some (.string ByteArray.empty)) := by
        have := Lib.cellsOf_next (done := wordsB (xs.take k)) (N := n) (by rw [HLEN.out]; exact hkn)
        rwa [HLEN.out] at this
      have HA1 : Hid (∀ W, (binOp .add 9 (.string x.1) (.string ⟨#[58]⟩)).run Tryz.prog W = .ok (.string (x.1 ++ ⟨#[58]⟩)) W) := fun W => add_op _ _ (by have := HXS.out.1; show _ + 1 ≤ _; omega) W
      obtain ⟨KC, hKC⟩ : ∃ s, x.1 ++ (⟨#[58]⟩ : ByteArray) = s := ⟨_, rfl⟩
      rw [hKC] at HA1
      have hKV : KC ++ txt (valueL x.2.data.toList) = wordB x := by
        rw [← hKC]
        apply bytes_ext
        unfold wordB
        rw [txt_list, ByteArray.data_append, Array.toList_append, ByteArray.data_append, Array.toList_append, txt_list]
        unfold extL
        rw [List.append_assoc]; rfl
      have HA2 : Hid (∀ W, (binOp .add 9 (.string KC) (.string (txt (valueL x.2.data.toList)))).run Tryz.prog W = .ok (.string (wordB x)) W) := fun W => by
        rw [← hKV]
        exact add_op _ _ (by
          have h1 := HXS.out
          have h2 := valueL_len x.2.data.toList
          have h3 := Lib.size_eq x.2
          rw [← hKC, ByteArray.size_append, txt_size]
          show x.1.size + 1 + _ ≤ _
          omega) W
      obtain ⟨KV, hKVV⟩ : ∃ s, wordB x = s := ⟨_, rfl⟩
      rw [hKVV] at HA2
      have HST : Hid ((Lib.cellsOf (wordsB (xs.take k)) n).setIfInBounds k (.string KV) = Lib.cellsOf (wordsB (xs.take (k + 1))) n) := by
        have h1 := Lib.cellsOf_set (done := wordsB (xs.take k)) (N := n) (by rw [HLEN.out]; exact hkn) KV
        rw [HLEN.out] at h1
        show _ = _
        rw [h1, ← hKVV]
        unfold wordsB
        rw [List.take_add_one, hp, List.map_append]
        rfl
      have HNE : Hid (wr.heap.size ≠ g) := by have := HLR.out; show _ ≠ _; omega
      clear hp hbl hc hkn hk hKC hKV hKVV
      unfold zextA at hze
      go_wp2_with (first
        | refine wpList_load_mid rfl 48 _ rfl b (off + k * 2) rfl (extE x) _ HRX.out Tryz.underlying48 rfl (info_ext x) ?_
        | refine wpList_store_row rfl 48 _ _ rfl wr.heap.size (extE x).toArray rfl rfl 48 zextA HZX.out (info_extA x) rfl (extA_one x) ?_)
      have hw3 : (wr.alloc (.cells #[.string ⟨#[]⟩, .string ⟨#[]⟩] 48)).setRow wr.heap.size (extE x).toArray = (wr.alloc (.cells zextA 48)).setRow wr.heap.size (extE x).toArray := rfl
      try rw [hw3]
      clear hw3 HZX hze HRX
      have HBW3 := Lib.hid (HBW.out.trans (HBS.out.mono HBW.out.size))
      obtain ⟨bx, hbx⟩ : ∃ b, wr.heap.size = b := ⟨_, rfl⟩
      rw [hbx] at HXA HNE ⊢
      simp only [hbx] at HBW3 HG3
      clear HBS
      generalize (wr.alloc (.cells zextA 48)).setRow bx (extE x).toArray = w3 at *
      have HLX : Hid (bx < w3.heap.size) := (Array.getElem?_eq_some_iff.1 HXA.out).1
      have HLG : Hid (g < w3.heap.size) := (Array.getElem?_eq_some_iff.1 HG3.out).1
      have HX0 : Hid (w3.cell? ⟨bx, 0, none⟩ = some (.string x.1)) := by show _ = _; rw [cell_of_row _ _ _ _ _ _ HXA.out]; rfl
      have HX1 : Hid (w3.cell? ⟨bx, 1, none⟩ = some (.string x.2)) := by show _ = _; rw [cell_of_row _ _ _ _ _ _ HXA.out]; rfl
      clear hbx
      refine wp_region_noPanic ?_
      refine wp_region_held_drew (S := fun W => W.cell? ⟨bx, 0, none⟩ = some (.string x.1) ∧ W.cell? ⟨bx, 1, none⟩ = some (.string x.2)) (by kernel_rfl) ?_ (fun hHeld => ?_)
      · exact ⟨HX0.out, HX1.out⟩
      refine wpAnyH_take (i := 0) (v := ?_) (by simp only [List.getElem?_toArray, List.getElem?_cons_zero]; rfl) (by kernel_rfl) (by kernel_rfl) (by kernel_rfl) (fun _ _ _ h => h) (Or.inl ⟨by rfl, ?_⟩) (by assumption) ?_
      rotate_left
      · intro W hSW
        go_simp
        try with_reducible rfl
      try simp only [Act.put, List.setIfInBounds_toArray, List.set_cons_zero, List.set_cons_succ]
      refine wpAnyH_take (i := 1) (v := ?_) (by simp only [List.getElem?_toArray, List.getElem?_cons_succ, List.getElem?_cons_zero]; rfl) (by kernel_rfl) (by kernel_rfl) (by kernel_rfl) (fun _ _ _ h => h) (Or.inl ⟨by rfl, ?_⟩) (by assumption) ?_
      rotate_left
      · intro W hSW
        go_simp
        try with_reducible rfl
      try simp only [Act.put, List.setIfInBounds_toArray, List.set_cons_zero, List.set_cons_succ]
      refine wpAnyH_take (i := 2) (v := ?_) (by simp only [List.getElem?_toArray, List.getElem?_cons_succ, List.getElem?_cons_zero]; rfl) (by kernel_rfl) (by kernel_rfl) (by kernel_rfl) (fun _ _ _ h => h) (Or.inl ⟨by rfl, ?_⟩) (by assumption) ?_
      rotate_left
      · intro W hSW
        go_simp
        try with_reducible rfl
      try simp only [Act.put, List.setIfInBounds_toArray, List.set_cons_zero, List.set_cons_succ]
      refine wpAnyH_take (i := 3) (by simp only [List.getElem?_toArray, List.getElem?_cons_succ, List.getElem?_cons_zero]; rfl) (by kernel_rfl) (by kernel_rfl) (by kernel_rfl) (fun _ _ _ h => h) (yieldsIf_load_str (by rfl) 9 _ rfl bx 0 rfl x.1 (fun W hSW => hSW.1) Tryz.underlying9) (by assumption) ?_
      try simp only [Act.put, List.setIfInBounds_toArray, List.set_cons_zero, List.set_cons_succ]
      refine wpAnyH_take (i := 4) (by simp only [List.getElem?_toArray, List.getElem?_cons_succ, List.getElem?_cons_zero]; rfl) (by kernel_rfl) (by kernel_rfl) (by kernel_rfl) (fun _ _ _ h => h) (yieldsIf_eql (by rfl) .add 9 _ _ _ rfl (.string x.1) (.string ⟨#[58]⟩) rfl rfl (.string KC) (guard_add _ _ _ _) (fun W => HA1.out W)) (by assumption) ?_
      try simp only [Act.put, List.setIfInBounds_toArray, List.set_cons_zero, List.set_cons_succ]
      refine wpAnyH_take (i := 5) (v := ?_) (by simp only [List.getElem?_toArray, List.getElem?_cons_succ, List.getElem?_cons_zero]; rfl) (by kernel_rfl) (by kernel_rfl) (by kernel_rfl) (fun _ _ _ h => h) (Or.inl ⟨by rfl, ?_⟩) (by assumption) ?_
      rotate_left
      · intro W hSW
        go_simp
        try with_reducible rfl
      try simp only [Act.put, List.setIfInBounds_toArray, List.set_cons_zero, List.set_cons_succ]
      refine wpAnyH_take (i := 6) (by simp only [List.getElem?_toArray, List.getElem?_cons_succ, List.getElem?_cons_zero]; rfl) (by kernel_rfl) (by kernel_rfl) (by kernel_rfl) (fun _ _ _ h => h) (yieldsIf_load_str (by rfl) 9 _ rfl bx 1 rfl x.2 (fun W hSW => hSW.2) Tryz.underlying9) (by assumption) ?_
      try simp only [Act.put, List.setIfInBounds_toArray, List.set_cons_zero, List.set_cons_succ]
      refine wpAnyH_ready (rs := [7]) (by kernel_rfl) (by simp) ?_
      refine AllReadyH.cons (by simp only [List.getElem?_toArray, List.getElem?_cons_succ, List.getElem?_cons_zero]; rfl) (fun K hK => ?_) AllReadyH.nil
      go_simp
      refine (printval_any x.2 _ HXS.out.2).mono ?_
      rintro e v1 ⟨rfl, hb⟩
      have hb1 : Below w3.heap.size w3 v1 := (Below.refl _ _).drew.trans hb
      have HB1 := Lib.hid hb1
      have HV0 := Lib.hid ((hb1.cell (p := ⟨bx, 0, none⟩) HLX.out).trans HX0.out)
      have HV1 := Lib.hid ((hb1.cell (p := ⟨bx, 1, none⟩) HLX.out).trans HX1.out)
      have HG1 := Lib.hid ((hb1.block g HLG.out).trans HG3.out)
      clear hb hb1
      go_wp2_with fail
      refine hK.out _ _ (⟨HV0.out, HV1.out⟩) (fun hHeld2 => ?_)
      clear hK K hHeld
      have hHeld := hHeld2
      clear hHeld2
      try simp only [Act.put, List.setIfInBounds_toArray, List.set_cons_zero, List.set_cons_succ]
      refine wpAnyH_take (i := 8) (by simp only [List.getElem?_toArray, List.getElem?_cons_succ, List.getElem?_cons_zero]; rfl) (by kernel_rfl) (by kernel_rfl) (by kernel_rfl) (fun _ _ _ h => h) (yieldsIf_eql (by rfl) .add 9 _ _ _ rfl (.string KC) (.string (txt (valueL x.2.data.toList))) rfl rfl (.string KV) (guard_add _ _ _ _) (fun W => HA2.out W)) (by assumption) ?_
      try simp only [Act.put, List.setIfInBounds_toArray, List.set_cons_zero, List.set_cons_succ]
      refine wpAnyH_take (i := 9) (v := ?_) (by simp only [List.getElem?_toArray, List.getElem?_cons_succ, List.getElem?_cons_zero]; rfl) (by kernel_rfl) (by kernel_rfl) (by kernel_rfl) (fun _ _ _ h => h) (Or.inl ⟨by rfl, ?_⟩) (by assumption) ?_
      rotate_left
      · intro W hSW
        go_simp
        try with_reducible rfl
      try simp only [Act.put, List.setIfInBounds_toArray, List.set_cons_zero, List.set_cons_succ]
      have hco := cell_of_row _ _ k _ _ _ HG1.out
      rw [HNX.out] at hco
      have hfo := frozen_of_row v1 g k _ 9 HG1.out
      have HGS : Hid ((v1.setCell ⟨g, k, none⟩ (.string KV)).heap[g]? = some (.cells (Lib.cellsOf (wordsB (xs.take (k + 1))) n) 9 (0, 0))) := by show _ = _; rw [heap_setCell_same v1 g k _ _ _ HG1.out, HST.out]
      have HBS : Hid (Below w.heap.size w (v1.setCell ⟨g, k, none⟩ (.string KV))) := (HBW3.out.trans (HB1.out.mono HBW3.out.size)).setCell HGB.out _
      have HS0 : Hid ((v1.setCell ⟨g, k, none⟩ (.string KV)).cell? ⟨bx, 0, none⟩ = some (.string x.1)) := (cell_setCell_ne v1 g k bx 0 _ HNE.out).trans HV0.out
      have HS1 : Hid ((v1.setCell ⟨g, k, none⟩ (.string KV)).cell? ⟨bx, 1, none⟩ = some (.string x.2)) := (cell_setCell_ne v1 g k bx 1 _ HNE.out).trans HV1.out
      refine wpAnyH_ready (rs := [10]) (by kernel_rfl) (by simp) ?_
      refine AllReadyH.cons (by simp only [List.getElem?_toArray, List.getElem?_cons_succ, List.getElem?_cons_zero]; rfl) (fun K hK => ?_) AllReadyH.nil
      go_simp
      refine hK.out _ _ (⟨HS0.out, HS1.out⟩) (fun hHeld2 => ?_)
      clear hK K hHeld
      have hHeld := hHeld2
      clear hHeld2
      try simp only [Act.put, List.setIfInBounds_toArray, List.set_cons_zero, List.set_cons_succ]
      refine wpAnyH_done (by kernel_rfl) ?_ _
      refine NoPanic.normal ?_
      clear hHeld hco hfo
      go_wp2_with fail
      exact ⟨⟨k + 1, HKN.out, by first | rw [WK.out _ rfl] | rfl, HGS.out, HBS.out⟩, by have := HKN.out; (first | rw [WK.out _ rfl] | skip); simp [intOf]; omega⟩
    · have hki : ¬ (k : Int) < (n : Int) := by omega
      have hkn' : k = n := by omega
      have HGN : Hid (wr.heap[g]? = some (.cells (wordsB xs |>.map Value.string).toArray 9 (0, 0))) := by
        have := HGR.out
        rw [hkn', List.take_of_length_le (by rw [HN.out]; omega)] at this
        have e : Lib.cellsOf (wordsB xs) n = ((wordsB xs).map Value.string).toArray := by
          have h1 : (wordsB xs).length = n := by unfold wordsB; rw [List.length_map, HN.out]
          rw [← h1, Lib.cellsOf_full]
        rw [e] at this
        exact this
      have HJ := Tryz.strings_Join g 0 n (wordsB xs) ⟨#[0]⟩ wr (fun j x hx => by
        rw [cell_of_row _ _ _ _ _ _ HGN.out, Nat.zero_add, List.getElem?_toArray, List.getElem?_map, hx]; rfl) (Array.getElem?_eq_some_iff.1 HGN.out).1 (by unfold wordsB; rw [List.length_map, HN.out]; have := HNB.out; omega) (by unfold wordsB; rw [List.length_map, HN.out]; exact Nat.le_refl _) (by
          rw [words_lists]
          have h1 := exsL_len xs HSM.out
          have h2 := HNB.out
          rw [HN.out] at h1
          show (exsL xs).length ≤ _
          omega)
      rw [words_lists, show (wordsB xs).length = n by unfold wordsB; rw [List.length_map, HN.out]] at HJ
      have HJ := Lib.hid HJ
      clear hkn hk hkn'
      go_wp2_with fail
      refine HJ.out.mono ?_
      rintro e w5 ⟨rfl, hb⟩
      have HB5 := Lib.hid (HBW.out.trans (hb.mono HBW.out.size))
      clear hb
      go_wp2_with fail
      go_ret
      exact ⟨rfl, HB5.out⟩
end Go.Proofs.YthokcdjmhhlcdaaGreatDoor
