/- copies.Print, where a copy is told: the walk. -/
import Derived.Test.YtmkhnlfhbiabcaaDoorPrint
namespace Go.Proofs.YtmkhnlfhbiabcaaDoor
open Go.RowKit Plain Go.ChangeShapes Go.WideShapes Go.ChangeAt
set_option linter.unusedVariables false
theorem add_small (a b : ByteArray) (h : a.size + b.size ≤ 100000) (W : World) : (Op.stringOp .add a b).run Tryd.prog W = .ok (.string (a ++ b)) W := run_string_add_sum W a b (by omega)
theorem right_len {s : ByteArray} (h : rightL s.data.toList = true) : s.size ≤ 255 := by
  unfold rightL at h
  rw [Lib.size_eq]
  simp only [Bool.and_eq_true, decide_eq_true_eq] at h
  first | exact h.1 | exact h.1.1 | exact h.2 | exact h.1.2 | exact h.1.1.1 | exact h.1.1.2
theorem hexB_size (id : List Int) (h : id.length = 20) : (⟨(hexOf id).toArray⟩ : ByteArray).size = 40 := by
  show (hexOf id).toArray.size = 40
  rw [List.size_toArray, hexOf_length, h]
theorem toldB_size (p : ByteArray) (id : List Int) (h : id.length = 20) : (toldB p id).size = p.size + 61 := by
  unfold toldB
  simp only [ByteArray.size_append, hexB_size id h]
  show 8 + p.size + 1 + 9 + 40 + 1 + 2 = _
  omega
set_option maxRecDepth 100000 in
set_option maxHeartbeats 16000000 in
theorem print_some (a : Option Addr) (n c : Nat) (xs : List Int) (p : ByteArray) (id : List Int) (w : World) (hE : Env w) (R : RowB w a n c xs) (hn : n ≤ 10000000) (h20 : id.length = 20) (hb : ∀ x ∈ id, 0 ≤ x ∧ x ≤ 255) (hnf : noFrom p id = false) :
    Calls Tryd.prog 9 #[.slice a n c, .agg (fromA p id)] w fun e w' => PrintOut w.heap.size w' e (printL xs p id) ∧ Below w.heap.size w w' := by
  have hq := fun W => eql_from W p ⟨#[]⟩ id zeros20 h20 rfl
  rw [show (p.toList == (⟨#[]⟩ : ByteArray).toList && id == zeros20) = false from hnf] at hq
  have HQ := Lib.hid hq
  clear hq
  have HSZ : Hid ((Tryd.prog.info? 28).map (·.size) = some (fromA p id).size) := from_info p id h20
  have HPR : Hid (printL xs p id = if rightL p.data.toList then some (numsOf (toldB p id) ++ xs) else none) := by
    show _ = _
    unfold printL; rw [hnf]; rfl
  have HROW : Hid ((w.alloc (.cells (fromA p id) 28)).heap[w.heap.size]? = some (.cells (fromA p id) 28 (0, 0))) := heap_alloc_new _ _
  have HB1 : Hid (Below w.heap.size w (w.alloc (.cells (fromA p id) 28))) := (Below.refl _ _).alloc (Nat.le_refl _) _
  have HS1 : Hid (w.heap.size + 1 = (w.alloc (.cells (fromA p id) 28)).heap.size) := by show _ = _; simp
  have HR := Lib.hid R
  have HN := Lib.hid hn
  have HE := Lib.hid hE
  have H20 := Lib.hid h20
  have hz : (fromA p id)[0]? = some (.string p) := by simp [fromA]
  have HHEX := Lib.hid (fun W => hex_any id W h20 hb)
  have HIL : Hid ((Tryd.prog.info? 26).map (·.size) = some (id.map (Value.int .u8)).length) := by
    show _ = _
    rw [List.length_map, h20]; kernel_rfl
  have hHS := hexB_size id h20
  clear hnf R hn h20 hE hb
  go_enter Tryd.func9, Tryd.ntmps9
  go_wp2_with (first
    | refine wpList_load_row rfl 28 _ rfl w.heap.size rfl 28 (fromA p id) (0, 0) _ HROW.out Tryd.underlying28 rfl HSZ.out ?_
    | refine wpList_build_0 rfl 28 rfl (.agg (fromA ⟨#[]⟩ zeros20)) build_none ?_
    | refine wpList_eql rfl .eql 28 _ _ _ rfl (.agg (fromA p id)) (.agg (fromA ⟨#[]⟩ zeros20)) rfl rfl (.bool false) (guard_from _ _ _ _) HQ.out ?_)
  generalize w.alloc (.cells (fromA p id) 28) = w1 at *
  refine (right_any p w1 (HE.out.below HB1.out)).mono ?_
  rintro e w2 ⟨rfl, hb⟩
  have HB2 : Hid (Below w.heap.size w w2) := HB1.out.trans (hb.mono HB1.out.size)
  have HROW2 : Hid (w2.heap[w.heap.size]? = some (.cells (fromA p id) 28 (0, 0))) := by
    show _ = _
    rw [hb.block _ (by rw [← HS1.out]; omega)]
    exact HROW.out
  clear hb HB1 HROW HQ HSZ hz
  cases hrt : rightL p.data.toList
  · rw [hrt, if_neg (by decide)] at HPR
    clear hrt hHS
    go_wp2_with fail
    go_ret2
    rw [HPR.out]
    exact ⟨rfl, HB2.out⟩
  · rw [hrt, if_pos rfl] at HPR
    have h255 := right_len hrt
    have hts := toldB_size p id H20.out
    have HCELL : Hid (∀ W, Below w2.heap.size w2 W → W.cell? ⟨w.heap.size, 0, none⟩ = some (.string p)) := fun W hW => by
      have h := hW.block w.heap.size (by have := (Array.getElem?_eq_some_iff.1 HROW2.out).1; exact this)
      exact from_cell (h.trans HROW2.out)
    have HRNG : Hid (∀ W, Below w2.heap.size w2 W → W.rangeAt w.heap.size 1 (id.map (Value.int .u8))) := fun W hW => by
      have h := hW.block w.heap.size (by have := (Array.getElem?_eq_some_iff.1 HROW2.out).1; exact this)
      exact from_range (h.trans HROW2.out)
    have HT : Hid (∃ b, toldB p id = b) := ⟨_, rfl⟩
    obtain ⟨b0, e0⟩ : ∃ b : ByteArray, (⟨(hexOf id).toArray⟩ : ByteArray) = b := ⟨_, rfl⟩
    obtain ⟨b1, e1⟩ : ∃ b, (⟨#[1, 10, 99, 111, 112, 121, 58, 32]⟩ : ByteArray) ++ p = b := ⟨_, rfl⟩
    obtain ⟨b2, e2⟩ : ∃ b, b1 ++ (⟨#[10]⟩ : ByteArray) = b := ⟨_, rfl⟩
    obtain ⟨b3, e3⟩ : ∃ b, b2 ++ (⟨#[99, 111, 112, 121, 114, 101, 118, 58, 32]⟩ : ByteArray) = b := ⟨_, rfl⟩
    obtain ⟨b4, e4⟩ : ∃ b, b3 ++ b0 = b := ⟨_, rfl⟩
    obtain ⟨b5, e5⟩ : ∃ b, b4 ++ (⟨#[10]⟩ : ByteArray) = b := ⟨_, rfl⟩
    obtain ⟨b6, e6⟩ : ∃ b, b5 ++ (⟨#[1, 10]⟩ : ByteArray) = b := ⟨_, rfl⟩
    have hs1 : b1.size = 8 + p.size := by rw [← e1, ByteArray.size_append]; rfl
    have hs2 : b2.size = b1.size + 1 := by rw [← e2, ByteArray.size_append]; rfl
    have hs3 : b3.size = b2.size + 9 := by rw [← e3, ByteArray.size_append]; rfl
    have hs4 : b4.size = b3.size + 40 := by rw [← e4, ByteArray.size_append, ← e0, hHS]
    have hs5 : b5.size = b4.size + 1 := by rw [← e5, ByteArray.size_append]; rfl
    have hs6 : b6.size = b5.size + 2 := by rw [← e6, ByteArray.size_append]; rfl
    have hs0 : b0.size = 40 := by rw [← e0, hHS]
    have ha1 := add_small ⟨#[1, 10, 99, 111, 112, 121, 58, 32]⟩ p (by show 8 + p.size ≤ _; omega)
    have ha2 := add_small b1 ⟨#[10]⟩ (by show b1.size + 1 ≤ _; omega)
    have ha3 := add_small b2 ⟨#[99, 111, 112, 121, 114, 101, 118, 58, 32]⟩ (by show b2.size + 9 ≤ _; omega)
    have ha4 := add_small b3 b0 (by omega)
    have ha5 := add_small b4 ⟨#[10]⟩ (by show b4.size + 1 ≤ _; omega)
    have ha6 := add_small b5 ⟨#[1, 10]⟩ (by show b5.size + 2 ≤ _; omega)
    rw [e1] at ha1
    rw [e2] at ha2
    rw [e3] at ha3
    rw [e4] at ha4
    rw [e5] at ha5
    rw [e6] at ha6
    have he : toldB p id = b6 := by
      unfold toldB
      rw [e1, e2, e3, e0, e4, e5, e6]
    have HSB : Hid (0 < b6.size ∧ b6.size ≤ 400) := by show _ ∧ _; rw [← he, hts]; omega
    rw [he] at HPR
    rw [e0] at HHEX
    clear hrt hts h255 hHS e0 e1 e2 e3 e4 e5 e6 hs0 hs1 hs2 hs3 hs4 hs5 hs6 he HT
    go_wp2_with fail
    refine wp_region_noPanic ?_
    refine wp_region_held_drew (S := fun W => Below w2.heap.size w2 W) (by kernel_rfl) ?_ (fun hHeld => ?_)
    · exact (Below.refl _ _).drew
    refine wpAnyH_take (i := 0) (v := ?_) (by simp only [List.getElem?_toArray, List.getElem?_cons_zero]; rfl) (by kernel_rfl) (by kernel_rfl) (by kernel_rfl) (fun _ _ _ h => h) (Or.inl ⟨by rfl, ?_⟩) (by assumption) ?_
    rotate_left
    · intro W hSW
      go_simp
      try with_reducible rfl
    try simp only [Act.put, List.setIfInBounds_toArray, List.set_cons_zero, List.set_cons_succ]
    refine wpAnyH_take (i := 1) (v := .string p) (by simp only [List.getElem?_toArray, List.getElem?_cons_succ, List.getElem?_cons_zero]; rfl) (by kernel_rfl) (by kernel_rfl) (by kernel_rfl) (fun _ _ _ h => h) (Or.inl ⟨by rfl, ?_⟩) (by assumption) ?_
    · intro W hSW
      have hcW := HCELL.out W hSW
      go_simp
      try with_reducible rfl
    try simp only [Act.put, List.setIfInBounds_toArray, List.set_cons_zero, List.set_cons_succ]
    refine wpAnyH_take (i := 2) (v := ?_) (by simp only [List.getElem?_toArray, List.getElem?_cons_succ, List.getElem?_cons_zero]; rfl) (by kernel_rfl) (by kernel_rfl) (by kernel_rfl) (fun _ _ _ h => h) (Or.inl ⟨by rfl, ?_⟩) (by assumption) ?_
    rotate_left
    · intro W hSW
      go_simp
      try with_reducible rfl
    try simp only [Act.put, List.setIfInBounds_toArray, List.set_cons_zero, List.set_cons_succ]
    refine wpAnyH_take (i := 3) (v := ?_) (by simp only [List.getElem?_toArray, List.getElem?_cons_succ, List.getElem?_cons_zero]; rfl) (by kernel_rfl) (by kernel_rfl) (by kernel_rfl) (fun _ _ _ h => h) (Or.inl ⟨by rfl, ?_⟩) (by assumption) ?_
    rotate_left
    · intro W hSW
      go_simp
      try with_reducible rfl
    try simp only [Act.put, List.setIfInBounds_toArray, List.set_cons_zero, List.set_cons_succ]
    refine wpAnyH_take (i := 4) (v := ?_) (by simp only [List.getElem?_toArray, List.getElem?_cons_succ, List.getElem?_cons_zero]; rfl) (by kernel_rfl) (by kernel_rfl) (by kernel_rfl) (fun _ _ _ h => h) (Or.inl ⟨by rfl, ?_⟩) (by assumption) ?_
    rotate_left
    · intro W hSW
      go_simp
      try with_reducible rfl
    try simp only [Act.put, List.setIfInBounds_toArray, List.set_cons_zero, List.set_cons_succ]
    refine wpAnyH_take (i := 5) (v := ?_) (by simp only [List.getElem?_toArray, List.getElem?_cons_succ, List.getElem?_cons_zero]; rfl) (by kernel_rfl) (by kernel_rfl) (by kernel_rfl) (fun _ _ _ h => h) (Or.inl ⟨by rfl, ?_⟩) (by assumption) ?_
    rotate_left
    · intro W hSW
      go_simp
      try with_reducible rfl
    try simp only [Act.put, List.setIfInBounds_toArray, List.set_cons_zero, List.set_cons_succ]
    refine wpAnyH_take (i := 6) (by simp only [List.getElem?_toArray, List.getElem?_cons_succ, List.getElem?_cons_zero]; rfl) (by kernel_rfl) (by kernel_rfl) (by kernel_rfl) (fun _ _ _ h => h) (yieldsIf_load_mid (by rfl) 26 _ rfl w.heap.size 1 rfl (id.map (Value.int .u8)) (.array 20 5) (fun W hSW => HRNG.out W hSW) Tryd.underlying26 rfl HIL.out) (by assumption) ?_
    try simp only [Act.put, List.setIfInBounds_toArray, List.set_cons_zero, List.set_cons_succ]
    refine wpAnyH_ready (rs := [7]) (by kernel_rfl) (by simp) ?_
    refine AllReadyH.cons (by simp only [List.getElem?_toArray, List.getElem?_cons_succ, List.getElem?_cons_zero]; rfl) (fun K hK => ?_) AllReadyH.nil
    go_simp
    refine (HHEX.out _).mono ?_
    rintro e w5 ⟨rfl, hb⟩
    have hbb : Below w2.heap.size w2 w5 := (Below.refl _ _).drew.trans hb
    have HB5 := Lib.hid hbb
    clear hb
    go_wp2_with fail
    refine hK.out _ _ (hbb) (fun hHeld2 => ?_)
    clear hK K hHeld
    have hHeld := hHeld2
    clear hHeld2
    try simp only [Act.put, List.setIfInBounds_toArray, List.set_cons_zero, List.set_cons_succ]
    clear hbb
    refine wpAnyH_take (i := 8) (v := ?_) (by simp only [List.getElem?_toArray, List.getElem?_cons_succ, List.getElem?_cons_zero]; rfl) (by kernel_rfl) (by kernel_rfl) (by kernel_rfl) (fun _ _ _ h => h) (Or.inl ⟨by rfl, ?_⟩) (by assumption) ?_
    rotate_left
    · intro W hSW
      go_simp
      try with_reducible rfl
    try simp only [Act.put, List.setIfInBounds_toArray, List.set_cons_zero, List.set_cons_succ]
    refine wpAnyH_take (i := 9) (v := ?_) (by simp only [List.getElem?_toArray, List.getElem?_cons_succ, List.getElem?_cons_zero]; rfl) (by kernel_rfl) (by kernel_rfl) (by kernel_rfl) (fun _ _ _ h => h) (Or.inl ⟨by rfl, ?_⟩) (by assumption) ?_
    rotate_left
    · intro W hSW
      go_simp
      try with_reducible rfl
    try simp only [Act.put, List.setIfInBounds_toArray, List.set_cons_zero, List.set_cons_succ]
    refine wpAnyH_take (i := 10) (v := ?_) (by simp only [List.getElem?_toArray, List.getElem?_cons_succ, List.getElem?_cons_zero]; rfl) (by kernel_rfl) (by kernel_rfl) (by kernel_rfl) (fun _ _ _ h => h) (Or.inl ⟨by rfl, ?_⟩) (by assumption) ?_
    rotate_left
    · intro W hSW
      go_simp
      try with_reducible rfl
    try simp only [Act.put, List.setIfInBounds_toArray, List.set_cons_zero, List.set_cons_succ]
    refine wpAnyH_take (i := 11) (v := ?_) (by simp only [List.getElem?_toArray, List.getElem?_cons_succ, List.getElem?_cons_zero]; rfl) (by kernel_rfl) (by kernel_rfl) (by kernel_rfl) (fun _ _ _ h => h) (Or.inl ⟨by rfl, ?_⟩) (by assumption) ?_
    rotate_left
    · intro W hSW
      go_simp
      try with_reducible rfl
    try simp only [Act.put, List.setIfInBounds_toArray, List.set_cons_zero, List.set_cons_succ]
    refine wpAnyH_done (by kernel_rfl) ?_ _
    refine NoPanic.normal ?_
    clear ha1 ha2 ha3 ha4 ha5 ha6 hHeld
    have HB6 : Hid (Below w.heap.size w w5) := HB2.out.trans (HB5.out.mono HB2.out.size)
    obtain ⟨cc, hcc, hconv⟩ := conv_bytes w5 b6
    have hbn := bytes_new w5 b6 (by have := HSB.out; omega)
    have HBW : Hid (Below w5.heap.size w5 (Lib.bytesWorld w5 5 b6)) := Joins.below_bytesWorld _ w5 5 b6 (Nat.le_refl _)
    have hsz : (Lib.bytesWorld w5 5 b6).heap.size = w5.heap.size + 1 := Lib.bytesWorld_size _ _ _
    have HBN := Lib.hid hbn
    generalize Lib.bytesWorld w5 5 b6 = w6 at *
    go_wp2_with fail
    have HBC : Hid (Below w.heap.size w (w6.alloc (.cells #[.slice (some ⟨w5.heap.size, 0, none⟩) b6.size cc, .slice a n c] 22))) := (HB6.out.trans (HBW.out.mono HB6.out.size)).alloc (HB6.out.trans (HBW.out.mono HB6.out.size)).size _
    have HLB := Lib.hid (HBN.out.below ((Below.refl w6.heap.size _).alloc (Nat.le_refl _) (.cells #[.slice (some ⟨w5.heap.size, 0, none⟩) b6.size cc, .slice a n c] 22)))
    have HK := Lib.hid (lit_two w6 (.slice (some ⟨w5.heap.size, 0, none⟩) b6.size cc) (.slice a n c) 22)
    rw [hsz] at HK
    generalize w6.alloc (.cells #[.slice (some ⟨w5.heap.size, 0, none⟩) b6.size cc, .slice a n c] 22) = w7 at *
    refine (concat_any (w5.heap.size + 1) (some ⟨w5.heap.size, 0, none⟩) a b6.size n cc c (numsOf b6) xs w7 HK.out.1 HK.out.2 HLB.out (HR.out.below HBC.out).bytes (by have := HSB.out; omega) (by have := HN.out; omega) (by have := HSB.out; omega)).mono ?_
    rintro e w8 ⟨⟨va, vc, rfl, hm⟩, hb⟩
    have HM := Lib.hid hm
    have HB8 : Hid (Below w.heap.size w w8) := HBC.out.trans (hb.mono HBC.out.size)
    clear hm hb
    go_wp2_with fail
    go_ret2
    have hlen : (numsOf b6 ++ xs).length = b6.size + n := by rw [List.length_append, HR.out.len, numsOf_length]
    rw [HPR.out]
    exact ⟨⟨va, vc, by rw [hlen]; rfl, by rw [hlen]; exact HM.out.lower HBC.out.size⟩, HB8.out⟩
end Go.Proofs.YtmkhnlfhbiabcaaDoor
