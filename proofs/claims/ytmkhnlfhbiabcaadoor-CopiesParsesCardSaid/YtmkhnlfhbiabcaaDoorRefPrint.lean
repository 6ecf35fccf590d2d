/- The document's Print: the walk. -/
import Derived.Test.YtmkhnlfhbiabcaaDoorBegins
namespace Go.Proofs.YtmkhnlfhbiabcaaDoor
open Go.RowKit Plain Go.ChangeShapes Go.WideShapes Go.ChangeAt
set_option linter.unusedVariables false
def toldR (p : ByteArray) (id : List Int) : ByteArray :=
  (⟨#[1, 10, 99, 111, 112, 121, 58, 32]⟩ : ByteArray) ++ p ++ ⟨#[10, 99, 111, 112, 121, 114, 101, 118, 58, 32]⟩ ++ ⟨(hexOf id).toArray⟩ ++ ⟨#[10, 1, 10]⟩
theorem toldR_is (p : ByteArray) (id : List Int) : toldR p id = toldB p id := by
  unfold toldR toldB
  have e1 : (⟨#[10, 99, 111, 112, 121, 114, 101, 118, 58, 32]⟩ : ByteArray) = (⟨#[10]⟩ : ByteArray) ++ ⟨#[99, 111, 112, 121, 114, 101, 118, 58, 32]⟩ := by rfl
  have e2 : (⟨#[10, 1, 10]⟩ : ByteArray) = (⟨#[10]⟩ : ByteArray) ++ ⟨#[1, 10]⟩ := by rfl
  rw [e1, e2]
  simp only [ByteArray.append_assoc]
def refPrintB (s p : ByteArray) (id : List Int) : Option ByteArray :=
  if noFrom p id then some (if beginsT s then (⟨#[1, 10, 1, 10]⟩ : ByteArray) ++ s else s)
  else if rightL p.data.toList then some (toldR p id ++ s) else none
def PrintR (e : Ending) : Option ByteArray → Prop
  | none => e = .returned (.tuple #[.string ⟨#[]⟩, .bool false])
  | some t => e = .returned (.tuple #[.string t, .bool true])
theorem noFrom_is (p : ByteArray) (id : List Int) : noFrom p id = (p.data.toList == (⟨#[]⟩ : ByteArray).data.toList && id == zeros20) := by
  unfold noFrom
  rw [Lib.toList_data, Lib.toList_data]
theorem guard_str (x y : Operand) (s t : ByteArray) (W : World) : (eqGuard .eql 9 x y (.string s) (.string t)).run Tryd.prog W = .ok () W := by
  simp [eqGuard]
theorem guard_arr (x y : Operand) (X Y : Array Value) (W : World) : (eqGuard .eql 23 x y (.agg X) (.agg Y)).run Tryd.prog W = .ok () W := by
  have h : Tryd.prog.eqGuardType Tryd.prog.depth 23 = false := by kernel_rfl
  simp [eqGuard, h]
theorem eql_arr (W : World) (xs ys : List Int) (hx : xs.length = 20) (hy : ys.length = 20) : (binOp .eql 23 (.agg (V8 xs)) (.agg (V8 ys))).run Tryd.prog W = .ok (.bool (xs == ys)) W := by
  rw [run_eql_struct, run_equalIn_arr8 W 9998 23 20 Tryd.underlying23 xs ys hx hy]
  rfl
theorem wpList_load_mid_g {P : Program} {ops : Array Oper} {rest : List Oper} {o : Oper} {a : Act} {w : World} {Q : Exit → Act → World → Prop} (hw : Region.wanted o (yielded ops a.tmps) = true) (ty : TypeId) (x : Operand) (ho : o.op = .load ty x)
    (b off : Nat) (hx : a.eval x = .pointer (some ⟨b, off, none⟩)) (cs : List Value) (d : TypeDesc) (hc : w.rangeAt b off cs)
    (hu : P.underlying ty = some d) (hd : d.isRow = true) (hi : (P.info? ty).map (·.size) = some cs.length)
    (h : wpList P ops Q rest (a.put o.dst (.agg cs.toArray)) w) : wpList P ops Q (o :: rest) a w := by
  refine wpList_step ?_
  intro K hK
  rw [if_pos hw]
  exact wp_load_mid ty x ho b off hx cs d hc hu hd hi (hK _ _ h)
set_option maxRecDepth 100000 in
set_option maxHeartbeats 16000000 in
theorem refPrint_none (s p : ByteArray) (id : List Int) (w : World) (hs : s.size ≤ 10000000) (h20 : id.length = 20) (hb : ∀ x ∈ id, 0 ≤ x ∧ x ≤ 255) (hp : (p.data.toList == (⟨#[]⟩ : ByteArray).data.toList) = true) (hi : (id == zeros20) = true) :
    Calls Tryd.prog 10 #[.string s, .agg (fromA p id)] w fun e w' => PrintR e (refPrintB s p id) ∧ Below w.heap.size w w' := by
  have hq := fun W => str_eql p ⟨#[]⟩ W
  rw [hp] at hq
  have HQ := Lib.hid hq
  clear hq
  have hq2 := fun W => eql_arr W id zeros20 h20 rfl
  rw [hi] at hq2
  have HQ2 := Lib.hid hq2
  clear hq2
  have hnf : noFrom p id = true := by rw [noFrom_is, hp, hi]; rfl
  have HPR := Lib.hid (show refPrintB s p id = some (if beginsT s then (⟨#[1, 10, 1, 10]⟩ : ByteArray) ++ s else s) from by unfold refPrintB; rw [hnf]; rfl)
  have HIL : Hid ((Tryd.prog.info? 23).map (·.size) = some (id.map (Value.int .u8)).length) := by
    show _ = _
    rw [List.length_map, h20]; kernel_rfl
  have HROW : Hid ((w.alloc (.cells (fromA p id) 25)).heap[w.heap.size]? = some (.cells (fromA p id) 25 (0, 0))) := heap_alloc_new _ _
  have HB1 : Hid (Below w.heap.size w (w.alloc (.cells (fromA p id) 25))) := (Below.refl _ _).alloc (Nat.le_refl _) _
  have HS1 : Hid (w.heap.size + 1 = (w.alloc (.cells (fromA p id) 25)).heap.size) := by show _ = _; simp
  have HS := Lib.hid hs
  have H20 := Lib.hid h20
  have hz : (fromA p id)[0]? = some (.string p) := by simp [fromA]
  have HHEX := Lib.hid (fun W => refHex_any id W h20 hb)
  have hht := hexN_text id hb
  rw [hht] at HHEX
  have hHS := hexB_size id h20
  clear hnf hs h20 hb hp hht hi
  go_enter Tryd.func10, Tryd.ntmps10
  go_wp2_with (first
    | refine wpList_eql rfl .eql 9 _ _ _ rfl (.string p) (.string ⟨#[]⟩) rfl rfl (.bool true) (guard_str _ _ _ _) HQ.out ?_
    | refine wpList_load_mid_g rfl 23 _ rfl w.heap.size 1 rfl (id.map (Value.int .u8)) (.array 20 5) (from_range HROW.out) Tryd.underlying23 rfl HIL.out ?_
    | refine wpList_build_0 rfl 23 rfl (.agg (V8 zeros20)) build_noId ?_
    | refine wpList_eql rfl .eql 23 _ _ _ rfl (.agg (V8 id)) (.agg (V8 zeros20)) rfl rfl (.bool true) (guard_arr _ _ _ _) HQ2.out ?_)
  generalize w.alloc (.cells (fromA p id) 25) = w1 at *
  clear HROW HQ HQ2 hz hHS
  refine (begins_any s w1).mono ?_
  rintro e w2 ⟨rfl, hb⟩
  have HB2 : Hid (Below w.heap.size w w2) := HB1.out.trans (hb.mono HB1.out.size)
  clear hb HB1
  cases hbg : beginsT s
  · rw [hbg, if_neg (by decide)] at HPR
    clear hbg
    go_wp2_with fail
    go_ret2
    rw [HPR.out]
    exact ⟨rfl, HB2.out⟩
  · rw [hbg, if_pos rfl] at HPR
    have ha : ∀ W, (Op.stringOp .add (⟨#[1, 10, 1, 10]⟩ : ByteArray) s).run Tryd.prog W = .ok (.string ((⟨#[1, 10, 1, 10]⟩ : ByteArray) ++ s)) W := fun W => run_string_add_sum W _ _ (by have := HS.out; show 4 + s.size ≤ _; omega)
    generalize (⟨#[1, 10, 1, 10]⟩ : ByteArray) ++ s = t at *
    clear hbg
    go_wp2_with fail
    go_ret2
    rw [HPR.out]
    exact ⟨rfl, HB2.out⟩
set_option maxRecDepth 100000 in
set_option maxHeartbeats 16000000 in
theorem refPrint_named (s p : ByteArray) (id : List Int) (w : World) (hs : s.size ≤ 10000000) (h20 : id.length = 20) (hb : ∀ x ∈ id, 0 ≤ x ∧ x ≤ 255) (hp : (p.data.toList == (⟨#[]⟩ : ByteArray).data.toList) = false) :
    Calls Tryd.prog 10 #[.string s, .agg (fromA p id)] w fun e w' => PrintR e (refPrintB s p id) ∧ Below w.heap.size w w' := by
  have hq := fun W => str_eql p ⟨#[]⟩ W
  rw [hp] at hq
  have HQ := Lib.hid hq
  clear hq
  
  
  
  
  have hnf : noFrom p id = false := by rw [noFrom_is, hp]; rw [Bool.false_and]
  have HPR := Lib.hid (show refPrintB s p id = if rightL p.data.toList then some (toldR p id ++ s) else none from by unfold refPrintB; rw [hnf]; rfl)
  have HIL : Hid ((Tryd.prog.info? 23).map (·.size) = some (id.map (Value.int .u8)).length) := by
    show _ = _
    rw [List.length_map, h20]; kernel_rfl
  have HROW : Hid ((w.alloc (.cells (fromA p id) 25)).heap[w.heap.size]? = some (.cells (fromA p id) 25 (0, 0))) := heap_alloc_new _ _
  have HB1 : Hid (Below w.heap.size w (w.alloc (.cells (fromA p id) 25))) := (Below.refl _ _).alloc (Nat.le_refl _) _
  have HS1 : Hid (w.heap.size + 1 = (w.alloc (.cells (fromA p id) 25)).heap.size) := by show _ = _; simp
  have HS := Lib.hid hs
  have H20 := Lib.hid h20
  have hz : (fromA p id)[0]? = some (.string p) := by simp [fromA]
  have HHEX := Lib.hid (fun W => refHex_any id W h20 hb)
  have hht := hexN_text id hb
  rw [hht] at HHEX
  have hHS := hexB_size id h20
  clear hnf hs h20 hb hp hht
  go_enter Tryd.func10, Tryd.ntmps10
  go_wp2_with (first
    | refine wpList_eql rfl .eql 9 _ _ _ rfl (.string p) (.string ⟨#[]⟩) rfl rfl (.bool false) (guard_str _ _ _ _) HQ.out ?_
    | refine wpList_load_mid_g rfl 23 _ rfl w.heap.size 1 rfl (id.map (Value.int .u8)) (.array 20 5) (from_range HROW.out) Tryd.underlying23 rfl HIL.out ?_
    | refine wpList_build_0 rfl 23 rfl (.agg (V8 zeros20)) build_noId ?_
    )
  generalize w.alloc (.cells (fromA p id) 25) = w1 at *
  refine (refRight_any p w1).mono ?_
  rintro e w2 ⟨rfl, hb⟩
  have HB2 : Hid (Below w.heap.size w w2) := HB1.out.trans (hb.mono HB1.out.size)
  have HROW2 : Hid (w2.heap[w.heap.size]? = some (.cells (fromA p id) 25 (0, 0))) := by
    show _ = _
    rw [hb.block _ (by rw [← HS1.out]; omega)]
    exact HROW.out
  clear hb HB1 HROW HQ hz
  cases hrt : rightL p.data.toList
  · rw [hrt, if_neg (by decide)] at HPR
    clear hrt hHS
    go_wp2_with fail
    go_ret2
    rw [HPR.out]
    exact ⟨rfl, HB2.out⟩
  · rw [hrt, if_pos rfl] at HPR
    have h255 := right_len hrt
    have HCELL : Hid (∀ W, Below w2.heap.size w2 W → W.cell? ⟨w.heap.size, 0, none⟩ = some (.string p)) := fun W hW => by
      have h := hW.block w.heap.size (by have := (Array.getElem?_eq_some_iff.1 HROW2.out).1; exact this)
      exact from_cell (h.trans HROW2.out)
    have HRNG : Hid (∀ W, Below w2.heap.size w2 W → W.rangeAt w.heap.size 1 (id.map (Value.int .u8))) := fun W hW => by
      have h := hW.block w.heap.size (by have := (Array.getElem?_eq_some_iff.1 HROW2.out).1; exact this)
      exact from_range (h.trans HROW2.out)
    have hs := HS.out
    obtain ⟨b0, e0⟩ : ∃ b : ByteArray, (⟨(hexOf id).toArray⟩ : ByteArray) = b := ⟨_, rfl⟩
    obtain ⟨b1, e1⟩ : ∃ b, (⟨#[1, 10, 99, 111, 112, 121, 58, 32]⟩ : ByteArray) ++ p = b := ⟨_, rfl⟩
    obtain ⟨b2, e2⟩ : ∃ b, b1 ++ (⟨#[10, 99, 111, 112, 121, 114, 101, 118, 58, 32]⟩ : ByteArray) = b := ⟨_, rfl⟩
    obtain ⟨b3, e3⟩ : ∃ b, b2 ++ b0 = b := ⟨_, rfl⟩
    obtain ⟨b4, e4⟩ : ∃ b, b3 ++ (⟨#[10, 1, 10]⟩ : ByteArray) = b := ⟨_, rfl⟩
    obtain ⟨b5, e5⟩ : ∃ b, b4 ++ s = b := ⟨_, rfl⟩
    have hs1 : b1.size = 8 + p.size := by rw [← e1, ByteArray.size_append]; rfl
    have hs2 : b2.size = b1.size + 10 := by rw [← e2, ByteArray.size_append]; rfl
    have hs3 : b3.size = b2.size + 40 := by rw [← e3, ByteArray.size_append, ← e0, hHS]
    have hs4 : b4.size = b3.size + 3 := by rw [← e4, ByteArray.size_append]; rfl
    have hs0 : b0.size = 40 := by rw [← e0, hHS]
    have ha1 := add_small ⟨#[1, 10, 99, 111, 112, 121, 58, 32]⟩ p (by show 8 + p.size ≤ _; omega)
    have ha2 := add_small b1 ⟨#[10, 99, 111, 112, 121, 114, 101, 118, 58, 32]⟩ (by show b1.size + 10 ≤ _; omega)
    have ha3 := add_small b2 b0 (by omega)
    have ha4 := add_small b3 ⟨#[10, 1, 10]⟩ (by show b3.size + 3 ≤ _; omega)
    have ha5 : ∀ W, (Op.stringOp .add b4 s).run Tryd.prog W = .ok (.string (b4 ++ s)) W := fun W => run_string_add_sum W b4 s (by omega)
    rw [e1] at ha1
    rw [e2] at ha2
    rw [e3] at ha3
    rw [e4] at ha4
    rw [e5] at ha5
    have he : toldR p id ++ s = b5 := by
      unfold toldR
      rw [e1, e2, e0, e3, e4, e5]
    rw [he] at HPR
    rw [e0] at HHEX
    clear hrt h255 hHS e0 e1 e2 e3 e4 e5 hs0 hs1 hs2 hs3 hs4 he hs
    go_wp2_with fail
    refine wp_region_noPanic ?_
    refine wp_region_held_drew (S := fun W => Below w2.heap.size w2 W) (by kernel_rfl) ?_ (fun hHeld => ?_)
    · exact (Below.refl _ _).drew
    refine wpAnyH_take (i := 0) (v := ?_) (by simp only [List.getElem?_toArray, List.getElem?_cons_zero]; rfl) (by kernel_rfl) (by kernel_rfl) (by kernel_rfl) (fun _ _ _ h => h) (Or.inl ⟨by rfl, ?_⟩) (by assumption) ?_
    rotate_left
    · intro W hSW
      go_simp
      try with_reducible rfl
    try simp only [Act.put, List.setIfInBounds_toArray, List.set_cons_zero, List.set_cons_succ]
    refine wpAnyH_take (i := 1) (v := .string p) (by simp only [List.getElem?_toArray, List.getElem?_cons_succ, List.getElem?_cons_zero]; rfl) (by kernel_rfl) (by kernel_rfl) (by kernel_rfl) (fun _ _ _ h => h) (Or.inl ⟨by rfl, ?_⟩) (by assumption) ?_
    · intro W hSW
      have hcW := HCELL.out W hSW
      go_simp
      try with_reducible rfl
    try simp only [Act.put, List.setIfInBounds_toArray, List.set_cons_zero, List.set_cons_succ]
    refine wpAnyH_take (i := 2) (v := ?_) (by simp only [List.getElem?_toArray, List.getElem?_cons_succ, List.getElem?_cons_zero]; rfl) (by kernel_rfl) (by kernel_rfl) (by kernel_rfl) (fun _ _ _ h => h) (Or.inl ⟨by rfl, ?_⟩) (by assumption) ?_
    rotate_left
    · intro W hSW
      go_simp
      try with_reducible rfl
    try simp only [Act.put, List.setIfInBounds_toArray, List.set_cons_zero, List.set_cons_succ]
    refine wpAnyH_take (i := 3) (v := ?_) (by simp only [List.getElem?_toArray, List.getElem?_cons_succ, List.getElem?_cons_zero]; rfl) (by kernel_rfl) (by kernel_rfl) (by kernel_rfl) (fun _ _ _ h => h) (Or.inl ⟨by rfl, ?_⟩) (by assumption) ?_
    rotate_left
    · intro W hSW
      go_simp
      try with_reducible rfl
    try simp only [Act.put, List.setIfInBounds_toArray, List.set_cons_zero, List.set_cons_succ]
    refine wpAnyH_take (i := 4) (v := ?_) (by simp only [List.getElem?_toArray, List.getElem?_cons_succ, List.getElem?_cons_zero]; rfl) (by kernel_rfl) (by kernel_rfl) (by kernel_rfl) (fun _ _ _ h => h) (Or.inl ⟨by rfl, ?_⟩) (by assumption) ?_
    rotate_left
    · intro W hSW
      go_simp
      try with_reducible rfl
    try simp only [Act.put, List.setIfInBounds_toArray, List.set_cons_zero, List.set_cons_succ]
    refine wpAnyH_take (i := 5) (by simp only [List.getElem?_toArray, List.getElem?_cons_succ, List.getElem?_cons_zero]; rfl) (by kernel_rfl) (by kernel_rfl) (by kernel_rfl) (fun _ _ _ h => h) (yieldsIf_load_mid (by rfl) 23 _ rfl w.heap.size 1 rfl (id.map (Value.int .u8)) (.array 20 5) (fun W hSW => HRNG.out W hSW) Tryd.underlying23 rfl HIL.out) (by assumption) ?_
    try simp only [Act.put, List.setIfInBounds_toArray, List.set_cons_zero, List.set_cons_succ]
    refine wpAnyH_take (i := 9) (v := ?_) (by simp only [List.getElem?_toArray, List.getElem?_cons_succ, List.getElem?_cons_zero]; rfl) (by kernel_rfl) (by kernel_rfl) (by kernel_rfl) (fun _ _ _ h => h) (Or.inl ⟨by rfl, ?_⟩) (by assumption) ?_
    rotate_left
    · intro W hSW
      go_simp
      try with_reducible rfl
    try simp only [Act.put, List.setIfInBounds_toArray, List.set_cons_zero, List.set_cons_succ]
    refine wpAnyH_ready (rs := [6]) (by kernel_rfl) (by simp) ?_
    refine AllReadyH.cons (by simp only [List.getElem?_toArray, List.getElem?_cons_succ, List.getElem?_cons_zero]; rfl) (fun K hK => ?_) AllReadyH.nil
    go_simp
    refine (HHEX.out _).mono ?_
    rintro e w5 ⟨rfl, hb⟩
    have hbb : Below w2.heap.size w2 w5 := (Below.refl _ _).drew.trans hb
    have HB5 := Lib.hid hbb
    clear hb
    go_wp2_with fail
    refine hK.out _ _ (hbb) (fun hHeld2 => ?_)
    clear hK K hHeld
    have hHeld := hHeld2
    clear hHeld2
    try simp only [Act.put, List.setIfInBounds_toArray, List.set_cons_zero, List.set_cons_succ]
    clear hbb
    refine wpAnyH_take (i := 7) (v := ?_) (by simp only [List.getElem?_toArray, List.getElem?_cons_succ, List.getElem?_cons_zero]; rfl) (by kernel_rfl) (by kernel_rfl) (by kernel_rfl) (fun _ _ _ h => h) (Or.inl ⟨by rfl, ?_⟩) (by assumption) ?_
    rotate_left
    · intro W hSW
      go_simp
      try with_reducible rfl
    try simp only [Act.put, List.setIfInBounds_toArray, List.set_cons_zero, List.set_cons_succ]
    refine wpAnyH_take (i := 8) (v := ?_) (by simp only [List.getElem?_toArray, List.getElem?_cons_succ, List.getElem?_cons_zero]; rfl) (by kernel_rfl) (by kernel_rfl) (by kernel_rfl) (fun _ _ _ h => h) (Or.inl ⟨by rfl, ?_⟩) (by assumption) ?_
    rotate_left
    · intro W hSW
      go_simp
      try with_reducible rfl
    try simp only [Act.put, List.setIfInBounds_toArray, List.set_cons_zero, List.set_cons_succ]
    refine wpAnyH_take (i := 10) (v := ?_) (by simp only [List.getElem?_toArray, List.getElem?_cons_succ, List.getElem?_cons_zero]; rfl) (by kernel_rfl) (by kernel_rfl) (by kernel_rfl) (fun _ _ _ h => h) (Or.inl ⟨by rfl, ?_⟩) (by assumption) ?_
    rotate_left
    · intro W hSW
      go_simp
      try with_reducible rfl
    try simp only [Act.put, List.setIfInBounds_toArray, List.set_cons_zero, List.set_cons_succ]
    refine wpAnyH_take (i := 11) (v := ?_) (by simp only [List.getElem?_toArray, List.getElem?_cons_succ, List.getElem?_cons_zero]; rfl) (by kernel_rfl) (by kernel_rfl) (by kernel_rfl) (fun _ _ _ h => h) (Or.inl ⟨by rfl, ?_⟩) (by assumption) ?_
    rotate_left
    · intro W hSW
      go_simp
      try with_reducible rfl
    try simp only [Act.put, List.setIfInBounds_toArray, List.set_cons_zero, List.set_cons_succ]
    refine wpAnyH_take (i := 12) (v := ?_) (by simp only [List.getElem?_toArray, List.getElem?_cons_succ, List.getElem?_cons_zero]; rfl) (by kernel_rfl) (by kernel_rfl) (by kernel_rfl) (fun _ _ _ h => h) (Or.inl ⟨by rfl, ?_⟩) (by assumption) ?_
    rotate_left
    · intro W hSW
      go_simp
      try with_reducible rfl
    try simp only [Act.put, List.setIfInBounds_toArray, List.set_cons_zero, List.set_cons_succ]
    refine wpAnyH_done (by kernel_rfl) ?_ _
    refine NoPanic.normal ?_
    go_wp2_with fail
    have HB6 : Hid (Below w.heap.size w w5) := HB2.out.trans (HB5.out.mono HB2.out.size)
    go_ret2
    rw [HPR.out]
    exact ⟨rfl, HB6.out⟩
set_option maxRecDepth 100000 in
set_option maxHeartbeats 16000000 in
theorem refPrint_noName (s p : ByteArray) (id : List Int) (w : World) (hs : s.size ≤ 10000000) (h20 : id.length = 20) (hb : ∀ x ∈ id, 0 ≤ x ∧ x ≤ 255) (hp : (p.data.toList == (⟨#[]⟩ : ByteArray).data.toList) = true) (hi : (id == zeros20) = false) :
    Calls Tryd.prog 10 #[.string s, .agg (fromA p id)] w fun e w' => PrintR e (refPrintB s p id) ∧ Below w.heap.size w w' := by
  have hq := fun W => str_eql p ⟨#[]⟩ W
  rw [hp] at hq
  have HQ := Lib.hid hq
  clear hq
  have hq2 := fun W => eql_arr W id zeros20 h20 rfl
  rw [hi] at hq2
  have HQ2 := Lib.hid hq2
  clear hq2
  have hnf : noFrom p id = false := by rw [noFrom_is, hp, hi]; rfl
  have HPR := Lib.hid (show refPrintB s p id = if rightL p.data.toList then some (toldR p id ++ s) else none from by unfold refPrintB; rw [hnf]; rfl)
  have HIL : Hid ((Tryd.prog.info? 23).map (·.size) = some (id.map (Value.int .u8)).length) := by
    show _ = _
    rw [List.length_map, h20]; kernel_rfl
  have HROW : Hid ((w.alloc (.cells (fromA p id) 25)).heap[w.heap.size]? = some (.cells (fromA p id) 25 (0, 0))) := heap_alloc_new _ _
  have HB1 : Hid (Below w.heap.size w (w.alloc (.cells (fromA p id) 25))) := (Below.refl _ _).alloc (Nat.le_refl _) _
  have HS1 : Hid (w.heap.size + 1 = (w.alloc (.cells (fromA p id) 25)).heap.size) := by show _ = _; simp
  have HS := Lib.hid hs
  have H20 := Lib.hid h20
  have hz : (fromA p id)[0]? = some (.string p) := by simp [fromA]
  have HHEX := Lib.hid (fun W => refHex_any id W h20 hb)
  have hht := hexN_text id hb
  rw [hht] at HHEX
  have hHS := hexB_size id h20
  clear hnf hs h20 hb hp hht hi
  go_enter Tryd.func10, Tryd.ntmps10
  go_wp2_with (first
    | refine wpList_eql rfl .eql 9 _ _ _ rfl (.string p) (.string ⟨#[]⟩) rfl rfl (.bool true) (guard_str _ _ _ _) HQ.out ?_
    | refine wpList_load_mid_g rfl 23 _ rfl w.heap.size 1 rfl (id.map (Value.int .u8)) (.array 20 5) (from_range HROW.out) Tryd.underlying23 rfl HIL.out ?_
    | refine wpList_build_0 rfl 23 rfl (.agg (V8 zeros20)) build_noId ?_
    | refine wpList_eql rfl .eql 23 _ _ _ rfl (.agg (V8 id)) (.agg (V8 zeros20)) rfl rfl (.bool false) (guard_arr _ _ _ _) HQ2.out ?_)
  generalize w.alloc (.cells (fromA p id) 25) = w1 at *
  refine (refRight_any p w1).mono ?_
  rintro e w2 ⟨rfl, hb⟩
  have HB2 : Hid (Below w.heap.size w w2) := HB1.out.trans (hb.mono HB1.out.size)
  have HROW2 : Hid (w2.heap[w.heap.size]? = some (.cells (fromA p id) 25 (0, 0))) := by
    show _ = _
    rw [hb.block _ (by rw [← HS1.out]; omega)]
    exact HROW.out
  clear hb HB1 HROW HQ HQ2 hz
  cases hrt : rightL p.data.toList
  · rw [hrt, if_neg (by decide)] at HPR
    clear hrt hHS
    go_wp2_with fail
    go_ret2
    rw [HPR.out]
    exact ⟨rfl, HB2.out⟩
  · rw [hrt, if_pos rfl] at HPR
    have h255 := right_len hrt
    have HCELL : Hid (∀ W, Below w2.heap.size w2 W → W.cell? ⟨w.heap.size, 0, none⟩ = some (.string p)) := fun W hW => by
      have h := hW.block w.heap.size (by have := (Array.getElem?_eq_some_iff.1 HROW2.out).1; exact this)
      exact from_cell (h.trans HROW2.out)
    have HRNG : Hid (∀ W, Below w2.heap.size w2 W → W.rangeAt w.heap.size 1 (id.map (Value.int .u8))) := fun W hW => by
      have h := hW.block w.heap.size (by have := (Array.getElem?_eq_some_iff.1 HROW2.out).1; exact this)
      exact from_range (h.trans HROW2.out)
    have hs := HS.out
    obtain ⟨b0, e0⟩ : ∃ b : ByteArray, (⟨(hexOf id).toArray⟩ : ByteArray) = b := ⟨_, rfl⟩
    obtain ⟨b1, e1⟩ : ∃ b, (⟨#[1, 10, 99, 111, 112, 121, 58, 32]⟩ : ByteArray) ++ p = b := ⟨_, rfl⟩
    obtain ⟨b2, e2⟩ : ∃ b, b1 ++ (⟨#[10, 99, 111, 112, 121, 114, 101, 118, 58, 32]⟩ : ByteArray) = b := ⟨_, rfl⟩
    obtain ⟨b3, e3⟩ : ∃ b, b2 ++ b0 = b := ⟨_, rfl⟩
    obtain ⟨b4, e4⟩ : ∃ b, b3 ++ (⟨#[10, 1, 10]⟩ : ByteArray) = b := ⟨_, rfl⟩
    obtain ⟨b5, e5⟩ : ∃ b, b4 ++ s = b := ⟨_, rfl⟩
    have hs1 : b1.size = 8 + p.size := by rw [← e1, ByteArray.size_append]; rfl
    have hs2 : b2.size = b1.size + 10 := by rw [← e2, ByteArray.size_append]; rfl
    have hs3 : b3.size = b2.size + 40 := by rw [← e3, ByteArray.size_append, ← e0, hHS]
    have hs4 : b4.size = b3.size + 3 := by rw [← e4, ByteArray.size_append]; rfl
    have hs0 : b0.size = 40 := by rw [← e0, hHS]
    have ha1 := add_small ⟨#[1, 10, 99, 111, 112, 121, 58, 32]⟩ p (by show 8 + p.size ≤ _; omega)
    have ha2 := add_small b1 ⟨#[10, 99, 111, 112, 121, 114, 101, 118, 58, 32]⟩ (by show b1.size + 10 ≤ _; omega)
    have ha3 := add_small b2 b0 (by omega)
    have ha4 := add_small b3 ⟨#[10, 1, 10]⟩ (by show b3.size + 3 ≤ _; omega)
    have ha5 : ∀ W, (Op.stringOp .add b4 s).run Tryd.prog W = .ok (.string (b4 ++ s)) W := fun W => run_string_add_sum W b4 s (by omega)
    rw [e1] at ha1
    rw [e2] at ha2
    rw [e3] at ha3
    rw [e4] at ha4
    rw [e5] at ha5
    have he : toldR p id ++ s = b5 := by
      unfold toldR
      rw [e1, e2, e0, e3, e4, e5]
    rw [he] at HPR
    rw [e0] at HHEX
    clear hrt h255 hHS e0 e1 e2 e3 e4 e5 hs0 hs1 hs2 hs3 hs4 he hs
    go_wp2_with fail
    refine wp_region_noPanic ?_
    refine wp_region_held_drew (S := fun W => Below w2.heap.size w2 W) (by kernel_rfl) ?_ (fun hHeld => ?_)
    · exact (Below.refl _ _).drew
    refine wpAnyH_take (i := 0) (v := ?_) (by simp only [List.getElem?_toArray, List.getElem?_cons_zero]; rfl) (by kernel_rfl) (by kernel_rfl) (by kernel_rfl) (fun _ _ _ h => h) (Or.inl ⟨by rfl, ?_⟩) (by assumption) ?_
    rotate_left
    · intro W hSW
      go_simp
      try with_reducible rfl
    try simp only [Act.put, List.setIfInBounds_toArray, List.set_cons_zero, List.set_cons_succ]
    refine wpAnyH_take (i := 1) (v := .string p) (by simp only [List.getElem?_toArray, List.getElem?_cons_succ, List.getElem?_cons_zero]; rfl) (by kernel_rfl) (by kernel_rfl) (by kernel_rfl) (fun _ _ _ h => h) (Or.inl ⟨by rfl, ?_⟩) (by assumption) ?_
    · intro W hSW
      have hcW := HCELL.out W hSW
      go_simp
      try with_reducible rfl
    try simp only [Act.put, List.setIfInBounds_toArray, List.set_cons_zero, List.set_cons_succ]
    refine wpAnyH_take (i := 2) (v := ?_) (by simp only [List.getElem?_toArray, List.getElem?_cons_succ, List.getElem?_cons_zero]; rfl) (by kernel_rfl) (by kernel_rfl) (by kernel_rfl) (fun _ _ _ h => h) (Or.inl ⟨by rfl, ?_⟩) (by assumption) ?_
    rotate_left
    · intro W hSW
      go_simp
      try with_reducible rfl
    try simp only [Act.put, List.setIfInBounds_toArray, List.set_cons_zero, List.set_cons_succ]
    refine wpAnyH_take (i := 3) (v := ?_) (by simp only [List.getElem?_toArray, List.getElem?_cons_succ, List.getElem?_cons_zero]; rfl) (by kernel_rfl) (by kernel_rfl) (by kernel_rfl) (fun _ _ _ h => h) (Or.inl ⟨by rfl, ?_⟩) (by assumption) ?_
    rotate_left
    · intro W hSW
      go_simp
      try with_reducible rfl
    try simp only [Act.put, List.setIfInBounds_toArray, List.set_cons_zero, List.set_cons_succ]
    refine wpAnyH_take (i := 4) (v := ?_) (by simp only [List.getElem?_toArray, List.getElem?_cons_succ, List.getElem?_cons_zero]; rfl) (by kernel_rfl) (by kernel_rfl) (by kernel_rfl) (fun _ _ _ h => h) (Or.inl ⟨by rfl, ?_⟩) (by assumption) ?_
    rotate_left
    · intro W hSW
      go_simp
      try with_reducible rfl
    try simp only [Act.put, List.setIfInBounds_toArray, List.set_cons_zero, List.set_cons_succ]
    refine wpAnyH_take (i := 5) (by simp only [List.getElem?_toArray, List.getElem?_cons_succ, List.getElem?_cons_zero]; rfl) (by kernel_rfl) (by kernel_rfl) (by kernel_rfl) (fun _ _ _ h => h) (yieldsIf_load_mid (by rfl) 23 _ rfl w.heap.size 1 rfl (id.map (Value.int .u8)) (.array 20 5) (fun W hSW => HRNG.out W hSW) Tryd.underlying23 rfl HIL.out) (by assumption) ?_
    try simp only [Act.put, List.setIfInBounds_toArray, List.set_cons_zero, List.set_cons_succ]
    refine wpAnyH_take (i := 9) (v := ?_) (by simp only [List.getElem?_toArray, List.getElem?_cons_succ, List.getElem?_cons_zero]; rfl) (by kernel_rfl) (by kernel_rfl) (by kernel_rfl) (fun _ _ _ h => h) (Or.inl ⟨by rfl, ?_⟩) (by assumption) ?_
    rotate_left
    · intro W hSW
      go_simp
      try with_reducible rfl
    try simp only [Act.put, List.setIfInBounds_toArray, List.set_cons_zero, List.set_cons_succ]
    refine wpAnyH_ready (rs := [6]) (by kernel_rfl) (by simp) ?_
    refine AllReadyH.cons (by simp only [List.getElem?_toArray, List.getElem?_cons_succ, List.getElem?_cons_zero]; rfl) (fun K hK => ?_) AllReadyH.nil
    go_simp
    refine (HHEX.out _).mono ?_
    rintro e w5 ⟨rfl, hb⟩
    have hbb : Below w2.heap.size w2 w5 := (Below.refl _ _).drew.trans hb
    have HB5 := Lib.hid hbb
    clear hb
    go_wp2_with fail
    refine hK.out _ _ (hbb) (fun hHeld2 => ?_)
    clear hK K hHeld
    have hHeld := hHeld2
    clear hHeld2
    try simp only [Act.put, List.setIfInBounds_toArray, List.set_cons_zero, List.set_cons_succ]
    clear hbb
    refine wpAnyH_take (i := 7) (v := ?_) (by simp only [List.getElem?_toArray, List.getElem?_cons_succ, List.getElem?_cons_zero]; rfl) (by kernel_rfl) (by kernel_rfl) (by kernel_rfl) (fun _ _ _ h => h) (Or.inl ⟨by rfl, ?_⟩) (by assumption) ?_
    rotate_left
    · intro W hSW
      go_simp
      try with_reducible rfl
    try simp only [Act.put, List.setIfInBounds_toArray, List.set_cons_zero, List.set_cons_succ]
    refine wpAnyH_take (i := 8) (v := ?_) (by simp only [List.getElem?_toArray, List.getElem?_cons_succ, List.getElem?_cons_zero]; rfl) (by kernel_rfl) (by kernel_rfl) (by kernel_rfl) (fun _ _ _ h => h) (Or.inl ⟨by rfl, ?_⟩) (by assumption) ?_
    rotate_left
    · intro W hSW
      go_simp
      try with_reducible rfl
    try simp only [Act.put, List.setIfInBounds_toArray, List.set_cons_zero, List.set_cons_succ]
    refine wpAnyH_take (i := 10) (v := ?_) (by simp only [List.getElem?_toArray, List.getElem?_cons_succ, List.getElem?_cons_zero]; rfl) (by kernel_rfl) (by kernel_rfl) (by kernel_rfl) (fun _ _ _ h => h) (Or.inl ⟨by rfl, ?_⟩) (by assumption) ?_
    rotate_left
    · intro W hSW
      go_simp
      try with_reducible rfl
    try simp only [Act.put, List.setIfInBounds_toArray, List.set_cons_zero, List.set_cons_succ]
    refine wpAnyH_take (i := 11) (v := ?_) (by simp only [List.getElem?_toArray, List.getElem?_cons_succ, List.getElem?_cons_zero]; rfl) (by kernel_rfl) (by kernel_rfl) (by kernel_rfl) (fun _ _ _ h => h) (Or.inl ⟨by rfl, ?_⟩) (by assumption) ?_
    rotate_left
    · intro W hSW
      go_simp
      try with_reducible rfl
    try simp only [Act.put, List.setIfInBounds_toArray, List.set_cons_zero, List.set_cons_succ]
    refine wpAnyH_take (i := 12) (v := ?_) (by simp only [List.getElem?_toArray, List.getElem?_cons_succ, List.getElem?_cons_zero]; rfl) (by kernel_rfl) (by kernel_rfl) (by kernel_rfl) (fun _ _ _ h => h) (Or.inl ⟨by rfl, ?_⟩) (by assumption) ?_
    rotate_left
    · intro W hSW
      go_simp
      try with_reducible rfl
    try simp only [Act.put, List.setIfInBounds_toArray, List.set_cons_zero, List.set_cons_succ]
    refine wpAnyH_done (by kernel_rfl) ?_ _
    refine NoPanic.normal ?_
    go_wp2_with fail
    have HB6 : Hid (Below w.heap.size w w5) := HB2.out.trans (HB5.out.mono HB2.out.size)
    go_ret2
    rw [HPR.out]
    exact ⟨rfl, HB6.out⟩
theorem refPrint_any (s p : ByteArray) (id : List Int) (w : World) (hs : s.size ≤ 10000000) (h20 : id.length = 20) (hb : ∀ x ∈ id, 0 ≤ x ∧ x ≤ 255) :
    Calls Tryd.prog 10 #[.string s, .agg (fromA p id)] w fun e w' => PrintR e (refPrintB s p id) ∧ Below w.heap.size w w' := by
  cases hp : (p.data.toList == (⟨#[]⟩ : ByteArray).data.toList)
  · exact refPrint_named s p id w hs h20 hb hp
  · cases hi : (id == zeros20)
    · exact refPrint_noName s p id w hs h20 hb hp hi
    · exact refPrint_none s p id w hs h20 hb hp hi
theorem print_any (a : Option Addr) (n c : Nat) (xs : List Int) (p : ByteArray) (id : List Int) (w : World) (hE : Env w) (R : RowB w a n c xs) (hn : n ≤ 10000000) (h20 : id.length = 20) (hb : ∀ x ∈ id, 0 ≤ x ∧ x ≤ 255) :
    Calls Tryd.prog 9 #[.slice a n c, .agg (fromA p id)] w fun e w' => PrintOut w.heap.size w' e (printL xs p id) ∧ Below w.heap.size w w' := by
  cases hnf : noFrom p id
  · exact print_some a n c xs p id w hE R hn h20 hb hnf
  · exact print_none a n c xs p id w R hn h20 hnf
theorem numsOf_append (s t : ByteArray) : numsOf (s ++ t) = numsOf s ++ numsOf t := by
  unfold numsOf
  simp
/-- The two tell the same. -/
theorem print_same (s p : ByteArray) (id : List Int) : printL (numsOf s) p id = (refPrintB s p id).map numsOf := by
  unfold printL refPrintB
  rw [pre_begins, toldR_is]
  cases noFrom p id
  · cases rightL p.data.toList
    · rfl
    · simp [numsOf_append]
  · cases beginsT s
    · rfl
    · simp only [if_true, Option.map_some, numsOf_append]
      rfl
end Go.Proofs.YtmkhnlfhbiabcaaDoor
