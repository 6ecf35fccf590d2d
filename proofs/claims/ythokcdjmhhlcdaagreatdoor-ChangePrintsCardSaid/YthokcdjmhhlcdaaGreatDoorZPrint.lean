/- The document's Print of a change: the walk. -/
import Derived.Test.YthokcdjmhhlcdaaGreatDoorZVal
import Derived.Test.YthokcdjmhhlcdaaGreatDoorRefHex
namespace Go.Proofs.YthokcdjmhhlcdaaGreatDoor
open Go.RowKit Plain
set_option linter.unusedVariables false
set_option linter.unusedSimpArgs false
theorem join_snoc (c : UInt8) (v : List UInt8) : ∀ (w : List UInt8) (ws : List (List UInt8)), Lib.join ((w :: ws) ++ [v]) [c] = Lib.join (w :: ws) [c] ++ c :: v
  | w, [] => by
    show Lib.join [w, v] [c] = _
    rw [join_cons2, Lib.join_one, Lib.join_one]
  | w, u :: us => by
    have ih := join_snoc c v u us
    show Lib.join (w :: ((u :: us) ++ [v])) [c] = _
    rw [List.cons_append, join_cons2, join_cons2, ← List.cons_append, ih]
    simp
/-- The extras as they are told behind the zone. -/
def exAcc (xs : List (ByteArray × ByteArray)) : List UInt8 := if xs = [] then [] else 32 :: exsL xs
theorem exAcc_snoc (ys : List (ByteArray × ByteArray)) (x : ByteArray × ByteArray) : exAcc (ys ++ [x]) = exAcc ys ++ (if ys = [] then 32 else 0) :: extL x := by
  unfold exAcc
  rw [if_neg (by simp)]
  cases ys with
  | nil =>
    simp only [List.nil_append, if_true]
    unfold exsL
    rw [List.map_cons, List.map_nil, Lib.join_one]
  | cons y ys =>
    rw [if_neg (by simp), if_neg (by simp)]
    unfold exsL
    rw [List.map_append, List.map_cons, List.map_cons, List.map_nil, join_snoc]
    rfl
def ChWee (c : CX) : Prop := c.u.size ≤ 3000 ∧ c.d.size ≤ 3000 ∧ c.xs.length ≤ 3000 ∧ c.fs.length ≤ 3000 ∧ (∀ x ∈ c.xs, x.1.size ≤ 3000 ∧ x.2.size ≤ 3000) ∧ (∀ p ∈ c.fs, p.size ≤ 3000) ∧ (-9223372036854775808 ≤ c.t ∧ c.t ≤ 9223372036854775807) ∧ (-9223372036854775808 ≤ c.z ∧ c.z ≤ 9223372036854775807)
theorem exAcc_len (xs : List (ByteArray × ByteArray)) (h : ∀ x ∈ xs, x.1.size ≤ 3000 ∧ x.2.size ≤ 3000) : (exAcc xs).length ≤ xs.length * 9002 + 1 := by
  unfold exAcc
  split
  · simp
  · unfold exsL
    have := join_len 0 9001 (xs.map extL) (fun v hv => by
      obtain ⟨x, hx, rfl⟩ := List.mem_map.1 hv
      unfold extL
      have b1 := valueL_len x.2.data.toList
      have b2 := h x hx
      rw [List.length_append, List.length_cons]
      rw [Lib.size_eq, Lib.size_eq] at b2
      omega)
    rw [List.length_map] at this
    rw [List.length_cons]
    omega
/-- Files, a line each. -/
def fiAcc (fs : List ByteArray) : List UInt8 := fs.flatMap fun p => p.data.toList ++ [10]
theorem fiAcc_snoc (fs : List ByteArray) (p : ByteArray) : fiAcc (fs ++ [p]) = fiAcc fs ++ p.data.toList ++ [10] := by
  unfold fiAcc
  rw [List.flatMap_append]
  simp
theorem fiAcc_len : ∀ (fs : List ByteArray), (∀ p ∈ fs, p.size ≤ 3000) → (fiAcc fs).length ≤ fs.length * 3001
  | [], _ => by simp [fiAcc]
  | p :: fs, h => by
    have ih := fiAcc_len fs (fun q hq => h q (List.mem_cons_of_mem _ hq))
    have hp := h p (by simp)
    rw [Lib.size_eq] at hp
    unfold fiAcc at ih ⊢
    rw [List.flatMap_cons, List.length_append, List.length_append]
    simp only [List.length_cons, List.length_nil]
    omega
theorem join_lines : ∀ (fs : List ByteArray) (d : List UInt8), Lib.join (fs.map (·.data.toList) ++ [[], d]) [10] = fiAcc fs ++ 10 :: d
  | [], d => by
    show Lib.join [[], d] [10] = _
    rw [join_cons2, Lib.join_one]; rfl
  | p :: fs, d => by
    have ih := join_lines fs d
    obtain ⟨y, r, hy⟩ : ∃ y r, fs.map (·.data.toList) ++ [[], d] = y :: r := by cases fs <;> exact ⟨_, _, rfl⟩
    rw [List.map_cons, List.cons_append, hy, join_cons2, ← hy, ih]
    unfold fiAcc
    rw [List.flatMap_cons]
    simp
theorem printL_acc (c : CX) : printL c = ((hexOf c.n ++ [10] ++ c.u.data.toList ++ [10] ++ Lib.itoa c.t ++ [32] ++ Lib.itoa c.z) ++ exAcc c.xs) ++ [10] ++ fiAcc c.fs ++ [10] ++ c.d.data.toList := by
  rw [printL_eq, join_lines]
  unfold dateL exAcc
  simp only [List.append_assoc, List.cons_append, List.nil_append]
theorem add_list (a b : ByteArray) (l : List UInt8) (h : a.data.toList ++ b.data.toList = l) (hs : a.size + b.size ≤ 1000000000) (W : World) : (binOp .add 9 (.string a) (.string b)).run Tryz.prog W = .ok (.string (txt l)) W := by
  rw [add_op a b hs W, ← h]
  congr 2
theorem guard_eqi (x y : Operand) (s t : Int) (W : World) : (eqGuard .eql 3 x y (.int .i64 s) (.int .i64 t)).run Tryz.prog W = .ok () W := by simp [eqGuard]
theorem eql_int (s t : Int) (W : World) : (binOp .eql 3 (.int .i64 s) (.int .i64 t)).run Tryz.prog W = .ok (.bool (s == t)) W := by
  simp [binOp, go_sem]
theorem rhex_any (ids : List Int) (w : World) (h20 : ids.length = 20) (hb : ∀ x ∈ ids, 0 ≤ x ∧ x ≤ 255) :
    Calls Tryz.prog 21 #[.agg (U8 ids).toArray] w fun e w' => e = .returned (.string (txt (hexOf ids))) ∧ Below w.heap.size w w' := by
  refine (refHex_any ids w h20 hb).mono ?_
  rintro e w' ⟨rfl, h⟩
  refine ⟨?_, h⟩
  rw [hexN_text ids hb]; rfl
theorem id_info22 (xs : List Int) (h : xs.length = 20) : (Tryz.prog.info? 22).map (·.size) = some (U8 xs).length := by rw [U8_length, h]; kernel_rfl
set_option maxRecDepth 100000 in
set_option maxHeartbeats 32000000 in
theorem rchprint_any (c : CX) (xa : Option Addr) (xc : Nat) (fa : Option Addr) (fc : Nat) (w : World) (h20 : c.n.length = 20) (hby : ∀ x ∈ c.n, 0 ≤ x ∧ x ≤ 255) (hx : RowAt 2 extE w xa c.xs) (hf : RowAt 1 strE w fa c.fs) (hs : ChWee c) :
    Calls Tryz.prog 10 #[.agg (chV c xa xc fa fc)] w fun e w' => e = .returned (.string (txt (printL c))) ∧ Below w.heap.size w w' := by
  obtain ⟨hus, hds, hxs, hfs, hxz, hfz, ht64, hz64⟩ := hs
  obtain ⟨n, hN⟩ : ∃ n, c.xs.length = n := ⟨_, rfl⟩
  obtain ⟨fn, hFN⟩ : ∃ n, c.fs.length = n := ⟨_, rfl⟩
  have HN := Lib.hid hN
  have HFN := Lib.hid hFN
  have HNB : Hid (n ≤ 3000) := by rw [← hN]; exact hxs
  have HFB : Hid (fn ≤ 3000) := by rw [← hFN]; exact hfs
  have HUB := Lib.hid hus
  have HDB := Lib.hid hds
  have HXZ := Lib.hid hxz
  have HFZ := Lib.hid hfz
  have HTB := Lib.hid ht64
  have HZB := Lib.hid hz64
  have HAX := Lib.hid hx
  have HAF := Lib.hid hf
  have HN20 := Lib.hid h20
  have HBY := Lib.hid hby
  have HIDI := Lib.hid (id_info22 c.n h20)
  unfold chV
  rw [hN, hFN]
  have HB0 : Hid (Below w.heap.size w (w.alloc (.cells (chA c (.slice xa n xc) (.slice fa fn fc)) 26))) := (Below.refl _ _).alloc (Nat.le_refl _) _
  have HCW0 : Hid (ChRow (w.alloc (.cells (chA c (.slice xa n xc) (.slice fa fn fc)) 26)) w.heap.size c (.slice xa n xc) (.slice fa fn fc)) := ChRow.of (heap_alloc_new _ _) h20
  have HSZ0 : Hid (w.heap.size < (w.alloc (.cells (chA c (.slice xa n xc) (.slice fa fn fc)) 26)).heap.size) := by show _ < _; simp
  clear hN hFN h20 hby hx hf hxs hfs hus hds hxz hfz ht64 hz64
  go_enter Tryz.func10, Tryz.ntmps10
  go_wp2_with fail
  have HCW : Hid (∀ W, Below (w.alloc (.cells (chA c (.slice xa n xc) (.slice fa fn fc)) 26)).heap.size (w.alloc (.cells (chA c (.slice xa n xc) (.slice fa fn fc)) 26)) W → ChRow W w.heap.size c (.slice xa n xc) (.slice fa fn fc)) := fun W hW => HCW0.out.below HSZ0.out hW
  generalize w.alloc (.cells (chA c (.slice xa n xc) (.slice fa fn fc)) 26) = w0 at *
  obtain ⟨p0, hp0⟩ : ∃ p, w.heap.size = p := ⟨_, rfl⟩
  have HPE := Lib.hid hp0
  rw [hp0] at HCW ⊢
  clear hp0 HCW0
  have hla := itoa_len c.t HTB.out
  have hlz := itoa_len c.z HZB.out
  have hlh : (hexOf c.n).length = 40 := by rw [hexOf_length, HN20.out]
  have hlu : c.u.data.toList.length ≤ 3000 := by rw [← Lib.size_eq]; exact HUB.out
  obtain ⟨T1, h1⟩ : ∃ l, hexOf c.n ++ [10] = l := ⟨_, rfl⟩
  obtain ⟨T2, h2⟩ : ∃ l, T1 ++ c.u.data.toList = l := ⟨_, rfl⟩
  obtain ⟨T3, h3⟩ : ∃ l, T2 ++ [10] = l := ⟨_, rfl⟩
  obtain ⟨T4, h4⟩ : ∃ l, T3 ++ Lib.itoa c.t = l := ⟨_, rfl⟩
  obtain ⟨T5, h5⟩ : ∃ l, T4 ++ [32] = l := ⟨_, rfl⟩
  obtain ⟨T6, h6⟩ : ∃ l, T5 ++ Lib.itoa c.z = l := ⟨_, rfl⟩
  have l1 : T1.length = 41 := by rw [← h1, List.length_append, hlh]; rfl
  have l2 : T2.length ≤ 3041 := by rw [← h2, List.length_append, l1]; omega
  have l3 : T3.length ≤ 3042 := by rw [← h3, List.length_append]; simp; omega
  have l4 : T4.length ≤ 3063 := by rw [← h4, List.length_append]; omega
  have l5 : T5.length ≤ 3064 := by rw [← h5, List.length_append]; simp; omega
  have l6 : T6.length ≤ 3085 := by rw [← h6, List.length_append]; omega
  have HA1 : Hid (∀ W, (binOp .add 9 (.string (txt (hexOf c.n))) (.string ⟨#[10]⟩)).run Tryz.prog W = .ok (.string (txt T1)) W) := fun W => add_list _ _ _ (by rw [txt_list, ← h1]) (by rw [txt_size, hlh]; decide) W
  have HA2 : Hid (∀ W, (binOp .add 9 (.string (txt T1)) (.string c.u)).run Tryz.prog W = .ok (.string (txt T2)) W) := fun W => add_list _ _ _ (by rw [txt_list, ← h2]) (by rw [txt_size, l1, Lib.size_eq]; omega) W
  have HA3 : Hid (∀ W, (binOp .add 9 (.string (txt T2)) (.string ⟨#[10]⟩)).run Tryz.prog W = .ok (.string (txt T3)) W) := fun W => add_list _ _ _ (by rw [txt_list, ← h3]) (by rw [txt_size]; show _ + 1 ≤ _; omega) W
  have HA4 : Hid (∀ W, (binOp .add 9 (.string (txt T3)) (.string (txt (Lib.itoa c.t)))).run Tryz.prog W = .ok (.string (txt T4)) W) := fun W => add_list _ _ _ (by rw [txt_list, txt_list, ← h4]) (by rw [txt_size, txt_size]; omega) W
  have HA5 : Hid (∀ W, (binOp .add 9 (.string (txt T4)) (.string ⟨#[32]⟩)).run Tryz.prog W = .ok (.string (txt T5)) W) := fun W => add_list _ _ _ (by rw [txt_list, ← h5]) (by rw [txt_size]; show _ + 1 ≤ _; omega) W
  have HA6 : Hid (∀ W, (binOp .add 9 (.string (txt T5)) (.string (txt (Lib.itoa c.z)))).run Tryz.prog W = .ok (.string (txt T6)) W) := fun W => add_list _ _ _ (by rw [txt_list, txt_list, ← h6]) (by rw [txt_size, txt_size]; omega) W
  have HT6 : Hid (T6 = hexOf c.n ++ [10] ++ c.u.data.toList ++ [10] ++ Lib.itoa c.t ++ [32] ++ Lib.itoa c.z) := by show _ = _; rw [h1, h2, h3, h4, h5, h6]
  have HL6 := Lib.hid l6
  clear h1 h2 h3 h4 h5 h6 l1 l2 l3 l4 l5 l6 hla hlz hlh hlu
  refine wp_region_noPanic ?_
  refine wp_region_held_drew (S := fun W => Below w0.heap.size w0 W) (by kernel_rfl) ?_ (fun hHeld => ?_)
  · exact (Below.refl _ _).drew
  refine wpAnyH_take (i := 0) (v := ?_) (by simp only [List.getElem?_toArray, List.getElem?_cons_zero]; rfl) (by kernel_rfl) (by kernel_rfl) (by kernel_rfl) (fun _ _ _ h => h) (Or.inl ⟨by rfl, ?_⟩) (by assumption) ?_
  rotate_left
  · intro W hSW
    go_simp
    try with_reducible rfl
  try simp only [Act.put, List.setIfInBounds_toArray, List.set_cons_zero, List.set_cons_succ]
  refine wpAnyH_take (i := 1) (by simp only [List.getElem?_toArray, List.getElem?_cons_succ, List.getElem?_cons_zero]; rfl) (by kernel_rfl) (by kernel_rfl) (by kernel_rfl) (fun _ _ _ h => h) (yieldsIf_load_mid (by rfl) 22 _ rfl p0 0 rfl (U8 c.n) (.array 20 5) (fun W hSW => (HCW.out W hSW).id) Tryz.underlying22 rfl HIDI.out) (by assumption) ?_
  try simp only [Act.put, List.setIfInBounds_toArray, List.set_cons_zero, List.set_cons_succ]
  refine wpAnyH_take (i := 4) (v := ?_) (by simp only [List.getElem?_toArray, List.getElem?_cons_succ, List.getElem?_cons_zero]; rfl) (by kernel_rfl) (by kernel_rfl) (by kernel_rfl) (fun _ _ _ h => h) (Or.inl ⟨by rfl, ?_⟩) (by assumption) ?_
  rotate_left
  · intro W hSW
    go_simp
    try with_reducible rfl
  try simp only [Act.put, List.setIfInBounds_toArray, List.set_cons_zero, List.set_cons_succ]
  refine wpAnyH_take (i := 5) (by simp only [List.getElem?_toArray, List.getElem?_cons_succ, List.getElem?_cons_zero]; rfl) (by kernel_rfl) (by kernel_rfl) (by kernel_rfl) (fun _ _ _ h => h) (yieldsIf_load_str (by rfl) 9 _ rfl p0 20 rfl c.u (fun W hSW => (HCW.out W hSW).user) Tryz.underlying9) (by assumption) ?_
  try simp only [Act.put, List.setIfInBounds_toArray, List.set_cons_zero, List.set_cons_succ]
  refine wpAnyH_take (i := 8) (v := ?_) (by simp only [List.getElem?_toArray, List.getElem?_cons_succ, List.getElem?_cons_zero]; rfl) (by kernel_rfl) (by kernel_rfl) (by kernel_rfl) (fun _ _ _ h => h) (Or.inl ⟨by rfl, ?_⟩) (by assumption) ?_
  rotate_left
  · intro W hSW
    go_simp
    try with_reducible rfl
  try simp only [Act.put, List.setIfInBounds_toArray, List.set_cons_zero, List.set_cons_succ]
  refine wpAnyH_take (i := 9) (by simp only [List.getElem?_toArray, List.getElem?_cons_succ, List.getElem?_cons_zero]; rfl) (by kernel_rfl) (by kernel_rfl) (by kernel_rfl) (fun _ _ _ h => h) (yieldsIf_load_int (by rfl) 3 _ rfl p0 21 rfl c.t (fun W hSW => (HCW.out W hSW).time) Tryz.underlying3) (by assumption) ?_
  try simp only [Act.put, List.setIfInBounds_toArray, List.set_cons_zero, List.set_cons_succ]
  refine wpAnyH_take (i := 13) (v := ?_) (by simp only [List.getElem?_toArray, List.getElem?_cons_succ, List.getElem?_cons_zero]; rfl) (by kernel_rfl) (by kernel_rfl) (by kernel_rfl) (fun _ _ _ h => h) (Or.inl ⟨by rfl, ?_⟩) (by assumption) ?_
  rotate_left
  · intro W hSW
    go_simp
    try with_reducible rfl
  try simp only [Act.put, List.setIfInBounds_toArray, List.set_cons_zero, List.set_cons_succ]
  refine wpAnyH_take (i := 14) (by simp only [List.getElem?_toArray, List.getElem?_cons_succ, List.getElem?_cons_zero]; rfl) (by kernel_rfl) (by kernel_rfl) (by kernel_rfl) (fun _ _ _ h => h) (yieldsIf_load_int (by rfl) 3 _ rfl p0 22 rfl c.z (fun W hSW => (HCW.out W hSW).zone) Tryz.underlying3) (by assumption) ?_
  try simp only [Act.put, List.setIfInBounds_toArray, List.set_cons_zero, List.set_cons_succ]
  refine wpAnyH_ready (rs := [2]) (by kernel_rfl) (by simp) ?_
  refine AllReadyH.cons (by simp only [List.getElem?_toArray, List.getElem?_cons_succ, List.getElem?_cons_zero]; rfl) (fun K hK => ?_) AllReadyH.nil
  go_simp
  refine (rhex_any c.n _ HN20.out HBY.out).mono ?_
  rintro e v1 ⟨rfl, hb⟩
  have hb1 : Below w0.heap.size w0 v1 := (Below.refl _ _).drew.trans hb
  have HV1 := Lib.hid hb1
  clear hb hb1
  go_wp2_with fail
  refine hK.out _ _ (HV1.out) (fun hHeld2 => ?_)
  clear hK K hHeld
  have hHeld := hHeld2
  clear hHeld2
  try simp only [Act.put, List.setIfInBounds_toArray, List.set_cons_zero, List.set_cons_succ]
  refine wpAnyH_take (i := 3) (by simp only [List.getElem?_toArray, List.getElem?_cons_succ, List.getElem?_cons_zero]; rfl) (by kernel_rfl) (by kernel_rfl) (by kernel_rfl) (fun _ _ _ h => h) (yieldsIf_eql (by rfl) .add 9 _ _ _ rfl (.string (txt (hexOf c.n))) (.string ⟨#[10]⟩) rfl rfl (.string (txt T1)) (guard_add _ _ _ _) (fun W => HA1.out W)) (by assumption) ?_
  try simp only [Act.put, List.setIfInBounds_toArray, List.set_cons_zero, List.set_cons_succ]
  refine wpAnyH_take (i := 6) (by simp only [List.getElem?_toArray, List.getElem?_cons_succ, List.getElem?_cons_zero]; rfl) (by kernel_rfl) (by kernel_rfl) (by kernel_rfl) (fun _ _ _ h => h) (yieldsIf_eql (by rfl) .add 9 _ _ _ rfl (.string (txt T1)) (.string c.u) rfl rfl (.string (txt T2)) (guard_add _ _ _ _) (fun W => HA2.out W)) (by assumption) ?_
  try simp only [Act.put, List.setIfInBounds_toArray, List.set_cons_zero, List.set_cons_succ]
  refine wpAnyH_take (i := 7) (by simp only [List.getElem?_toArray, List.getElem?_cons_succ, List.getElem?_cons_zero]; rfl) (by kernel_rfl) (by kernel_rfl) (by kernel_rfl) (fun _ _ _ h => h) (yieldsIf_eql (by rfl) .add 9 _ _ _ rfl (.string (txt T2)) (.string ⟨#[10]⟩) rfl rfl (.string (txt T3)) (guard_add _ _ _ _) (fun W => HA3.out W)) (by assumption) ?_
  try simp only [Act.put, List.setIfInBounds_toArray, List.set_cons_zero, List.set_cons_succ]
  refine wpAnyH_ready (rs := [10]) (by kernel_rfl) (by simp) ?_
  refine AllReadyH.cons (by simp only [List.getElem?_toArray, List.getElem?_cons_succ, List.getElem?_cons_zero]; rfl) (fun K hK => ?_) AllReadyH.nil
  go_simp
  refine (rdec_any c.t HTB.out.1 HTB.out.2 _).mono ?_
  rintro e v2 ⟨rfl, hb⟩
  have hb2 : Below w0.heap.size w0 v2 := HV1.out.trans (hb.mono HV1.out.size)
  have HV2 := Lib.hid hb2
  clear hb hb2
  go_wp2_with fail
  refine hK.out _ _ (HV2.out) (fun hHeld2 => ?_)
  clear hK K hHeld
  have hHeld := hHeld2
  clear hHeld2
  try simp only [Act.put, List.setIfInBounds_toArray, List.set_cons_zero, List.set_cons_succ]
  refine wpAnyH_take (i := 11) (by simp only [List.getElem?_toArray, List.getElem?_cons_succ, List.getElem?_cons_zero]; rfl) (by kernel_rfl) (by kernel_rfl) (by kernel_rfl) (fun _ _ _ h => h) (yieldsIf_eql (by rfl) .add 9 _ _ _ rfl (.string (txt T3)) (.string (txt (Lib.itoa c.t))) rfl rfl (.string (txt T4)) (guard_add _ _ _ _) (fun W => HA4.out W)) (by assumption) ?_
  try simp only [Act.put, List.setIfInBounds_toArray, List.set_cons_zero, List.set_cons_succ]
  refine wpAnyH_take (i := 12) (by simp only [List.getElem?_toArray, List.getElem?_cons_succ, List.getElem?_cons_zero]; rfl) (by kernel_rfl) (by kernel_rfl) (by kernel_rfl) (fun _ _ _ h => h) (yieldsIf_eql (by rfl) .add 9 _ _ _ rfl (.string (txt T4)) (.string ⟨#[32]⟩) rfl rfl (.string (txt T5)) (guard_add _ _ _ _) (fun W => HA5.out W)) (by assumption) ?_
  try simp only [Act.put, List.setIfInBounds_toArray, List.set_cons_zero, List.set_cons_succ]
  refine wpAnyH_ready (rs := [15]) (by kernel_rfl) (by simp) ?_
  refine AllReadyH.cons (by simp only [List.getElem?_toArray, List.getElem?_cons_succ, List.getElem?_cons_zero]; rfl) (fun K hK => ?_) AllReadyH.nil
  go_simp
  refine (rdec_any c.z HZB.out.1 HZB.out.2 _).mono ?_
  rintro e v3 ⟨rfl, hb⟩
  have hb3 : Below w0.heap.size w0 v3 := HV2.out.trans (hb.mono HV2.out.size)
  have HV3 := Lib.hid hb3
  clear hb hb3
  go_wp2_with fail
  refine hK.out _ _ (HV3.out) (fun hHeld2 => ?_)
  clear hK K hHeld
  have hHeld := hHeld2
  clear hHeld2
  try simp only [Act.put, List.setIfInBounds_toArray, List.set_cons_zero, List.set_cons_succ]
  refine wpAnyH_take (i := 16) (by simp only [List.getElem?_toArray, List.getElem?_cons_succ, List.getElem?_cons_zero]; rfl) (by kernel_rfl) (by kernel_rfl) (by kernel_rfl) (fun _ _ _ h => h) (yieldsIf_eql (by rfl) .add 9 _ _ _ rfl (.string (txt T5)) (.string (txt (Lib.itoa c.z))) rfl rfl (.string (txt T6)) (guard_add _ _ _ _) (fun W => HA6.out W)) (by assumption) ?_
  try simp only [Act.put, List.setIfInBounds_toArray, List.set_cons_zero, List.set_cons_succ]
  refine wpAnyH_take (i := 17) (v := ?_) (by simp only [List.getElem?_toArray, List.getElem?_cons_succ, List.getElem?_cons_zero]; rfl) (by kernel_rfl) (by kernel_rfl) (by kernel_rfl) (fun _ _ _ h => h) (Or.inl ⟨by rfl, ?_⟩) (by assumption) ?_
  rotate_left
  · intro W hSW
    go_simp
    try with_reducible rfl
  try simp only [Act.put, List.setIfInBounds_toArray, List.set_cons_zero, List.set_cons_succ]
  refine wpAnyH_done (by kernel_rfl) ?_ _
  refine NoPanic.normal ?_
  clear hHeld
  obtain ⟨H, hH⟩ : ∃ l, T6 = l := ⟨_, rfl⟩
  rw [hH] at HT6 HL6 ⊢
  clear hH HA1 HA2 HA3 HA4 HA5 HA6
  go_wp2_with fail
  go_loopw [3, 4] (fun s i wr => ∃ (k : Nat) (M : List UInt8), k ≤ n ∧ i = .int .i64 (k : Int) ∧ s = .string (txt M) ∧ M = H ++ exAcc (c.xs.take k) ∧ Below w0.heap.size w0 wr) (fun _ i _ => n - (intOf i).toNat)
  case atStart => exact ⟨0, H, Nat.zero_le _, rfl, rfl, by rw [List.take_zero]; show H = H ++ []; rw [List.append_nil], HV3.out⟩
  case round =>
    rename World => wr
    obtain ⟨k, M, hk, rfl, rfl, hM, hb⟩ := hrel
    have HME := Lib.hid hM
    have HBW := Lib.hid hb
    have WK := Lib.hid (next_int k (by have := HNB.out; omega))
    have HMB : Hid (M.length ≤ 28000000) := by
      have h1 := exAcc_len (c.xs.take k) (fun x hx => HXZ.out x (List.mem_of_mem_take hx))
      rw [List.length_take] at h1
      have h2 := HNB.out
      have h3 := HN.out
      have h4 := HL6.out
      have h5 : min k c.xs.length * 9002 ≤ 3000 * 9002 := Nat.mul_le_mul_right _ (by omega)
      show _ ≤ _
      rw [hM, List.length_append]
      omega
    clear hM hb
    have hcx := (HCW.out wr HBW.out).exts
    by_cases hkn : k < n
    · have hki : (k : Int) < (n : Int) := by omega
      have HKN := Lib.hid hkn
      rcases HAX.out with h0 | ⟨b, off, rfl, hbl, hc⟩
      · rw [HN.out] at h0; omega
      have HROW : Hid (∀ (j : Nat) y, c.xs[j]? = some y → ∀ W, Below w0.heap.size w0 W → W.rangeAt b (off + j * 2) (extE y)) := fun j y hj W hW => range_below (hc j y hj) (HB0.out.trans (hW.mono HB0.out.size)) hbl
      obtain ⟨x, hp⟩ : ∃ x, c.xs[k]? = some x := ⟨_, List.getElem?_eq_getElem (by rw [HN.out]; exact hkn)⟩
      have HP := Lib.hid hp
      have HXS := Lib.hid (HXZ.out x (List.mem_of_getElem? hp))
      have HTK : Hid (c.xs.take (k + 1) = c.xs.take k ++ [x]) := take_snoc hp
      have HVC : Hid (∀ W, Calls Tryz.prog 23 #[.string x.2] W fun e w' => e = .returned (.string (txt (valueL x.2.data.toList))) ∧ Below W.heap.size W w') := fun W => by
        have := rvalue_any x.2.data.toList W (by rw [← Lib.size_eq]; have := HXS.out.2; omega)
        rwa [txt_of] at this
      have HTK0 : Hid (k ≠ 0 → ¬ c.xs.take k = []) := fun hk0 e => by
        have := congrArg List.length e
        rw [List.length_take, HN.out] at this
        have := HKN.out
        simp only [List.length_nil] at *
        omega
      clear hp hbl hc hkn hk
      by_cases hk0 : k = 0
      · have HZ : Hid (c.xs.take k = []) := by show _ = _; rw [hk0, List.take_zero]
        have HTEST : Hid (∀ W, (binOp .eql 3 (.int .i64 (k : Int)) (.int .i64 0)).run Tryz.prog W = .ok (.bool true) W) := fun W => by rw [eql_int, hk0]; rfl
        clear hk0
        obtain ⟨M1, hM1⟩ : ∃ l, M ++ [32] = l := ⟨_, rfl⟩
        have HM1 : Hid (∀ W, (binOp .add 9 (.string (txt M)) (.string ⟨#[32]⟩)).run Tryz.prog W = .ok (.string (txt M1)) W) := fun W => add_list _ _ _ (by rw [txt_list, ← hM1]) (by rw [txt_size]; have := HMB.out; show _ + 1 ≤ _; omega) W
        have HL1 : Hid (M1.length ≤ 40000000) := by show _ ≤ _; rw [← hM1, List.length_append]; have := HMB.out; simp; omega
        obtain ⟨M2, hM2⟩ : ∃ l, M1 ++ x.1.data.toList = l := ⟨_, rfl⟩
        have HM2 : Hid (∀ W, (binOp .add 9 (.string (txt M1)) (.string x.1)).run Tryz.prog W = .ok (.string (txt M2)) W) := fun W => add_list _ _ _ (by rw [txt_list, ← hM2]) (by rw [txt_size]; have := HL1.out; have := HXS.out; omega) W
        have HL2 : Hid (M2.length ≤ 40003000) := by show _ ≤ _; rw [← hM2, List.length_append, ← Lib.size_eq]; have := HL1.out; have := HXS.out; omega
        obtain ⟨M3, hM3⟩ : ∃ l, M2 ++ [58] = l := ⟨_, rfl⟩
        have HM3 : Hid (∀ W, (binOp .add 9 (.string (txt M2)) (.string ⟨#[58]⟩)).run Tryz.prog W = .ok (.string (txt M3)) W) := fun W => add_list _ _ _ (by rw [txt_list, ← hM3]) (by rw [txt_size]; have := HL2.out; show _ + 1 ≤ _; omega) W
        have HL3 : Hid (M3.length ≤ 40003001) := by show _ ≤ _; rw [← hM3, List.length_append]; have := HL2.out; simp; omega
        obtain ⟨M4, hM4⟩ : ∃ l, M3 ++ valueL x.2.data.toList = l := ⟨_, rfl⟩
        have HM4 : Hid (∀ W, (binOp .add 9 (.string (txt M3)) (.string (txt (valueL x.2.data.toList)))).run Tryz.prog W = .ok (.string (txt M4)) W) := fun W => add_list _ _ _ (by rw [txt_list, txt_list, ← hM4]) (by rw [txt_size, txt_size]; have := HL3.out; have := valueL_len x.2.data.toList; have := HXS.out; rw [Lib.size_eq x.2] at this; omega) W
        have HNEW : Hid (M4 = H ++ exAcc (c.xs.take (k + 1))) := by
          show _ = _
          rw [← hM4, ← hM3, ← hM2, ← hM1, HME.out, HTK.out, exAcc_snoc, if_pos HZ.out]
          unfold extL
          simp only [List.append_assoc, List.cons_append, List.nil_append]
        clear hM1 hM2 hM3 hM4
        go_wp2_with (first
          | refine wpList_eql (by rfl) .eql 3 _ _ _ rfl (.int .i64 (k : Int)) (.int .i64 0) rfl rfl (.bool true) (guard_eqi _ _ _ _) HTEST.out ?_
          | refine wpList_eql (by rfl) .add 9 _ _ _ rfl (.string (txt M)) (.string ⟨#[32]⟩) rfl rfl (.string (txt M1)) (guard_add _ _ _ _) HM1.out ?_)
        refine wp_region_noPanic ?_
        refine wp_region_held_drew (S := fun W => Below w0.heap.size w0 W) (by kernel_rfl) ?_ (fun hHeld => ?_)
        · exact HBW.out.drew
        refine wpAnyH_take (i := 0) (v := ?_) (by simp only [List.getElem?_toArray, List.getElem?_cons_zero]; rfl) (by kernel_rfl) (by kernel_rfl) (by kernel_rfl) (fun _ _ _ h => h) (Or.inl ⟨by rfl, ?_⟩) (by assumption) ?_
        rotate_left
        · intro W hSW
          go_simp
          try with_reducible rfl
        try simp only [Act.put, List.setIfInBounds_toArray, List.set_cons_zero, List.set_cons_succ]
        refine wpAnyH_take (i := 1) (v := ?_) (by simp only [List.getElem?_toArray, List.getElem?_cons_succ, List.getElem?_cons_zero]; rfl) (by kernel_rfl) (by kernel_rfl) (by kernel_rfl) (fun _ _ _ h => h) (Or.inl ⟨by rfl, ?_⟩) (by assumption) ?_
        rotate_left
        · intro W hSW
          go_simp
          try with_reducible rfl
        try simp only [Act.put, List.setIfInBounds_toArray, List.set_cons_zero, List.set_cons_succ]
        refine wpAnyH_take (i := 2) (by simp only [List.getElem?_toArray, List.getElem?_cons_succ, List.getElem?_cons_zero]; rfl) (by kernel_rfl) (by kernel_rfl) (by kernel_rfl) (fun _ _ _ h => h) (yieldsIf_load_sl (by rfl) 23 _ rfl p0 23 rfl (.slice (some ⟨b, off, none⟩) n xc) (fun W hSW => (HCW.out W hSW).exts) Tryz.underlying23) (by assumption) ?_
        try simp only [Act.put, List.setIfInBounds_toArray, List.set_cons_zero, List.set_cons_succ]
        refine wpAnyH_take (i := 3) (v := ?_) (by simp only [List.getElem?_toArray, List.getElem?_cons_succ, List.getElem?_cons_zero]; rfl) (by kernel_rfl) (by kernel_rfl) (by kernel_rfl) (fun _ _ _ h => h) (Or.inl ⟨by rfl, ?_⟩) (by assumption) ?_
        rotate_left
        · intro W hSW
          go_simp
          try with_reducible rfl
        try simp only [Act.put, List.setIfInBounds_toArray, List.set_cons_zero, List.set_cons_succ]
        refine wpAnyH_take (i := 4) (v := ?_) (by simp only [List.getElem?_toArray, List.getElem?_cons_succ, List.getElem?_cons_zero]; rfl) (by kernel_rfl) (by kernel_rfl) (by kernel_rfl) (fun _ _ _ h => h) (Or.inl ⟨by rfl, ?_⟩) (by assumption) ?_
        rotate_left
        · intro W hSW
          go_simp
          try with_reducible rfl
        try simp only [Act.put, List.setIfInBounds_toArray, List.set_cons_zero, List.set_cons_succ]
        refine wpAnyH_take (i := 5) (v := ?_) (by simp only [List.getElem?_toArray, List.getElem?_cons_succ, List.getElem?_cons_zero]; rfl) (by kernel_rfl) (by kernel_rfl) (by kernel_rfl) (fun _ _ _ h => h) (Or.inl ⟨by rfl, ?_⟩) (by assumption) ?_
        rotate_left
        · intro W hSW
          go_simp
          try with_reducible rfl
        try simp only [Act.put, List.setIfInBounds_toArray, List.set_cons_zero, List.set_cons_succ]
        refine wpAnyH_take (i := 6) (by simp only [List.getElem?_toArray, List.getElem?_cons_succ, List.getElem?_cons_zero]; rfl) (by kernel_rfl) (by kernel_rfl) (by kernel_rfl) (fun _ _ _ h => h) (yieldsIf_load_str (by rfl) 9 _ rfl b (off + k * 2) rfl x.1 (fun W hSW => range_key (HROW.out k x HP.out W hSW)) Tryz.underlying9) (by assumption) ?_
        try simp only [Act.put, List.setIfInBounds_toArray, List.set_cons_zero, List.set_cons_succ]
        refine wpAnyH_take (i := 7) (by simp only [List.getElem?_toArray, List.getElem?_cons_succ, List.getElem?_cons_zero]; rfl) (by kernel_rfl) (by kernel_rfl) (by kernel_rfl) (fun _ _ _ h => h) (yieldsIf_eql (by rfl) .add 9 _ _ _ rfl (.string (txt M1)) (.string x.1) rfl rfl (.string (txt M2)) (guard_add _ _ _ _) (fun W => HM2.out W)) (by assumption) ?_
        try simp only [Act.put, List.setIfInBounds_toArray, List.set_cons_zero, List.set_cons_succ]
        refine wpAnyH_take (i := 8) (by simp only [List.getElem?_toArray, List.getElem?_cons_succ, List.getElem?_cons_zero]; rfl) (by kernel_rfl) (by kernel_rfl) (by kernel_rfl) (fun _ _ _ h => h) (yieldsIf_eql (by rfl) .add 9 _ _ _ rfl (.string (txt M2)) (.string ⟨#[58]⟩) rfl rfl (.string (txt M3)) (guard_add _ _ _ _) (fun W => HM3.out W)) (by assumption) ?_
        try simp only [Act.put, List.setIfInBounds_toArray, List.set_cons_zero, List.set_cons_succ]
        refine wpAnyH_take (i := 9) (v := ?_) (by simp only [List.getElem?_toArray, List.getElem?_cons_succ, List.getElem?_cons_zero]; rfl) (by kernel_rfl) (by kernel_rfl) (by kernel_rfl) (fun _ _ _ h => h) (Or.inl ⟨by rfl, ?_⟩) (by assumption) ?_
        rotate_left
        · intro W hSW
          go_simp
          try with_reducible rfl
        try simp only [Act.put, List.setIfInBounds_toArray, List.set_cons_zero, List.set_cons_succ]
        refine wpAnyH_take (i := 10) (by simp only [List.getElem?_toArray, List.getElem?_cons_succ, List.getElem?_cons_zero]; rfl) (by kernel_rfl) (by kernel_rfl) (by kernel_rfl) (fun _ _ _ h => h) (yieldsIf_load_sl (by rfl) 23 _ rfl p0 23 rfl (.slice (some ⟨b, off, none⟩) n xc) (fun W hSW => (HCW.out W hSW).exts) Tryz.underlying23) (by assumption) ?_
        try simp only [Act.put, List.setIfInBounds_toArray, List.set_cons_zero, List.set_cons_succ]
        refine wpAnyH_take (i := 11) (v := ?_) (by simp only [List.getElem?_toArray, List.getElem?_cons_succ, List.getElem?_cons_zero]; rfl) (by kernel_rfl) (by kernel_rfl) (by kernel_rfl) (fun _ _ _ h => h) (Or.inl ⟨by rfl, ?_⟩) (by assumption) ?_
        rotate_left
        · intro W hSW
          go_simp
          try with_reducible rfl
        try simp only [Act.put, List.setIfInBounds_toArray, List.set_cons_zero, List.set_cons_succ]
        refine wpAnyH_take (i := 12) (v := ?_) (by simp only [List.getElem?_toArray, List.getElem?_cons_succ, List.getElem?_cons_zero]; rfl) (by kernel_rfl) (by kernel_rfl) (by kernel_rfl) (fun _ _ _ h => h) (Or.inl ⟨by rfl, ?_⟩) (by assumption) ?_
        rotate_left
        · intro W hSW
          go_simp
          try with_reducible rfl
        try simp only [Act.put, List.setIfInBounds_toArray, List.set_cons_zero, List.set_cons_succ]
        refine wpAnyH_take (i := 13) (v := ?_) (by simp only [List.getElem?_toArray, List.getElem?_cons_succ, List.getElem?_cons_zero]; rfl) (by kernel_rfl) (by kernel_rfl) (by kernel_rfl) (fun _ _ _ h => h) (Or.inl ⟨by rfl, ?_⟩) (by assumption) ?_
        rotate_left
        · intro W hSW
          go_simp
          try with_reducible rfl
        try simp only [Act.put, List.setIfInBounds_toArray, List.set_cons_zero, List.set_cons_succ]
        refine wpAnyH_take (i := 14) (by simp only [List.getElem?_toArray, List.getElem?_cons_succ, List.getElem?_cons_zero]; rfl) (by kernel_rfl) (by kernel_rfl) (by kernel_rfl) (fun _ _ _ h => h) (yieldsIf_load_str (by rfl) 9 _ rfl b (off + k * 2 + 1) rfl x.2 (fun W hSW => range_val (HROW.out k x HP.out W hSW)) Tryz.underlying9) (by assumption) ?_
        try simp only [Act.put, List.setIfInBounds_toArray, List.set_cons_zero, List.set_cons_succ]
        refine wpAnyH_ready (rs := [15]) (by kernel_rfl) (by simp) ?_
        refine AllReadyH.cons (by simp only [List.getElem?_toArray, List.getElem?_cons_succ, List.getElem?_cons_zero]; rfl) (fun K hK => ?_) AllReadyH.nil
        go_simp
        refine (HVC.out _).mono ?_
        rintro e v1 ⟨rfl, hb⟩
        have hb1 : Below w0.heap.size w0 v1 := HBW.out.drew.trans (hb.mono HBW.out.size)
        have HB1 := Lib.hid hb1
        clear hb hb1
        go_wp2_with fail
        refine hK.out _ _ (HB1.out) (fun hHeld2 => ?_)
        clear hK K hHeld
        have hHeld := hHeld2
        clear hHeld2
        try simp only [Act.put, List.setIfInBounds_toArray, List.set_cons_zero, List.set_cons_succ]
        refine wpAnyH_take (i := 16) (by simp only [List.getElem?_toArray, List.getElem?_cons_succ, List.getElem?_cons_zero]; rfl) (by kernel_rfl) (by kernel_rfl) (by kernel_rfl) (fun _ _ _ h => h) (yieldsIf_eql (by rfl) .add 9 _ _ _ rfl (.string (txt M3)) (.string (txt (valueL x.2.data.toList))) rfl rfl (.string (txt M4)) (guard_add _ _ _ _) (fun W => HM4.out W)) (by assumption) ?_
        try simp only [Act.put, List.setIfInBounds_toArray, List.set_cons_zero, List.set_cons_succ]
        refine wpAnyH_take (i := 17) (v := ?_) (by simp only [List.getElem?_toArray, List.getElem?_cons_succ, List.getElem?_cons_zero]; rfl) (by kernel_rfl) (by kernel_rfl) (by kernel_rfl) (fun _ _ _ h => h) (Or.inl ⟨by rfl, ?_⟩) (by assumption) ?_
        rotate_left
        · intro W hSW
          go_simp
          try with_reducible rfl
        try simp only [Act.put, List.setIfInBounds_toArray, List.set_cons_zero, List.set_cons_succ]
        refine wpAnyH_done (by kernel_rfl) ?_ _
        refine NoPanic.normal ?_
        clear hHeld
        go_wp2_with fail
        exact ⟨⟨k + 1, M4, HKN.out, by first | rw [WK.out _ rfl] | rfl, by first | rfl | trivial, HNEW.out, HB1.out⟩, by have := HKN.out; (first | rw [WK.out _ rfl] | skip); simp [intOf]; omega⟩
      · have HZ : Hid (¬ c.xs.take k = []) := HTK0.out hk0
        have HTEST : Hid (∀ W, (binOp .eql 3 (.int .i64 (k : Int)) (.int .i64 0)).run Tryz.prog W = .ok (.bool false) W) := fun W => by rw [eql_int, beq_eq_false_iff_ne.2 (by omega : (k : Int) ≠ 0)]
        clear hk0
        obtain ⟨M1, hM1⟩ : ∃ l, M ++ [0] = l := ⟨_, rfl⟩
        have HM1 : Hid (∀ W, (binOp .add 9 (.string (txt M)) (.string ⟨#[0]⟩)).run Tryz.prog W = .ok (.string (txt M1)) W) := fun W => add_list _ _ _ (by rw [txt_list, ← hM1]) (by rw [txt_size]; have := HMB.out; show _ + 1 ≤ _; omega) W
        have HL1 : Hid (M1.length ≤ 40000000) := by show _ ≤ _; rw [← hM1, List.length_append]; have := HMB.out; simp; omega
        obtain ⟨M2, hM2⟩ : ∃ l, M1 ++ x.1.data.toList = l := ⟨_, rfl⟩
        have HM2 : Hid (∀ W, (binOp .add 9 (.string (txt M1)) (.string x.1)).run Tryz.prog W = .ok (.string (txt M2)) W) := fun W => add_list _ _ _ (by rw [txt_list, ← hM2]) (by rw [txt_size]; have := HL1.out; have := HXS.out; omega) W
        have HL2 : Hid (M2.length ≤ 40003000) := by show _ ≤ _; rw [← hM2, List.length_append, ← Lib.size_eq]; have := HL1.out; have := HXS.out; omega
        obtain ⟨M3, hM3⟩ : ∃ l, M2 ++ [58] = l := ⟨_, rfl⟩
        have HM3 : Hid (∀ W, (binOp .add 9 (.string (txt M2)) (.string ⟨#[58]⟩)).run Tryz.prog W = .ok (.string (txt M3)) W) := fun W => add_list _ _ _ (by rw [txt_list, ← hM3]) (by rw [txt_size]; have := HL2.out; show _ + 1 ≤ _; omega) W
        have HL3 : Hid (M3.length ≤ 40003001) := by show _ ≤ _; rw [← hM3, List.length_append]; have := HL2.out; simp; omega
        obtain ⟨M4, hM4⟩ : ∃ l, M3 ++ valueL x.2.data.toList = l := ⟨_, rfl⟩
        have HM4 : Hid (∀ W, (binOp .add 9 (.string (txt M3)) (.string (txt (valueL x.2.data.toList)))).run Tryz.prog W = .ok (.string (txt M4)) W) := fun W => add_list _ _ _ (by rw [txt_list, txt_list, ← hM4]) (by rw [txt_size, txt_size]; have := HL3.out; have := valueL_len x.2.data.toList; have := HXS.out; rw [Lib.size_eq x.2] at this; omega) W
        have HNEW : Hid (M4 = H ++ exAcc (c.xs.take (k + 1))) := by
          show _ = _
          rw [← hM4, ← hM3, ← hM2, ← hM1, HME.out, HTK.out, exAcc_snoc, if_neg HZ.out]
          unfold extL
          simp only [List.append_assoc, List.cons_append, List.nil_append]
        clear hM1 hM2 hM3 hM4
        go_wp2_with (first
          | refine wpList_eql (by rfl) .eql 3 _ _ _ rfl (.int .i64 (k : Int)) (.int .i64 0) rfl rfl (.bool false) (guard_eqi _ _ _ _) HTEST.out ?_
          | refine wpList_eql (by rfl) .add 9 _ _ _ rfl (.string (txt M)) (.string ⟨#[0]⟩) rfl rfl (.string (txt M1)) (guard_add _ _ _ _) HM1.out ?_)
        refine wp_region_noPanic ?_
        refine wp_region_held_drew (S := fun W => Below w0.heap.size w0 W) (by kernel_rfl) ?_ (fun hHeld => ?_)
        · exact HBW.out.drew
        refine wpAnyH_take (i := 0) (v := ?_) (by simp only [List.getElem?_toArray, List.getElem?_cons_zero]; rfl) (by kernel_rfl) (by kernel_rfl) (by kernel_rfl) (fun _ _ _ h => h) (Or.inl ⟨by rfl, ?_⟩) (by assumption) ?_
        rotate_left
        · intro W hSW
          go_simp
          try with_reducible rfl
        try simp only [Act.put, List.setIfInBounds_toArray, List.set_cons_zero, List.set_cons_succ]
        refine wpAnyH_take (i := 1) (v := ?_) (by simp only [List.getElem?_toArray, List.getElem?_cons_succ, List.getElem?_cons_zero]; rfl) (by kernel_rfl) (by kernel_rfl) (by kernel_rfl) (fun _ _ _ h => h) (Or.inl ⟨by rfl, ?_⟩) (by assumption) ?_
        rotate_left
        · intro W hSW
          go_simp
          try with_reducible rfl
        try simp only [Act.put, List.setIfInBounds_toArray, List.set_cons_zero, List.set_cons_succ]
        refine wpAnyH_take (i := 2) (by simp only [List.getElem?_toArray, List.getElem?_cons_succ, List.getElem?_cons_zero]; rfl) (by kernel_rfl) (by kernel_rfl) (by kernel_rfl) (fun _ _ _ h => h) (yieldsIf_load_sl (by rfl) 23 _ rfl p0 23 rfl (.slice (some ⟨b, off, none⟩) n xc) (fun W hSW => (HCW.out W hSW).exts) Tryz.underlying23) (by assumption) ?_
        try simp only [Act.put, List.setIfInBounds_toArray, List.set_cons_zero, List.set_cons_succ]
        refine wpAnyH_take (i := 3) (v := ?_) (by simp only [List.getElem?_toArray, List.getElem?_cons_succ, List.getElem?_cons_zero]; rfl) (by kernel_rfl) (by kernel_rfl) (by kernel_rfl) (fun _ _ _ h => h) (Or.inl ⟨by rfl, ?_⟩) (by assumption) ?_
        rotate_left
        · intro W hSW
          go_simp
          try with_reducible rfl
        try simp only [Act.put, List.setIfInBounds_toArray, List.set_cons_zero, List.set_cons_succ]
        refine wpAnyH_take (i := 4) (v := ?_) (by simp only [List.getElem?_toArray, List.getElem?_cons_succ, List.getElem?_cons_zero]; rfl) (by kernel_rfl) (by kernel_rfl) (by kernel_rfl) (fun _ _ _ h => h) (Or.inl ⟨by rfl, ?_⟩) (by assumption) ?_
        rotate_left
        · intro W hSW
          go_simp
          try with_reducible rfl
        try simp only [Act.put, List.setIfInBounds_toArray, List.set_cons_zero, List.set_cons_succ]
        refine wpAnyH_take (i := 5) (v := ?_) (by simp only [List.getElem?_toArray, List.getElem?_cons_succ, List.getElem?_cons_zero]; rfl) (by kernel_rfl) (by kernel_rfl) (by kernel_rfl) (fun _ _ _ h => h) (Or.inl ⟨by rfl, ?_⟩) (by assumption) ?_
        rotate_left
        · intro W hSW
          go_simp
          try with_reducible rfl
        try simp only [Act.put, List.setIfInBounds_toArray, List.set_cons_zero, List.set_cons_succ]
        refine wpAnyH_take (i := 6) (by simp only [List.getElem?_toArray, List.getElem?_cons_succ, List.getElem?_cons_zero]; rfl) (by kernel_rfl) (by kernel_rfl) (by kernel_rfl) (fun _ _ _ h => h) (yieldsIf_load_str (by rfl) 9 _ rfl b (off + k * 2) rfl x.1 (fun W hSW => range_key (HROW.out k x HP.out W hSW)) Tryz.underlying9) (by assumption) ?_
        try simp only [Act.put, List.setIfInBounds_toArray, List.set_cons_zero, List.set_cons_succ]
        refine wpAnyH_take (i := 7) (by simp only [List.getElem?_toArray, List.getElem?_cons_succ, List.getElem?_cons_zero]; rfl) (by kernel_rfl) (by kernel_rfl) (by kernel_rfl) (fun _ _ _ h => h) (yieldsIf_eql (by rfl) .add 9 _ _ _ rfl (.string (txt M1)) (.string x.1) rfl rfl (.string (txt M2)) (guard_add _ _ _ _) (fun W => HM2.out W)) (by assumption) ?_
        try simp only [Act.put, List.setIfInBounds_toArray, List.set_cons_zero, List.set_cons_succ]
        refine wpAnyH_take (i := 8) (by simp only [List.getElem?_toArray, List.getElem?_cons_succ, List.getElem?_cons_zero]; rfl) (by kernel_rfl) (by kernel_rfl) (by kernel_rfl) (fun _ _ _ h => h) (yieldsIf_eql (by rfl) .add 9 _ _ _ rfl (.string (txt M2)) (.string ⟨#[58]⟩) rfl rfl (.string (txt M3)) (guard_add _ _ _ _) (fun W => HM3.out W)) (by assumption) ?_
        try simp only [Act.put, List.setIfInBounds_toArray, List.set_cons_zero, List.set_cons_succ]
        refine wpAnyH_take (i := 9) (v := ?_) (by simp only [List.getElem?_toArray, List.getElem?_cons_succ, List.getElem?_cons_zero]; rfl) (by kernel_rfl) (by kernel_rfl) (by kernel_rfl) (fun _ _ _ h => h) (Or.inl ⟨by rfl, ?_⟩) (by assumption) ?_
        rotate_left
        · intro W hSW
          go_simp
          try with_reducible rfl
        try simp only [Act.put, List.setIfInBounds_toArray, List.set_cons_zero, List.set_cons_succ]
        refine wpAnyH_take (i := 10) (by simp only [List.getElem?_toArray, List.getElem?_cons_succ, List.getElem?_cons_zero]; rfl) (by kernel_rfl) (by kernel_rfl) (by kernel_rfl) (fun _ _ _ h => h) (yieldsIf_load_sl (by rfl) 23 _ rfl p0 23 rfl (.slice (some ⟨b, off, none⟩) n xc) (fun W hSW => (HCW.out W hSW).exts) Tryz.underlying23) (by assumption) ?_
        try simp only [Act.put, List.setIfInBounds_toArray, List.set_cons_zero, List.set_cons_succ]
        refine wpAnyH_take (i := 11) (v := ?_) (by simp only [List.getElem?_toArray, List.getElem?_cons_succ, List.getElem?_cons_zero]; rfl) (by kernel_rfl) (by kernel_rfl) (by kernel_rfl) (fun _ _ _ h => h) (Or.inl ⟨by rfl, ?_⟩) (by assumption) ?_
        rotate_left
        · intro W hSW
          go_simp
          try with_reducible rfl
        try simp only [Act.put, List.setIfInBounds_toArray, List.set_cons_zero, List.set_cons_succ]
        refine wpAnyH_take (i := 12) (v := ?_) (by simp only [List.getElem?_toArray, List.getElem?_cons_succ, List.getElem?_cons_zero]; rfl) (by kernel_rfl) (by kernel_rfl) (by kernel_rfl) (fun _ _ _ h => h) (Or.inl ⟨by rfl, ?_⟩) (by assumption) ?_
        rotate_left
        · intro W hSW
          go_simp
          try with_reducible rfl
        try simp only [Act.put, List.setIfInBounds_toArray, List.set_cons_zero, List.set_cons_succ]
        refine wpAnyH_take (i := 13) (v := ?_) (by simp only [List.getElem?_toArray, List.getElem?_cons_succ, List.getElem?_cons_zero]; rfl) (by kernel_rfl) (by kernel_rfl) (by kernel_rfl) (fun _ _ _ h => h) (Or.inl ⟨by rfl, ?_⟩) (by assumption) ?_
        rotate_left
        · intro W hSW
          go_simp
          try with_reducible rfl
        try simp only [Act.put, List.setIfInBounds_toArray, List.set_cons_zero, List.set_cons_succ]
        refine wpAnyH_take (i := 14) (by simp only [List.getElem?_toArray, List.getElem?_cons_succ, List.getElem?_cons_zero]; rfl) (by kernel_rfl) (by kernel_rfl) (by kernel_rfl) (fun _ _ _ h => h) (yieldsIf_load_str (by rfl) 9 _ rfl b (off + k * 2 + 1) rfl x.2 (fun W hSW => range_val (HROW.out k x HP.out W hSW)) Tryz.underlying9) (by assumption) ?_
        try simp only [Act.put, List.setIfInBounds_toArray, List.set_cons_zero, List.set_cons_succ]
        refine wpAnyH_ready (rs := [15]) (by kernel_rfl) (by simp) ?_
        refine AllReadyH.cons (by simp only [List.getElem?_toArray, List.getElem?_cons_succ, List.getElem?_cons_zero]; rfl) (fun K hK => ?_) AllReadyH.nil
        go_simp
        refine (HVC.out _).mono ?_
        rintro e v1 ⟨rfl, hb⟩
        have hb1 : Below w0.heap.size w0 v1 := HBW.out.drew.trans (hb.mono HBW.out.size)
        have HB1 := Lib.hid hb1
        clear hb hb1
        go_wp2_with fail
        refine hK.out _ _ (HB1.out) (fun hHeld2 => ?_)
        clear hK K hHeld
        have hHeld := hHeld2
        clear hHeld2
        try simp only [Act.put, List.setIfInBounds_toArray, List.set_cons_zero, List.set_cons_succ]
        refine wpAnyH_take (i := 16) (by simp only [List.getElem?_toArray, List.getElem?_cons_succ, List.getElem?_cons_zero]; rfl) (by kernel_rfl) (by kernel_rfl) (by kernel_rfl) (fun _ _ _ h => h) (yieldsIf_eql (by rfl) .add 9 _ _ _ rfl (.string (txt M3)) (.string (txt (valueL x.2.data.toList))) rfl rfl (.string (txt M4)) (guard_add _ _ _ _) (fun W => HM4.out W)) (by assumption) ?_
        try simp only [Act.put, List.setIfInBounds_toArray, List.set_cons_zero, List.set_cons_succ]
        refine wpAnyH_take (i := 17) (v := ?_) (by simp only [List.getElem?_toArray, List.getElem?_cons_succ, List.getElem?_cons_zero]; rfl) (by kernel_rfl) (by kernel_rfl) (by kernel_rfl) (fun _ _ _ h => h) (Or.inl ⟨by rfl, ?_⟩) (by assumption) ?_
        rotate_left
        · intro W hSW
          go_simp
          try with_reducible rfl
        try simp only [Act.put, List.setIfInBounds_toArray, List.set_cons_zero, List.set_cons_succ]
        refine wpAnyH_done (by kernel_rfl) ?_ _
        refine NoPanic.normal ?_
        clear hHeld
        go_wp2_with fail
        exact ⟨⟨k + 1, M4, HKN.out, by first | rw [WK.out _ rfl] | rfl, by first | rfl | trivial, HNEW.out, HB1.out⟩, by have := HKN.out; (first | rw [WK.out _ rfl] | skip); simp [intOf]; omega⟩
    · have hki : ¬ (k : Int) < (n : Int) := by omega
      have HME2 : Hid (M = H ++ exAcc c.xs) := by show _ = _; rw [HME.out, List.take_of_length_le (by rw [HN.out]; omega)]
      obtain ⟨G, hG⟩ : ∃ l, M ++ [10] = l := ⟨_, rfl⟩
      have HAG : Hid (∀ W, (binOp .add 9 (.string (txt M)) (.string ⟨#[10]⟩)).run Tryz.prog W = .ok (.string (txt G)) W) := fun W => add_list _ _ _ (by rw [txt_list, ← hG]) (by rw [txt_size]; have := HMB.out; show _ + 1 ≤ _; omega) W
      have HGL : Hid (G.length ≤ 28000001) := by show _ ≤ _; rw [← hG, List.length_append]; have := HMB.out; simp; omega
      have HGE : Hid (G = H ++ exAcc c.xs ++ [10]) := by show _ = _; rw [← hG, HME2.out]
      clear hG hkn hk
      go_wp2_with (first
        | refine wpList_eql (by rfl) .add 9 _ _ _ rfl (.string (txt M)) (.string ⟨#[10]⟩) rfl rfl (.string (txt G)) (guard_add _ _ _ _) HAG.out ?_)
      have HBX := HBW
      clear hcx hki HBW WK HME HME2 HMB HAG
      rename World => wx
      go_loopw [3, 5] (fun s i wr => ∃ (k : Nat) (M : List UInt8), k ≤ fn ∧ i = .int .i64 (k : Int) ∧ s = .string (txt M) ∧ M = G ++ fiAcc (c.fs.take k) ∧ Below w0.heap.size w0 wr) (fun _ i _ => fn - (intOf i).toNat)
      case atStart => exact ⟨0, G, Nat.zero_le _, rfl, rfl, by rw [List.take_zero]; show G = G ++ []; rw [List.append_nil], HBX.out⟩
      case round =>
        rename World => wr
        obtain ⟨k, M, hk, rfl, rfl, hM, hb⟩ := hrel
        have HME := Lib.hid hM
        have HBW := Lib.hid hb
        have WK := Lib.hid (next_int k (by have := HFB.out; omega))
        have HMB : Hid (M.length ≤ 38000000) := by
          have h1 := fiAcc_len (c.fs.take k) (fun x hx => HFZ.out x (List.mem_of_mem_take hx))
          rw [List.length_take] at h1
          have h2 := HFB.out
          have h3 := HFN.out
          have h4 := HGL.out
          have h5 : min k c.fs.length * 3001 ≤ 3000 * 3001 := Nat.mul_le_mul_right _ (by omega)
          show _ ≤ _
          rw [hM, List.length_append]
          omega
        clear hM hb
        have hcf := (HCW.out wr HBW.out).files
        by_cases hkn : k < fn
        · have hki : (k : Int) < (fn : Int) := by omega
          have HKN := Lib.hid hkn
          rcases HAF.out with h0 | ⟨b, off, rfl, hbl, hc⟩
          · rw [HFN.out] at h0; omega
          obtain ⟨x, hp⟩ : ∃ x, c.fs[k]? = some x := ⟨_, List.getElem?_eq_getElem (by rw [HFN.out]; exact hkn)⟩
          have hcx : wr.cell? ⟨b, off + k, none⟩ = some (.string x) := by
            have := range_str (range_below (hc k x hp) (HB0.out.trans (HBW.out.mono HB0.out.size)) hbl)
            rwa [Nat.mul_one] at this
          have HXS := Lib.hid (HFZ.out x (List.mem_of_getElem? hp))
          have HTK : Hid (c.fs.take (k + 1) = c.fs.take k ++ [x]) := take_snoc hp
          obtain ⟨M2, hM2⟩ : ∃ l, M ++ x.data.toList = l := ⟨_, rfl⟩
          have HM2 : Hid (∀ W, (binOp .add 9 (.string (txt M)) (.string x)).run Tryz.prog W = .ok (.string (txt M2)) W) := fun W => add_list _ _ _ (by rw [txt_list, ← hM2]) (by rw [txt_size]; have := HMB.out; have := HXS.out; omega) W
          have HL2 : Hid (M2.length ≤ 38003000) := by show _ ≤ _; rw [← hM2, List.length_append, ← Lib.size_eq]; have := HMB.out; have := HXS.out; omega
          obtain ⟨M3, hM3⟩ : ∃ l, M2 ++ [10] = l := ⟨_, rfl⟩
          have HM3 : Hid (∀ W, (binOp .add 9 (.string (txt M2)) (.string ⟨#[10]⟩)).run Tryz.prog W = .ok (.string (txt M3)) W) := fun W => add_list _ _ _ (by rw [txt_list, ← hM3]) (by rw [txt_size]; have := HL2.out; show _ + 1 ≤ _; omega) W
          have HNEW : Hid (M3 = G ++ fiAcc (c.fs.take (k + 1))) := by
            show _ = _
            rw [← hM3, ← hM2, HME.out, HTK.out, fiAcc_snoc]
            simp only [List.append_assoc]
          clear hM2 hM3 hp hbl hc hkn hk
          go_wp2_with (first
            | refine wpList_eql (by rfl) .add 9 _ _ _ rfl (.string (txt M)) (.string x) rfl rfl (.string (txt M2)) (guard_add _ _ _ _) HM2.out ?_
            | refine wpList_eql (by rfl) .add 9 _ _ _ rfl (.string (txt M2)) (.string ⟨#[10]⟩) rfl rfl (.string (txt M3)) (guard_add _ _ _ _) HM3.out ?_)
          exact ⟨⟨k + 1, M3, HKN.out, by first | rw [WK.out _ rfl] | rfl, by first | rfl | trivial, HNEW.out, HBW.out⟩, by have := HKN.out; (first | rw [WK.out _ rfl] | skip); simp [intOf]; omega⟩
        · have hki : ¬ (k : Int) < (fn : Int) := by omega
          have HME2 : Hid (M = G ++ fiAcc c.fs) := by show _ = _; rw [HME.out, List.take_of_length_le (by rw [HFN.out]; omega)]
          have hcd := (HCW.out wr HBW.out).desc
          obtain ⟨M2, hM2⟩ : ∃ l, M ++ [10] = l := ⟨_, rfl⟩
          have HM2 : Hid (∀ W, (binOp .add 9 (.string (txt M)) (.string ⟨#[10]⟩)).run Tryz.prog W = .ok (.string (txt M2)) W) := fun W => add_list _ _ _ (by rw [txt_list, ← hM2]) (by rw [txt_size]; have := HMB.out; show _ + 1 ≤ _; omega) W
          have HL2 : Hid (M2.length ≤ 38000001) := by show _ ≤ _; rw [← hM2, List.length_append]; have := HMB.out; simp; omega
          obtain ⟨M3, hM3⟩ : ∃ l, M2 ++ c.d.data.toList = l := ⟨_, rfl⟩
          have HM3 : Hid (∀ W, (binOp .add 9 (.string (txt M2)) (.string c.d)).run Tryz.prog W = .ok (.string (txt M3)) W) := fun W => add_list _ _ _ (by rw [txt_list, ← hM3]) (by rw [txt_size]; have := HL2.out; have := HDB.out; omega) W
          have HNEW : Hid (printL c = M3) := by
            show _ = _
            rw [printL_acc, ← HT6.out, ← hM3, ← hM2, HME2.out, HGE.out]
          clear hM2 hM3 hkn hk
          go_wp2_with (first
            | refine wpList_eql (by rfl) .add 9 _ _ _ rfl (.string (txt M)) (.string ⟨#[10]⟩) rfl rfl (.string (txt M2)) (guard_add _ _ _ _) HM2.out ?_
            | refine wpList_eql (by rfl) .add 9 _ _ _ rfl (.string (txt M2)) (.string c.d) rfl rfl (.string (txt M3)) (guard_add _ _ _ _) HM3.out ?_)
          go_ret
          rw [HNEW.out]
          exact ⟨rfl, HB0.out.trans (HBW.out.mono HB0.out.size)⟩
end Go.Proofs.YthokcdjmhhlcdaaGreatDoor
