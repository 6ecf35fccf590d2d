/- The program's tags: right, PrintTag, ParseTag: the walks. -/
import Derived.Test.YtindmggmblmmcaaGreatDoorTgM
namespace Go.Proofs.YtindmggmblmmcaaGreatDoor
open Go.RowKit Plain Go.ChangeShapes Go.WideShapes Go.ChangeAt Go.Great
set_option linter.unusedVariables false
set_option linter.unusedSimpArgs false
structure TgRow (w : World) (b : Nat) (x : TX) : Prop where
  n20 : x.o.length = 20
  cells : w.rangeAt b 0 (tgL x)
theorem TgRow.obj {w : World} {b : Nat} {x : TX} (h : TgRow w b x) : w.rangeAt b 0 (U8 x.o) := range_mid (A := []) (B := U8 x.o) (C := tgT x) h.cells 0 rfl
theorem TgRow.cell {w : World} {b : Nat} {x : TX} (h : TgRow w b x) (i : Nat) {v : Value} (hv : (tgT x)[i]? = some v) : w.cell? ⟨b, 20 + i, none⟩ = some v := by
  have := h.cells (20 + i) v (by unfold tgL; rw [List.getElem?_append_right (by rw [U8_length, h.n20]; omega), U8_length, h.n20, Nat.add_sub_cancel_left]; exact hv)
  rwa [Nat.zero_add] at this
theorem TgRow.kind {w : World} {b : Nat} {x : TX} (h : TgRow w b x) : w.cell? ⟨b, 20, none⟩ = some (.int .i64 x.k) := h.cell 0 rfl
theorem TgRow.name {w : World} {b : Nat} {x : TX} (h : TgRow w b x) : w.cell? ⟨b, 21, none⟩ = some (.string x.n) := h.cell 1 rfl
theorem TgRow.msg {w : World} {b : Nat} {x : TX} (h : TgRow w b x) : w.cell? ⟨b, 26, none⟩ = some (.string x.m) := h.cell 6 rfl
theorem TgRow.tagger {w : World} {b : Nat} {x : TX} (h : TgRow w b x) : w.rangeAt b 22 (whoL x.t) :=
  range_mid (A := U8 x.o ++ [.int .i64 x.k, .string x.n]) (B := whoL x.t) (C := [.string x.m]) (by have := h.cells; unfold tgL tgT at this; simpa using this) 22 (by rw [List.length_append, U8_length, h.n20]; rfl)
theorem TgRow.below {w w' : World} {b : Nat} {x : TX} (h : TgRow w b x) (hl : b < w.heap.size) (hb : Below w.heap.size w w') : TgRow w' b x := ⟨h.n20, range_below h.cells hb hl⟩
theorem TgRow.of {w : World} {b : Nat} {x : TX} {t : TypeId} {fr : Nat × Nat} (h : w.heap[b]? = some (.cells (tgA x) t fr)) (h20 : x.o.length = 20) : TgRow w b x := ⟨h20, fun j v hv => by
  rw [Nat.zero_add, cell_of_row _ _ _ _ _ _ h]
  have : (tgA x)[j]? = (tgL x)[j]? := List.getElem?_toArray
  rw [this]
  exact hv⟩
theorem info_tag (x : TX) (h : x.o.length = 20) : (Tryz.prog.info? 50).map (·.size) = some (tgL x).length := by rw [tgL_len x h]; kernel_rfl
theorem info_tagA (x : TX) (h : x.o.length = 20) : (Tryz.prog.info? 50).map (·.size) = some (tgA x).size := by rw [tgA_size x h]; kernel_rfl
theorem tgL_one (x : TX) : ∀ u ∈ tgL x, u.oneCell' = true := fun u hu => by
  rcases List.mem_append.1 hu with h | h
  · obtain ⟨z, -, rfl⟩ := List.mem_map.1 h
    rfl
  · unfold tgT whoL at h
    simp at h
    rcases h with rfl | rfl | rfl | rfl | rfl | rfl | rfl <;> rfl
theorem tgA_one (x : TX) : (tgA x).all (·.oneCell') = true := by
  rw [Array.all_eq_true_iff_forall_mem]
  intro u hu
  exact tgL_one x u (by simpa [tgA] using hu)
theorem zero_tag (W : World) : (zeroValue 50).run Tryz.prog W = .ok (.agg (tgA tz)) W := by kernel_rfl
theorem build_tag0 (W : World) : (Instr.build 50 #[]).run Tryz.prog W = .ok (.agg (tgA tz)) W := run_build W _ _ _ (by kernel_rfl)
theorem map_five' (a : Act) (x y z u v : Operand) (v1 v2 v3 v4 v5 : Value) (h1 : a.eval x = v1) (h2 : a.eval y = v2) (h3 : a.eval z = v3) (h4 : a.eval u = v4) (h5 : a.eval v = v5) : (#[(0, x), (1, y), (2, z), (3, u), (4, v)] : Array (Nat × Operand)).map (fun (i, x) => (i, a.eval x)) = #[(0, v1), (1, v2), (2, v3), (3, v4), (4, v5)] := by simp [h1, h2, h3, h4, h5]
theorem built_tag (a0 a1 a2 a3 a4 a5 a6 a7 a8 a9 a10 a11 a12 a13 a14 a15 a16 a17 a18 a19 k : Int) (n nn mm zz m : ByteArray) (tt : Int) : Tryz.prog.built 50 [(0, .agg #[.int .u8 a0, .int .u8 a1, .int .u8 a2, .int .u8 a3, .int .u8 a4, .int .u8 a5, .int .u8 a6, .int .u8 a7, .int .u8 a8, .int .u8 a9, .int .u8 a10, .int .u8 a11, .int .u8 a12, .int .u8 a13, .int .u8 a14, .int .u8 a15, .int .u8 a16, .int .u8 a17, .int .u8 a18, .int .u8 a19]), (1, .int .i64 k), (2, .string n), (3, .agg #[.string nn, .string mm, .int .i64 tt, .string zz]), (4, .string m)] = some (tgA ⟨[a0, a1, a2, a3, a4, a5, a6, a7, a8, a9, a10, a11, a12, a13, a14, a15, a16, a17, a18, a19], k, n, ⟨nn, mm, tt, zz⟩, m⟩) := by kernel_rfl
theorem build_tag (x : TX) (h : x.o.length = 20) (W : World) : (Instr.build 50 #[(0, .agg (V8 x.o)), (1, .int .i64 x.k), (2, .string x.n), (3, .agg (whoA x.t)), (4, .string x.m)]).run Tryz.prog W = .ok (.agg (tgA x)) W := by
  obtain ⟨o, k, n, ⟨nn, mm, tt, zz⟩, m⟩ := x
  obtain ⟨a0, a1, a2, a3, a4, a5, a6, a7, a8, a9, a10, a11, a12, a13, a14, a15, a16, a17, a18, a19, rfl⟩ := list20 h
  exact run_build W _ _ _ (built_tag a0 a1 a2 a3 a4 a5 a6 a7 a8 a9 a10 a11 a12 a13 a14 a15 a16 a17 a18 a19 k n nn mm zz m tt)
def TgSmall (x : TX) : Prop := x.n.size ≤ 40000 ∧ WhoSmall x.t ∧ x.m.size ≤ 40000
theorem word_len (k : Int) : (wordL k).length ≤ 6 := by
  by_cases h : wordL k = []
  · rw [h]; simp
  · rcases word_cases h with rfl | rfl | rfl | rfl <;> decide
theorem no_nl (l : List UInt8) : noAny [10] l = !decide (0 ≤ Lib.indexByte l 10) := by
  have hg : -1 ≤ Lib.indexByte l 10 := by rw [← Lib.index_one]; exact Lib.index_ge _ _
  unfold noAny
  congr 1
  by_cases h : 0 ≤ Lib.indexByte l 10
  · rw [decide_eq_true h, List.any_eq_true]
    have := (Lib.indexByte_some (l := l) (c := 10) (o := (Lib.indexByte l 10).toNat) (by omega)).1
    exact ⟨10, List.mem_of_getElem? this, by decide⟩
  · rw [decide_eq_false h, List.any_eq_false]
    intro c hc
    have hn := Lib.indexByte_none (l := l) (c := 10) (by omega)
    obtain ⟨j, hj⟩ := List.mem_iff_getElem?.1 hc
    have := hn j
    rw [hj] at this
    simp
    exact fun e => this (by rw [e])
set_option maxRecDepth 100000 in
set_option maxHeartbeats 16000000 in
theorem taright_any (x : TX) (w : World) (h20 : x.o.length = 20) (hs : WhoSmall x.t) :
    Calls Tryz.prog 52 #[.agg (tgA x)] w fun e w' => e = .returned (.bool (tagB x)) ∧ Below w.heap.size w w' := by
  have HS := Lib.hid hs
  have HB0 : Hid (Below w.heap.size w (w.alloc (.cells (tgA x) 50))) := (Below.refl _ _).alloc (Nat.le_refl _) _
  have HT0 : Hid (TgRow (w.alloc (.cells (tgA x) 50)) w.heap.size x) := TgRow.of (heap_alloc_new _ _) h20
  have hk0 := HT0.out.kind
  obtain ⟨e1, he1⟩ : ∃ b, (wordL x.k == []) = b := ⟨_, rfl⟩
  obtain ⟨e2, he2⟩ : ∃ b, (x.n.data.toList == []) = b := ⟨_, rfl⟩
  obtain ⟨e3, he3⟩ : ∃ b, decide (0 ≤ Lib.indexByte x.n.data.toList 10) = b := ⟨_, rfl⟩
  have HQ1 : Hid (∀ W, (binOp .neq 9 (.string (wordAt x.k)) (.string ⟨#[]⟩)).run Tryz.prog W = .ok (.bool (!e1)) W) := fun W => by rw [str_neq]; exact congrArg (fun b => Result.ok (Value.bool (!b)) W) he1
  have HQ2 : Hid (∀ W, (binOp .neq 9 (.string x.n) (.string ⟨#[]⟩)).run Tryz.prog W = .ok (.bool (!e2)) W) := fun W => by rw [str_neq]; exact congrArg (fun b => Result.ok (Value.bool (!b)) W) he2
  have HCO : Hid (∀ W, Calls Tryz.prog 74 #[.string x.n, .string ⟨#[10]⟩] W fun e w' => e = .returned (.bool e3) ∧ w' = W) := fun W => by
    have := Tryz.strings_Contains_one x.n 10 W
    rwa [he3] at this
  have HR : Hid (tagB x = (!e1 && !e2 && !e3 && whoB x.t)) := by show _ = _; unfold tagB; rw [he1, he2, no_nl, he3]
  clear he1 he2 he3 hs
  go_enter Tryz.func52, Tryz.ntmps52
  go_wp2_with fail
  clear hk0
  refine (word_any x.k _).mono ?_
  rintro e w1 ⟨rfl, hb⟩
  have HB1 := Lib.hid (HB0.out.trans (hb.mono HB0.out.size))
  have HT1 := Lib.hid (HT0.out.below (by simp) hb)
  have hn1 := HT1.out.name
  clear hb HT0 HB0
  cases e1
  rotate_left
  · have HF : Hid (tagB x = false) := by show _ = _; rw [HR.out]; rfl
    go_wp2_with (first
      | refine wpList_eql (by rfl) .neq 9 _ _ _ rfl (.string (wordAt x.k)) (.string ⟨#[]⟩) rfl rfl (.bool false) (guard_ne _ _ _ _) HQ1.out ?_)
    go_ret
    exact ⟨by rw [HF.out] <;> rfl, HB1.out⟩
  cases e2
  rotate_left
  · have HF : Hid (tagB x = false) := by show _ = _; rw [HR.out]; rfl
    go_wp2_with (first
      | refine wpList_eql (by rfl) .neq 9 _ _ _ rfl (.string (wordAt x.k)) (.string ⟨#[]⟩) rfl rfl (.bool true) (guard_ne _ _ _ _) HQ1.out ?_
      | refine wpList_eql (by rfl) .neq 9 _ _ _ rfl (.string x.n) (.string ⟨#[]⟩) rfl rfl (.bool false) (guard_ne _ _ _ _) HQ2.out ?_)
    go_ret
    exact ⟨by rw [HF.out] <;> rfl, HB1.out⟩
  go_wp2_with (first
    | refine wpList_eql (by rfl) .neq 9 _ _ _ rfl (.string (wordAt x.k)) (.string ⟨#[]⟩) rfl rfl (.bool true) (guard_ne _ _ _ _) HQ1.out ?_
    | refine wpList_eql (by rfl) .neq 9 _ _ _ rfl (.string x.n) (.string ⟨#[]⟩) rfl rfl (.bool true) (guard_ne _ _ _ _) HQ2.out ?_)
  refine (HCO.out w1).mono ?_
  rintro e w2 ⟨rfl, rfl⟩
  cases e3
  rotate_left
  · have HF : Hid (tagB x = false) := by show _ = _; rw [HR.out]; rfl
    go_wp2_with fail
    go_ret
    exact ⟨by rw [HF.out] <;> rfl, HB1.out⟩
  have HF : Hid (tagB x = whoB x.t) := by show _ = _; rw [HR.out]; rfl
  go_wp2_with (first
    | refine wpList_load_mid_g rfl 31 _ rfl w.heap.size 22 rfl (whoL x.t) _ HT1.out.tagger Tryz.underlying31 rfl (info_whoL x.t) ?_)
  refine (who_any x.t _ HS.out).mono ?_
  rintro e w4 ⟨rfl, hb⟩
  have HB4 := Lib.hid (HB1.out.trans (hb.mono HB1.out.size))
  clear hb
  go_wp2_with fail
  go_ret
  exact ⟨by rw [HF.out] <;> rfl, HB4.out⟩
/-- What PrintTag tells. -/
def TgPrint (e : Ending) (w' : World) (x : TX) : Prop :=
  (tagB x = true ∧ ∃ a cap, e = .returned (.tuple #[.slice a (printT x).length cap, .int .i64 0]) ∧ (printT x).length ≤ cap ∧ Bytes w' a (printT x).length (numsOf (txt (printT x)))) ∨ (tagB x = false ∧ e = .returned (.tuple #[.slice none 0 0, .int .i64 4]))
set_option maxRecDepth 100000 in
set_option maxHeartbeats 32000000 in
theorem tgprint_any (x : TX) (w : World) (hg : TgGood x) (hs : TgSmall x) (hE : EnvC w) :
    Calls Tryz.prog 21 #[.agg (tgA x)] w fun e w' => TgPrint e w' x ∧ Below w.heap.size w w' := by
  have HE := Lib.hid hE
  have HS := Lib.hid hs
  have HG := Lib.hid hg
  have HB0 : Hid (Below w.heap.size w (w.alloc (.cells (tgA x) 50))) := (Below.refl _ _).alloc (Nat.le_refl _) _
  have HT0 : Hid (TgRow (w.alloc (.cells (tgA x) 50)) w.heap.size x) := TgRow.of (heap_alloc_new _ _) hg.1
  have HSZ0 : Hid (w.heap.size < (w.alloc (.cells (tgA x) 50)).heap.size) := by show _ < _; simp
  have HRI := Lib.hid (fun W => taright_any x W hg.1 hs.2.1)
  have hTL : (tgL x).toArray = tgA x := rfl
  clear hg hs hE
  go_enter Tryz.func21, Tryz.ntmps21
  go_wp2_with (first
    | (refine wpList_load_mid rfl 50 _ rfl w.heap.size 0 rfl (tgL x) _ HT0.out.cells Tryz.underlying50 rfl (info_tag x HG.out.1) ?_; rw [hTL]))
  clear hTL
  generalize (w.alloc (.cells (tgA x) 50)) = w0 at *
  have HCW : Hid (∀ W, Below w0.heap.size w0 W → TgRow W w.heap.size x) := fun W hW => HT0.out.below HSZ0.out hW
  refine (HRI.out w0).mono ?_
  rintro e w1 ⟨rfl, hb⟩
  have HB1 := Lib.hid hb
  have HB01 := Lib.hid (HB0.out.trans (hb.mono HB0.out.size))
  clear hb HRI
  cases hr : tagB x
  · have HP : Hid (TgPrint (.returned (.tuple #[.slice none 0 0, .int .i64 4])) w1 x) := .inr ⟨hr, rfl⟩
    clear hr
    go_wp2_with fail
    go_ret2
    exact ⟨HP.out, HB01.out⟩
  have HRC := Lib.hid hr
  clear hr
  have HBA : Hid (Below w1.heap.size w1 (w1.alloc (.cells #[.pointer none, .slice none 0 0] 79))) := (Below.refl _ _).alloc (Nat.le_refl _) _
  have HZB : Hid ((w1.alloc (.cells #[.pointer none, .slice none 0 0] 79)).heap[w1.heap.size]? = some (.cells #[.pointer none, .slice none 0 0] 79 (0, 0))) := heap_alloc_new _ _
  have HCW2 := Lib.hid (HCW.out _ (HB1.out.trans (HBA.out.mono HB1.out.size)))
  go_wp2_with (first
    | refine wpList_load_mid rfl 29 _ rfl w.heap.size 0 rfl (U8 x.o) _ HCW2.out.obj Tryz.underlying29 rfl (id_info8 x.o HG.out.1) ?_)
  clear HCW2
  generalize w1.alloc (.cells #[.pointer none, .slice none 0 0] 79) = w2 at *
  obtain ⟨bb, hbb⟩ : ∃ b, w1.heap.size = b := ⟨_, rfl⟩
  simp only [hbb] at HBA HZB ⊢
  have HBE := Lib.hid hbb
  have HBB_w2 : Hid (Below bb w1 w2) := HBA.out
  have HU_w2 : Hid (Lib.IsBuilder 79 5 bb bb (Lib.byteCells []) w2) := .inl ⟨Nat.le_refl _, _, HZB.out, World.ownsRow_nil _ _ _ _, by simp [Value.ownBlock]⟩
  clear hbb HBA HZB
  have HCR : Hid (∀ W, Below bb w1 W → TgRow W w.heap.size x) := fun W hW => HCW.out W (HB1.out.trans (hW.mono (by have := HB1.out.size; have := HBE.out; omega)))
  have HWW : Hid (∀ W, Below bb w1 W → Below w.heap.size w W) := fun W hW => HB01.out.trans (hW.mono (by have := HB01.out.size; have := HBE.out; omega))
  obtain ⟨L1, hL1⟩ : ∃ l, [111, 98, 106, 101, 99, 116, 32] ++ hexOf x.o ++ [10] = l := ⟨_, rfl⟩
  obtain ⟨L2, hL2⟩ : ∃ l, L1 ++ ([116, 121, 112, 101, 32] ++ wordL x.k) ++ [10] = l := ⟨_, rfl⟩
  obtain ⟨L3, hL3⟩ : ∃ l, L2 ++ ([116, 97, 103, 32] ++ x.n.data.toList) ++ [10] = l := ⟨_, rfl⟩
  obtain ⟨L4, hL4⟩ : ∃ l, L3 ++ ([116, 97, 103, 103, 101, 114, 32] ++ whoT x.t) ++ [10] = l := ⟨_, rfl⟩
  have HPE : Hid (L4 ++ [10] ++ x.m.data.toList = printT x) := by
    show _ = _
    rw [← hL4, ← hL3, ← hL2, ← hL1]
    unfold printT kObj kTyp kTag kTgr
    simp
  have HLL : Hid (L1.length ≤ 48 ∧ L2.length ≤ 61 ∧ L3.length ≤ 50000 ∧ L4.length ≤ 200000) := by
    have h1 : L1.length = 48 := by rw [← hL1]; simp only [List.length_append, hexOf_length, HG.out.1, List.length_cons, List.length_nil]
    have h2 : (wordL x.k).length ≤ 6 := word_len x.k
    have h3 := HS.out.1
    have h4 := whoT_len HS.out.2.1
    rw [Lib.size_eq] at h3
    rw [← hL4, ← hL3, ← hL2]
    show _ ∧ _
    simp only [List.length_append, List.length_cons, List.length_nil]
    omega
  have HL1 := Lib.hid hL1
  have HL2 := Lib.hid hL2
  have HL3 := Lib.hid hL3
  have HL4 := Lib.hid hL4
  clear hL1 hL2 hL3 hL4
  refine (hex_any x.o w2 HG.out.1 HG.out.2).mono ?_
  rintro e w3 ⟨rfl, hb⟩
  rw [txt_hex]
  have HU_w3 := Lib.hid (HU_w2.out.belowB hb)
  have HBB_w3 := Lib.hid (HBB_w2.out.trans (hb.mono (Nat.le_of_lt HU_w2.out.lt)))
  clear hb HU_w2 HBB_w2
  go_wp2_with (first
    | refine wpList_slice rfl 98 2 #[(0, _), (1, _)] rfl #[(0, .string ⟨#[111, 98, 106, 101, 99, 116, 32]⟩), (1, .string (txt (hexOf x.o)))] (map_two _ _ _ _ _ rfl rfl) _ _ (slice_pair _ _ w3) ?_)
  refine (line2 bb [] L1 ⟨#[111, 98, 106, 101, 99, 116, 32]⟩ (txt (hexOf x.o)) w3 w1 HU_w3.out HBB_w3.out (by have := HLL.out; (try simp only [List.length_nil]); omega) (by decide) (hexT_size HG.out.1) (by rw [txt_list]; exact HL1.out)).mono ?_
  rintro e w4 ⟨rfl, hu, hb⟩
  have HU_w4 := Lib.hid hu
  have HBB_w4 := Lib.hid hb
  clear hu hb HU_w3 HBB_w3
  have hk4 := (HCR.out w4 HBB_w4.out).kind
  go_wp2_with fail
  clear hk4
  refine (word_any x.k w4).mono ?_
  rintro e w5 ⟨rfl, hb⟩
  have HU_w5 := Lib.hid (HU_w4.out.belowB hb)
  have HBB_w5 := Lib.hid (HBB_w4.out.trans (hb.mono (Nat.le_of_lt HU_w4.out.lt)))
  clear hb HU_w4 HBB_w4
  have HWT : Hid (wordAt x.k = txt (wordL x.k)) := by show _ = _; unfold wordL; rw [txt_of]
  rw [HWT.out]
  go_wp2_with (first
    | refine wpList_slice rfl 98 2 #[(0, _), (1, _)] rfl #[(0, .string ⟨#[116, 121, 112, 101, 32]⟩), (1, .string (txt (wordL x.k)))] (map_two _ _ _ _ _ rfl rfl) _ _ (slice_pair _ _ w5) ?_)
  refine (line2 bb L1 L2 ⟨#[116, 121, 112, 101, 32]⟩ (txt (wordL x.k)) w5 w1 HU_w5.out HBB_w5.out (by have := HLL.out; (try simp only [List.length_nil]); omega) (by decide) (by rw [txt_size]; have := word_len x.k; omega) (by rw [txt_list]; exact HL2.out)).mono ?_
  rintro e w6 ⟨rfl, hu, hb⟩
  have HU_w6 := Lib.hid hu
  have HBB_w6 := Lib.hid hb
  clear hu hb HU_w5 HBB_w5
  have hn6 := (HCR.out w6 HBB_w6.out).name
  go_wp2_with (first
    | refine wpList_slice rfl 98 2 #[(0, _), (1, _)] rfl #[(0, .string ⟨#[116, 97, 103, 32]⟩), (1, .string x.n)] (map_two _ _ _ _ _ rfl rfl) _ _ (slice_pair _ _ w6) ?_)
  refine (line2 bb L2 L3 ⟨#[116, 97, 103, 32]⟩ x.n w6 w1 HU_w6.out HBB_w6.out (by have := HLL.out; (try simp only [List.length_nil]); omega) (by decide) (by have := HS.out.1; omega) (HL3.out)).mono ?_
  rintro e w7 ⟨rfl, hu, hb⟩
  have HU_w7 := Lib.hid hu
  have HBB_w7 := Lib.hid hb
  clear hu hb HU_w6 HBB_w6
  clear hn6
  have HT7 := Lib.hid (HCR.out w7 HBB_w7.out)
  go_wp2_with (first
    | refine wpList_load_mid rfl 31 _ rfl w.heap.size 22 rfl (whoL x.t) _ HT7.out.tagger Tryz.underlying31 rfl (info_whoL x.t) ?_)
  refine (whotext_any x.t w7 (HE.out.below (HWW.out w7 HBB_w7.out)) HS.out.2.1).mono ?_
  rintro e w8 ⟨rfl, hb⟩
  have HU_w8 := Lib.hid (HU_w7.out.belowB hb)
  have HBB_w8 := Lib.hid (HBB_w7.out.trans (hb.mono (Nat.le_of_lt HU_w7.out.lt)))
  clear hb HU_w7 HBB_w7
  go_wp2_with (first
    | refine wpList_slice rfl 98 2 #[(0, _), (1, _)] rfl #[(0, .string ⟨#[116, 97, 103, 103, 101, 114, 32]⟩), (1, .string (txt (whoT x.t)))] (map_two _ _ _ _ _ rfl rfl) _ _ (slice_pair _ _ w8) ?_)
  refine (line2 bb L3 L4 ⟨#[116, 97, 103, 103, 101, 114, 32]⟩ (txt (whoT x.t)) w8 w1 HU_w8.out HBB_w8.out (by have := HLL.out; (try simp only [List.length_nil]); omega) (by decide) (by rw [txt_size]; have := whoT_len HS.out.2.1; omega) (by rw [txt_list]; exact HL4.out)).mono ?_
  rintro e w9 ⟨rfl, hu, hb⟩
  have HU_w9 := Lib.hid hu
  have HBB_w9 := Lib.hid hb
  clear hu hb HU_w8 HBB_w8
  go_wp2_with fail
  refine (line0 bb L4 w9 w1 HU_w9.out HBB_w9.out (by have := HLL.out; omega)).mono ?_
  rintro e w10 ⟨rfl, hu, hb⟩
  have HU_w10 := Lib.hid hu
  have HBB_w10 := Lib.hid hb
  clear hu hb HU_w9 HBB_w9
  have hm10 := (HCR.out w10 HBB_w10.out).msg
  go_wp2_with fail
  clear hm10
  refine (writeStr_k bb bb (L4 ++ [10]) x.m w10 HU_w10.out (by have h1 := HLL.out; have h2 := HS.out.2.2; simp only [List.length_append, List.length_cons, List.length_nil]; omega) (Nat.le_of_lt HU_w10.out.lt)).mono ?_
  rintro e w11 ⟨rfl, ⟨hu, hb⟩, -⟩
  rw [HPE.out] at hu
  have HU_w11 : Hid (Lib.IsBuilder 79 5 bb bb (Lib.byteCells (printT x)) w11) := .inr hu
  have HBB_w11 := Lib.hid (HBB_w10.out.trans hb)
  clear hu hb HU_w10 HBB_w10
  go_wp2_with fail
  refine (Tryz.Builder_String_any bb bb (printT x) w11 HU_w11.out (Nat.le_of_lt HU_w11.out.lt)).mono ?_
  rintro e w12 ⟨rfl, hb⟩
  have HB12 := Lib.hid (HWW.out w12 (HBB_w11.out.trans hb))
  clear hb HU_w11 HBB_w11
  have hsz := txt_size (printT x)
  have hpl : (printT x).length ≤ 300000 := by
    have h1 := HLL.out
    have h2 := HS.out.2.2
    rw [Lib.size_eq] at h2
    rw [← HPE.out]
    simp only [List.length_append, List.length_cons, List.length_nil]
    omega
  obtain ⟨cp, hcp, hcv⟩ := conv_bytes w12 (txt (printT x))
  have hby := bytes_new w12 (txt (printT x)) (by rw [hsz]; omega)
  rw [hsz] at hcp hcv hby
  have HCP := Lib.hid hcp
  have HBYT := Lib.hid hby
  have HBL : Hid (Below w.heap.size w (Lib.bytesWorld w12 5 (txt (printT x)))) := HB12.out.trans ((Lib.bytesWorld_below _ _ _).mono HB12.out.size)
  clear hcp hby hsz hpl
  have HP : Hid (TgPrint (.returned (.tuple #[.slice (some ⟨w12.heap.size, 0, none⟩) (printT x).length cp, .int .i64 0])) (Lib.bytesWorld w12 5 (txt (printT x))) x) := .inl ⟨HRC.out, _, _, rfl, HCP.out, HBYT.out⟩
  obtain ⟨pl, hpl⟩ : ∃ l, (printT x).length = l := ⟨_, rfl⟩
  rw [hpl] at hcv HP
  clear hpl
  have hcv2 : (convert 9 37 (.string ⟨(printT x).toArray⟩)).run Tryz.prog w12 = .ok (.slice (some ⟨w12.heap.size, 0, none⟩) pl cp) (Lib.bytesWorld w12 5 (txt (printT x))) := hcv
  clear hcv
  go_wp2_with fail
  go_ret2
  exact ⟨HP.out, HBL.out⟩
/-- What ParseTag tells. -/
def TgParse (e : Ending) (o : Option TX) : Prop := match o with
  | some x => e = .returned (.tuple #[.agg (tgA x), .int .i64 0])
  | none => e = .returned (.tuple #[.agg (tgA tz), .int .i64 4])
set_option maxRecDepth 100000 in
set_option maxHeartbeats 32000000 in
theorem tgparse_any (a : Option Addr) (m cap : Nat) (L : List UInt8) (w : World) (R : Bytes w a m (numsOf (txt L))) (hm : m ≤ 15000) (hE : EnvC w) (o : Option TX) (ho : parseT L = o) :
    Calls Tryz.prog 17 #[.slice a m cap] w fun e w' => TgParse e o ∧ Below w.heap.size w w' := by
  have HE := Lib.hid hE
  have HL : Hid (L.length ≤ 15000) := by
    show _ ≤ _
    have h1 := R.1
    rw [numsOf_length, txt_size] at h1
    omega
  have HTX : Hid (∀ W, Below w.heap.size w W → (convert 37 9 (.slice a m cap)).run Tryz.prog W = .ok (.string (txt L)) W) := fun W hW => by
    have := text_run W a m cap _ (R.below hW)
    rwa [str_nums] at this
  have l1 := idS_len kObj (L, false)
  obtain ⟨O, s1, e1⟩ : ∃ O s, idS kObj (L, false) = (O, s) := ⟨_, _, rfl⟩
  rw [e1] at l1
  have l2 := valS_len kTyp s1
  obtain ⟨V1, s2, e2⟩ : ∃ O s, valS kTyp s1 = (O, s) := ⟨_, _, rfl⟩
  rw [e2] at l2
  have l3 := valS_len kTag s2
  obtain ⟨V2, s3, e3⟩ : ∃ O s, valS kTag s2 = (O, s) := ⟨_, _, rfl⟩
  rw [e3] at l3
  have l4 := whoS_len kTgr s3
  have hws := whoS_small kTgr s3
  obtain ⟨X, s4, e4⟩ : ∃ O s, whoS kTgr s3 = (O, s) := ⟨_, _, rfl⟩
  rw [e4] at l4 hws
  obtain ⟨M, s5, e5⟩ : ∃ O s, msgS s4 = (O, s) := ⟨_, _, rfl⟩
  have hl := HL.out
  dsimp only at l1 l2 l3 l4 hws
  have HO20 : Hid (O.length = 20) := by have := congrArg (·.1) e1; rw [show O = parsed (txt (valS kObj (L, false)).1) from this.symm]; exact parsed_length _
  have HWS : Hid (WhoSmall X) := hws (by omega)
  obtain ⟨x, hx⟩ : ∃ x, (⟨O, (kindUpto (txt V1) 4 : Nat), txt V2, X, txt M⟩ : TX) = x := ⟨_, rfl⟩
  have hraw : rawT L = x := by
    rw [← hx]
    unfold rawT sg4 sg3 sg2 sg1
    rw [e1]
    dsimp only
    rw [e2]
    dsimp only
    rw [e3]
    dsimp only
    rw [e4]
    dsimp only
    rw [e5]
  have hfin : msgS (sg4 L) = (M, s5) := by
    unfold sg4 sg3 sg2 sg1
    rw [e1]
    dsimp only
    rw [e2]
    dsimp only
    rw [e3]
    dsimp only
    rw [e4]
    exact e5
  have HPA : Hid (o = if s5.2 = true then none else if tagB x = true then some x else none) := by
    show _ = _
    rw [← ho]
    unfold parseT
    rw [hfin, hraw]
  have HXO : Hid (x.o = O ∧ x.k = ((kindUpto (txt V1) 4 : Nat) : Int) ∧ x.n = txt V2 ∧ x.t = X ∧ x.m = txt M) := by rw [← hx]; exact ⟨rfl, rfl, rfl, rfl, rfl⟩
  have HX20 : Hid (x.o.length = 20) := by rw [HXO.out.1]; exact HO20.out
  have HBU : Hid (∀ W, (Instr.build 50 #[(0, .agg (V8 O)), (1, .int .i64 ((kindUpto (txt V1) 4 : Nat) : Int)), (2, .string (txt V2)), (3, .agg (whoA X)), (4, .string (txt M))]).run Tryz.prog W = .ok (.agg (tgA x)) W) := fun W => by
    have := build_tag x HX20.out W
    rwa [HXO.out.1, HXO.out.2.1, HXO.out.2.2.1, HXO.out.2.2.2.1, HXO.out.2.2.2.2] at this
  have HC1 : Hid (∀ r W, RdAt W r (L, false) → EnvR r W → Calls Tryz.prog 41 #[.pointer (some ⟨r, 0, none⟩), .string ⟨#[111, 98, 106, 101, 99, 116]⟩] W fun e w' => e = .returned (.agg (V8 O)) ∧ RdAt w' r s1 ∧ FrR r W w') := fun r W hR hEn => by
    have h := rdid_any r kObj (L, false) W hR (by decide) (by decide) (by show L.length ≤ _; omega) hEn
    have h1 : parsed (txt (valS kObj (L, false)).1) = O := congrArg (·.1) e1
    rw [h1, e1] at h
    exact h
  have HC2 : Hid (∀ r W, RdAt W r s1 → Calls Tryz.prog 51 #[.pointer (some ⟨r, 0, none⟩), .string ⟨#[116, 121, 112, 101]⟩] W fun e w' => e = .returned (.string (txt V1)) ∧ RdAt w' r s2 ∧ FrR r W w') := fun r W hR => by
    have h := value_any r kTyp s1 W hR (by decide) (by decide) (by omega)
    rw [e2] at h
    exact h
  have HC3 : Hid (∀ r W, RdAt W r s2 → Calls Tryz.prog 51 #[.pointer (some ⟨r, 0, none⟩), .string ⟨#[116, 97, 103]⟩] W fun e w' => e = .returned (.string (txt V2)) ∧ RdAt w' r s3 ∧ FrR r W w') := fun r W hR => by
    have h := value_any r kTag s2 W hR (by decide) (by decide) (by omega)
    rw [e3] at h
    exact h
  have HC4 : Hid (∀ r W, RdAt W r s3 → EnvR r W → Calls Tryz.prog 43 #[.pointer (some ⟨r, 0, none⟩), .string ⟨#[116, 97, 103, 103, 101, 114]⟩] W fun e w' => e = .returned (.agg (whoA X)) ∧ RdAt w' r s4 ∧ FrR r W w') := fun r W hR hEn => by
    have h := rdwho_any r kTgr s3 W hR (by decide) (by decide) (by omega) hEn
    have h1 : (personE (valS kTgr s3).1).1 = X := congrArg (·.1) e4
    rw [h1, e4] at h
    exact h
  have HC5 : Hid (∀ r W, RdAt W r s4 → Calls Tryz.prog 45 #[.pointer (some ⟨r, 0, none⟩)] W fun e w' => e = .returned (.string (txt M)) ∧ RdAt w' r s5 ∧ FrR r W w') := fun r W hR => by
    have h := message_any r s4 W hR (by omega)
    rw [e5] at h
    exact h
  have hzc := zero_tag
  have hzr := zero_rd
  have HB1 : Hid (Below w.heap.size w (w.alloc (.cells (tgA tz) 50))) := (Below.refl _ _).alloc (Nat.le_refl _) _
  have htx := HTX.out _ HB1.out
  clear R hE hm l1 l2 l3 l4 hws hl e1 e2 e3 e4 e5 hraw hfin hx ho
  go_enter Tryz.func17, Tryz.ntmps17
  go_wp2_with (first
    | refine wpList_buildQ rfl 91 _ rfl #[(0, .string (txt L))] (map_one _ _ _ rfl) _ (build_rest _) ?_
    | refine wpList_buildQ rfl 93 _ rfl #[(0, .agg #[.string (txt L)])] (map_one _ _ _ rfl) _ (build_rd _) ?_)
  clear htx hzr HB1
  obtain ⟨w2, hw2⟩ : ∃ W, (w.alloc (.cells (tgA tz) 50)).alloc (.cells #[.string (txt L), .bool false] 93) = W := ⟨_, rfl⟩
  have HB2 : Hid (Below w.heap.size w w2) := by rw [← hw2]; exact ((Below.refl _ _).alloc (Nat.le_refl _) _).alloc (by simp) _
  have hz2 : w2.heap[w.heap.size]? = some (.cells (tgA tz) 50 (0, 0)) := by
    rw [← hw2]
    exact (Below.heap_alloc _ _ _ (by simp)).trans (heap_alloc_new _ _)
  have hrd : RdAt w2 (w.heap.size + 1) (L, false) := by
    rw [← hw2]
    have h1 := heap_alloc_new (w.alloc (.cells (tgA tz) 50)) (.cells #[.string (txt L), .bool false] 93)
    rw [show (w.alloc (.cells (tgA tz) 50)).heap.size = w.heap.size + 1 by simp] at h1
    exact h1
  rw [hw2]
  clear hw2
  obtain ⟨b2, hb2⟩ : ∃ b, w.heap.size = b := ⟨_, rfl⟩
  have HBE : Hid (w.heap.size = b2) := hb2
  rw [hb2] at hz2 hrd
  simp only [hb2]
  obtain ⟨r, hr⟩ : ∃ b, b2 + 1 = b := ⟨_, rfl⟩
  rw [hr] at hrd
  simp only [hr]
  have HRE : Hid (b2 ≠ r ∧ w.heap.size ≤ r) := by show _ ∧ _; omega
  have H2 := Lib.hid hz2
  have HR_w2 := Lib.hid hrd
  have HF_w2 := Lib.hid (FrR.refl r w2)
  have HB_w2 := HB2
  clear hz2 hrd hb2 hr
  have HENV : Hid (∀ W, Below w.heap.size w W → EnvR r W) := fun W hW => ⟨w, HE.out, hW, HRE.out.2⟩
  have HZF : Hid (∀ W, FrR r w2 W → W.heap[b2]? = some (.cells (tgA tz) 50 (0, 0))) := fun W hW => (hW.block b2 (Array.getElem?_eq_some_iff.1 H2.out).1 HRE.out.1).trans H2.out
  refine ((Lib.hid (HC1.out r)).out w2 HR_w2.out (HENV.out w2 HB_w2.out)).mono ?_
  rintro e w3 ⟨rfl, hr, hf⟩
  have HR_w3 := Lib.hid hr
  have HF_w3 := Lib.hid (HF_w2.out.trans hf)
  have HB_w3 := Lib.hid (HB2.out.trans (HF_w3.out.below HRE.out.2 HB2.out.size))
  clear hr hf HR_w2
  go_wp2_with fail
  refine ((Lib.hid (HC2.out r)).out w3 HR_w3.out).mono ?_
  rintro e w4 ⟨rfl, hr, hf⟩
  have HR_w4 := Lib.hid hr
  have HF_w4 := Lib.hid (HF_w3.out.trans hf)
  have HB_w4 := Lib.hid (HB2.out.trans (HF_w4.out.below HRE.out.2 HB2.out.size))
  clear hr hf HR_w3
  go_wp2_with fail
  refine (kind_any (txt V1) w4).mono ?_
  rintro e w5 ⟨rfl, hb⟩
  have HR_w5 := Lib.hid (HR_w4.out.below hb)
  have HF_w5 := Lib.hid (HF_w4.out.trans (FrR.of hb))
  have HB_w5 := Lib.hid (HB_w4.out.trans (hb.mono HB_w4.out.size))
  clear hb HR_w4
  go_wp2_with fail
  refine ((Lib.hid (HC3.out r)).out w5 HR_w5.out).mono ?_
  rintro e w6 ⟨rfl, hr, hf⟩
  have HR_w6 := Lib.hid hr
  have HF_w6 := Lib.hid (HF_w5.out.trans hf)
  have HB_w6 := Lib.hid (HB2.out.trans (HF_w6.out.below HRE.out.2 HB2.out.size))
  clear hr hf HR_w5
  go_wp2_with fail
  refine ((Lib.hid (HC4.out r)).out w6 HR_w6.out (HENV.out w6 HB_w6.out)).mono ?_
  rintro e w7 ⟨rfl, hr, hf⟩
  have HR_w7 := Lib.hid hr
  have HF_w7 := Lib.hid (HF_w6.out.trans hf)
  have HB_w7 := Lib.hid (HB2.out.trans (HF_w7.out.below HRE.out.2 HB2.out.size))
  clear hr hf HR_w6
  go_wp2_with fail
  refine ((Lib.hid (HC5.out r)).out w7 HR_w7.out).mono ?_
  rintro e w8 ⟨rfl, hr, hf⟩
  have HR_w8 := Lib.hid hr
  have HF_w8 := Lib.hid (HF_w7.out.trans hf)
  have HB_w8 := Lib.hid (HB2.out.trans (HF_w8.out.below HRE.out.2 HB2.out.size))
  clear hr hf HR_w7
  have HZ9 : Hid ((w8.alloc (.cells (tgA tz) 50)).heap[w8.heap.size]? = some (.cells (tgA tz) 50 (0, 0))) := heap_alloc_new _ _
  have HS9 : Hid (Below w8.heap.size w8 ((w8.alloc (.cells (tgA tz) 50)).setRow w8.heap.size (tgA x))) := below_setRow ((Below.refl _ _).alloc (Nat.le_refl _) _) (Nat.le_refl _) _
  have HT9 : Hid (TgRow ((w8.alloc (.cells (tgA tz) 50)).setRow w8.heap.size (tgA x)) w8.heap.size x) := TgRow.of (setRow_heap _ _ _ _ _ _ HZ9.out) HX20.out
  have HR_w9 := Lib.hid (HR_w8.out.below HS9.out)
  have HF_w9 := Lib.hid (HF_w8.out.trans (FrR.of HS9.out))
  have HB_w9 := Lib.hid (HB_w8.out.trans (HS9.out.mono HB_w8.out.size))
  have HLT9 : Hid (w8.heap.size < ((w8.alloc (.cells (tgA tz) 50)).setRow w8.heap.size (tgA x)).heap.size) := (Array.getElem?_eq_some_iff.1 (setRow_heap _ _ _ _ _ _ HZ9.out)).1
  have hwr := HR_w9.out.wrong
  have hTL : (tgL x).toArray = tgA x := rfl
  obtain ⟨b, hbs⟩ : ∃ b, s5.2 = b := ⟨_, rfl⟩
  rw [hbs] at HPA hwr
  clear HR_w8 hbs
  cases b
  rotate_left
  · have HPC : Hid (o = none) := by show _ = _; rw [HPA.out]; rfl
    have HZ_w9 := Lib.hid (HZF.out _ HF_w9.out)
    go_wp2_with (first
      | refine wpList_buildQ rfl 50 _ rfl #[(0, .agg (V8 O)), (1, .int .i64 ((kindUpto (txt V1) 4 : Nat) : Int)), (2, .string (txt V2)), (3, .agg (whoA X)), (4, .string (txt M))] (map_five' _ _ _ _ _ _ _ _ _ _ _ rfl rfl rfl rfl rfl) _ HBU.out ?_
      | refine wpList_store_row rfl 50 _ _ rfl w8.heap.size (tgA x) rfl rfl 50 (tgA tz) HZ9.out (info_tagA x HX20.out) (by rw [tgA_size _ HX20.out, tgA_size _ tz_20]) (tgA_one x) ?_
      | refine wpList_buildQ rfl 50 _ rfl #[] (by rfl) _ build_tag0 ?_
      | refine wpList_store_row rfl 50 _ _ rfl b2 (tgA tz) rfl rfl 50 (tgA tz) HZ_w9.out (info_tagA tz tz_20) rfl (tgA_one tz) ?_)
    refine bodyPost_ret (results_row_tmp Tryz.results17 _ _ b2 50 (tgA tz) (0, 0) _ rfl (setRow_heap _ _ _ _ _ _ HZ_w9.out) Tryz.underlying50 rfl (info_tagA tz tz_20)) rfl ⟨?_, ?_⟩
    · rw [HPC.out]; exact rfl
    · exact below_setRow HB_w9.out (Nat.le_of_eq HBE.out) _
  go_wp2_with (first
    | refine wpList_buildQ rfl 50 _ rfl #[(0, .agg (V8 O)), (1, .int .i64 ((kindUpto (txt V1) 4 : Nat) : Int)), (2, .string (txt V2)), (3, .agg (whoA X)), (4, .string (txt M))] (map_five' _ _ _ _ _ _ _ _ _ _ _ rfl rfl rfl rfl rfl) _ HBU.out ?_
    | refine wpList_store_row rfl 50 _ _ rfl w8.heap.size (tgA x) rfl rfl 50 (tgA tz) HZ9.out (info_tagA x HX20.out) (by rw [tgA_size _ HX20.out, tgA_size _ tz_20]) (tgA_one x) ?_
    | (refine wpList_load_mid_g rfl 50 _ rfl w8.heap.size 0 rfl (tgL x) _ HT9.out.cells Tryz.underlying50 rfl (info_tag x HX20.out) ?_; rw [hTL]))
  clear hwr
  obtain ⟨w9, hw9⟩ : ∃ W, (w8.alloc (.cells (tgA tz) 50)).setRow w8.heap.size (tgA x) = W := ⟨_, rfl⟩
  rw [hw9] at HT9 HR_w9 HF_w9 HB_w9 HLT9 ⊢
  obtain ⟨tb, htb⟩ : ∃ b, w8.heap.size = b := ⟨_, rfl⟩
  rw [htb] at HT9 HLT9 ⊢
  clear hw9 htb HZ9 HS9
  refine (taright_any x w9 HX20.out (by rw [HXO.out.2.2.2.1]; exact HWS.out)).mono ?_
  rintro e w10 ⟨rfl, hb⟩
  have HT10 := Lib.hid (HT9.out.below HLT9.out hb)
  have HB_w10 := Lib.hid (HB_w9.out.trans (hb.mono HB_w9.out.size))
  have HZ_w10 := Lib.hid (HZF.out _ (HF_w9.out.trans (FrR.of hb)))
  clear hb
  obtain ⟨q, hq⟩ : ∃ q, tagB x = q := ⟨_, rfl⟩
  rw [hq] at HPA ⊢
  clear hq
  cases q
  · have HPC : Hid (o = none) := by show _ = _; rw [HPA.out]; rfl
    go_wp2_with (first
      | refine wpList_buildQ rfl 50 _ rfl #[] (by rfl) _ build_tag0 ?_
      | refine wpList_store_row rfl 50 _ _ rfl b2 (tgA tz) rfl rfl 50 (tgA tz) HZ_w10.out (info_tagA tz tz_20) rfl (tgA_one tz) ?_)
    refine bodyPost_ret (results_row_tmp Tryz.results17 _ _ b2 50 (tgA tz) (0, 0) _ rfl (setRow_heap _ _ _ _ _ _ HZ_w10.out) Tryz.underlying50 rfl (info_tagA tz tz_20)) rfl ⟨?_, ?_⟩
    · rw [HPC.out]; exact rfl
    · exact below_setRow HB_w10.out (Nat.le_of_eq HBE.out) _
  · have HPC : Hid (o = some x) := by show _ = _; rw [HPA.out]; rfl
    go_wp2_with (first
      | (refine wpList_load_mid rfl 50 _ rfl tb 0 rfl (tgL x) _ HT10.out.cells Tryz.underlying50 rfl (info_tag x HX20.out) ?_; rw [hTL])
      | refine wpList_store_row rfl 50 _ _ rfl b2 (tgA x) rfl rfl 50 (tgA tz) HZ_w10.out (info_tagA x HX20.out) (by rw [tgA_size _ HX20.out, tgA_size _ tz_20]) (tgA_one x) ?_)
    refine bodyPost_ret (results_row_tmp Tryz.results17 _ _ b2 50 (tgA x) (0, 0) _ rfl (setRow_heap _ _ _ _ _ _ HZ_w10.out) Tryz.underlying50 rfl (info_tagA x HX20.out)) rfl ⟨?_, ?_⟩
    · rw [HPC.out]; exact rfl
    · exact below_setRow HB_w10.out (Nat.le_of_eq HBE.out) _
end Go.Proofs.YtindmggmblmmcaaGreatDoor
