/- A commit as a struct; Commit.right: the walk. -/
import Derived.Test.YtindmggmblmmcaaGreatDoorCoExtra
namespace Go.Proofs.YtindmggmblmmcaaGreatDoor
open Go.RowKit Plain Go.ChangeShapes Go.WideShapes Go.ChangeAt Go.Great
set_option linter.unusedVariables false
set_option linter.unusedSimpArgs false
theorem wpList_load_mid_g {P : Program} {ops : Array Oper} {rest : List Oper} {o : Oper} {a : Act} {w : World} {Q : Exit → Act → World → Prop} (hw : Region.wanted o (yielded ops a.tmps) = true) (ty : TypeId) (x : Operand) (ho : o.op = .load ty x)
    (b off : Nat) (hx : a.eval x = .pointer (some ⟨b, off, none⟩)) (cs : List Value) (d : TypeDesc) (hc : w.rangeAt b off cs)
    (hu : P.underlying ty = some d) (hd : d.isRow = true) (hi : (P.info? ty).map (·.size) = some cs.length)
    (h : wpList P ops Q rest (a.put o.dst (.agg cs.toArray)) w) : wpList P ops Q (o :: rest) a w := by
  refine wpList_step ?_
  intro K hK
  rw [if_pos hw]
  exact wp_load_mid ty x ho b off hx cs d hc hu hd hi (hK _ _ h)
theorem _root_.Go.Lib.IsBuilder.belowB {T e : TypeId} {B b : Nat} {bs : List Value} {w w' : World} (h : Lib.IsBuilder T e B b bs w) (hb : Below w.heap.size w w') : Lib.IsBuilder T e B b bs w' := by
  have key : ∀ p, Lib.BuilderAt T e B b p bs w → Lib.BuilderAt T e B b p bs w' := fun p hp => by
    obtain ⟨h1, v, h2, ⟨h3, h4⟩, h5⟩ := hp
    refine ⟨h1, v, (hb.block b (Array.getElem?_eq_some_iff.1 h2).1).trans h2, ⟨h3, ?_⟩, h5⟩
    rcases h4 with h4 | ⟨g, cap, cur, e1, e2, e3, e4⟩
    · exact .inl h4
    · exact .inr ⟨g, cap, cur, e1, e2, (hb.block g (Array.getElem?_eq_some_iff.1 e3).1).trans e3, e4⟩
  exact h.imp (key _) (key _)
theorem slice_pair (a b : ByteArray) (W : World) : (Instr.buildSlice 98 2 #[(0, .string a), (1, .string b)]).run Tryz.prog W = .ok (.slice (some ⟨W.heap.size, 0, none⟩) 2 2) (W.alloc (.cells #[.string a, .string b] 9)) := by
  obtain ⟨hu, i, z, hi, hz, h1, -, h3⟩ := elem_str
  refine run_buildSlice W _ _ _ _ _ i _ hu hi hz (by rw [h1]; decide) (by rw [h1]; decide) ?_
  rw [h1]
  have := Go.Great.fill_whole (s := 1) (by omega) [Value.string a, .string b] (Array.map (fun x => z.cells[x % z.cells.size]!) (Array.range (2 * 1))) (fun v hv => by simp at hv; rcases hv with rfl | rfl <;> rfl) (by simp)
  simpa [Value.cells] using this
theorem id_info8 (xs : List Int) (h : xs.length = 20) : (Tryz.prog.info? 29).map (·.size) = some (U8 xs).length := by rw [U8_length, h]; kernel_rfl
theorem slice_str (a : ByteArray) (W : World) : (Instr.buildSlice 98 1 #[(0, .string a)]).run Tryz.prog W = .ok (.slice (some ⟨W.heap.size, 0, none⟩) 1 1) (W.alloc (.cells #[.string a] 9)) := by
  obtain ⟨hu, i, z, hi, hz, h1, -, h3⟩ := elem_str
  refine run_buildSlice W _ _ _ _ _ i _ hu hi hz (by rw [h1]; decide) (by rw [h1]; decide) ?_
  rw [h1]
  have := Go.Great.fill_whole (s := 1) (by omega) [Value.string a] (Array.map (fun x => z.cells[x % z.cells.size]!) (Array.range (1 * 1))) (fun v hv => by simp at hv; subst hv; rfl) (by simp)
  simpa [Value.cells] using this
structure CC where
  tr : List Int
  ps : List (List Int)
  a : WX
  c : WX
  xs : List (ByteArray × ByteArray)
  m : ByteArray
def idE (p : List Int) : List Value := if p.length = 20 then U8 p else U8 zeros20
theorem idE_len (p : List Int) : (idE p).length = 20 := by
  unfold idE
  split
  · rename_i h; rw [U8_length, h]
  · rw [U8_length]; rfl
theorem idE_of {p : List Int} (h : p.length = 20) : idE p = U8 p := if_pos h
theorem idE_one (p : List Int) : ∀ u ∈ idE p, u.oneCell' = true := by
  unfold idE
  split
  · exact U8_one _
  · exact U8_one _
theorem elem_id : Elem 30 29 20 20 := elem_of (z := .agg (V8 zeros20)) Tryz.underlying30 (by kernel_rfl) rfl
theorem elem_ext : Elem 32 76 2 32 := elem_of (z := .agg #[.string ⟨#[]⟩, .string ⟨#[]⟩]) Tryz.underlying32 (by kernel_rfl) rfl
theorem info_ext (x : ByteArray × ByteArray) : (Tryz.prog.info? 76).map (·.size) = some (extE x).length := by show _ = some 2; kernel_rfl
theorem info_extA (x : ByteArray × ByteArray) : (Tryz.prog.info? 76).map (·.size) = some (extE x).toArray.size := by show _ = some 2; kernel_rfl
theorem extA_one (x : ByteArray × ByteArray) : (extE x).toArray.all (·.oneCell') = true := by
  rw [Array.all_eq_true_iff_forall_mem]; intro v hv; exact extE_one x v (by simpa using hv)
theorem info_whoL (x : WX) : (Tryz.prog.info? 31).map (·.size) = some (whoL x).length := by show _ = some 4; kernel_rfl
/-- Its cells behind the tree. -/
def coT (c : CC) (pv xv : Value) : List Value := pv :: (whoL c.a ++ (whoL c.c ++ [xv, .string c.m]))
def coL (c : CC) (pv xv : Value) : List Value := U8 c.tr ++ coT c pv xv
def coA (c : CC) (pv xv : Value) : Array Value := (coL c pv xv).toArray
theorem coL_len (c : CC) (pv xv : Value) (h : c.tr.length = 20) : (coL c pv xv).length = 31 := by unfold coL; rw [List.length_append, U8_length, h]; rfl
theorem coA_size (c : CC) (pv xv : Value) (h : c.tr.length = 20) : (coA c pv xv).size = 31 := by unfold coA; rw [List.size_toArray, coL_len c pv xv h]
theorem info_co (c : CC) (pv xv : Value) (h : c.tr.length = 20) : (Tryz.prog.info? 34).map (·.size) = some (coL c pv xv).length := by rw [coL_len c pv xv h]; kernel_rfl
theorem info_coA (c : CC) (pv xv : Value) (h : c.tr.length = 20) : (Tryz.prog.info? 34).map (·.size) = some (coA c pv xv).size := by rw [coA_size c pv xv h]; kernel_rfl
theorem range_mid {w : World} {b : Nat} {A B C : List Value} (h : w.rangeAt b 0 (A ++ (B ++ C))) (n : Nat) (hn : A.length = n) : w.rangeAt b n B := fun j v hj => by
  have hl := (List.getElem?_eq_some_iff.1 hj).1
  have := h (n + j) v (by rw [List.getElem?_append_right (by omega), hn, show n + j - n = j by omega, List.getElem?_append_left hl]; exact hj)
  rwa [Nat.zero_add] at this
structure CoRow (w : World) (b : Nat) (c : CC) (pv xv : Value) : Prop where
  n20 : c.tr.length = 20
  cells : w.rangeAt b 0 (coL c pv xv)
theorem CoRow.tree {w : World} {b : Nat} {c : CC} {pv xv : Value} (h : CoRow w b c pv xv) : w.rangeAt b 0 (U8 c.tr) := range_mid (A := []) (B := U8 c.tr) (C := coT c pv xv) h.cells 0 rfl
theorem CoRow.cell {w : World} {b : Nat} {c : CC} {pv xv : Value} (h : CoRow w b c pv xv) (i : Nat) {v : Value} (hv : (coT c pv xv)[i]? = some v) : w.cell? ⟨b, 20 + i, none⟩ = some v := by
  have := h.cells (20 + i) v (by unfold coL; rw [List.getElem?_append_right (by rw [U8_length, h.n20]; omega), U8_length, h.n20, show 20 + i - 20 = i by omega]; exact hv)
  rwa [Nat.zero_add] at this
theorem CoRow.pars {w : World} {b : Nat} {c : CC} {pv xv : Value} (h : CoRow w b c pv xv) : w.cell? ⟨b, 20, none⟩ = some pv := h.cell 0 rfl
theorem CoRow.exts {w : World} {b : Nat} {c : CC} {pv xv : Value} (h : CoRow w b c pv xv) : w.cell? ⟨b, 29, none⟩ = some xv := h.cell 9 rfl
theorem CoRow.msg {w : World} {b : Nat} {c : CC} {pv xv : Value} (h : CoRow w b c pv xv) : w.cell? ⟨b, 30, none⟩ = some (.string c.m) := h.cell 10 rfl
theorem CoRow.author {w : World} {b : Nat} {c : CC} {pv xv : Value} (h : CoRow w b c pv xv) : w.rangeAt b 21 (whoL c.a) :=
  range_mid (A := U8 c.tr ++ [pv]) (B := whoL c.a) (C := whoL c.c ++ [xv, .string c.m]) (by have := h.cells; unfold coL coT at this; rw [List.append_assoc]; exact this) 21 (by rw [List.length_append, U8_length, h.n20]; rfl)
theorem CoRow.committer {w : World} {b : Nat} {c : CC} {pv xv : Value} (h : CoRow w b c pv xv) : w.rangeAt b 25 (whoL c.c) :=
  range_mid (A := U8 c.tr ++ (pv :: whoL c.a)) (B := whoL c.c) (C := [xv, .string c.m]) (by have := h.cells; unfold coL coT at this; rw [List.append_assoc]; exact this) 25 (by rw [List.length_append, U8_length, h.n20]; rfl)
theorem CoRow.below {w w' : World} {b : Nat} {c : CC} {pv xv : Value} (h : CoRow w b c pv xv) (hl : b < w.heap.size) (hb : Below w.heap.size w w') : CoRow w' b c pv xv := ⟨h.n20, range_below h.cells hb hl⟩
theorem CoRow.of {w : World} {b : Nat} {c : CC} {pv xv : Value} {t : TypeId} {fr : Nat × Nat} (h : w.heap[b]? = some (.cells (coA c pv xv) t fr)) (h20 : c.tr.length = 20) : CoRow w b c pv xv := ⟨h20, fun j v hv => by
  rw [cell_of_row _ _ _ _ _ _ h, Nat.zero_add, ← hv]
  simp [coA]⟩
theorem coL_one (c : CC) (pv xv : Value) (hx : pv.oneCell' = true) (hf : xv.oneCell' = true) : ∀ u ∈ coL c pv xv, u.oneCell' = true := fun u hu => by
  unfold coL at hu
  rcases List.mem_append.1 hu with hu | hu
  · exact U8_one _ u hu
  · simp [coT, whoL] at hu
    rcases hu with rfl | rfl | rfl | rfl | rfl | rfl | rfl | rfl | rfl | rfl | rfl <;> first | rfl | assumption
theorem coA_one (c : CC) (pv xv : Value) (hx : pv.oneCell' = true) (hf : xv.oneCell' = true) : (coA c pv xv).all (·.oneCell') = true := by
  rw [Array.all_eq_true_iff_forall_mem]
  intro u hu
  exact coL_one c pv xv hx hf u (by simpa [coA] using hu)
/-- Where a commit's slices lie. -/
structure CoAt (w : World) (c : CC) (pa xa : Option Addr) : Prop where
  n20 : c.tr.length = 20
  byt : ∀ x ∈ c.tr, 0 ≤ x ∧ x ≤ 255
  ids : ∀ p ∈ c.ps, p.length = 20 ∧ ∀ x ∈ p, 0 ≤ x ∧ x ≤ 255
  pars : RowAt 20 idE w pa c.ps
  exts : RowAt 2 extE w xa c.xs
theorem CoAt.below {w w' : World} {c : CC} {pa xa : Option Addr} (h : CoAt w c pa xa) (hb : Below w.heap.size w w') : CoAt w' c pa xa := ⟨h.n20, h.byt, h.ids, h.pars.below hb, h.exts.below hb⟩
def coV (c : CC) (pa : Option Addr) (pc : Nat) (xa : Option Addr) (xc : Nat) : Array Value := coA c (.slice pa c.ps.length pc) (.slice xa c.xs.length xc)
def CoSmall (c : CC) : Prop := WhoSmall c.a ∧ WhoSmall c.c ∧ c.ps.length ≤ 40000 ∧ c.xs.length ≤ 40000 ∧ (∀ x ∈ c.xs, ExtSmall x) ∧ c.m.size ≤ 40000
def coR (c : CC) : Bool := c.xs.all extR && whoB c.a && whoB c.c
set_option maxRecDepth 100000 in
set_option maxHeartbeats 16000000 in
theorem coright_any (c : CC) (pv : Value) (xa : Option Addr) (xc : Nat) (w : World) (h20 : c.tr.length = 20) (hx : RowAt 2 extE w xa c.xs) (hs : CoSmall c) :
    Calls Tryz.prog 31 #[.agg (coA c pv (.slice xa c.xs.length xc))] w fun e w' => e = .returned (.bool (coR c)) ∧ Below w.heap.size w w' := by
  have HSM := Lib.hid hs
  have HAX := Lib.hid hx
  obtain ⟨n, hN⟩ : ∃ n, c.xs.length = n := ⟨_, rfl⟩
  have HN := Lib.hid hN
  have HNB : Hid (n ≤ 40000) := by rw [← hN]; exact hs.2.2.2.1
  rw [hN]
  obtain ⟨xv, hxv⟩ : ∃ v, Value.slice xa n xc = v := ⟨_, rfl⟩
  rw [hxv]
  have HB0 : Hid (Below w.heap.size w (w.alloc (.cells (coA c pv xv) 34))) := (Below.refl _ _).alloc (Nat.le_refl _) _
  have HCW0 : Hid (CoRow (w.alloc (.cells (coA c pv xv) 34)) w.heap.size c pv xv) := CoRow.of (heap_alloc_new _ _) h20
  have HSZ0 : Hid (w.heap.size < (w.alloc (.cells (coA c pv xv) 34)).heap.size) := by show _ < _; simp
  have hcx := HCW0.out.exts
  clear hN h20 hx hs
  go_enter Tryz.func31, Tryz.ntmps31
  subst hxv
  go_wp2_with fail
  generalize w.alloc (.cells (coA c pv (.slice xa n xc)) 34) = w0 at *
  clear hcx
  have HCW : Hid (∀ W, Below w0.heap.size w0 W → CoRow W w.heap.size c pv (.slice xa n xc)) := fun W hW => HCW0.out.below HSZ0.out hW
  obtain ⟨p0, hp0⟩ : ∃ p, w.heap.size = p := ⟨_, rfl⟩
  simp only [hp0] at HCW ⊢
  have HPE := Lib.hid hp0
  clear HCW0 HSZ0 hp0
  go_loopw [8] (fun i wr => ∃ k : Nat, k ≤ n ∧ i = .int .i64 (k : Int) ∧ (∀ x ∈ c.xs.take k, extR x = true) ∧ Below w0.heap.size w0 wr) (fun i _ => n - (intOf i).toNat)
  case atStart => exact ⟨0, Nat.zero_le _, rfl, fun x hx => by simp at hx, Below.refl _ _⟩
  case round =>
    obtain ⟨k, hk, rfl, hok, hb⟩ := hrel
    have HOK := Lib.hid hok
    have HBW := Lib.hid hb
    have WK := Lib.hid (next_int k (by have := HNB.out; omega))
    clear hok hb
    by_cases hkn : k < n
    · have hki : (k : Int) < (n : Int) := by omega
      have HKN := Lib.hid hkn
      rcases HAX.out with h0 | ⟨b, off, rfl, hbl, hc⟩
      · rw [HN.out] at h0; omega
      obtain ⟨x, hp⟩ : ∃ x, c.xs[k]? = some x := ⟨_, List.getElem?_eq_getElem (by rw [HN.out]; exact hkn)⟩
      have HP := Lib.hid hp
      have HXM := Lib.hid (List.mem_of_getElem? hp)
      have HXS := Lib.hid (HSM.out.2.2.2.2.1 x HXM.out)
      have HRX := Lib.hid (range_below (hc k x hp) (HB0.out.trans (HBW.out.mono HB0.out.size)) hbl)
      have HZX : Hid ((wr.alloc (.cells #[.string ⟨#[]⟩, .string ⟨#[]⟩] 76)).heap[wr.heap.size]? = some (.cells #[.string ⟨#[]⟩, .string ⟨#[]⟩] 76 (0, 0))) := heap_alloc_new _ _
      have HXA : Hid (((wr.alloc (.cells #[.string ⟨#[]⟩, .string ⟨#[]⟩] 76)).setRow wr.heap.size (extE x).toArray).heap[wr.heap.size]? = some (.cells (extE x).toArray 76 (0, 0))) := setRow_heap _ _ _ _ _ _ HZX.out
      have HBS : Hid (Below wr.heap.size wr ((wr.alloc (.cells #[.string ⟨#[]⟩, .string ⟨#[]⟩] 76)).setRow wr.heap.size (extE x).toArray)) := below_setRow ((Below.refl _ _).alloc (Nat.le_refl _) _) (Nat.le_refl _) _
      clear hp hbl hc hkn hk
      go_wp2_with (first
        | refine wpList_load_mid rfl 76 _ rfl b (off + k * 2) rfl (extE x) _ HRX.out Tryz.underlying76 rfl (info_ext x) ?_
        | refine wpList_store_row rfl 76 _ _ rfl wr.heap.size (extE x).toArray rfl rfl 76 #[.string ⟨#[]⟩, .string ⟨#[]⟩] HZX.out (info_extA x) rfl (extA_one x) ?_
        | refine wpList_load_row rfl 76 _ rfl wr.heap.size rfl 76 (extE x).toArray (0, 0) _ HXA.out Tryz.underlying76 rfl (info_extA x) ?_)
      generalize (wr.alloc (.cells #[.string ⟨#[]⟩, .string ⟨#[]⟩] 76)).setRow wr.heap.size (extE x).toArray = w3 at *
      refine (extright_any x w3 HXS.out).mono ?_
      rintro e w4 ⟨rfl, hb⟩
      have HB4 := Lib.hid (HBW.out.trans ((HBS.out.trans (hb.mono HBS.out.size)).mono HBW.out.size))
      clear hb HZX HXA HBS HRX
      cases hr : extR x
      · have HF : Hid (coR c = false) := by
          show _ = _
          unfold coR
          rw [List.all_eq_false.2 ⟨x, HXM.out, by rw [hr]; decide⟩]; rfl
        clear hr
        go_wp2_with fail
        (try simp only [Exit.inBlock, Exit.then])
        go_ret
        exact ⟨by rw [HF.out] <;> rfl, HB0.out.trans (HB4.out.mono HB0.out.size)⟩
      · have HGO : Hid (∀ y ∈ c.xs.take (k + 1), extR y = true) := fun y hy => by
          rw [List.take_add_one, HP.out] at hy
          rcases List.mem_append.1 hy with hy | hy
          · exact HOK.out y hy
          · simp at hy; rw [hy]; exact hr
        clear hr
        go_wp2_with fail
        exact ⟨⟨k + 1, HKN.out, by first | rw [WK.out _ rfl] | rfl, HGO.out, HB4.out⟩, by have := HKN.out; (first | rw [WK.out _ rfl] | skip); simp [intOf]; omega⟩
    · have hki : ¬ (k : Int) < (n : Int) := by omega
      have HAL : Hid (c.xs.all extR = true) := by
        show _ = _
        rw [List.all_eq_true]
        intro x hx
        exact HOK.out x (by rw [List.take_of_length_le (by rw [HN.out]; omega)]; exact hx)
      have HCO : Hid (coR c = (whoB c.a && whoB c.c)) := by show _ = _; unfold coR; rw [HAL.out]; simp
      have HRW := Lib.hid (HCW.out wr HBW.out)
      clear hkn hk
      go_wp2_with (first
        | refine wpList_load_mid rfl 31 _ rfl p0 21 rfl (whoL c.a) _ HRW.out.author Tryz.underlying31 rfl (info_whoL c.a) ?_)
      refine (who_any c.a wr HSM.out.1).mono ?_
      rintro e w4 ⟨rfl, hb⟩
      have HB4 := Lib.hid (HBW.out.trans (hb.mono HBW.out.size))
      have HRW4 := Lib.hid (HCW.out w4 HB4.out)
      clear hb HRW
      cases hr : whoB c.a
      · have HF : Hid (coR c = false) := by show _ = _; rw [HCO.out, hr]; rfl
        clear hr
        go_wp2_with fail
        go_ret
        exact ⟨by rw [HF.out] <;> rfl, HB0.out.trans (HB4.out.mono HB0.out.size)⟩
      · have HF : Hid (coR c = whoB c.c) := by show _ = _; rw [HCO.out, hr]; rfl
        clear hr
        go_wp2_with (first
          | refine wpList_load_mid_g rfl 31 _ rfl p0 25 rfl (whoL c.c) _ HRW4.out.committer Tryz.underlying31 rfl (info_whoL c.c) ?_)
        refine (who_any c.c w4 HSM.out.2.1).mono ?_
        rintro e w5 ⟨rfl, hb⟩
        have HB5 := Lib.hid (HB4.out.trans (hb.mono HB4.out.size))
        clear hb
        go_wp2_with fail
        go_ret
        exact ⟨by rw [HF.out] <;> rfl, HB0.out.trans (HB5.out.mono HB0.out.size)⟩
end Go.Proofs.YtindmggmblmmcaaGreatDoor
