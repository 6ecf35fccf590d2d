/- A commit as a struct; Commit.right: the walk. -/
import Derived.Test.YtkpiinjhcckhfaaGreatDoorCoExtra
import Derived.Test.YtkpiinjhcckhfaaGreatDoorChPrint
import Derived.Test.YtkpiinjhcckhfaaGreatDoorChRight
/-! A commit as a struct; Commit.right: the walk. -/
namespace Go.Proofs.YtkpiinjhcckhfaaGreatDoor
open Go.RowKit Plain Go.ChangeShapes Go.WideShapes Go.ChangeAt Go.Great
set_option linter.unusedVariables false
set_option linter.unusedSimpArgs false
theorem wpList_load_mid_g {P : Program} {ops : Array Oper} {rest : List Oper} {o : Oper} {a : Act} {w : World} {Q : Exit → Act → World → Prop} (hw : Region.wanted o (yielded ops a.tmps) = true) (ty : TypeId) (x : Operand) (ho : o.op = .load ty x)
    (b off : Nat) (hx : a.eval x = .pointer (some ⟨b, off, none⟩)) (cs : List Value) (d : TypeDesc) (hc : w.rangeAt b off cs)
    (hu : P.underlying ty = some d) (hd : d.isRow = true) (hi : (P.info? ty).map (·.size) = some cs.length)
    (h : wpList P ops Q rest (a.put o.dst (.agg cs.toArray)) w) : wpList P ops Q (o :: rest) a w := by
  refine wpList_step ?_
  intro K hK
  rw [if_pos hw]
  exact wp_load_mid ty x ho b off hx cs d hc hu hd hi (hK _ _ h)
theorem _root_.Go.Lib.IsBuilder.belowB {T e : TypeId} {B b : Nat} {bs : List Value} {w w' : World} (h : Lib.IsBuilder T e B b bs w) (hb : Below w.heap.size w w') : Lib.IsBuilder T e B b bs w' := by
  have key : ∀ p, Lib.BuilderAt T e B b p bs w → Lib.BuilderAt T e B b p bs w' := fun p hp => by
    obtain ⟨h1, v, h2, ⟨h3, h4⟩, h5⟩ := hp
    refine ⟨h1, v, (hb.block b (Array.getElem?_eq_some_iff.1 h2).1).trans h2, ⟨h3, ?_⟩, h5⟩
    rcases h4 with h4 | ⟨g, cap, cur, e1, e2, e3, e4⟩
    · exact .inl h4
    · exact .inr ⟨g, cap, cur, e1, e2, (hb.block g (Array.getElem?_eq_some_iff.1 e3).1).trans e3, e4⟩
  exact h.imp (key _) (key _)
theorem slice_str (a : ByteArray) (W : World) : (Instr.buildSlice 38 1 #[(0, .string a)]).run Tryz.prog W = .ok (.slice (some ⟨W.heap.size, 0, none⟩) 1 1) (W.alloc (.cells #[.string a] 9)) := by
  obtain ⟨hu, i, z, hi, hz, h1, -, h3⟩ := elem_str
  refine run_buildSlice W _ _ _ _ _ i _ hu hi hz (by rw [h1]; decide) (by rw [h1]; decide) ?_
  rw [h1]
  have := Go.Great.fill_whole (s := 1) (by omega) [Value.string a] (Array.map (fun x => z.cells[x % z.cells.size]!) (Array.range (1 * 1))) (fun v hv => by simp at hv; subst hv; rfl) (by simp)
  simpa [Value.cells] using this
structure CC where
  tr : List Int
  ps : List (List Int)
  a : WX
  c : WX
  xs : List (ByteArray × ByteArray)
  m : ByteArray
def idE (p : List Int) : List Value := if p.length = 20 then U8 p else U8 zeros20
theorem idE_len (p : List Int) : (idE p).length = 20 := by
  unfold idE
  split
  · rename_i h; rw [U8_length, h]
  · rw [U8_length]; rfl
theorem idE_of {p : List Int} (h : p.length = 20) : idE p = U8 p := if_pos h
theorem idE_one (p : List Int) : ∀ u ∈ idE p, u.oneCell' = true := by
  unfold idE
  split
  · exact U8_one _
  · exact U8_one _
theorem elem_id : Elem 30 29 20 20 := elem_of (z := .agg (V8 zeros20)) Tryz.underlying30 (by kernel_rfl) rfl
theorem elem_cext : Elem 32 69 2 32 := elem_of (z := .agg #[.string ⟨#[]⟩, .string ⟨#[]⟩]) Tryz.underlying32 (by kernel_rfl) rfl
theorem info_cext (x : ByteArray × ByteArray) : (Tryz.prog.info? 69).map (·.size) = some (extE x).length := by show _ = some 2; kernel_rfl
theorem info_cextA (x : ByteArray × ByteArray) : (Tryz.prog.info? 69).map (·.size) = some (extE x).toArray.size := by show _ = some 2; kernel_rfl
theorem info_whoL (x : WX) : (Tryz.prog.info? 31).map (·.size) = some (whoL x).length := by show _ = some 4; kernel_rfl
/-- Its cells behind the tree. -/
def coT (c : CC) (pv xv : Value) : List Value := pv :: (whoL c.a ++ (whoL c.c ++ [xv, .string c.m]))
def coL (c : CC) (pv xv : Value) : List Value := U8 c.tr ++ coT c pv xv
def coA (c : CC) (pv xv : Value) : Array Value := (coL c pv xv).toArray
theorem coL_len (c : CC) (pv xv : Value) (h : c.tr.length = 20) : (coL c pv xv).length = 31 := by unfold coL; rw [List.length_append, U8_length, h]; rfl
theorem coA_size (c : CC) (pv xv : Value) (h : c.tr.length = 20) : (coA c pv xv).size = 31 := by unfold coA; rw [List.size_toArray, coL_len c pv xv h]
theorem info_co (c : CC) (pv xv : Value) (h : c.tr.length = 20) : (Tryz.prog.info? 34).map (·.size) = some (coL c pv xv).length := by rw [coL_len c pv xv h]; kernel_rfl
theorem info_coA (c : CC) (pv xv : Value) (h : c.tr.length = 20) : (Tryz.prog.info? 34).map (·.size) = some (coA c pv xv).size := by rw [coA_size c pv xv h]; kernel_rfl
theorem range_mid {w : World} {b : Nat} {A B C : List Value} (h : w.rangeAt b 0 (A ++ (B ++ C))) (n : Nat) (hn : A.length = n) : w.rangeAt b n B := fun j v hj => by
  have hl := (List.getElem?_eq_some_iff.1 hj).1
  have := h (n + j) v (by rw [List.getElem?_append_right (by omega), hn, show n + j - n = j by omega, List.getElem?_append_left hl]; exact hj)
  rwa [Nat.zero_add] at this
structure CoRow (w : World) (b : Nat) (c : CC) (pv xv : Value) : Prop where
  n20 : c.tr.length = 20
  cells : w.rangeAt b 0 (coL c pv xv)
theorem CoRow.tree {w : World} {b : Nat} {c : CC} {pv xv : Value} (h : CoRow w b c pv xv) : w.rangeAt b 0 (U8 c.tr) := range_mid (A := []) (B := U8 c.tr) (C := coT c pv xv) h.cells 0 rfl
theorem CoRow.cell {w : World} {b : Nat} {c : CC} {pv xv : Value} (h : CoRow w b c pv xv) (i : Nat) {v : Value} (hv : (coT c pv xv)[i]? = some v) : w.cell? ⟨b, 20 + i, none⟩ = some v := by
  have := h.cells (20 + i) v (by unfold coL; rw [List.getElem?_append_right (by rw [U8_length, h.n20]; omega), U8_length, h.n20, show 20 + i - 20 = i by omega]; exact hv)
  rwa [Nat.zero_add] at this
theorem CoRow.pars {w : World} {b : Nat} {c : CC} {pv xv : Value} (h : CoRow w b c pv xv) : w.cell? ⟨b, 20, none⟩ = some pv := h.cell 0 rfl
theorem CoRow.exts {w : World} {b : Nat} {c : CC} {pv xv : Value} (h : CoRow w b c pv xv) : w.cell? ⟨b, 29, none⟩ = some xv := h.cell 9 rfl
theorem CoRow.msg {w : World} {b : Nat} {c : CC} {pv xv : Value} (h : CoRow w b c pv xv) : w.cell? ⟨b, 30, none⟩ = some (.string c.m) := h.cell 10 rfl
theorem CoRow.author {w : World} {b : Nat} {c : CC} {pv xv : Value} (h : CoRow w b c pv xv) : w.rangeAt b 21 (whoL c.a) :=
  range_mid (A := U8 c.tr ++ [pv]) (B := whoL c.a) (C := whoL c.c ++ [xv, .string c.m]) (by have := h.cells; unfold coL coT at this; rw [List.append_assoc]; exact this) 21 (by rw [List.length_append, U8_length, h.n20]; rfl)
theorem CoRow.committer {w : World} {b : Nat} {c : CC} {pv xv : Value} (h : CoRow w b c pv xv) : w.rangeAt b 25 (whoL c.c) :=
  range_mid (A := U8 c.tr ++ (pv :: whoL c.a)) (B := whoL c.c) (C := [xv, .string c.m]) (by have := h.cells; unfold coL coT at this; rw [List.append_assoc]; exact this) 25 (by rw [List.length_append, U8_length, h.n20]; rfl)
theorem CoRow.below {w w' : World} {b : Nat} {c : CC} {pv xv : Value} (h : CoRow w b c pv xv) (hl : b < w.heap.size) (hb : Below w.heap.size w w') : CoRow w' b c pv xv := ⟨h.n20, range_below h.cells hb hl⟩
theorem CoRow.of {w : World} {b : Nat} {c : CC} {pv xv : Value} {t : TypeId} {fr : Nat × Nat} (h : w.heap[b]? = some (.cells (coA c pv xv) t fr)) (h20 : c.tr.length = 20) : CoRow w b c pv xv := ⟨h20, fun j v hv => by
  rw [cell_of_row _ _ _ _ _ _ h, Nat.zero_add, ← hv]
  simp [coA]⟩
theorem coL_one (c : CC) (pv xv : Value) (hx : pv.oneCell' = true) (hf : xv.oneCell' = true) : ∀ u ∈ coL c pv xv, u.oneCell' = true := fun u hu => by
  unfold coL at hu
  rcases List.mem_append.1 hu with hu | hu
  · exact U8_one _ u hu
  · simp [coT, whoL] at hu
    rcases hu with rfl | rfl | rfl | rfl | rfl | rfl | rfl | rfl | rfl | rfl | rfl <;> first | rfl | assumption
theorem coA_one (c : CC) (pv xv : Value) (hx : pv.oneCell' = true) (hf : xv.oneCell' = true) : (coA c pv xv).all (·.oneCell') = true := by
  rw [Array.all_eq_true_iff_forall_mem]
  intro u hu
  exact coL_one c pv xv hx hf u (by simpa [coA] using hu)
/-- Where a commit's slices lie. -/
structure CoAt (w : World) (c : CC) (pa xa : Option Addr) : Prop where
  n20 : c.tr.length = 20
  byt : ∀ x ∈ c.tr, 0 ≤ x ∧ x ≤ 255
  ids : ∀ p ∈ c.ps, p.length = 20 ∧ ∀ x ∈ p, 0 ≤ x ∧ x ≤ 255
  pars : RowAt 20 idE w pa c.ps
  exts : RowAt 2 extE w xa c.xs
theorem CoAt.below {w w' : World} {c : CC} {pa xa : Option Addr} (h : CoAt w c pa xa) (hb : Below w.heap.size w w') : CoAt w' c pa xa := ⟨h.n20, h.byt, h.ids, h.pars.below hb, h.exts.below hb⟩
def coV (c : CC) (pa : Option Addr) (pc : Nat) (xa : Option Addr) (xc : Nat) : Array Value := coA c (.slice pa c.ps.length pc) (.slice xa c.xs.length xc)
def CoSmall (c : CC) : Prop := WhoSmall c.a ∧ WhoSmall c.c ∧ c.ps.length ≤ 40000 ∧ c.xs.length ≤ 40000 ∧ (∀ x ∈ c.xs, ExtSmall x) ∧ c.m.size ≤ 40000
def coR (c : CC) : Bool := c.xs.all extR && whoB c.a && whoB c.c
set_option maxRecDepth 100000 in
set_option maxHeartbeats 16000000 in
theorem coright_any (c : CC) (pv : Value) (xa : Option Addr) (xc : Nat) (w : World) (h20 : c.tr.length = 20) (hx : RowAt 2 extE w xa c.xs) (hs : CoSmall c) :
    Calls Tryz.prog 46 #[.agg (coA c pv (.slice xa c.xs.length xc))] w fun e w' => e = .returned (.bool (coR c)) ∧ Below w.heap.size w w' := by
  have HSM := Lib.hid hs
  have HAX := Lib.hid hx
  obtain ⟨n, hN⟩ : ∃ n, c.xs.length = n := ⟨_, rfl⟩
  have HN := Lib.hid hN
  have HNB : Hid (n ≤ 40000) := by rw [← hN]; exact hs.2.2.2.1
  rw [hN]
  obtain ⟨xv, hxv⟩ : ∃ v, Value.slice xa n xc = v := ⟨_, rfl⟩
  rw [hxv]
  have HB0 : Hid (Below w.heap.size w (w.alloc (.cells (coA c pv xv) 34))) := (Below.refl _ _).alloc (Nat.le_refl _) _
  have HCW0 : Hid (CoRow (w.alloc (.cells (coA c pv xv) 34)) w.heap.size c pv xv) := CoRow.of (heap_alloc_new _ _) h20
  have HSZ0 : Hid (w.heap.size < (w.alloc (.cells (coA c pv xv) 34)).heap.size) := by show _ < _; simp
  have hcx := HCW0.out.exts
  clear hN h20 hx hs
  go_enter Tryz.func46, Tryz.ntmps46
  subst hxv
  go_wp2_with fail
  generalize w.alloc (.cells (coA c pv (.slice xa n xc)) 34) = w0 at *
  clear hcx
  have HCW : Hid (∀ W, Below w0.heap.size w0 W → CoRow W w.heap.size c pv (.slice xa n xc)) := fun W hW => HCW0.out.below HSZ0.out hW
  obtain ⟨p0, hp0⟩ : ∃ p, w.heap.size = p := ⟨_, rfl⟩
  simp only [hp0] at HCW ⊢
  have HPE := Lib.hid hp0
  clear HCW0 HSZ0 hp0
  go_loopw [8] (fun i wr => ∃ k : Nat, k ≤ n ∧ i = .int .i64 (k : Int) ∧ (∀ x ∈ c.xs.take k, extR x = true) ∧ Below w0.heap.size w0 wr) (fun i _ => n - (intOf i).toNat)
  case atStart => exact ⟨0, Nat.zero_le _, rfl, fun x hx => by simp at hx, Below.refl _ _⟩
  case round =>
    obtain ⟨k, hk, rfl, hok, hb⟩ := hrel
    have HOK := Lib.hid hok
    have HBW := Lib.hid hb
    have WK := Lib.hid (next_int k (by have := HNB.out; omega))
    clear hok hb
    by_cases hkn : k < n
    · have hki : (k : Int) < (n : Int) := by omega
      have HKN := Lib.hid hkn
      rcases HAX.out with h0 | ⟨b, off, rfl, hbl, hc⟩
      · rw [HN.out] at h0; omega
      obtain ⟨x, hp⟩ : ∃ x, c.xs[k]? = some x := ⟨_, List.getElem?_eq_getElem (by rw [HN.out]; exact hkn)⟩
      have HP := Lib.hid hp
      have HXM := Lib.hid (List.mem_of_getElem? hp)
      have HXS := Lib.hid (HSM.out.2.2.2.2.1 x HXM.out)
      have HRX := Lib.hid (range_below (hc k x hp) (HB0.out.trans (HBW.out.mono HB0.out.size)) hbl)
      have HZX : Hid ((wr.alloc (.cells #[.string ⟨#[]⟩, .string ⟨#[]⟩] 69)).heap[wr.heap.size]? = some (.cells #[.string ⟨#[]⟩, .string ⟨#[]⟩] 69 (0, 0))) := heap_alloc_new _ _
      have HXA : Hid (((wr.alloc (.cells #[.string ⟨#[]⟩, .string ⟨#[]⟩] 69)).setRow wr.heap.size (extE x).toArray).heap[wr.heap.size]? = some (.cells (extE x).toArray 69 (0, 0))) := setRow_heap _ _ _ _ _ _ HZX.out
      have HBS : Hid (Below wr.heap.size wr ((wr.alloc (.cells #[.string ⟨#[]⟩, .string ⟨#[]⟩] 69)).setRow wr.heap.size (extE x).toArray)) := below_setRow ((Below.refl _ _).alloc (Nat.le_refl _) _) (Nat.le_refl _) _
      clear hp hbl hc hkn hk
      go_wp2_with (first
        | refine wpList_load_mid rfl 69 _ rfl b (off + k * 2) rfl (extE x) _ HRX.out Tryz.underlying69 rfl (info_cext x) ?_
        | refine wpList_store_row rfl 69 _ _ rfl wr.heap.size (extE x).toArray rfl rfl 69 #[.string ⟨#[]⟩, .string ⟨#[]⟩] HZX.out (info_cextA x) rfl (extA_one x) ?_
        | refine wpList_load_row rfl 69 _ rfl wr.heap.size rfl 69 (extE x).toArray (0, 0) _ HXA.out Tryz.underlying69 rfl (info_cextA x) ?_)
      generalize (wr.alloc (.cells #[.string ⟨#[]⟩, .string ⟨#[]⟩] 69)).setRow wr.heap.size (extE x).toArray = w3 at *
      refine (extright_any x w3 HXS.out).mono ?_
      rintro e w4 ⟨rfl, hb⟩
      have HB4 := Lib.hid (HBW.out.trans ((HBS.out.trans (hb.mono HBS.out.size)).mono HBW.out.size))
      clear hb HZX HXA HBS HRX
      cases hr : extR x
      · have HF : Hid (coR c = false) := by
          show _ = _
          unfold coR
          rw [List.all_eq_false.2 ⟨x, HXM.out, by rw [hr]; decide⟩]; rfl
        clear hr
        go_wp2_with fail
        (try simp only [Exit.inBlock, Exit.then])
        go_ret
        exact ⟨by rw [HF.out] <;> rfl, HB0.out.trans (HB4.out.mono HB0.out.size)⟩
      · have HGO : Hid (∀ y ∈ c.xs.take (k + 1), extR y = true) := fun y hy => by
          rw [List.take_add_one, HP.out] at hy
          rcases List.mem_append.1 hy with hy | hy
          · exact HOK.out y hy
          · simp at hy; rw [hy]; exact hr
        clear hr
        go_wp2_with fail
        exact ⟨⟨k + 1, HKN.out, by first | rw [WK.out _ rfl] | rfl, HGO.out, HB4.out⟩, by have := HKN.out; (first | rw [WK.out _ rfl] | skip); simp [intOf]; omega⟩
    · have hki : ¬ (k : Int) < (n : Int) := by omega
      have HAL : Hid (c.xs.all extR = true) := by
        show _ = _
        rw [List.all_eq_true]
        intro x hx
        exact HOK.out x (by rw [List.take_of_length_le (by rw [HN.out]; omega)]; exact hx)
      have HCO : Hid (coR c = (whoB c.a && whoB c.c)) := by show _ = _; unfold coR; rw [HAL.out]; simp
      have HRW := Lib.hid (HCW.out wr HBW.out)
      clear hkn hk
      go_wp2_with (first
        | refine wpList_load_mid rfl 31 _ rfl p0 21 rfl (whoL c.a) _ HRW.out.author Tryz.underlying31 rfl (info_whoL c.a) ?_)
      refine (who_any c.a wr HSM.out.1).mono ?_
      rintro e w4 ⟨rfl, hb⟩
      have HB4 := Lib.hid (HBW.out.trans (hb.mono HBW.out.size))
      have HRW4 := Lib.hid (HCW.out w4 HB4.out)
      clear hb HRW
      cases hr : whoB c.a
      · have HF : Hid (coR c = false) := by show _ = _; rw [HCO.out, hr]; rfl
        clear hr
        go_wp2_with fail
        go_ret
        exact ⟨by rw [HF.out] <;> rfl, HB0.out.trans (HB4.out.mono HB0.out.size)⟩
      · have HF : Hid (coR c = whoB c.c) := by show _ = _; rw [HCO.out, hr]; rfl
        clear hr
        go_wp2_with (first
          | refine wpList_load_mid_g rfl 31 _ rfl p0 25 rfl (whoL c.c) _ HRW4.out.committer Tryz.underlying31 rfl (info_whoL c.c) ?_)
        refine (who_any c.c w4 HSM.out.2.1).mono ?_
        rintro e w5 ⟨rfl, hb⟩
        have HB5 := Lib.hid (HB4.out.trans (hb.mono HB4.out.size))
        clear hb
        go_wp2_with fail
        go_ret
        exact ⟨by rw [HF.out] <;> rfl, HB0.out.trans (HB5.out.mono HB0.out.size)⟩
end Go.Proofs.YtkpiinjhcckhfaaGreatDoor
/-! commit.Print: the walk. -/
namespace Go.Proofs.YtkpiinjhcckhfaaGreatDoor
open Go.RowKit Plain Go.ChangeShapes Go.WideShapes Go.ChangeAt Go.Great
set_option linter.unusedVariables false
set_option linter.unusedSimpArgs false
def treeT (c : CC) : List UInt8 := [116, 114, 101, 101, 32] ++ hexOf c.tr ++ [10]
def parT (p : List Int) : List UInt8 := [112, 97, 114, 101, 110, 116, 32] ++ hexOf p ++ [10]
def autT (c : CC) : List UInt8 := [97, 117, 116, 104, 111, 114, 32] ++ whoT c.a ++ [10]
def comT (c : CC) : List UInt8 := [99, 111, 109, 109, 105, 116, 116, 101, 114, 32] ++ whoT c.c ++ [10]
def exsT (xs : List (ByteArray × ByteArray)) : List UInt8 := xs.flatMap fun x => extT x ++ [10]
def frontT (c : CC) : List UInt8 := treeT c ++ c.ps.flatMap parT ++ autT c ++ comT c
def printC (c : CC) : List UInt8 := frontT c ++ exsT c.xs ++ [10] ++ c.m.data.toList
theorem _root_.Go.Lib.IsBuilder.lt {T e : TypeId} {B b : Nat} {bs : List Value} {w : World} (h : Lib.IsBuilder T e B b bs w) : b < w.heap.size := h.elim (·.lt) (·.lt)
theorem whoT_len {x : WX} (h : WhoSmall x) : (whoT x).length ≤ 120030 := by
  obtain ⟨h1, h2, h3, h4⟩ := h
  have h5 := itoa_len x.t h4
  rw [Lib.size_eq] at h1 h2 h3
  unfold whoT
  simp only [List.length_append, List.length_cons, List.length_nil]
  omega
theorem flat_le' {α : Type} (f : α → List UInt8) (B : Nat) : ∀ xs : List α, (∀ x ∈ xs, (f x).length ≤ B) → (xs.flatMap f).length ≤ xs.length * B
  | [], _ => by simp
  | x :: xs, h => by
    have h1 := h x (List.mem_cons_self ..)
    have h2 := flat_le' f B xs fun y hy => h y (List.mem_cons_of_mem _ hy)
    rw [List.flatMap_cons, List.length_append, List.length_cons, Nat.succ_mul]; omega
theorem parT_len {p : List Int} (h : p.length = 20) : (parT p).length = 48 := by
  unfold parT
  rw [List.length_append, List.length_append, hexOf_length, h]; rfl
theorem treeT_len {c : CC} (h : c.tr.length = 20) : (treeT c).length = 46 := by
  unfold treeT
  rw [List.length_append, List.length_append, hexOf_length, h]; rfl
theorem pars_len {ps : List (List Int)} (hi : ∀ p ∈ ps, p.length = 20) (hn : ps.length ≤ 40000) : (ps.flatMap parT).length ≤ 2000000 := by
  have := flat_le' parT 48 ps fun p hp => Nat.le_of_eq (parT_len (hi p hp))
  omega
theorem exsT_len {xs : List (ByteArray × ByteArray)} (hi : ∀ x ∈ xs, ExtSmall x) (hn : xs.length ≤ 40000) : (exsT xs).length ≤ 6500000000 := by
  have := flat_le' (fun x => extT x ++ [10]) 160004 xs fun x hx => by
    have := extT_len (hi x hx)
    rw [List.length_append]; simp only [List.length_cons, List.length_nil]; omega
  unfold exsT
  omega
theorem frontT_len {c : CC} (hs : CoSmall c) (h20 : c.tr.length = 20) (hi : ∀ p ∈ c.ps, p.length = 20) : (frontT c).length ≤ 3000000 := by
  have h1 := whoT_len hs.1
  have h2 := whoT_len hs.2.1
  have h3 := pars_len hi hs.2.2.1
  have h4 := treeT_len h20
  unfold frontT autT comT
  simp only [List.length_append, List.length_cons, List.length_nil]
  omega
/-- What is printed. -/
def CoPrint (e : Ending) (w' : World) (c : CC) : Prop :=
  (coR c = true ∧ ∃ a cap, e = .returned (.tuple #[.slice a (printC c).length cap, .int .i64 0]) ∧ (printC c).length ≤ cap ∧ Bytes w' a (printC c).length (numsOf (txt (printC c)))) ∨ (coR c = false ∧ e = .returned (.tuple #[.slice none 0 0, .int .i64 4]))
theorem txt_hex (p : List Int) : (⟨(hexOf p).toArray⟩ : ByteArray) = txt (hexOf p) := rfl
theorem cat_two (a b : ByteArray) : catB [a, b] = a.data.toList ++ b.data.toList := by simp [catB]
theorem cat_one (a : ByteArray) : catB [a] = a.data.toList := by simp [catB]
theorem line2 (bb : Nat) (L L2 : List UInt8) (A B : ByteArray) (w w1 : World) (hu : Lib.IsBuilder 95 5 bb bb (Lib.byteCells L) w) (hb : Below bb w1 w) (hl : L.length ≤ 100000000000) (hA : A.size ≤ 1000000000) (hB : B.size ≤ 1000000000) (he : L ++ (A.data.toList ++ B.data.toList) ++ [10] = L2) :
    Calls Tryz.prog 47 #[.pointer (some ⟨bb, 0, none⟩), .slice (some ⟨w.heap.size, 0, none⟩) 2 2] (w.alloc (.cells #[.string A, .string B] 9)) fun e w' => e = .returned (.tuple #[]) ∧ Lib.IsBuilder 95 5 bb bb (Lib.byteCells L2) w' ∧ Below bb w1 w' := by
  have hlt := hu.lt
  refine (line_any bb bb L (.slice (some ⟨w.heap.size, 0, none⟩) 2 2) [A, B] (w.alloc (.cells #[.string A, .string B] 9)) (hu.belowB ((Below.refl _ _).alloc (Nat.le_refl _) _)) hl (.inr ⟨w.heap.size, 2, 9, rfl, by decide, by omega, heap_alloc_new _ _⟩) (by simp) (fun p hp => by
    simp at hp
    rcases hp with rfl | rfl
    · exact hA
    · exact hB) (by simp; omega)).mono ?_
  rintro e w' ⟨rfl, h1, h2⟩
  rw [cat_two, he] at h1
  exact ⟨rfl, h1, (hb.alloc (by omega) _).trans h2⟩
theorem line1 (bb : Nat) (L L2 : List UInt8) (A : ByteArray) (w w1 : World) (hu : Lib.IsBuilder 95 5 bb bb (Lib.byteCells L) w) (hb : Below bb w1 w) (hl : L.length ≤ 100000000000) (hA : A.size ≤ 1000000000) (he : L ++ A.data.toList ++ [10] = L2) :
    Calls Tryz.prog 47 #[.pointer (some ⟨bb, 0, none⟩), .slice (some ⟨w.heap.size, 0, none⟩) 1 1] (w.alloc (.cells #[.string A] 9)) fun e w' => e = .returned (.tuple #[]) ∧ Lib.IsBuilder 95 5 bb bb (Lib.byteCells L2) w' ∧ Below bb w1 w' := by
  have hlt := hu.lt
  refine (line_any bb bb L (.slice (some ⟨w.heap.size, 0, none⟩) 1 1) [A] (w.alloc (.cells #[.string A] 9)) (hu.belowB ((Below.refl _ _).alloc (Nat.le_refl _) _)) hl (.inr ⟨w.heap.size, 1, 9, rfl, by decide, by omega, heap_alloc_new _ _⟩) (by simp) (fun p hp => by
    simp at hp
    subst hp; exact hA) (by simp; omega)).mono ?_
  rintro e w' ⟨rfl, h1, h2⟩
  rw [cat_one, he] at h1
  exact ⟨rfl, h1, (hb.alloc (by omega) _).trans h2⟩
theorem line0 (bb : Nat) (L : List UInt8) (w w1 : World) (hu : Lib.IsBuilder 95 5 bb bb (Lib.byteCells L) w) (hb : Below bb w1 w) (hl : L.length ≤ 100000000000) :
    Calls Tryz.prog 47 #[.pointer (some ⟨bb, 0, none⟩), .slice none 0 0] w fun e w' => e = .returned (.tuple #[]) ∧ Lib.IsBuilder 95 5 bb bb (Lib.byteCells (L ++ [10])) w' ∧ Below bb w1 w' := by
  have hlt := hu.lt
  refine (line_any bb bb L (.slice none 0 0) [] w hu hl (.inl ⟨rfl, rfl⟩) (by simp) (fun p hp => by simp at hp) (by omega)).mono ?_
  rintro e w' ⟨rfl, h1, h2⟩
  rw [show L ++ catB [] ++ [10] = L ++ [10] by simp [catB]] at h1
  exact ⟨rfl, h1, hb.trans h2⟩
theorem hexT_size {p : List Int} (h : p.length = 20) : (txt (hexOf p)).size ≤ 1000000000 := by rw [txt_size, hexOf_length, h]; decide
theorem par_cons (p : List Int) (L : List UInt8) : L ++ ([112, 97, 114, 101, 110, 116, 32] ++ hexOf p) ++ [10] = L ++ parT p := by unfold parT; simp
set_option maxRecDepth 100000 in
set_option maxHeartbeats 32000000 in
theorem coprint_any (c : CC) (pa : Option Addr) (pc : Nat) (xa : Option Addr) (xc : Nat) (w : World) (h : CoAt w c pa xa) (hs : CoSmall c) (hE : EnvC w) :
    Calls Tryz.prog 29 #[.agg (coV c pa pc xa xc)] w fun e w' => CoPrint e w' c ∧ Below w.heap.size w w' := by
  have HSM := Lib.hid hs
  have HE := Lib.hid hE
  have HAT := Lib.hid h
  obtain ⟨n, hN⟩ : ∃ n, c.xs.length = n := ⟨_, rfl⟩
  obtain ⟨pn, hPN⟩ : ∃ n, c.ps.length = n := ⟨_, rfl⟩
  have HN := Lib.hid hN
  have HPN := Lib.hid hPN
  have HNB : Hid (n ≤ 40000) := by rw [← hN]; exact hs.2.2.2.1
  have HPB : Hid (pn ≤ 40000) := by rw [← hPN]; exact hs.2.2.1
  have HN20 := Lib.hid h.n20
  have HBY := Lib.hid h.byt
  have HIDS := Lib.hid h.ids
  have HID20 : Hid (∀ p ∈ c.ps, p.length = 20) := fun p hp => (h.ids p hp).1
  unfold coV
  rw [hN, hPN]
  have HRI0 := fun W (hW : Below w.heap.size w W) => coright_any c (.slice pa pn pc) xa xc W h.n20 (h.exts.below hW) hs
  rw [hN] at HRI0
  have HRI := Lib.hid HRI0
  have HB0 : Hid (Below w.heap.size w (w.alloc (.cells (coA c (.slice pa pn pc) (.slice xa n xc)) 34))) := (Below.refl _ _).alloc (Nat.le_refl _) _
  have HCW0 : Hid (CoRow (w.alloc (.cells (coA c (.slice pa pn pc) (.slice xa n xc)) 34)) w.heap.size c (.slice pa pn pc) (.slice xa n xc)) := CoRow.of (heap_alloc_new _ _) h.n20
  have HSZ0 : Hid (w.heap.size < (w.alloc (.cells (coA c (.slice pa pn pc) (.slice xa n xc)) 34)).heap.size) := by show _ < _; simp
  have HICO := Lib.hid (info_co c (.slice pa pn pc) (.slice xa n xc) h.n20)
  have HIDI := Lib.hid (id_info8 c.tr h.n20)
  have HFL := Lib.hid (frontT_len hs h.n20 HID20.out)
  have HXL := Lib.hid (exsT_len hs.2.2.2.2.1 hs.2.2.2.1)
  clear hN hPN h hs hE HRI0
  go_enter Tryz.func29, Tryz.ntmps29
  go_wp2_with (first
    | refine wpList_load_mid rfl 34 _ rfl w.heap.size 0 rfl (coL c (.slice pa pn pc) (.slice xa n xc)) _ HCW0.out.cells Tryz.underlying34 rfl HICO.out ?_)
  generalize w.alloc (.cells (coA c (.slice pa pn pc) (.slice xa n xc)) 34) = w0 at *
  have HCW : Hid (∀ W, Below w0.heap.size w0 W → CoRow W w.heap.size c (.slice pa pn pc) (.slice xa n xc)) := fun W hW => HCW0.out.below HSZ0.out hW
  refine (HRI.out w0 HB0.out).mono ?_
  rintro e w1 ⟨rfl, hb⟩
  have HB1 := Lib.hid hb
  have HB01 := Lib.hid (HB0.out.trans (hb.mono HB0.out.size))
  clear hb HRI
  cases hr : coR c
  · have HP : Hid (CoPrint (.returned (.tuple #[.slice none 0 0, .int .i64 4])) w1 c) := .inr ⟨hr, rfl⟩
    clear hr
    go_wp2_with fail
    go_ret2
    exact ⟨HP.out, HB01.out⟩
  have HRC := Lib.hid hr
  clear hr
  have HBA : Hid (Below w1.heap.size w1 (w1.alloc (.cells #[.pointer none, .slice none 0 0] 95))) := (Below.refl _ _).alloc (Nat.le_refl _) _
  have HZB : Hid ((w1.alloc (.cells #[.pointer none, .slice none 0 0] 95)).heap[w1.heap.size]? = some (.cells #[.pointer none, .slice none 0 0] 95 (0, 0))) := heap_alloc_new _ _
  have HCW2 := Lib.hid (HCW.out _ (HB1.out.trans (HBA.out.mono HB1.out.size)))
  go_wp2_with (first
    | refine wpList_load_mid rfl 29 _ rfl w.heap.size 0 rfl (U8 c.tr) _ HCW2.out.tree Tryz.underlying29 rfl HIDI.out ?_)
  clear HCW2
  generalize w1.alloc (.cells #[.pointer none, .slice none 0 0] 95) = w2 at *
  obtain ⟨bb, hbb⟩ : ∃ b, w1.heap.size = b := ⟨_, rfl⟩
  simp only [hbb] at HBA HZB ⊢
  have HBE := Lib.hid hbb
  have HBB_w2 : Hid (Below bb w1 w2) := HBA.out
  have HU_w2 : Hid (Lib.IsBuilder 95 5 bb bb (Lib.byteCells []) w2) := .inl ⟨Nat.le_refl _, _, HZB.out, World.ownsRow_nil _ _ _ _, by simp [Value.ownBlock]⟩
  clear hbb HBA HZB
  have HCR : Hid (∀ W, Below bb w1 W → CoRow W w.heap.size c (.slice pa pn pc) (.slice xa n xc)) := fun W hW => HCW.out W (HB1.out.trans (hW.mono (by have := HB1.out.size; have := HBE.out; omega)))
  have HWW : Hid (∀ W, Below bb w1 W → Below w.heap.size w W) := fun W hW => HB01.out.trans (hW.mono (by have := HB01.out.size; have := HBE.out; omega))
  refine (hex_any c.tr w2 HN20.out HBY.out).mono ?_
  rintro e w3 ⟨rfl, hb⟩
  rw [txt_hex]
  have HU_w3 := Lib.hid (HU_w2.out.belowB hb)
  have HBB_w3 := Lib.hid (HBB_w2.out.trans (hb.mono (Nat.le_of_lt HU_w2.out.lt)))
  clear hb HU_w2 HBB_w2
  go_wp2_with (first
    | refine wpList_slice rfl 38 2 #[(0, _), (1, _)] rfl #[(0, .string ⟨#[116, 114, 101, 101, 32]⟩), (1, .string (txt (hexOf c.tr)))] (map_two _ _ _ _ _ rfl rfl) _ _ (slice_pair _ _ w3) ?_)
  refine (line2 bb [] (treeT c) ⟨#[116, 114, 101, 101, 32]⟩ (txt (hexOf c.tr)) w3 w1 HU_w3.out HBB_w3.out (by simp) (by decide) (hexT_size HN20.out) (by rw [txt_list]; rfl)).mono ?_
  rintro e w4 ⟨rfl, hu, hb⟩
  have HU_w4 := Lib.hid hu
  have HBB_w4 := Lib.hid hb
  clear hu hb HU_w3 HBB_w3
  have hpv := (HCR.out w4 HBB_w4.out).pars
  have HU_w4 : Hid (Lib.IsBuilder 95 5 bb bb (Lib.byteCells (treeT c ++ (c.ps.take 0).flatMap parT)) w4) := by show Lib.IsBuilder _ _ _ _ _ _; simpa using HU_w4.out
  have HTL := Lib.hid (treeT_len HN20.out)
  go_wp2_with fail
  clear hpv
  go_loopw [20] (fun i wr => ∃ k : Nat, k ≤ pn ∧ i = .int .i64 (k : Int) ∧ Lib.IsBuilder 95 5 bb bb (Lib.byteCells (treeT c ++ (c.ps.take k).flatMap parT)) wr ∧ Below bb w1 wr) (fun i _ => pn - (intOf i).toNat)
  case atStart => exact ⟨0, Nat.zero_le _, rfl, HU_w4.out, HBB_w4.out⟩
  case round =>
    obtain ⟨k, hk, rfl, hu, hb⟩ := hrel
    have HU_wr := Lib.hid hu
    have HBB_wr := Lib.hid hb
    have WK := Lib.hid (next_int k (by have := HPB.out; omega))
    clear hu hb HU_w4 HBB_w4
    by_cases hkn : k < pn
    · have hki : (k : Int) < (pn : Int) := by omega
      have HKN := Lib.hid hkn
      rcases HAT.out.pars with h0 | ⟨b, off, rfl, hbl, hc⟩
      · rw [HPN.out] at h0; omega
      obtain ⟨p, hp⟩ : ∃ p, c.ps[k]? = some p := ⟨_, List.getElem?_eq_getElem (by rw [HPN.out]; exact hkn)⟩
      have HPM := Lib.hid (List.mem_of_getElem? hp)
      obtain ⟨hp20, hpb⟩ := HIDS.out p HPM.out
      have HP20 := Lib.hid hp20
      have HPBY := Lib.hid hpb
      have HTK : Hid ((c.ps.take (k + 1)).flatMap parT = (c.ps.take k).flatMap parT ++ parT p) := by show _ = _; rw [List.take_add_one, hp, List.flatMap_append]; simp
      have HRX : Hid (wr.rangeAt b (off + k * 20) (U8 p)) := by
        have := range_below (hc k p hp) (HWW.out wr HBB_wr.out) hbl
        rw [idE_of hp20] at this; exact this
      have HLT : Hid ((treeT c ++ (c.ps.take k).flatMap parT).length ≤ 3000000) := by
        have h1 := pars_len (ps := c.ps.take k) (fun q hq => HID20.out q (List.mem_of_mem_take hq)) (by rw [List.length_take, HPN.out]; have := HPB.out; omega)
        have h2 := HTL.out
        show _ ≤ _
        rw [List.length_append]; omega
      have HZX : Hid ((wr.alloc (.cells (V8 zeros20) 29)).heap[wr.heap.size]? = some (.cells (V8 zeros20) 29 (0, 0))) := heap_alloc_new _ _
      have HXA : Hid (((wr.alloc (.cells (V8 zeros20) 29)).setRow wr.heap.size (V8 p)).heap[wr.heap.size]? = some (.cells (V8 p) 29 (0, 0))) := setRow_heap _ _ _ _ _ _ HZX.out
      have HBS : Hid (Below wr.heap.size wr ((wr.alloc (.cells (V8 zeros20) 29)).setRow wr.heap.size (V8 p))) := below_setRow ((Below.refl _ _).alloc (Nat.le_refl _) _) (Nat.le_refl _) _
      have HPI := Lib.hid (id_info8 p hp20)
      have HPA := Lib.hid (id_info p hp20)
      have HSZ : Hid ((V8 zeros20).size = (V8 p).size) := by show _ = _; rw [V8_size, V8_size, hp20]; rfl
      have hz := zero_id
      clear hp hbl hc hkn hk hp20 hpb
      go_wp2_with (first
        | refine wpList_load_mid rfl 29 _ rfl b (off + k * 20) rfl (U8 p) _ HRX.out Tryz.underlying29 rfl HPI.out ?_
        | refine wpList_store_row rfl 29 _ _ rfl wr.heap.size (V8 p) rfl rfl 29 (V8 zeros20) HZX.out HPA.out HSZ.out (V8_one _) ?_
        | refine wpList_load_row rfl 29 _ rfl wr.heap.size rfl 29 (V8 p) (0, 0) _ HXA.out Tryz.underlying29 rfl HPA.out ?_)
      have HBLT := HU_wr.out.lt
      have HU_w5 := Lib.hid (HU_wr.out.belowB HBS.out)
      have HBB_w5 := Lib.hid (HBB_wr.out.trans (HBS.out.mono (Nat.le_of_lt HBLT)))
      generalize (wr.alloc (.cells (V8 zeros20) 29)).setRow wr.heap.size (V8 p) = w5 at *
      refine (hex_any p w5 HP20.out HPBY.out).mono ?_
      rintro e w6 ⟨rfl, hb⟩
      rw [txt_hex]
      have HU_w6 := Lib.hid (HU_w5.out.belowB hb)
      have HBB_w6 := Lib.hid (HBB_w5.out.trans (hb.mono (Nat.le_of_lt HU_w5.out.lt)))
      clear hb HU_w5 HBB_w5 HZX HXA HBS hz HBLT
      go_wp2_with (first
        | refine wpList_slice rfl 38 2 #[(0, _), (1, _)] rfl #[(0, .string ⟨#[112, 97, 114, 101, 110, 116, 32]⟩), (1, .string (txt (hexOf p)))] (map_two _ _ _ _ _ rfl rfl) _ _ (slice_pair _ _ w6) ?_)
      refine (line2 bb (treeT c ++ (c.ps.take k).flatMap parT) (treeT c ++ (c.ps.take (k + 1)).flatMap parT) ⟨#[112, 97, 114, 101, 110, 116, 32]⟩ (txt (hexOf p)) w6 w1 HU_w6.out HBB_w6.out (by have := HLT.out; omega) (by decide) (hexT_size HP20.out) (by rw [txt_list, HTK.out, ← List.append_assoc (treeT c)]; exact par_cons p _)).mono ?_
      rintro e w7 ⟨rfl, hu, hb⟩
      have HU_w7 := Lib.hid hu
      have HBB_w7 := Lib.hid hb
      clear hu hb HU_w6 HBB_w6
      go_wp2_with fail
      exact ⟨⟨k + 1, HKN.out, by first | rw [WK.out _ rfl] | rfl, HU_w7.out, HBB_w7.out⟩, by have := HKN.out; (first | rw [WK.out _ rfl] | skip); simp [intOf]; omega⟩
    · have hki : ¬ (k : Int) < (pn : Int) := by omega
      have HTA : Hid (c.ps.take k = c.ps) := List.take_of_length_le (by rw [HPN.out]; omega)
      rw [HTA.out] at HU_wr
      clear hkn hk HTA
      have HFR : Hid ((treeT c ++ c.ps.flatMap parT).length ≤ 3000000 ∧ (treeT c ++ c.ps.flatMap parT ++ autT c).length ≤ 3000000) := by
        have h1 := HFL.out
        unfold frontT at h1
        show _ ∧ _
        simp only [List.length_append] at h1 ⊢
        omega
      have HRW_wr := Lib.hid (HCR.out wr HBB_wr.out)
      go_wp2_with (first
        | refine wpList_load_mid rfl 31 _ rfl w.heap.size 21 rfl (whoL c.a) _ HRW_wr.out.author Tryz.underlying31 rfl (info_whoL c.a) ?_)
      refine (whotext_any c.a wr (HE.out.below (HWW.out wr HBB_wr.out)) HSM.out.1).mono ?_
      rintro e wa ⟨rfl, hb⟩
      have HU_wa := Lib.hid (HU_wr.out.belowB hb)
      have HBB_wa := Lib.hid (HBB_wr.out.trans (hb.mono (Nat.le_of_lt HU_wr.out.lt)))
      clear hb HU_wr HBB_wr HRW_wr
      go_wp2_with (first
        | refine wpList_slice rfl 38 2 #[(0, _), (1, _)] rfl #[(0, .string ⟨#[97, 117, 116, 104, 111, 114, 32]⟩), (1, .string (txt (whoT c.a)))] (map_two _ _ _ _ _ rfl rfl) _ _ (slice_pair _ _ wa) ?_)
      refine (line2 bb (treeT c ++ c.ps.flatMap parT) (treeT c ++ c.ps.flatMap parT ++ autT c) ⟨#[97, 117, 116, 104, 111, 114, 32]⟩ (txt (whoT c.a)) wa w1 HU_wa.out HBB_wa.out (by have := HFR.out.1; omega) (by decide) (by rw [txt_size]; have := whoT_len HSM.out.1; omega) (by rw [txt_list]; unfold autT; simp)).mono ?_
      rintro e wb ⟨rfl, hu, hb⟩
      have HU_wb := Lib.hid hu
      have HBB_wb := Lib.hid hb
      clear hu hb HU_wa HBB_wa
      have HRW_wb := Lib.hid (HCR.out wb HBB_wb.out)
      go_wp2_with (first
        | refine wpList_load_mid rfl 31 _ rfl w.heap.size 25 rfl (whoL c.c) _ HRW_wb.out.committer Tryz.underlying31 rfl (info_whoL c.c) ?_)
      refine (whotext_any c.c wb (HE.out.below (HWW.out wb HBB_wb.out)) HSM.out.2.1).mono ?_
      rintro e wc ⟨rfl, hb⟩
      have HU_wc := Lib.hid (HU_wb.out.belowB hb)
      have HBB_wc := Lib.hid (HBB_wb.out.trans (hb.mono (Nat.le_of_lt HU_wb.out.lt)))
      clear hb HU_wb HBB_wb HRW_wb
      go_wp2_with (first
        | refine wpList_slice rfl 38 2 #[(0, _), (1, _)] rfl #[(0, .string ⟨#[99, 111, 109, 109, 105, 116, 116, 101, 114, 32]⟩), (1, .string (txt (whoT c.c)))] (map_two _ _ _ _ _ rfl rfl) _ _ (slice_pair _ _ wc) ?_)
      refine (line2 bb (treeT c ++ c.ps.flatMap parT ++ autT c) (frontT c) ⟨#[99, 111, 109, 109, 105, 116, 116, 101, 114, 32]⟩ (txt (whoT c.c)) wc w1 HU_wc.out HBB_wc.out (by have := HFR.out.2; omega) (by decide) (by rw [txt_size]; have := whoT_len HSM.out.2.1; omega) (by rw [txt_list]; unfold frontT comT; simp)).mono ?_
      rintro e wd ⟨rfl, hu, hb⟩
      have HU_wd := Lib.hid hu
      have HBB_wd := Lib.hid hb
      clear hu hb HU_wc HBB_wc
      have hxv := (HCR.out wd HBB_wd.out).exts
      have HU_wd : Hid (Lib.IsBuilder 95 5 bb bb (Lib.byteCells (frontT c ++ exsT (c.xs.take 0))) wd) := by show Lib.IsBuilder _ _ _ _ _ _; simpa [exsT] using HU_wd.out
      go_wp2_with fail
      clear hxv
      go_loopw [42] (fun i wr => ∃ k : Nat, k ≤ n ∧ i = .int .i64 (k : Int) ∧ Lib.IsBuilder 95 5 bb bb (Lib.byteCells (frontT c ++ exsT (c.xs.take k))) wr ∧ Below bb w1 wr) (fun i _ => n - (intOf i).toNat)
      case atStart => exact ⟨0, Nat.zero_le _, rfl, HU_wd.out, HBB_wd.out⟩
      case round =>
        rename World => wr
        obtain ⟨k, hk, rfl, hu, hb⟩ := hrel
        have HU_wr := Lib.hid hu
        have HBB_wr := Lib.hid hb
        have WK := Lib.hid (next_int k (by have := HNB.out; omega))
        have HLT : Hid ((frontT c ++ exsT (c.xs.take k)).length ≤ 6600000000) := by
          have h1 := exsT_len (xs := c.xs.take k) (fun q hq => HSM.out.2.2.2.2.1 q (List.mem_of_mem_take hq)) (by rw [List.length_take, HN.out]; have := HNB.out; omega)
          have h2 := HFL.out
          show _ ≤ _
          rw [List.length_append]; omega
        clear hu hb HU_wd HBB_wd
        by_cases hkn : k < n
        · have hki : (k : Int) < (n : Int) := by omega
          have HKN := Lib.hid hkn
          rcases HAT.out.exts with h0 | ⟨b, off, rfl, hbl, hc⟩
          · rw [HN.out] at h0; omega
          obtain ⟨x, hp⟩ : ∃ x, c.xs[k]? = some x := ⟨_, List.getElem?_eq_getElem (by rw [HN.out]; exact hkn)⟩
          have HXS := Lib.hid (HSM.out.2.2.2.2.1 x (List.mem_of_getElem? hp))
          have HTK : Hid (exsT (c.xs.take (k + 1)) = exsT (c.xs.take k) ++ (extT x ++ [10])) := by show _ = _; unfold exsT; rw [List.take_add_one, hp, List.flatMap_append]; simp
          have HRX := Lib.hid (range_below (hc k x hp) (HWW.out wr HBB_wr.out) hbl)
          have HZX : Hid ((wr.alloc (.cells #[.string ⟨#[]⟩, .string ⟨#[]⟩] 69)).heap[wr.heap.size]? = some (.cells #[.string ⟨#[]⟩, .string ⟨#[]⟩] 69 (0, 0))) := heap_alloc_new _ _
          have HXA : Hid (((wr.alloc (.cells #[.string ⟨#[]⟩, .string ⟨#[]⟩] 69)).setRow wr.heap.size (extE x).toArray).heap[wr.heap.size]? = some (.cells (extE x).toArray 69 (0, 0))) := setRow_heap _ _ _ _ _ _ HZX.out
          have HBS : Hid (Below wr.heap.size wr ((wr.alloc (.cells #[.string ⟨#[]⟩, .string ⟨#[]⟩] 69)).setRow wr.heap.size (extE x).toArray)) := below_setRow ((Below.refl _ _).alloc (Nat.le_refl _) _) (Nat.le_refl _) _
          clear hp hbl hc hkn hk
          go_wp2_with (first
            | refine wpList_load_mid rfl 69 _ rfl b (off + k * 2) rfl (extE x) _ HRX.out Tryz.underlying69 rfl (info_cext x) ?_
            | refine wpList_store_row rfl 69 _ _ rfl wr.heap.size (extE x).toArray rfl rfl 69 #[.string ⟨#[]⟩, .string ⟨#[]⟩] HZX.out (info_cextA x) rfl (extA_one x) ?_
            | refine wpList_load_row rfl 69 _ rfl wr.heap.size rfl 69 (extE x).toArray (0, 0) _ HXA.out Tryz.underlying69 rfl (info_cextA x) ?_)
          have HU_w5 := Lib.hid (HU_wr.out.belowB HBS.out)
          have HBB_w5 := Lib.hid (HBB_wr.out.trans (HBS.out.mono (Nat.le_of_lt HU_wr.out.lt)))
          generalize (wr.alloc (.cells #[.string ⟨#[]⟩, .string ⟨#[]⟩] 69)).setRow wr.heap.size (extE x).toArray = w5 at *
          refine (exttext_any x w5 (HE.out.below (HWW.out w5 HBB_w5.out)) HXS.out).mono ?_
          rintro e w6 ⟨rfl, hb⟩
          have HU_w6 := Lib.hid (HU_w5.out.belowB hb)
          have HBB_w6 := Lib.hid (HBB_w5.out.trans (hb.mono (Nat.le_of_lt HU_w5.out.lt)))
          clear hb HU_w5 HBB_w5 HZX HXA HBS
          go_wp2_with (first
            | refine wpList_slice rfl 38 1 #[(0, _)] rfl #[(0, .string (txt (extT x)))] (map_one _ _ _ rfl) _ _ (slice_str _ w6) ?_)
          refine (line1 bb (frontT c ++ exsT (c.xs.take k)) (frontT c ++ exsT (c.xs.take (k + 1))) (txt (extT x)) w6 w1 HU_w6.out HBB_w6.out (by have := HLT.out; omega) (by rw [txt_size]; have := extT_len HXS.out; omega) (by rw [txt_list, HTK.out]; simp)).mono ?_
          rintro e w7 ⟨rfl, hu, hb⟩
          have HU_w7 := Lib.hid hu
          have HBB_w7 := Lib.hid hb
          clear hu hb HU_w6 HBB_w6
          go_wp2_with fail
          exact ⟨⟨k + 1, HKN.out, by first | rw [WK.out _ rfl] | rfl, HU_w7.out, HBB_w7.out⟩, by have := HKN.out; (first | rw [WK.out _ rfl] | skip); simp [intOf]; omega⟩
        · have hki : ¬ (k : Int) < (n : Int) := by omega
          have HTA : Hid (c.xs.take k = c.xs) := List.take_of_length_le (by rw [HN.out]; omega)
          rw [HTA.out] at HU_wr HLT
          clear hkn hk HTA
          go_wp2_with fail
          refine (line0 bb (frontT c ++ exsT c.xs) wr w1 HU_wr.out HBB_wr.out (by have := HLT.out; omega)).mono ?_
          rintro e w5 ⟨rfl, hu, hb⟩
          have HU_w5 := Lib.hid hu
          have HBB_w5 := Lib.hid hb
          clear hu hb HU_wr HBB_wr
          have hmg := (HCR.out w5 HBB_w5.out).msg
          go_wp2_with fail
          clear hmg
          refine (writeStr_k bb bb (frontT c ++ exsT c.xs ++ [10]) c.m w5 HU_w5.out (by have h1 := HLT.out; have h2 := HSM.out.2.2.2.2.2; simp only [List.length_append, List.length_cons, List.length_nil] at h1 ⊢; omega) (Nat.le_of_lt HU_w5.out.lt)).mono ?_
          rintro e w6 ⟨rfl, ⟨hu, hb⟩, -⟩
          have HU_w6 : Hid (Lib.IsBuilder 95 5 bb bb (Lib.byteCells (printC c)) w6) := .inr hu
          have HBB_w6 := Lib.hid (HBB_w5.out.trans hb)
          clear hu hb HU_w5 HBB_w5
          go_wp2_with fail
          refine (Tryz.Builder_String_any bb bb (printC c) w6 HU_w6.out (Nat.le_of_lt HU_w6.out.lt)).mono ?_
          rintro e w7 ⟨rfl, hb⟩
          have HB07 := Lib.hid (HWW.out w7 (HBB_w6.out.trans hb))
          clear hb HU_w6 HBB_w6
          have hsz := txt_size (printC c)
          have hpl : (printC c).length ≤ 6700000000 := by
            have h1 := HLT.out
            have h2 := HSM.out.2.2.2.2.2
            rw [Lib.size_eq] at h2
            unfold printC
            simp only [List.length_append, List.length_cons, List.length_nil] at h1 ⊢
            omega
          obtain ⟨cp, hcp, hcv⟩ := conv_bytes w7 (txt (printC c))
          have hby := bytes_new w7 (txt (printC c)) (by rw [hsz]; omega)
          rw [hsz] at hcp hcv hby
          have HCP := Lib.hid hcp
          have HBYT := Lib.hid hby
          have HBL : Hid (Below w.heap.size w (Lib.bytesWorld w7 5 (txt (printC c)))) := HB07.out.trans ((Lib.bytesWorld_below _ _ _).mono HB07.out.size)
          clear hcp hby hsz hpl
          have HP : Hid (CoPrint (.returned (.tuple #[.slice (some ⟨w7.heap.size, 0, none⟩) (printC c).length cp, .int .i64 0])) (Lib.bytesWorld w7 5 (txt (printC c))) c) := .inl ⟨HRC.out, _, _, rfl, HCP.out, HBYT.out⟩
          obtain ⟨pl, hpl⟩ : ∃ l, (printC c).length = l := ⟨_, rfl⟩
          rw [hpl] at hcv HP
          clear hpl
          have hcv2 : (convert 9 71 (.string ⟨(printC c).toArray⟩)).run Tryz.prog w7 = .ok (.slice (some ⟨w7.heap.size, 0, none⟩) pl cp) (Lib.bytesWorld w7 5 (txt (printC c))) := hcv
          clear hcv
          go_wp2_with fail
          go_ret2
          exact ⟨HP.out, HBL.out⟩
end Go.Proofs.YtkpiinjhcckhfaaGreatDoor
