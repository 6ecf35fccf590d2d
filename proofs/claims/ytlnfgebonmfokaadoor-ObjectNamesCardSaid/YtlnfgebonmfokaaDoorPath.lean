/- Where an object lies: the walk; the chapter's example. -/
import Derived.Test.YtlnfgebonmfokaaDoorId
namespace Go.Proofs.YtlnfgebonmfokaaDoor
open Go.RowKit Plain
set_option linter.unusedVariables false
theorem hexSum_any (s : Five) (w : World) : Calls Tryd.prog 17 #[.agg (idTo s 20)] w fun e w' => e = .returned (.string ⟨(hexOf (tbs s)).toArray⟩) ∧ Below w.heap.size w w' := by
  rw [idTo_tbs]
  exact hex_any _ w (tbs_length s) (tbs_bytes s)
def hexT (s : Five) : ByteArray := ⟨(hexOf (tbs s)).toArray⟩
def objectsT : ByteArray := ⟨#[111, 98, 106, 101, 99, 116, 115, 47]⟩
def slashT : ByteArray := ⟨#[47]⟩
/-- A path. -/
def pathT (h : ByteArray) : ByteArray := objectsT ++ h.extract 0 2 ++ slashT ++ h.extract 2 40
theorem hexT_size (s : Five) : (hexT s).size = 40 := by
  show (hexOf (tbs s)).toArray.size = 40
  rw [List.size_toArray, hexOf_length, tbs_length]
set_option maxRecDepth 100000 in
set_option maxHeartbeats 4000000 in
theorem path_any (s : Five) (w : World) : Calls Tryd.prog 13 #[.agg (idTo s 20)] w fun e w' => e = .returned (.string (pathT (hexT s))) ∧ Below w.heap.size w w' := by
  have HI : Hid ((Tryd.prog.info? 25).map (·.size) = some (idTo s 20).size) := infoId _ (idTo_size _ _)
  have HS : Hid ((hexT s).size = 40) := hexT_size s
  have hso : (idTo s 20).size = 20 := idTo_size _ _
  have HX := hexSum_any s
  change ∀ w, Calls Tryd.prog 17 #[.agg (idTo s 20)] w fun e w' => e = .returned (.string (hexT s)) ∧ Below w.heap.size w w' at HX
  generalize hexT s = h at *
  generalize idTo s 20 = row at *
  have HXH : Hid (∀ w, Calls Tryd.prog 17 #[.agg row] w fun e w' => e = .returned (.string h) ∧ Below w.heap.size w w') := HX
  clear HX
  go_enter Tryd.func13, Tryd.ntmps13
  have HN : Hid ((w.alloc (.cells row 25)).heap[w.heap.size]? = some (.cells row 25 (0, 0))) := heap_alloc_new w _
  have HB : Hid (Below w.heap.size w (w.alloc (.cells row 25))) := (Below.refl _ _).alloc (Nat.le_refl _) _
  have tok : True := trivial
  go_wp2_with (have _t := tok; refine wpList_load_row rfl 25 _ rfl w.heap.size rfl 25 row (0, 0) (.array 20 5) HN.out Tryd.underlying25 rfl HI.out ?_; clear tok)
  generalize w.alloc (.cells row 25) = w0 at *
  refine (HXH.out w0).mono ?_
  rintro e w1 ⟨rfl, hb1⟩
  have HW1 : Hid (Below w.heap.size w w1) := HB.out.trans (hb1.mono HB.out.size)
  clear hb1
  have hs := HS.out
  have hs1 : (h.extract 0 2).size = 2 := by rw [ByteArray.size_extract, hs]; rfl
  have hs2 : (h.extract 2 40).size = 38 := by rw [ByteArray.size_extract, hs]; rfl
  go_wp2_with fail
  go_region
  go_wp2_with fail
  go_ret
  exact ⟨rfl, HW1.out.drew⟩
theorem wpList_load_row_g {P : Program} {ops : Array Oper} {rest : List Oper} {o : Oper} {a : Act} {w : World} {Q : Exit → Act → World → Prop} (hw : Region.wanted o (yielded ops a.tmps) = true) (ty : TypeId) (x : Operand) (ho : o.op = .load ty x)
    (g : Nat) (hx : a.eval x = .pointer (some ⟨g, 0, none⟩)) (t : TypeId) (cs : Array Value) (fr : Nat × Nat) (d : TypeDesc) (hg : w.heap[g]? = some (.cells cs t fr))
    (hu : P.underlying ty = some d) (hd : (match d with | .struct _ | .array _ _ => true | _ => false) = true) (hi : (P.info? ty).map (·.size) = some cs.size)
    (h : wpList P ops Q rest (a.put o.dst (.agg cs)) w) : wpList P ops Q (o :: rest) a w := by
  unfold wpList
  rw [if_pos hw]
  exact .inl (wp_load_row ty x ho g hx t cs fr d hg hu hd hi h)
theorem id_empty : hexT (idSum 3 0 []) = ⟨#[101, 54, 57, 100, 101, 50, 57, 98, 98, 50, 100, 49, 100, 54, 52, 51, 52, 98, 56, 98, 50, 57, 97, 101, 55, 55, 53, 97, 100, 56, 99, 50, 101, 52, 56, 99, 53, 51, 57, 49]⟩ := by
  have e1 : numsOf (frontOf 3 0) ++ [] = [98, 108, 111, 98, 32, 48, 0] := by
    unfold numsOf frontOf
    rw [Lib.decDigits, dif_pos (by omega)]
    rfl
  unfold hexT idSum
  rw [e1]
  have e2 : hexOf (tbs (sumOf [98, 108, 111, 98, 32, 48, 0])) = [101, 54, 57, 100, 101, 50, 57, 98, 98, 50, 100, 49, 100, 54, 52, 51, 52, 98, 56, 98, 50, 57, 97, 101, 55, 55, 53, 97, 100, 56, 99, 50, 101, 52, 56, 99, 53, 51, 57, 49] := by decide +kernel
  rw [e2]
theorem path_empty : pathT (hexT (idSum 3 0 [])) = ⟨#[111, 98, 106, 101, 99, 116, 115, 47, 101, 54, 47, 57, 100, 101, 50, 57, 98, 98, 50, 100, 49, 100, 54, 52, 51, 52, 98, 56, 98, 50, 57, 97, 101, 55, 55, 53, 97, 100, 56, 99, 50, 101, 52, 56, 99, 53, 51, 57, 49]⟩ := by
  rw [id_empty]
  rfl
theorem idSum_same (xs : List Int) (h : xs = []) : idSum 3 0 xs = idSum 3 0 [] := by rw [h]
set_option maxRecDepth 100000 in
set_option maxHeartbeats 4000000 in
theorem known_any (w : World) (htab : Lib.TabIs Tryd.prog w "internal/strconv.uint64pow10" .u64 Lib.pow10Tab) : Calls Tryd.prog 8 #[] w fun e w' => e = .returned (.bool true) ∧ Below w.heap.size w w' := by
  have hz := zeroId_run
  have ez : zeroId.size = 20 := zeroId_size
  have HX := hexSum_any (idSum 3 0 [])
  have HPA := path_any (idSum 3 0 [])
  change ∀ w, Calls Tryd.prog 17 #[.agg (idTo (idSum 3 0 []) 20)] w fun e w' => e = .returned (.string (hexT (idSum 3 0 []))) ∧ Below w.heap.size w w' at HX
  rw [id_empty] at HX
  rw [path_empty] at HPA
  have HI : Hid ((Tryd.prog.info? 25).map (·.size) = some (idTo (idSum 3 0 []) 20).size) := infoId _ (idTo_size _ _)
  have HL : Hid ((idTo (idSum 3 0 []) 20).size = zeroId.size) := (idTo_size _ _).trans ez.symm
  have HO : Hid ((idTo (idSum 3 0 []) 20).all (·.oneCell') = true) := oneId _ _
  have HQ : Hid (∀ e, IdPost 3 0 [] e → e = .returned (.tuple #[.agg (idTo (idSum 3 0 []) 20), .int .i64 0])) := fun e h => by
    rcases h with ⟨h, -⟩ | ⟨-, h, -⟩ | ⟨-, -, h⟩
    · exact absurd h (by decide)
    · omega
    · exact h
  generalize idTo (idSum 3 0 []) 20 = row at *
  have H1 : Hid (∀ w, Calls Tryd.prog 17 #[.agg row] w fun e w' => e = .returned (.string ⟨#[101, 54, 57, 100, 101, 50, 57, 98, 98, 50, 100, 49, 100, 54, 52, 51, 52, 98, 56, 98, 50, 57, 97, 101, 55, 55, 53, 97, 100, 56, 99, 50, 101, 52, 56, 99, 53, 51, 57, 49]⟩) ∧ Below w.heap.size w w') := HX
  have H2 : Hid (∀ w, Calls Tryd.prog 13 #[.agg row] w fun e w' => e = .returned (.string ⟨#[111, 98, 106, 101, 99, 116, 115, 47, 101, 54, 47, 57, 100, 101, 50, 57, 98, 98, 50, 100, 49, 100, 54, 52, 51, 52, 98, 56, 98, 50, 57, 97, 101, 55, 55, 53, 97, 100, 56, 99, 50, 101, 52, 56, 99, 53, 51, 57, 49]⟩) ∧ Below w.heap.size w w') := HPA
  clear HX HPA
  go_enter Tryd.func8, Tryd.ntmps8
  go_wp2_with fail
  refine (id_any 3 none 0 0 [] (by omega) (Nat.le_refl _) w ⟨rfl, by omega, by simp, .inl rfl⟩ htab).mono ?_
  rintro e w1 ⟨hp, hb1⟩
  have he := HQ.out e hp
  subst he
  have HW1 : Hid (Below w.heap.size w w1) := hb1
  clear hb1 hp htab
  have HN1 : Hid ((w1.alloc (.cells zeroId 25)).heap[w1.heap.size]? = some (.cells zeroId 25 (0, 0))) := heap_alloc_new w1 _
  have HB1 : Hid (Below w.heap.size w (w1.alloc (.cells zeroId 25))) := HW1.out.alloc HW1.out.size _
  have HS1 : Hid (w.heap.size ≤ w1.heap.size) := HW1.out.size
  have tok : True := trivial
  go_wp2_with (have _t := tok; refine wpList_store_row rfl 25 (.tmp 1) (.tmp 5) rfl w1.heap.size row rfl rfl 25 zeroId HN1.out HI.out HL.out.symm HO.out ?_; clear tok; refine Hid.out ?_)
  have HN2 : Hid (((w1.alloc (.cells zeroId 25)).setRow w1.heap.size row).heap[w1.heap.size]? = some (.cells row 25 (0, 0))) := setRow_heap _ _ _ _ _ _ HN1.out
  have HB2 : Hid (Below w.heap.size w ((w1.alloc (.cells zeroId 25)).setRow w1.heap.size row)) := below_setRow HB1.out HS1.out _
  have HSZ : Hid (w1.heap.size < ((w1.alloc (.cells zeroId 25)).setRow w1.heap.size row).heap.size) := by
    rcases Nat.lt_or_ge w1.heap.size ((w1.alloc (.cells zeroId 25)).setRow w1.heap.size row).heap.size with h | h
    · exact h
    · have := HN2.out; rw [Array.getElem?_eq_none h] at this; cases this
  clear ez
  generalize (w1.alloc (.cells zeroId 25)).setRow w1.heap.size row = w2 at *
  generalize w1.heap.size = g at *
  refine unhid ?_
  have tok : True := trivial
  go_wp2_with (have _t := tok; refine wpList_load_row_g (by rfl) 25 _ rfl g rfl 25 row (0, 0) (.array 20 5) HN2.out Tryd.underlying25 rfl HI.out ?_; clear tok)
  refine (H1.out w2).mono ?_
  rintro e w3 ⟨rfl, hb3⟩
  have HN3 : Hid (w3.heap[g]? = some (.cells row 25 (0, 0))) := (hb3.block _ HSZ.out).trans HN2.out
  have HS3 : Hid (g < w3.heap.size) := Nat.lt_of_lt_of_le HSZ.out hb3.size
  have HB3 : Hid (Below w.heap.size w w3) := HB2.out.trans (hb3.mono HB2.out.size)
  clear hb3 HN2 HSZ
  go_wp2_with fail
  refine (word_any 4 w3).mono ?_
  rintro e w4 ⟨rfl, hb4⟩
  have HN4 : Hid (w4.heap[g]? = some (.cells row 25 (0, 0))) := (hb4.block _ HS3.out).trans HN3.out
  have HB4 : Hid (Below w.heap.size w w4) := HB3.out.trans (hb4.mono HB3.out.size)
  clear hb4 HN3 HS3
  rw [show wordAt 4 = (⟨#[116, 97, 103]⟩ : ByteArray) from rfl]
  have tok : True := trivial
  go_wp2_with (have _t := tok; refine wpList_load_row_g (by rfl) 25 _ rfl g rfl 25 row (0, 0) (.array 20 5) HN4.out Tryd.underlying25 rfl HI.out ?_; clear tok)
  refine (H2.out w4).mono ?_
  rintro e w5 ⟨rfl, hb5⟩
  have HB5 : Hid (Below w.heap.size w w5) := HB4.out.trans (hb5.mono HB4.out.size)
  clear hb5 HN4
  go_wp2_with fail
  go_ret
  exact ⟨rfl, HB5.out⟩
end Go.Proofs.YtlnfgebonmfokaaDoor
