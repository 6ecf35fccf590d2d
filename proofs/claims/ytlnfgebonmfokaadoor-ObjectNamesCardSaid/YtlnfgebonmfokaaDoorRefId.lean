/- The document's id: the walk. -/
import Derived.Test.YtlnfgebonmfokaaDoorNames
import Derived.Test.YtlnfgebonmfokaaDoorRefSum
namespace Go.Proofs.YtlnfgebonmfokaaDoor
open Go.RowKit Plain
set_option linter.unusedVariables false
set_option maxRecDepth 100000 in
set_option maxHeartbeats 2000000 in
theorem refId_any : RefIdOk := by
  intro k a m cap xs w hm H
  have HH : Hid (Bytes w a m xs) := H
  have hz := zero_24
  have HZI : Hid (V8 zeros20 = idTo (idSum k m xs) 0) := idTo_zeros _
  have HI : Hid ((Tryd.prog.info? 24).map (·.size) = some (idTo (idSum k m xs) 20).size) := by
    show (Tryd.prog.info? 24).map (·.size) = some (idTo (idSum k m xs) 20).size
    rw [idTo_size]; kernel_rfl
  have HL : Hid ((V8 zeros20).size = (idTo (idSum k m xs) 20).size) := by show (V8 zeros20).size = _; rw [HZI.out, idTo_size, idTo_size]
  have HO : Hid ((idTo (idSum k m xs) 20).all (·.oneCell') = true) := oneId _ _
  have HN : Hid ((w.alloc (.cells (V8 zeros20) 24)).heap[w.heap.size]? = some (.cells (V8 zeros20) 24 (0, 0))) := heap_alloc_new w _
  have HB : Hid (Below w.heap.size w (w.alloc (.cells (V8 zeros20) 24))) := (Below.refl _ _).alloc (Nat.le_refl _) _
  have HSZ : Hid (w.heap.size < (w.alloc (.cells (V8 zeros20) 24)).heap.size) := by show _ < _; simp
  clear H
  go_enter Tryd.func12, Tryd.ntmps12
  go_wp2_with fail
  generalize w.alloc (.cells (V8 zeros20) 24) = w0 at *
  refine (whole_any k a m cap xs hm w0 (HH.out.below HB.out)).mono ?_
  rintro e w1 ⟨⟨xa, n, c, rfl, hn, hnil, hby⟩, hb1⟩
  have HN1 : Hid (w1.heap[w.heap.size]? = some (.cells (V8 zeros20) 24 (0, 0))) := (hb1.block _ HSZ.out).trans HN.out
  have HS1 : Hid (w.heap.size < w1.heap.size) := Nat.lt_of_lt_of_le HSZ.out hb1.size
  have HB1 : Hid (Below w.heap.size w w1) := HB.out.trans (hb1.mono HB.out.size)
  have HBY : Hid (Bytes w1 xa n (wholeOf k m xs)) := hby
  have HNI : Hid (xa = none → c = 0) := hnil
  clear hb1 hby hnil
  go_wp2_with fail
  refine (refSum_any xa n c (wholeOf k m xs) w1 (by omega) HNI.out HBY.out).mono ?_
  rw [show sumOf (wholeOf k m xs) = idSum k m xs from rfl]
  rintro e w2 ⟨rfl, hb2⟩
  have HN2 : Hid (w2.heap[w.heap.size]? = some (.cells (V8 zeros20) 24 (0, 0))) := (hb2.block _ HS1.out).trans HN1.out
  have HB2 : Hid (Below w.heap.size w w2) := HB1.out.trans (hb2.mono HB1.out.size)
  clear hb2
  generalize hrow : idTo (idSum k m xs) 20 = row at *
  have HRW : Hid (idTo (idSum k m xs) 20 = row) := hrow
  clear hrow
  have tok : True := trivial
  go_wp2_with (have _t := tok; refine wpList_store_row rfl 24 (.tmp 4) (.tmp 8) rfl w.heap.size row rfl rfl 24 (V8 zeros20) HN2.out HI.out HL.out HO.out ?_; clear tok)
  refine bodyPost_ret (results_cell_row Tryd.results12 _ _ w.heap.size 24 _ (0, 0) (.array 20 5) rfl (setRow_heap _ _ _ _ _ _ HN2.out) Tryd.underlying24 rfl HI.out) rfl ⟨by rw [HRW.out], ?_⟩
  exact below_setRow HB2.out (Nat.le_refl _) _
end Go.Proofs.YtlnfgebonmfokaaDoor
