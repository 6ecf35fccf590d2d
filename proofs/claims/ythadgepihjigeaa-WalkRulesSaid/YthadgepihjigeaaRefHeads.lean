/- The document's Heads: the walk. -/
import Derived.Test.YthadgepihjigeaaHeads
namespace Go.Proofs.Ythadgepihjigeaa
open Go.RowKit Plain
set_option linter.unusedVariables false
set_option maxRecDepth 100000 in
set_option maxHeartbeats 8000000 in
theorem refHeads_any (a : Option Addr) (n c : Nat) (ps : List Rw) (w : World) (h : Graph w a n ps) (hn : n ≤ 1000) (hl : ∀ p ∈ ps, p.xs.length ≤ 1000) :
    Calls Try.prog 16 #[.slice a n c] w fun e w' => (∃ a l c, e = .returned (.slice a l c) ∧ w'.ownsRow w.heap.size 3 1 (.slice a l c) l (I64 (whereN (fun x => usedN (gr ps) x == false) n)) ∧ l = (whereN (fun x => usedN (gr ps) x == false) n).length) ∧ Below w.heap.size w w' := by
  have HG := Lib.hid h
  have HL := Lib.hid hl
  have HN : Hid ((gr ps).length = n) := (gr_len ps).trans h.len
  clear h hl
  go_enter Try.func16, Try.ntmps16
  go_wp2_with fail
  go_loopw [3, 4] (fun s i wr => ∃ (k : Nat) (sa : Option Addr) (sl sc : Nat), k ≤ n ∧ i = .int .i64 (k : Int) ∧ s = .slice sa sl sc ∧ sl = (whereN (fun x => usedN (gr ps) x == false) k).length ∧ wr.ownsRow w.heap.size 3 1 (.slice sa sl sc) sl (I64 (whereN (fun x => usedN (gr ps) x == false) k)) ∧ Below w.heap.size w wr) (fun s i _ => n - (intOf i).toNat)
  case atStart => exact ⟨0, none, 0, 0, by omega, rfl, rfl, rfl, World.ownsRow_nil _ _ _ _, Below.refl _ _⟩
  case round =>
    obtain ⟨k, sa, sl, sc, hk, rfl, rfl, hsl, hs, hb⟩ := hrel
    have HS := Lib.hid hs
    have HB := Lib.hid hb
    have HSL := Lib.hid hsl
    have hs9 : sl ≤ k := by rw [hsl]; exact where_len _ k
    clear hs hb hsl
    have wk := next_int k (by omega)
    by_cases hkn : k = n
    · subst hkn
      go_wp2_with fail
      go_ret
      exact ⟨⟨sa, sl, sc, rfl, HS.out, HSL.out⟩, HB.out⟩
    · have hkl : k < n := by omega
      have hki : (k : Int) < (n : Int) := by omega
      go_wp2_with fail
      go_loop [5, 6] (fun u v => ∃ j : Nat, j ≤ n ∧ v = .int .i64 (j : Int) ∧ u = .bool (((gr ps).take j).any fun l => hasN l (k : Int))) (fun _ v => n - (intOf v).toNat)
      case atStart => exact ⟨0, by omega, rfl, rfl⟩
      case round =>
        obtain ⟨j, hj, rfl, rfl⟩ := hrel
        by_cases hjn : j = n
        · subst hjn
          have HE : Hid (((gr ps).take j).any (fun l => hasN l (k : Int)) = usedN (gr ps) k) := by
            unfold usedN
            rw [List.take_of_length_le (by rw [HN.out]; exact Nat.le_refl _)]
            rfl
          rw [HE.out]
          cases hu : usedN (gr ps) k with
          | true =>
            have HW : Hid (whereN (fun x => usedN (gr ps) x == false) (k + 1) = whereN (fun x => usedN (gr ps) x == false) k) := by
              rw [whereN, if_neg (by simp [hu]), List.append_nil]
              rfl
            have HS1 : Hid (wr.ownsRow w.heap.size 3 1 (.slice sa sl sc) sl (I64 (whereN (fun x => usedN (gr ps) x == false) (k + 1)))) := by
              rw [HW.out]; exact HS.out
            have HL1 : Hid (sl = (whereN (fun x => usedN (gr ps) x == false) (k + 1)).length) := by rw [HW.out]; exact HSL.out
            clear hu
            go_wp2_with fail
            exact ⟨⟨k + 1, sa, sl, sc, by omega, by first | rfl | exact congrArg (Value.int .i64) (wk _ rfl), rfl, HL1.out, HS1.out, HB.out⟩, by simp [intOf] <;> omega⟩
          | false =>
            have HW : Hid (whereN (fun x => usedN (gr ps) x == false) (k + 1) = whereN (fun x => usedN (gr ps) x == false) k ++ [(k : Int)]) := by
              rw [whereN, if_pos (by simp [hu])]
              rfl
            have HLI := Lib.hid (fun t => lit_one wr (k : Int) t)
            have HBA := Lib.hid (fun o1 => HB.out.alloc HB.out.size o1)
            have HL1 : Hid (sl + 1 = (whereN (fun x => usedN (gr ps) x == false) (k + 1)).length) := by
              rw [HW.out, List.length_append, ← HSL.out]; rfl
            clear hu
            have tok : True := trivial
            go_wp2_with (have _t := tok; at_builtin; clear tok; refine Hid.out ?_)
            refine unhid ?_
            refine wpList_append_one rfl _ _ rfl w.heap.size (.slice sa sl sc) sl _ rfl (HS.out.alloc _) wr.heap.size _ rfl (HLI.out _) (by omega) (HBA.out _).size (fun g2 gc2 w7 ho1 hg1 hgg hgl => ?_)
            rw [← HW.out] at ho1
            have HO1 := Lib.hid ho1
            have HB7 := Lib.hid ((HBA.out _).grown hg1 (HBA.out _).size (fun g hg => (HS.out.lt g hg).1))
            clear ho1 hg1 hgg HS HBA HLI
            go_wp2_with fail
            exact ⟨⟨k + 1, some ⟨g2, 0, none⟩, sl + 1, gc2, by omega, by first | rfl | exact congrArg (Value.int .i64) (wk _ rfl), rfl, HL1.out, HO1.out, HB7.out⟩, by simp [intOf] <;> omega⟩
        · have hjl : j < n := by omega
          have hji : (j : Int) < (n : Int) := by omega
          obtain ⟨b, off, pa, pc, px, rfl, hp1, hcell0, hpi, hrow⟩ := graph_at HG.out hjl
          have hcell := (HB.out.cell (p := ⟨b, off + j, none⟩) (cell_lt hcell0)).trans hcell0
          have HPI := Lib.hid (hpi.below HB.out)
          have hpl : px.length ≤ 1000 := HL.out _ (List.mem_of_getElem? hp1)
          have HT : Hid (((gr ps).take (j + 1)).any (fun l => hasN l (k : Int)) = (((gr ps).take j).any (fun l => hasN l (k : Int)) || hasN px (k : Int))) := any_take_succ _ _ _ _ (by unfold gr; rw [List.getElem?_map, hp1]; rfl)
          have HH := Lib.hid (has_any pa px.length pc px (k : Int) wr HPI.out rfl (by omega))
          have wj := next_int j (by omega)
          clear hcell0 hpi hrow hp1
          cases hu : ((gr ps).take j).any (fun l => hasN l (k : Int)) with
          | true =>
            have HT1 : Hid (((gr ps).take (j + 1)).any (fun l => hasN l (k : Int)) = true) := by rw [HT.out, hu]; rfl
            clear hu HT
            go_wp2_with fail
            exact ⟨⟨j + 1, by omega, by first | rfl | exact congrArg (Value.int .i64) (wj _ rfl), by rw [HT1.out]⟩, by simp [intOf] <;> omega⟩
          | false =>
            have HT1 : Hid (((gr ps).take (j + 1)).any (fun l => hasN l (k : Int)) = hasN px (k : Int)) := by rw [HT.out, hu]; rfl
            clear hu HT
            go_wp2_with fail
            refine HH.out.mono ?_
            rintro e w' ⟨rfl, hw⟩
            have hw2 := hw.symm
            subst hw2
            clear hw
            go_wp2_with fail
            exact ⟨⟨j + 1, by omega, by first | rfl | exact congrArg (Value.int .i64) (wj _ rfl), by rw [HT1.out]⟩, by simp [intOf] <;> omega⟩
end Go.Proofs.Ythadgepihjigeaa
