/- The chapter's example: the walk. -/
import Derived.Test.YthadgepihjigeaaAhead
namespace Go.Proofs.Ythadgepihjigeaa
open Go.RowKit Plain
set_option linter.unusedVariables false
theorem ord1 : orderN [[2], [], [1]] = some [1, 2, 0] := by decide
theorem ord2 : orderN [[0]] = none := by decide
theorem alloc_cell (w : World) (cs : Array Value) (t : TypeId) (j : Nat) : (w.alloc (.cells cs t)).cell? ⟨w.heap.size, j, none⟩ = cs[j]? := by
  have h := heap_alloc_new w (.cells cs t)
  show (match (w.alloc (.cells cs t)).heap[w.heap.size]? with | some (.cells cs _ _) => cs[j]? | _ => none) = _
  rw [h]
theorem alloc_old (w : World) (o : Obj) {b j : Nat} {v : Value} (h : w.cell? ⟨b, j, none⟩ = some v) : (w.alloc o).cell? ⟨b, j, none⟩ = some v := by
  have hb : Below w.heap.size w (w.alloc o) := (Below.refl _ _).alloc (Nat.le_refl _) _
  exact (hb.cell (p := ⟨b, j, none⟩) (cell_lt h)).trans h
theorem size_al (w : World) (o : Obj) : (w.alloc o).heap.size = w.heap.size + 1 := by simp
theorem graph_lit3 (w : World) (x z : Int) (t u : TypeId) : Graph (((w.alloc (.cells #[.int .i64 x] t)).alloc (.cells #[.int .i64 z] t)).alloc (.cells #[.slice (some ⟨w.heap.size, 0, none⟩) 1 1, .slice none 0 0, .slice (some ⟨w.heap.size + 1, 0, none⟩) 1 1] u)) (some ⟨w.heap.size + 1 + 1, 0, none⟩) 3
    [⟨some ⟨w.heap.size, 0, none⟩, 1, [x]⟩, ⟨none, 0, []⟩, ⟨some ⟨w.heap.size + 1, 0, none⟩, 1, [z]⟩] := by
  have c0 := alloc_cell ((w.alloc (.cells #[.int .i64 x] t)).alloc (.cells #[.int .i64 z] t)) #[.slice (some ⟨w.heap.size, 0, none⟩) 1 1, .slice none 0 0, .slice (some ⟨w.heap.size + 1, 0, none⟩) 1 1] u
  rw [size_al, size_al] at c0
  have c1 := alloc_old ((w.alloc (.cells #[.int .i64 x] t)).alloc (.cells #[.int .i64 z] t)) (.cells #[.slice (some ⟨w.heap.size, 0, none⟩) 1 1, .slice none 0 0, .slice (some ⟨w.heap.size + 1, 0, none⟩) 1 1] u) (alloc_old _ (.cells #[.int .i64 z] t) ((alloc_cell w #[.int .i64 x] t 0).trans rfl))
  have c2 := alloc_cell (w.alloc (.cells #[.int .i64 x] t)) #[.int .i64 z] t 0
  rw [size_al] at c2
  have c3 := alloc_old _ (.cells #[.slice (some ⟨w.heap.size, 0, none⟩) 1 1, .slice none 0 0, .slice (some ⟨w.heap.size + 1, 0, none⟩) 1 1] u) (c2.trans rfl)
  refine ⟨rfl, .inr ⟨_, 0, rfl, fun j p hj => ?_⟩, fun p hp => ?_⟩
  · rw [Nat.zero_add, c0 j]
    match j, hj with
    | 0, hj => injection hj with hj; subst hj; rfl
    | 1, hj => injection hj with hj; subst hj; rfl
    | 2, hj => injection hj with hj; subst hj; rfl
  · simp only [List.mem_cons, List.not_mem_nil, or_false] at hp
    rcases hp with rfl | rfl | rfl
    · exact .inr ⟨_, 0, rfl, fun j hj => by obtain rfl : j = 0 := by simp at hj; omega
                                            exact c1⟩
    · exact .inl rfl
    · exact .inr ⟨_, 0, rfl, fun j hj => by obtain rfl : j = 0 := by simp at hj; omega
                                            exact c3⟩
theorem graph_lit1 (w : World) (x : Int) (t u : TypeId) : Graph ((w.alloc (.cells #[.int .i64 x] t)).alloc (.cells #[.slice (some ⟨w.heap.size, 0, none⟩) 1 1] u)) (some ⟨w.heap.size + 1, 0, none⟩) 1 [⟨some ⟨w.heap.size, 0, none⟩, 1, [x]⟩] := by
  have c0 := alloc_cell (w.alloc (.cells #[.int .i64 x] t)) #[.slice (some ⟨w.heap.size, 0, none⟩) 1 1] u
  rw [size_al] at c0
  have c1 := alloc_old _ (.cells #[.slice (some ⟨w.heap.size, 0, none⟩) 1 1] u) ((alloc_cell w #[.int .i64 x] t 0).trans rfl)
  refine ⟨rfl, .inr ⟨_, 0, rfl, fun j p hj => ?_⟩, fun p hp => ?_⟩
  · rw [Nat.zero_add, c0 j]
    match j, hj with
    | 0, hj => injection hj with hj; subst hj; rfl
  · rw [List.mem_singleton] at hp
    subst hp
    exact .inr ⟨_, 0, rfl, fun j hj => by obtain rfl : j = 0 := by simp at hj; omega
                                          exact c1⟩
theorem ints_lit3 (w : World) (x y z : Int) (t : TypeId) : IntsAt (w.alloc (.cells #[.int .i64 x, .int .i64 y, .int .i64 z] t)) (some ⟨w.heap.size, 0, none⟩) [x, y, z] := by
  refine .inr ⟨_, 0, rfl, fun j hj => ?_⟩
  rw [Nat.zero_add, alloc_cell w _ t j]
  match j, hj with
  | 0, _ => rfl
  | 1, _ => rfl
  | 2, _ => rfl
/-- Order at a literal graph. -/
theorem ord_yes {w w' : World} {G : List (List Int)} {o : List Int} {e : Ending} (h : OrdQ w G e w') (ho : orderN G = some o) : ∃ a c, e = .returned (.tuple #[.slice a o.length c, .int .i64 0]) ∧ w'.ownsRow w.heap.size 3 1 (.slice a o.length c) o.length (I64 o) := by
  rcases h with ⟨o', v, h1, rfl, h2⟩ | ⟨h1, -⟩
  · rw [ho] at h1
    injection h1 with h1
    subst h1
    obtain ⟨a, c, rfl⟩ := row_form h2
    exact ⟨a, c, rfl, h2⟩
  · rw [ho] at h1; cases h1
theorem ord_no {w w' : World} {G : List (List Int)} {e : Ending} (h : OrdQ w G e w') (ho : orderN G = none) : e = .returned (.tuple #[.slice none 0 0, .int .i64 4]) := by
  rcases h with ⟨o', v, h1, rfl, h2⟩ | ⟨h1, h2⟩
  · rw [ho] at h1; cases h1
  · exact h2
set_option maxRecDepth 100000 in
set_option maxHeartbeats 8000000 in
theorem known_any (w : World) : Calls Try.prog 12 #[] w fun e w' => e = .returned (.bool true) ∧ Below w.heap.size w w' := by
  have HG := Lib.hid (graph_lit3 w 2 1)
  have HW := Lib.hid (fun o1 o2 o3 => (((Below.refl w.heap.size w).alloc (Nat.le_refl _) o1).alloc (by simp) o2).alloc (by simp; omega) o3)
  go_enter Try.func12, Try.ntmps12
  go_wp2_with fail
  refine (order_any _ 3 3 _ _ (HG.out _ _) (by omega) (by simp)).mono ?_
  rintro e w1 ⟨hq, hb⟩
  obtain ⟨a, c, rfl, ho⟩ := ord_yes hq ord1
  have HO := Lib.hid ho
  have HB1 := Lib.hid ((HW.out _ _ _).trans (hb.mono (HW.out _ _ _).size))
  clear hq hb ho HG HW
  simp only [List.length_cons, List.length_nil] at HO
  simp only [List.length_cons, List.length_nil]
  have HG2 := Lib.hid (graph_lit1 w1 0)
  have HW2 := Lib.hid (fun o1 o2 => ((Below.refl w1.heap.size w1).alloc (Nat.le_refl _) o1).alloc (by simp) o2)
  go_wp2_with fail
  refine (order_any _ 1 1 _ _ (HG2.out _ _) (by omega) (by simp)).mono ?_
  rintro e w2 ⟨hq, hb⟩
  obtain rfl := ord_no hq ord2
  have HB2 := Lib.hid ((HW2.out _ _).trans (hb.mono (HW2.out _ _).size))
  have HI := Lib.hid ((ints_own HO.out).below HB2.out)
  have HB3 := Lib.hid (HB1.out.trans (HB2.out.mono HB1.out.size))
  clear hq hb HG2 HW2 HO HB1 HB2
  have HL := Lib.hid (ints_lit3 w2 1 2 0)
  have HBA := Lib.hid (fun o1 => HB3.out.alloc HB3.out.size o1)
  have HI2 := Lib.hid (fun o1 => HI.out.below ((Below.refl w2.heap.size w2).alloc (Nat.le_refl _) o1))
  go_wp2_with fail
  refine (same_any a 3 c _ _ 3 3 _ _ (HI2.out _) rfl (by omega) (HL.out _) rfl (by omega)).mono ?_
  rintro e w3 ⟨rfl, hb⟩
  have HB4 := Lib.hid ((HBA.out _).trans (hb.mono (HBA.out _).size))
  have hd : decide (([1, 2, 0] : List Int) = [1, 2, 0]) = true := rfl
  rw [hd]
  clear hb
  go_wp2_with fail
  go_ret
  exact ⟨rfl, HB4.out⟩
end Go.Proofs.Ythadgepihjigeaa
