/- A code is made of lengths: the walk. -/
import Derived.Test.YtglgchjkonjpiaaGreatDoorInfB
import Derived.Deep.MidRow
import Derived.Laws.Rows
namespace Go.Proofs.YtglgchjkonjpiaaGreatDoor
open Go.RowKit Plain
set_option linter.unusedVariables false
/-- Numbers in memory. -/
def NumsAt (w : World) (a : Option Addr) (n : Nat) (ls : List Nat) : Prop := ls.length = n ∧ ∀ j, j < n → ∃ g o, a = some ⟨g, o, none⟩ ∧ w.cell? ⟨g, o + j, none⟩ = some (.int .i64 ((ls.getD j 0 : Nat) : Int))
theorem NumsAt.below {w w' : World} {a : Option Addr} {n : Nat} {ls : List Nat} (h : NumsAt w a n ls) (hb : Below w.heap.size w w') : NumsAt w' a n ls :=
  ⟨h.1, fun j hj => by
    obtain ⟨g, o, e, hc⟩ := h.2 j hj
    exact ⟨g, o, e, (hb.cell (p := ⟨g, o + j, none⟩) (World.block_lt_of_cell? w _ hc)).trans hc⟩⟩
def I64s (l : List Nat) : List Value := l.map fun k : Nat => .int .i64 (k : Int)
/-- A code's cells. -/
def rowC (cnt : List Nat) (sv : Value) (lg : Nat) : Array Value := (I64s cnt ++ [sv, .int .i64 (lg : Int)]).toArray
theorem rowC_cnt (cnt : List Nat) (sv : Value) (lg k v : Nat) (hl : cnt.length = 16) (hk : k < 16) : (rowC cnt sv lg).setIfInBounds k (.int .i64 (v : Int)) = rowC (cnt.set k v) sv lg := by
  unfold rowC I64s
  rw [List.setIfInBounds_toArray, List.set_append_left _ _ (by simp; omega), List.map_set]
theorem rowC_sv (cnt : List Nat) (sv sv' : Value) (lg : Nat) (hl : cnt.length = 16) : (rowC cnt sv lg).setIfInBounds 16 sv' = rowC cnt sv' lg := by
  unfold rowC I64s
  rw [List.setIfInBounds_toArray, List.set_append_right _ _ (by simp; omega)]
  simp [hl]
theorem rowC_lg (cnt : List Nat) (sv : Value) (lg lg' : Nat) (hl : cnt.length = 16) : (rowC cnt sv lg).setIfInBounds 17 (.int .i64 (lg' : Int)) = rowC cnt sv lg' := by
  unfold rowC I64s
  rw [List.setIfInBounds_toArray, List.set_append_right _ _ (by simp; omega)]
  simp [hl]
theorem rowC_get (cnt : List Nat) (sv : Value) (lg k : Nat) (hl : cnt.length = 16) (hk : k < 16) : (rowC cnt sv lg)[k]? = some (.int .i64 ((cnt.getD k 0 : Nat) : Int)) := by
  unfold rowC I64s
  rw [List.getElem?_toArray, List.getElem?_append_left (by simp; omega), List.getElem?_map, List.getElem?_eq_getElem (by omega), List.getD_eq_getElem?_getD, List.getElem?_eq_getElem (by omega)]
  rfl
theorem rowC_16 (cnt : List Nat) (sv : Value) (lg : Nat) (hl : cnt.length = 16) : (rowC cnt sv lg)[16]? = some sv := by
  unfold rowC I64s
  rw [List.getElem?_toArray, List.getElem?_append_right (by simp; omega)]
  simp [hl]
theorem rowC_17 (cnt : List Nat) (sv : Value) (lg : Nat) (hl : cnt.length = 16) : (rowC cnt sv lg)[17]? = some (.int .i64 (lg : Int)) := by
  unfold rowC I64s
  rw [List.getElem?_toArray, List.getElem?_append_right (by simp; omega)]
  simp [hl]
def cnt0 (l : List Nat) : List Nat := (List.range 16).map l.count
theorem cnt0_len (l : List Nat) : (cnt0 l).length = 16 := by simp [cnt0]
theorem cnt0_get (l : List Nat) (k : Nat) (h : k < 16) : (cnt0 l).getD k 0 = l.count k := getD_map_range _ 16 k h
theorem cnt0_snoc (l : List Nat) (x : Nat) (hx : x < 16) : (cnt0 l).set x ((cnt0 l).getD x 0 + 1) = cnt0 (l ++ [x]) := by
  rw [cnt0_get _ _ hx]
  apply List.ext_getElem
  · simp [cnt0]
  · intro i h1 h2
    rw [List.getElem_set]
    simp only [cnt0, List.getElem_map, List.getElem_range, List.count_append, List.count_singleton]
    by_cases h : x = i
    · subst h; simp
    · rw [if_neg h]; simp [h]
theorem cnt0_zero (ls : List Nat) : (cnt0 ls).set 0 0 = cntOf ls := by
  apply List.ext_getElem
  · simp [cnt0, cntOf]
  · intro i h1 h2
    rw [List.getElem_set]
    simp only [cnt0, cntOf, List.getElem_map, List.getElem_range]
    by_cases h : 0 = i
    · subst h; simp
    · rw [if_neg h, if_neg (fun e => h e.symm)]
theorem row_cells {w : World} {Cb : Nat} {cnt : List Nat} {sv : Value} {lg : Nat} {t : TypeId} (h : w.heap[Cb]? = some (.cells (rowC cnt sv lg) t (0, 0))) (hl : cnt.length = 16) :
    (∀ k, k < 16 → w.cell? ⟨Cb, k, none⟩ = some (.int .i64 ((cnt.getD k 0 : Nat) : Int))) ∧ w.cell? ⟨Cb, 16, none⟩ = some sv ∧ w.cell? ⟨Cb, 17, none⟩ = some (.int .i64 (lg : Int)) ∧ ∀ k, w.frozen? ⟨Cb, k, none⟩ = false :=
  ⟨fun k hk => (cell_row0 w Cb k _ _ _ h).trans (rowC_get cnt sv lg k hl hk), (cell_row0 w Cb 16 _ _ _ h).trans (rowC_16 cnt sv lg hl), (cell_row0 w Cb 17 _ _ _ h).trans (rowC_17 cnt sv lg hl), fun k => free_row0 w Cb k _ _ h⟩
theorem max2_run {P : Program} (ts : Array TypeId) (t : TypeId) (k k1 : IntKind) (x y : Int) (w : World) : (Builtin.max_ ts t #[.int k x, .int k1 y]).run P w = .ok (.int k (max x y)) w := by
  have e : ∀ p q : Int, (if p < q then q else p) = max p q := fun p q => by split <;> omega
  simp [Builtin.max_, Builtin.max2, e]
/-- Where each length's next sign goes. -/
def nextL (ls : List Nat) (k : Nat) : List Nat := (List.range 17).map fun j => if j ≤ k then startOf ls j else 0
theorem nextL_len (ls : List Nat) (k : Nat) : (nextL ls k).length = 17 := by simp [nextL]
theorem nextL_get (ls : List Nat) (k j : Nat) (h : j < 17) : (nextL ls k).getD j 0 = if j ≤ k then startOf ls j else 0 := getD_map_range _ 17 j h
theorem nextL_next (ls : List Nat) (k : Nat) (hk : k < 16) : (nextL ls k).set (k + 1) (startOf ls k + (cntOf ls).getD k 0) = nextL ls (k + 1) := by
  apply List.ext_getElem
  · simp [nextL]
  · intro i h1 h2
    rw [List.getElem_set]
    simp only [nextL, List.getElem_map, List.getElem_range]
    by_cases h : k + 1 = i
    · subst h; rw [if_pos rfl, if_pos (Nat.le_refl _), startOf_succ _ _ hk]
    · rw [if_neg h]
      by_cases h3 : i ≤ k
      · rw [if_pos h3, if_pos (by omega)]
      · rw [if_neg h3, if_neg (by omega)]
def nextM (ls : List Nat) (i : Nat) : List Nat := (List.range 17).map fun j => startOf ls j + if j = 0 then 0 else (ls.take i).count j
theorem nextM_len (ls : List Nat) (k : Nat) : (nextM ls k).length = 17 := by simp [nextM]
theorem nextM_get (ls : List Nat) (k j : Nat) (h : j < 17) : (nextM ls k).getD j 0 = startOf ls j + if j = 0 then 0 else (ls.take k).count j := getD_map_range _ 17 j h
theorem nextM_zero (ls : List Nat) : nextL ls 16 = nextM ls 0 := by
  apply List.ext_getElem
  · simp [nextM, nextL]
  · intro i h1 h2
    have hi : i < 17 := by simpa [nextM] using h2
    simp only [nextL, nextM, List.getElem_map, List.getElem_range, List.take_zero, List.count_nil]
    rw [if_pos (by omega)]; simp
theorem nextM_next (ls : List Nat) (i : Nat) (hi : i < ls.length) (hx : 0 < ls.getD i 0) : (nextM ls i).set (ls.getD i 0) (startOf ls (ls.getD i 0) + (ls.take i).count (ls.getD i 0) + 1) = nextM ls (i + 1) := by
  have ht := take_snoc ls i hi
  generalize ls.getD i 0 = x at *
  apply List.ext_getElem
  · simp [nextM]
  · intro j h1 h2
    rw [List.getElem_set]
    simp only [nextM, List.getElem_map, List.getElem_range, ht, List.count_append, List.count_singleton]
    by_cases h : x = j
    · subst h; rw [if_pos rfl, if_neg (by omega)]; simp; omega
    · rw [if_neg h]
      by_cases h3 : j = 0
      · rw [if_pos h3, if_pos h3]
      · rw [if_neg h3, if_neg h3]; simp [h]
theorem nextM_same (ls : List Nat) (i : Nat) (hi : i < ls.length) (hx : ls.getD i 0 = 0) : nextM ls i = nextM ls (i + 1) := by
  have ht := take_snoc ls i hi
  rw [hx] at ht
  apply List.ext_getElem
  · simp [nextM]
  · intro j h1 h2
    simp only [nextM, List.getElem_map, List.getElem_range, ht, List.count_append, List.count_singleton]
    by_cases h3 : j = 0
    · rw [if_pos h3, if_pos h3]
    · rw [if_neg h3, if_neg h3]; simp; omega
/-- The signs that have been laid. -/
def Laid (ls : List Nat) (i : Nat) (sg : List Nat) : Prop := sg.length = startOf ls 16 ∧ ∀ k j, 1 ≤ k → k < 16 → j < (ls.take i).count k → sg.getD (startOf ls k + j) 0 = (idxOf (ls.take i) k).getD j 0
theorem place_lt (ls : List Nat) (k j : Nat) (h1 : 1 ≤ k) (h2 : k < 16) (h : j < ls.count k) : startOf ls k + j < startOf ls (k + 1) := by
  rw [startOf_succ _ _ h2, cntOf_get _ _ h2, if_neg (by omega)]; omega
theorem place_ne (ls : List Nat) (k j x y : Nat) (h1 : 1 ≤ k) (h2 : k < 16) (h3 : j < ls.count k) (h4 : 1 ≤ x) (h5 : x < 16) (h6 : y < ls.count x) (hne : k ≠ x) : startOf ls k + j ≠ startOf ls x + y := by
  have a := place_lt ls k j h1 h2 h3
  have b := place_lt ls x y h4 h5 h6
  rcases Nat.lt_or_ge k x with h | h
  · have := start_mono ls (k + 1) x (by omega) (by omega); omega
  · have := start_mono ls (x + 1) k (by omega) (by omega); omega
theorem getD_set_same (l : List Nat) (i v : Nat) (h : i < l.length) : (l.set i v).getD i 0 = v := by
  rw [List.getD_eq_getElem?_getD, List.getElem?_set_self h]; rfl
theorem getD_set_other (l : List Nat) (i j v : Nat) (h : i ≠ j) : (l.set i v).getD j 0 = l.getD j 0 := by
  rw [List.getD_eq_getElem?_getD, List.getElem?_set_ne h, List.getD_eq_getElem?_getD]
theorem Laid.next {ls : List Nat} {i : Nat} {sg : List Nat} (h : Laid ls i sg) (hi : i < ls.length) (hx : 0 < ls.getD i 0) (hx2 : ls.getD i 0 ≤ 15) : startOf ls (ls.getD i 0) + (ls.take i).count (ls.getD i 0) < sg.length ∧ Laid ls (i + 1) (sg.set (startOf ls (ls.getD i 0) + (ls.take i).count (ls.getD i 0)) i) := by
  have ht := take_snoc ls i hi
  have hc := count_lt ls i hi
  have hlen : (ls.take i).length = i := by rw [List.length_take]; omega
  generalize ls.getD i 0 = x at *
  have hpl := place_lt ls x _ (by omega) (by omega) hc
  have hm := start_mono ls (x + 1) 16 (by omega) (by omega)
  have hlt : startOf ls x + (ls.take i).count x < sg.length := by rw [h.1]; omega
  refine ⟨hlt, by rw [List.length_set]; exact h.1, fun k j h1 h2 hj => ?_⟩
  rw [ht, idx_snoc, hlen]
  rw [ht, List.count_append, List.count_singleton] at hj
  by_cases hk : x = k
  · subst hk
    rw [if_pos rfl]
    simp only [beq_self_eq_true, if_true] at hj
    by_cases he : j = (ls.take i).count x
    · subst he
      rw [getD_set_same _ _ _ hlt, ← idx_len, List.getD_eq_getElem?_getD, List.getElem?_append_right (Nat.le_refl _), Nat.sub_self]; rfl
    · rw [getD_set_other _ _ _ _ (by omega), h.2 x j h1 h2 (by omega), List.getD_eq_getElem?_getD, List.getD_eq_getElem?_getD, List.getElem?_append_left (by rw [idx_len]; omega)]
  · rw [if_neg hk]
    have hj2 : j < (ls.take i).count k := by
      have : (x == k) = false := by simpa using hk
      rw [this] at hj
      simpa using hj
    have hjj := Nat.lt_of_lt_of_le hj2 (count_take_le ls i k)
    rw [getD_set_other _ _ _ _ (fun e => place_ne ls k j x _ h1 h2 hjj (by omega) (by omega) hc (fun e2 => hk e2.symm) e.symm), h.2 k j h1 h2 hj2]
theorem Laid.same {ls : List Nat} {i : Nat} {sg : List Nat} (h : Laid ls i sg) (hi : i < ls.length) (hx : ls.getD i 0 = 0) : Laid ls (i + 1) sg := by
  have ht := take_snoc ls i hi
  rw [hx] at ht
  refine ⟨h.1, fun k j h1 h2 hj => ?_⟩
  have hk : ¬ 0 = k := by omega
  rw [ht, List.count_append, List.count_singleton] at hj
  have : ((0 : Nat) == k) = false := by simpa using hk
  rw [this] at hj
  rw [ht, idx_snoc, if_neg hk]
  exact h.2 k j h1 h2 (by simpa using hj)
theorem Laid.done {ls : List Nat} {sg : List Nat} (h : Laid ls ls.length sg) (m : Nat) (hm : m < sg.length) : sg.getD m 0 = (sgOf ls).getD m 0 := by
  rw [h.1] at hm
  obtain ⟨k, j, h1, h2, h3, rfl⟩ := place_of ls 16 m (Nat.le_refl _) hm
  have := h.2 k j h1 h2 (by rw [List.take_length]; exact h3)
  rw [List.take_length] at this
  rw [this, sg_get ls k j h1 h2 h3]
theorem i64s_set (l : List Nat) (k v : Nat) : (I64s l).toArray.setIfInBounds k (.int .i64 (v : Int)) = (I64s (l.set k v)).toArray := by
  unfold I64s
  rw [List.setIfInBounds_toArray, List.map_set]
theorem i64s_get (l : List Nat) (k : Nat) (h : k < l.length) : (I64s l).toArray[k]? = some (.int .i64 ((l.getD k 0 : Nat) : Int)) := by
  unfold I64s
  rw [List.getElem?_toArray, List.getElem?_map, List.getElem?_eq_getElem h, List.getD_eq_getElem?_getD, List.getElem?_eq_getElem h]
  rfl
theorem index_16 (l : List Nat) (k : Nat) (hk : k < 16) (hl : l.length = 16) (w : World) : (Instr.index 150 (.agg (I64s l).toArray) (.int .i64 (k : Int))).run Tryz.prog w = .ok (.int .i64 ((l.getD k 0 : Nat) : Int)) w := by
  have h1 := i64s_get l k (by omega)
  have h2 : (I64s l).toArray.size = 16 := by simp [I64s, hl]
  have hk' : (0 : Int) ≤ (k : Int) ∧ (k : Int) < 16 := by omega
  simp [Instr.index, run_underlying Tryz.underlying150, asIntOf, go_sem, hk']
  rw [if_pos hk]
  rw [List.getElem?_toArray] at h1
  rw [h1]
  rfl
theorem i64info : (Tryz.prog.info? 3).map (fun i => (i.zero, i.size, i.bytes)) = some (some (.int .i64 0), 1, 8) := by kernel_rfl
theorem make_is (k : Nat) (hk : k ≤ 1000000) (w : World) : (Instr.makeSlice 60 (.int .i64 (k : Int)) (.int .i64 (k : Int))).run Tryz.prog w = .ok (.slice (some ⟨w.heap.size, 0, none⟩) k k) (w.alloc (.cells (I64s (List.replicate k 0)).toArray 3)) := by
  obtain ⟨i, hi, hz0, hz1, hz2⟩ := info_parts i64info
  rw [run_make (P := Tryz.prog) w 60 3 i (.int .i64 0) Tryz.underlying60 hi hz0 .i64 .i64 k k (by omega) (Int.le_refl _) (by rw [hz2]; omega) (by omega), hz1]
  have e : madeCells (Value.int .i64 0).cells ((k : Int).toNat * 1) = (I64s (List.replicate k 0)).toArray := by
    apply Array.toList_inj.1
    rw [show (Value.int .i64 0).cells = #[Value.int .i64 0] from rfl, toList_madeCells_one]
    simp [I64s]
  rw [e]
  rfl
/-- A code that has been made, at block Cb. -/
def CodeRes (Cb : Nat) (w' : World) (ls : List Nat) : Prop :=
  ∃ sb sc, w'.heap[Cb]? = some (.cells (rowC (cntOf ls) (.slice (some ⟨sb, 0, none⟩) (sgOf ls).length sc) (codeOfN ls).longest) 152 (0, 0)) ∧ Cb < sb ∧ ∀ j, j < (sgOf ls).length → w'.cell? ⟨sb, j, none⟩ = some (.int .i64 (((sgOf ls).getD j 0 : Nat) : Int))
set_option maxRecDepth 100000 in
set_option maxHeartbeats 8000000 in
theorem codeOf_any (w : World) (a : Option Addr) (n c : Nat) (ls : List Nat) (hnc : n ≤ c) (hn : n ≤ 1000) (H : NumsAt w a n ls) (h15 : ∀ x ∈ ls, x ≤ 15) :
    Calls Tryz.prog 115 #[.slice a n c] w fun e w' => e = .returned (.pointer (some ⟨w.heap.size, 0, none⟩)) ∧ Below w.heap.size w w' ∧ CodeRes w.heap.size w' ls := by
  have HN := Lib.hid H
  have HL : Hid (ls.length = n) := H.1
  have H15 := Lib.hid h15
  clear H h15
  go_enter Tryz.func115, Tryz.ntmps115
  go_wp2_with fail
  have HC0 : Hid ((w.alloc (.cells #[.int .i64 0, .int .i64 0, .int .i64 0, .int .i64 0, .int .i64 0, .int .i64 0, .int .i64 0, .int .i64 0, .int .i64 0, .int .i64 0, .int .i64 0, .int .i64 0, .int .i64 0, .int .i64 0, .int .i64 0, .int .i64 0, .slice none 0 0, .int .i64 0] 152)).heap[w.heap.size]? = some (.cells (rowC (cnt0 (ls.take 0)) (.slice none 0 0) ((ls.take 0).foldl max 0)) 152 (0, 0))) := heap_alloc_new w _
  have HB0 : Hid (Below w.heap.size w (w.alloc (.cells #[.int .i64 0, .int .i64 0, .int .i64 0, .int .i64 0, .int .i64 0, .int .i64 0, .int .i64 0, .int .i64 0, .int .i64 0, .int .i64 0, .int .i64 0, .int .i64 0, .int .i64 0, .int .i64 0, .int .i64 0, .int .i64 0, .slice none 0 0, .int .i64 0] 152))) := (Below.refl _ _).alloc (Nat.le_refl _) _
  generalize w.alloc (.cells #[.int .i64 0, .int .i64 0, .int .i64 0, .int .i64 0, .int .i64 0, .int .i64 0, .int .i64 0, .int .i64 0, .int .i64 0, .int .i64 0, .int .i64 0, .int .i64 0, .int .i64 0, .int .i64 0, .int .i64 0, .int .i64 0, .slice none 0 0, .int .i64 0] 152) = w0 at *
  go_loopw [13] (fun v wr => ∃ i : Nat, v = .int .i64 (i : Int) ∧ i ≤ n ∧ wr.heap[w.heap.size]? = some (.cells (rowC (cnt0 (ls.take i)) (.slice none 0 0) ((ls.take i).foldl max 0)) 152 (0, 0)) ∧ Below w.heap.size w wr) (fun v _ => n - (intOf v).toNat)
  case atStart => exact ⟨0, rfl, Nat.zero_le _, HC0.out, HB0.out⟩
  case round =>
    obtain ⟨i, rfl, hi, hc, hb⟩ := hrel
    have HC := Lib.hid hc
    have HB := Lib.hid hb
    clear hc hb HC0 HB0
    by_cases hlt : i < n
    · have hlti : (i : Int) < (n : Int) := by omega
      obtain ⟨g, o, ha, hcell⟩ := (HN.out.below HB.out).2 i hlt
      subst ha
      have hx15 : ls.getD i 0 ≤ 15 := by
        have hil : i < ls.length := by rw [HL.out]; exact hlt
        rw [List.getD_eq_getElem?_getD, List.getElem?_eq_getElem hil]
        exact H15.out _ (List.getElem_mem hil)
      have HTK : Hid (ls.take (i + 1) = ls.take i ++ [ls.getD i 0]) := take_snoc ls i (by rw [HL.out]; exact hlt)
      obtain ⟨x, hx⟩ : ∃ x, ls.getD i 0 = x := ⟨_, rfl⟩
      rw [hx] at hcell hx15 HTK
      obtain ⟨q1, q2, q3, q4⟩ := row_cells HC.out (cnt0_len _)
      have p1 := q1 x (by omega)
      have p2 := q4 x
      obtain ⟨k, hk⟩ : ∃ k, (cnt0 (ls.take i)).getD x 0 = k := ⟨_, rfl⟩
      obtain ⟨lg, hlg⟩ : ∃ lg, (ls.take i).foldl max 0 = lg := ⟨_, rfl⟩
      rw [hk] at p1
      rw [hlg] at q3 HC
      have hkl : k ≤ 1000 := by
        rw [← hk, cnt0_get _ _ (by omega)]
        have h1 : (ls.take i).count x ≤ (ls.take i).length := List.count_le_length
        rw [List.length_take] at h1
        omega
      have hset1 := heap_setCell_same wr w.heap.size x _ _ (.int .i64 ((k : Int) + 1)) HC.out
      have e1 : (rowC (cnt0 (ls.take i)) (.slice none 0 0) lg).setIfInBounds x (.int .i64 ((k : Int) + 1)) = rowC (cnt0 (ls.take (i + 1))) (.slice none 0 0) lg := by
        have := rowC_cnt (cnt0 (ls.take i)) (.slice none 0 0) lg x (k + 1) (cnt0_len _) (by omega)
        rw [show ((k + 1 : Nat) : Int) = (k : Int) + 1 by omega] at this
        rw [this, HTK.out, ← hk, cnt0_snoc _ _ (by omega)]
      rw [e1] at hset1
      obtain ⟨-, -, r3, r4⟩ := row_cells hset1 (cnt0_len _)
      have r17 := r4 17
      obtain ⟨mx, hmx⟩ : ∃ mx, max lg x = mx := ⟨_, rfl⟩
      have hmax : ∀ (ts : Array TypeId) (t : TypeId) (W : World), (Builtin.max_ ts t #[.int .i64 (lg : Int), .int .i64 (x : Int)]).run Tryz.prog W = .ok (.int .i64 (mx : Int)) W := fun ts t W => by
        have := max2_run (P := Tryz.prog) ts t .i64 .i64 lg x W
        rwa [show max (lg : Int) (x : Int) = (mx : Int) by omega] at this
      have hset2 := heap_setCell_same _ w.heap.size 17 _ _ (.int .i64 (mx : Int)) hset1
      rw [rowC_lg _ _ _ _ (cnt0_len _)] at hset2
      have hmx2 : mx = (ls.take (i + 1)).foldl max 0 := by rw [HTK.out, foldl_max_snoc, hlg, hmx]
      rw [hmx2] at hset2
      rw [← hmx2] at hset2
      have HS2 : Hid (((wr.setCell ⟨w.heap.size, x, none⟩ (.int .i64 ((k : Int) + 1))).setCell ⟨w.heap.size, 17, none⟩ (.int .i64 (mx : Int))).heap[w.heap.size]? = some (.cells (rowC (cnt0 (ls.take (i + 1))) (.slice none 0 0) ((ls.take (i + 1)).foldl max 0)) 152 (0, 0))) := by
        rw [← hmx2]; exact hset2
      clear q1 q2 q4 r4 hset1 hset2 e1 hx hk hlg hmx hmx2
      go_wp2_with fail
      exact ⟨⟨i + 1, by go_num, by omega, HS2.out, (HB.out.setCell (Nat.le_refl _) _).setCell (Nat.le_refl _) _⟩, by simp [intOf]; omega⟩
    · have hlti : ¬ (i : Int) < (n : Int) := by omega
      obtain rfl : i = n := by omega
      have htk : ls.take i = ls := List.take_of_length_le (by rw [HL.out]; exact Nat.le_refl _)
      rw [htk] at HC
      have hlg : ls.foldl max 0 = (codeOfN ls).longest := rfl
      rw [hlg] at HC
      have hset := heap_setCell_same wr w.heap.size 0 _ _ (.int .i64 ((0 : Nat) : Int)) HC.out
      rw [rowC_cnt _ _ _ _ _ (cnt0_len _) (by omega), cnt0_zero] at hset
      have HS := Lib.hid hset
      have HB1 : Hid (Below w.heap.size w (wr.setCell ⟨w.heap.size, 0, none⟩ (.int .i64 0))) := HB.out.setCell (Nat.le_refl _) _
      obtain ⟨q1, q2, q3, q4⟩ := row_cells HC.out (cnt0_len _)
      have p1 := q1 0 (by omega)
      have p2 := q4 0
      have hlt0 : w.heap.size < wr.heap.size := (Array.getElem?_eq_some_iff.1 HC.out).1
      have HZ : Hid (wr.heap.size = wr.heap.size) := rfl
      clear hset q1 q2 q3 q4 htk hlg
      have HNB : Hid (((wr.setCell ⟨w.heap.size, 0, none⟩ (.int .i64 0)).alloc (.cells #[.int .i64 0, .int .i64 0, .int .i64 0, .int .i64 0, .int .i64 0, .int .i64 0, .int .i64 0, .int .i64 0, .int .i64 0, .int .i64 0, .int .i64 0, .int .i64 0, .int .i64 0, .int .i64 0, .int .i64 0, .int .i64 0, .int .i64 0] 170)).heap[wr.heap.size]? = some (.cells (I64s (nextL ls 0)).toArray 170 (0, 0))) := by
        have h1 := heap_alloc_new (wr.setCell ⟨w.heap.size, 0, none⟩ (.int .i64 0)) (.cells #[.int .i64 0, .int .i64 0, .int .i64 0, .int .i64 0, .int .i64 0, .int .i64 0, .int .i64 0, .int .i64 0, .int .i64 0, .int .i64 0, .int .i64 0, .int .i64 0, .int .i64 0, .int .i64 0, .int .i64 0, .int .i64 0, .int .i64 0] 170)
        rw [World.size_setCell] at h1
        exact h1
      have HCB : Hid (((wr.setCell ⟨w.heap.size, 0, none⟩ (.int .i64 0)).alloc (.cells #[.int .i64 0, .int .i64 0, .int .i64 0, .int .i64 0, .int .i64 0, .int .i64 0, .int .i64 0, .int .i64 0, .int .i64 0, .int .i64 0, .int .i64 0, .int .i64 0, .int .i64 0, .int .i64 0, .int .i64 0, .int .i64 0, .int .i64 0] 170)).heap[w.heap.size]? = some (.cells (rowC (cntOf ls) (.slice none 0 0) (codeOfN ls).longest) 152 (0, 0))) := by
        show _ = _
        rw [Below.heap_alloc _ _ _ (by rw [World.size_setCell]; exact hlt0)]
        exact HS.out
      have HB2 : Hid (Below w.heap.size w ((wr.setCell ⟨w.heap.size, 0, none⟩ (.int .i64 0)).alloc (.cells #[.int .i64 0, .int .i64 0, .int .i64 0, .int .i64 0, .int .i64 0, .int .i64 0, .int .i64 0, .int .i64 0, .int .i64 0, .int .i64 0, .int .i64 0, .int .i64 0, .int .i64 0, .int .i64 0, .int .i64 0, .int .i64 0, .int .i64 0] 170))) := HB1.out.alloc (by rw [World.size_setCell]; omega) _
      have HRG : Hid (((wr.setCell ⟨w.heap.size, 0, none⟩ (.int .i64 0)).alloc (.cells #[.int .i64 0, .int .i64 0, .int .i64 0, .int .i64 0, .int .i64 0, .int .i64 0, .int .i64 0, .int .i64 0, .int .i64 0, .int .i64 0, .int .i64 0, .int .i64 0, .int .i64 0, .int .i64 0, .int .i64 0, .int .i64 0, .int .i64 0] 170)).rangeAt w.heap.size 0 (I64s (cntOf ls))) := fun j v hv => by
        have hj : j < 16 := by
          rcases Nat.lt_or_ge j 16 with h | h
          · exact h
          · rw [List.getElem?_eq_none (by simp [I64s, cntOf_len]; omega)] at hv; cases hv
        rw [Nat.zero_add, (row_cells HCB.out (cntOf_len _)).1 j hj, ← hv]
        unfold I64s
        rw [List.getElem?_map, List.getElem?_eq_getElem (by rw [cntOf_len]; exact hj), List.getD_eq_getElem?_getD, List.getElem?_eq_getElem (by rw [cntOf_len]; exact hj)]
        rfl
      have HI16 : Hid ((Tryz.prog.info? 150).map (·.size) = some (I64s (cntOf ls)).length) := by
        have : (I64s (cntOf ls)).length = 16 := by simp [I64s, cntOf_len]
        show _ = _
        rw [this]; kernel_rfl
      go_wp2_with (first
        | (refine wpList_load_mid rfl 150 _ rfl w.heap.size 0 rfl (I64s (cntOf ls)) (.array 16 3) HRG.out Tryz.underlying150 rfl HI16.out ?_))
      generalize (wr.setCell ⟨w.heap.size, 0, none⟩ (.int .i64 0)).alloc (.cells #[.int .i64 0, .int .i64 0, .int .i64 0, .int .i64 0, .int .i64 0, .int .i64 0, .int .i64 0, .int .i64 0, .int .i64 0, .int .i64 0, .int .i64 0, .int .i64 0, .int .i64 0, .int .i64 0, .int .i64 0, .int .i64 0, .int .i64 0] 170) = w2 at *
      generalize hNb : wr.heap.size = Nb at *
      clear HZ HRG HI16 hNb p1 p2 HS HB1 HC HB
      go_loopw [34] (fun v wr => ∃ k : Nat, v = .int .i64 (k : Int) ∧ k ≤ 16 ∧ wr.heap[w.heap.size]? = some (.cells (rowC (cntOf ls) (.slice none 0 0) (codeOfN ls).longest) 152 (0, 0)) ∧ wr.heap[Nb]? = some (.cells (I64s (nextL ls k)).toArray 170 (0, 0)) ∧ Below w.heap.size w wr) (fun v _ => 16 - (intOf v).toNat)
      case atStart => exact ⟨0, rfl, by omega, HCB.out, HNB.out, HB2.out⟩
      case round =>
        obtain ⟨k, rfl, hk, hc, hnb, hb⟩ := hrel
        have HC := Lib.hid hc
        have HN2 := Lib.hid hnb
        have HB := Lib.hid hb
        clear hc hnb hb HCB HNB HB2
        by_cases hlt : k < 16
        · have hlti : (k : Int) < 16 := by omega
          have hix := fun W => index_16 (cntOf ls) k hlt (cntOf_len ls) W
          obtain ⟨cn, hcn⟩ : ∃ cn, (cntOf ls).getD k 0 = cn := ⟨_, rfl⟩
          rw [hcn] at hix
          have c1 := (cell_row0 wr Nb k _ _ _ HN2.out).trans (i64s_get _ k (by rw [nextL_len]; omega))
          have f1 := free_row0 wr Nb (k + 1) _ _ HN2.out
          have c2 := (cell_row0 wr Nb (k + 1) _ _ _ HN2.out).trans (i64s_get _ (k + 1) (by rw [nextL_len]; omega))
          rw [nextL_get _ _ _ (by omega), if_pos (Nat.le_refl _)] at c1
          have hst16 : startOf ls k ≤ 100000 := by
            have h1 := start_mono ls k 16 (by omega) (Nat.le_refl _)
            rw [← sg_len] at h1
            have h2 := (codeOk ls H15.out (by rw [HL.out]; exact hn)).few
            exact Nat.le_trans h1 h2
          have hcn16 : cn ≤ 1000 := by
            rw [← hcn, cntOf_get _ _ hlt]
            split
            · omega
            · have h1 : ls.count k ≤ ls.length := List.count_le_length
              rw [HL.out] at h1
              omega
          obtain ⟨st, hst⟩ : ∃ st, startOf ls k = st := ⟨_, rfl⟩
          have hset := heap_setCell_same wr Nb (k + 1) _ _ (.int .i64 ((st + cn : Nat) : Int)) HN2.out
          rw [i64s_set, ← hst, ← hcn, nextL_next _ _ hlt, hst, hcn, show ((st + cn : Nat) : Int) = (st : Int) + (cn : Int) by omega] at hset
          have HSN := Lib.hid hset
          have HSC : Hid ((wr.setCell ⟨Nb, k + 1, none⟩ (.int .i64 ((st : Int) + (cn : Int)))).heap[w.heap.size]? = some (.cells (rowC (cntOf ls) (.slice none 0 0) (codeOfN ls).longest) 152 (0, 0))) :=
            (Below.heap_setCell wr _ _ _ (by show w.heap.size ≠ Nb; omega)).trans HC.out
          rw [hst] at c1 hst16
          clear hset hst hcn
          go_wp2_with fail
          exact ⟨⟨k + 1, by go_num, by omega, HSC.out, HSN.out, HB.out.setCell (by show w.heap.size ≤ Nb; omega) _⟩, by simp [intOf]; omega⟩
        · have hlti : ¬ (k : Int) < 16 := by omega
          obtain rfl : k = 16 := by omega
          have c1 := (cell_row0 wr Nb 16 _ _ _ HN2.out).trans (i64s_get _ 16 (by rw [nextL_len]; omega))
          rw [nextL_get _ _ _ (by omega), if_pos (Nat.le_refl _)] at c1
          have hst16 : startOf ls 16 ≤ 100000 := by
            rw [← sg_len]
            exact (codeOk ls H15.out (by rw [HL.out]; exact hn)).few
          rw [nextM_zero] at HN2
          obtain ⟨m, hm⟩ : ∃ m, startOf ls 16 = m := ⟨_, rfl⟩
          rw [hm] at c1 hst16
          have hmk := make_is m (by omega)
          have HM := Lib.hid hm
          obtain ⟨q1, q2, q3, q4⟩ := row_cells HC.out (cntOf_len _)
          have f16 := q4 16
          have hlt1 : w.heap.size < wr.heap.size := (Array.getElem?_eq_some_iff.1 HC.out).1
          have hlt2 : Nb < wr.heap.size := (Array.getElem?_eq_some_iff.1 HN2.out).1
          clear q1 q3 q4 hm
          go_wp2_with fail
          have hset := heap_setCell_same wr w.heap.size 16 _ _ (.slice (some ⟨wr.heap.size, 0, none⟩) m m) HC.out
          rw [rowC_sv _ _ _ _ (cntOf_len _)] at hset
          have HC3 : Hid (((wr.setCell ⟨w.heap.size, 16, none⟩ (.slice (some ⟨wr.heap.size, 0, none⟩) m m)).alloc (.cells (I64s (List.replicate m 0)).toArray 3)).heap[w.heap.size]? = some (.cells (rowC (cntOf ls) (.slice (some ⟨wr.heap.size, 0, none⟩) m m) (codeOfN ls).longest) 152 (0, 0))) := by
            show _ = _
            rw [Below.heap_alloc _ _ _ (by rw [World.size_setCell]; exact hlt1)]
            exact hset
          have HN3 : Hid (((wr.setCell ⟨w.heap.size, 16, none⟩ (.slice (some ⟨wr.heap.size, 0, none⟩) m m)).alloc (.cells (I64s (List.replicate m 0)).toArray 3)).heap[Nb]? = some (.cells (I64s (nextM ls 0)).toArray 170 (0, 0))) := by
            show _ = _
            rw [Below.heap_alloc _ _ _ (by rw [World.size_setCell]; exact hlt2), Below.heap_setCell _ _ _ _ (by show Nb ≠ w.heap.size; omega)]
            exact HN2.out
          have HS3 : Hid (((wr.setCell ⟨w.heap.size, 16, none⟩ (.slice (some ⟨wr.heap.size, 0, none⟩) m m)).alloc (.cells (I64s (List.replicate m 0)).toArray 3)).heap[wr.heap.size]? = some (.cells (I64s (List.replicate m 0)).toArray 3 (0, 0))) := by
            have h1 := heap_alloc_new (wr.setCell ⟨w.heap.size, 16, none⟩ (.slice (some ⟨wr.heap.size, 0, none⟩) m m)) (.cells (I64s (List.replicate m 0)).toArray 3)
            rw [World.size_setCell] at h1
            exact h1
          have HB3 : Hid (Below w.heap.size w ((wr.setCell ⟨w.heap.size, 16, none⟩ (.slice (some ⟨wr.heap.size, 0, none⟩) m m)).alloc (.cells (I64s (List.replicate m 0)).toArray 3))) := (HB.out.setCell (Nat.le_refl _) _).alloc (by rw [World.size_setCell]; omega) _
          have HL0 : Hid (Laid ls 0 (List.replicate m 0)) := ⟨by rw [List.length_replicate, HM.out], fun k j _ _ hj => by simp at hj⟩
          generalize (wr.setCell ⟨w.heap.size, 16, none⟩ (.slice (some ⟨wr.heap.size, 0, none⟩) m m)).alloc (.cells (I64s (List.replicate m 0)).toArray 3) = w3 at *
          generalize hSb : wr.heap.size = Sb at *
          clear hset hmk c1 q2 f16 hSb HC HN2 HB
          go_loopw [53] (fun v wr => ∃ (q : Nat) (sg : List Nat), v = .int .i64 (q : Int) ∧ q ≤ i ∧ wr.heap[w.heap.size]? = some (.cells (rowC (cntOf ls) (.slice (some ⟨Sb, 0, none⟩) m m) (codeOfN ls).longest) 152 (0, 0)) ∧ wr.heap[Nb]? = some (.cells (I64s (nextM ls q)).toArray 170 (0, 0)) ∧ wr.heap[Sb]? = some (.cells (I64s sg).toArray 3 (0, 0)) ∧ Laid ls q sg ∧ Below w.heap.size w wr) (fun v _ => i - (intOf v).toNat)
          case atStart => exact ⟨0, _, rfl, Nat.zero_le _, HC3.out, HN3.out, HS3.out, HL0.out, HB3.out⟩
          case round =>
            obtain ⟨q, sg, rfl, hq, hc, hnb, hsb, hlaid, hb⟩ := hrel
            have HC := Lib.hid hc
            have HN2 := Lib.hid hnb
            have HSB := Lib.hid hsb
            have HLA := Lib.hid hlaid
            have HB := Lib.hid hb
            clear hc hnb hsb hlaid hb HC3 HN3 HS3 HB3 HL0
            by_cases hlt : q < i
            · have hlti : (q : Int) < (i : Int) := by omega
              obtain ⟨g, o, ha, hcell⟩ := (HN.out.below HB.out).2 q hlt
              subst ha
              have hql : q < ls.length := by rw [HL.out]; exact hlt
              have hx15 : ls.getD q 0 ≤ 15 := by
                rw [List.getD_eq_getElem?_getD, List.getElem?_eq_getElem hql]
                exact H15.out _ (List.getElem_mem hql)
              have HNEXT : Hid (0 < ls.getD q 0 → startOf ls (ls.getD q 0) + (ls.take q).count (ls.getD q 0) < sg.length ∧ Laid ls (q + 1) (sg.set (startOf ls (ls.getD q 0) + (ls.take q).count (ls.getD q 0)) q)) := fun hx => HLA.out.next hql hx hx15
              have HNM : Hid (0 < ls.getD q 0 → (nextM ls q).set (ls.getD q 0) (startOf ls (ls.getD q 0) + (ls.take q).count (ls.getD q 0) + 1) = nextM ls (q + 1)) := fun hx => nextM_next ls q hql hx
              have HSAME : Hid (ls.getD q 0 = 0 → nextM ls q = nextM ls (q + 1) ∧ Laid ls (q + 1) sg) := fun hx => ⟨nextM_same ls q hql hx, HLA.out.same hql hx⟩
              obtain ⟨x, hx⟩ : ∃ x, ls.getD q 0 = x := ⟨_, rfl⟩
              rw [hx] at hcell hx15 HNEXT HNM HSAME
              clear hx hql
              by_cases hx0 : x = 0
              · subst hx0
                have hs := HSAME.out rfl
                have HN5 := HN2
                rw [hs.1] at HN5
                have HL5 := Lib.hid hs.2
                clear hs
                go_wp2_with fail
                exact ⟨⟨q + 1, sg, by go_num, by omega, HC.out, HN5.out, HSB.out, HL5.out, HB.out⟩, by simp [intOf]; omega⟩
              · have hxi : (0 : Int) < (x : Int) := by omega
                have hx17 : (x : Int) < 17 := by omega
                have hx17n : x < 17 := by omega
                have hnx := HNEXT.out (by omega)
                have hnm := HNM.out (by omega)
                have hsgl : sg.length = m := by rw [HLA.out.1, HM.out]
                have c16 := (row_cells HC.out (cntOf_len _)).2.1
                have cN := (cell_row0 wr Nb x _ _ _ HN2.out).trans (i64s_get _ x (by rw [nextM_len]; omega))
                have fN := free_row0 wr Nb x _ _ HN2.out
                rw [nextM_get _ _ _ (by omega), if_neg hx0] at cN
                obtain ⟨pl, hpl⟩ : ∃ pl, startOf ls x + (ls.take q).count x = pl := ⟨_, rfl⟩
                rw [hpl] at hnx hnm cN
                have hplm : pl < m := by rw [← hsgl]; exact hnx.1
                have hplmi : (pl : Int) < (m : Int) := by omega
                have cS := (cell_row0 wr Sb pl _ _ _ HSB.out).trans (i64s_get _ pl (by omega))
                have fS := free_row0 wr Sb pl _ _ HSB.out
                have HK4 := Lib.hid hnx.2
                have HK5 := Lib.hid hnm
                clear hnx hnm hpl HNEXT HNM HSAME
                go_wp2_with fail
                go_still_tail 6, (by kernel_rfl)
                change wpList _ _ _ _ _ wr.drew
                have HCd : Hid (wr.drew.heap[w.heap.size]? = some (.cells (rowC (cntOf ls) (.slice (some ⟨Sb, 0, none⟩) m m) (codeOfN ls).longest) 152 (0, 0))) := HC.out
                have HNd : Hid (wr.drew.heap[Nb]? = some (.cells (I64s (nextM ls q)).toArray 170 (0, 0))) := HN2.out
                have HSd : Hid (wr.drew.heap[Sb]? = some (.cells (I64s sg).toArray 3 (0, 0))) := HSB.out
                have HBd : Hid (Below w.heap.size w wr.drew) := HB.out.drew
                have cSd : wr.drew.cell? ⟨Sb, pl, none⟩ = some (.int .i64 ((sg.getD pl 0 : Nat) : Int)) := cS
                have fSd : wr.drew.frozen? ⟨Sb, pl, none⟩ = false := fS
                have cNd : wr.drew.cell? ⟨Nb, x, none⟩ = some (.int .i64 (pl : Int)) := cN
                clear cS fS cN fN c16 hcell
                generalize wr.drew = wd at *
                have hset1 := heap_setCell_same wd Sb pl _ _ (.int .i64 (q : Int)) HSd.out
                rw [i64s_set] at hset1
                have hk1 : (wd.setCell ⟨Sb, pl, none⟩ (.int .i64 (q : Int))).heap[Nb]? = some (.cells (I64s (nextM ls q)).toArray 170 (0, 0)) := (Below.heap_setCell wd _ _ _ (by show Nb ≠ Sb; omega)).trans HNd.out
                have hk2 : (wd.setCell ⟨Sb, pl, none⟩ (.int .i64 (q : Int))).heap[w.heap.size]? = some (.cells (rowC (cntOf ls) (.slice (some ⟨Sb, 0, none⟩) m m) (codeOfN ls).longest) 152 (0, 0)) := (Below.heap_setCell wd _ _ _ (by show w.heap.size ≠ Sb; omega)).trans HCd.out
                have n1 : (wd.setCell ⟨Sb, pl, none⟩ (.int .i64 (q : Int))).cell? ⟨Nb, x, none⟩ = some (.int .i64 (pl : Int)) := by
                  rw [World.cell?_setCell_other wd _ _ _ (by intro e; injection e with e1 e2 e3; omega)]; exact cNd
                have n2 : (wd.setCell ⟨Sb, pl, none⟩ (.int .i64 (q : Int))).frozen? ⟨Nb, x, none⟩ = false := free_row0 _ Nb x _ _ hk1
                have hset2 := heap_setCell_same _ Nb x _ _ (.int .i64 ((pl + 1 : Nat) : Int)) hk1
                rw [i64s_set, HK5.out, show ((pl + 1 : Nat) : Int) = (pl : Int) + 1 by omega] at hset2
                have HE1 := Lib.hid hset2
                have HE2 : Hid (((wd.setCell ⟨Sb, pl, none⟩ (.int .i64 (q : Int))).setCell ⟨Nb, x, none⟩ (.int .i64 ((pl : Int) + 1))).heap[w.heap.size]? = some (.cells (rowC (cntOf ls) (.slice (some ⟨Sb, 0, none⟩) m m) (codeOfN ls).longest) 152 (0, 0))) := (Below.heap_setCell _ _ _ _ (by show w.heap.size ≠ Nb; omega)).trans hk2
                have HE3 : Hid (((wd.setCell ⟨Sb, pl, none⟩ (.int .i64 (q : Int))).setCell ⟨Nb, x, none⟩ (.int .i64 ((pl : Int) + 1))).heap[Sb]? = some (.cells (I64s (sg.set pl q)).toArray 3 (0, 0))) := (Below.heap_setCell _ _ _ _ (by show Sb ≠ Nb; omega)).trans hset1
                have HE4 : Hid (Below w.heap.size w ((wd.setCell ⟨Sb, pl, none⟩ (.int .i64 (q : Int))).setCell ⟨Nb, x, none⟩ (.int .i64 ((pl : Int) + 1)))) := (HBd.out.setCell (by show w.heap.size ≤ Sb; omega) _).setCell (by show w.heap.size ≤ Nb; omega) _
                clear hset1 hset2 hk1 hk2
                go_wp2_with fail
                exact ⟨⟨q + 1, _, by go_num, by omega, HE2.out, HE1.out, HE3.out, HK4.out, HE4.out⟩, by simp [intOf]; omega⟩
            · have hlti : ¬ (q : Int) < (i : Int) := by omega
              obtain rfl : q = i := by omega
              have hsgl : sg.length = m := by rw [HLA.out.1, HM.out]
              have hml : m = (sgOf ls).length := by rw [sg_len, HM.out]
              have HMLEN := Lib.hid hml
              have hLl := HLA.out
              rw [← HL.out] at hLl
              have HEND : Hid (∀ j, j < (sgOf ls).length → wr.cell? ⟨Sb, j, none⟩ = some (.int .i64 (((sgOf ls).getD j 0 : Nat) : Int))) := fun j hj => by
                rw [← hLl.done j (by omega)]
                exact (cell_row0 wr Sb j _ _ _ HSB.out).trans (i64s_get _ j (by omega))
              clear hml hLl hsgl
              go_wp2_with fail
              go_ret
              exact ⟨rfl, HB.out, Sb, m, by have := HC.out; rw [HMLEN.out] at this ⊢; exact this, by omega, HEND.out⟩
end Go.Proofs.YtglgchjkonjpiaaGreatDoor
