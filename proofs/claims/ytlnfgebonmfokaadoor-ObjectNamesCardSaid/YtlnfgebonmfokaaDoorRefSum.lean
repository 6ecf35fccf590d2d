/- The document's sum: the walk. -/
import Derived.Test.YtlnfgebonmfokaaDoorRefMath
import Derived.Test.YtlnfgebonmfokaaDoorRefMore
import Derived.StillTailTactics
import Derived.StillTactics
import Derived.Deep.QuietTactic
import Derived.BigQuiet
namespace Go.Proofs.YtlnfgebonmfokaaDoor
open Go.RowKit Plain
set_option linter.unusedVariables false
theorem row_keep {W W' : World} {g : Nat} {o : Obj} (R : W.heap[g]? = some o) (hb : Below W.heap.size W W') : W'.heap[g]? = some o :=
  (hb.block g (Array.getElem?_eq_some_iff.1 R).1).trans R
def V64 (xs : List Int) : Array Value := (xs.map (Value.int .i64)).toArray
theorem V64_size (xs : List Int) : (V64 xs).size = xs.length := by simp [V64]
theorem V64_get (xs : List Int) (k : Nat) (h : k < xs.length) : (V64 xs)[k]? = some (.int .i64 (xs[k]?.getD 0)) := by simp [V64, h]
def hInts (s : Five) : List Int := [(s.a.toNat : Int), (s.b.toNat : Int), (s.c.toNat : Int), (s.d.toNat : Int), (s.e.toNat : Int)]
/-- The size's bytes, the last c of them. -/
def szTo (n c : Nat) : List Int := (List.range 8).map fun i => if 8 - c ≤ i then eb n i else 0
theorem zero_8 (n : Nat) (w : World) : (zeroValue 65).run Tryd.prog w = .ok (.agg (V8 (szTo n 0))) w := by
  show _ = Result.ok (Value.agg (List.replicate 8 (Value.int .u8 0)).toArray) w
  kernel_rfl
def padTo (xs : List Int) (j : Nat) : List Int := xs ++ 128 :: List.replicate j 0
theorem padTo_length (xs : List Int) (j : Nat) : (padTo xs j).length = xs.length + 1 + j := by simp [padTo]; omega
theorem padTo_snoc (xs : List Int) (j : Nat) : padTo xs j ++ [0] = padTo xs (j + 1) := by
  simp [padTo, List.replicate_succ']
theorem bytes_pad (xs : List Int) (hx : ∀ j : Nat, 0 ≤ xs[j]?.getD 0 ∧ xs[j]?.getD 0 ≤ 255) (j : Nat) (k : Nat) : 0 ≤ (padTo xs j)[k]?.getD 0 ∧ (padTo xs j)[k]?.getD 0 ≤ 255 := by
  refine range_append hx (fun k => ?_) k
  refine getD_bytes _ ?_ k
  intro x hx
  rw [List.mem_cons, List.mem_replicate] at hx
  omega
theorem Own.blk_ne {w : World} {base : Nat} {v : Value} {n : Nat} {xs : List Int} (h : Own w base v n xs) {g : Nat} {cs : Array Value} {t : TypeId} {fz : Nat × Nat} (hg : w.heap[g]? = some (.cells cs t fz)) (ht : 5 ≠ t) : v.ownBlock ≠ some g := by
  rcases h.2 with ⟨rfl, _⟩ | ⟨g', cap, cur, rfl, _, hh, _⟩
  · simp [Value.ownBlock]
  · intro he
    have : g' = g := by simpa [Value.ownBlock] using he
    subst this
    rw [hg] at hh
    injection hh with hh
    injection hh with _ h2
    exact ht h2.symm
theorem szTo_length (n c : Nat) : (szTo n c).length = 8 := by simp [szTo]
theorem szTo_set (n c : Nat) (hc : c < 8) (x : Int) (hx : x = eb n (7 - c)) : (V8 (szTo n c)).setIfInBounds (7 - c) (.int .u8 x) = V8 (szTo n (c + 1)) := by
  subst hx
  apply Array.ext
  · simp [V8_size, szTo_length]
  · intro j h1 h2
    have hj : j < 8 := by simpa [V8_size, szTo_length] using h2
    rw [Array.getElem_setIfInBounds (by simpa using h1)]
    by_cases hjk : 7 - c = j
    · subst hjk; simp [V8, szTo]; omega
    · rw [if_neg hjk]
      simp only [V8, szTo, List.getElem_toArray, List.getElem_map, List.getElem_range]
      by_cases hlt : 8 - c ≤ j
      · rw [if_pos hlt, if_pos (by omega)]
      · rw [if_neg hlt, if_neg (by omega)]
theorem sz_eb (m q V : Nat) (hm : m ≤ 1000000) (hq : q < 8) (hV : V = 8 * m / 256 ^ q) : ((V % 256 : Nat) : Int) = eb m (7 - q) := by
  subst hV
  unfold eb
  rw [show 56 - 8 * (7 - q) = 8 * q by omega, Nat.pow_mul, Nat.mod_eq_of_lt (show m * 8 < 18446744073709551616 by omega), Nat.mul_comm]
theorem sz_next (m q V : Nat) (hV : V = 8 * m / 256 ^ q) : V / 256 = 8 * m / 256 ^ (q + 1) := by
  subst hV
  rw [Nat.div_div_eq_div_mul, Nat.pow_succ]
def zeros80 : List Int := List.replicate 80 0
theorem zero_5 (w : World) : (zeroValue 66).run Tryd.prog w = .ok (.agg #[.int .i64 0, .int .i64 0, .int .i64 0, .int .i64 0, .int .i64 0]) w := by
  kernel_rfl
theorem zero_80i (w : World) : (zeroValue 67).run Tryd.prog w = .ok (.agg (V64 zeros80)) w := by
  show _ = Result.ok (Value.agg (V64 zeros80)) w
  kernel_rfl
theorem start_V64 : (#[.int .i64 1732584193, .int .i64 4023233417, .int .i64 2562383102, .int .i64 271733878, .int .i64 3285377520] : Array Value) = V64 (hInts Plain.start.h) := by kernel_rfl
theorem szTo_get (m t : Nat) (h : t < 8) : (szTo m 8)[t]? = some (eb m t) := by simp [szTo, h]
theorem szTo_snoc (m t : Nat) (h : t < 8) : (szTo m 8).take t ++ [eb m t] = (szTo m 8).take (t + 1) := by
  rw [List.take_succ_eq_append_getElem (by rw [szTo_length]; exact h)]
  have := szTo_get m t h
  rw [List.getElem?_eq_getElem (by rw [szTo_length]; exact h)] at this
  rw [Option.some.inj this]
theorem eb_byte (m t : Nat) : 0 ≤ eb m t ∧ eb m t ≤ 255 := by unfold eb; omega
theorem all_eq (xs : List Int) (m M : Nat) (hM : (119 - m % 64) % 64 = M) : padTo xs M ++ szTo m 8 = xs ++ endOf m := by
  unfold padTo endOf endTo szTo
  rw [hM, List.append_assoc, List.cons_append]
  congr 3
def boxed5 (w : World) (s : Five) : World := (w.alloc (.cells #[.int .i64 0, .int .i64 0, .int .i64 0, .int .i64 0, .int .i64 0] 66)).setRow w.heap.size (V64 (hInts s))
theorem boxed5_heap (w : World) (s : Five) : (boxed5 w s).heap[w.heap.size]? = some (.cells (V64 (hInts s)) 66 (0, 0)) := setRow_heap _ _ _ _ _ _ (heap_alloc_new w _)
theorem boxed5_new (w : World) (s : Five) : Below w.heap.size w (boxed5 w s) := below_setRow ((Below.refl _ _).alloc (Nat.le_refl _) _) (Nat.le_refl _) _
theorem info5 (s : Five) : (Tryd.prog.info? 66).map (·.size) = some (V64 (hInts s)).size := by
  rw [V64_size]; kernel_rfl
theorem V64_one (xs : List Int) : (V64 xs).all (·.oneCell') = true := by
  rw [Array.all_eq_true_iff_forall_mem]; intro v hv; unfold V64 at hv; simp at hv; obtain ⟨x, _, rfl⟩ := hv; rfl
/-- What lies in memory while the blocks are gone through. -/
structure SumMem (w wr : World) (g : Nat) (cur : Array Value) (B : Nat) (s : Five) : Prop where
  res : wr.heap[w.heap.size]? = some (.cells (V8 zeros20) 24 (0, 0))
  row : wr.heap[g]? = some (.cells cur 5 (0, 0))
  h : wr.heap[B]? = some (.cells (V64 (hInts s)) 66 (0, 0))
  bel : Below w.heap.size w wr
  lo : w.heap.size < g ∧ g ≠ B ∧ w.heap.size < B
theorem SumMem.below {w W W' : World} {g : Nat} {cur : Array Value} {B : Nat} {s : Five} (h : SumMem w W g cur B s) (hb : Below W.heap.size W W') : SumMem w W' g cur B s :=
  ⟨row_keep h.res hb, row_keep h.row hb, row_keep h.h hb, h.bel.trans (hb.mono h.bel.size), h.lo⟩
theorem SumMem.set {w W : World} {g : Nat} {cur : Array Value} {B : Nat} {s : Five} (h : SumMem w W g cur B s) (b o : Nat) (v : Value) (hb : b ≠ w.heap.size ∧ b ≠ g ∧ b ≠ B ∧ w.heap.size ≤ b) : SumMem w (W.setCell ⟨b, o, none⟩ v) g cur B s :=
  ⟨(Below.heap_setCell W _ _ _ (fun e => hb.1 e.symm)).trans h.res, (Below.heap_setCell W _ _ _ (fun e => hb.2.1 e.symm)).trans h.row, (Below.heap_setCell W _ _ _ (fun e => hb.2.2.1 e.symm)).trans h.h, h.bel.setCell hb.2.2.2 _, h.lo⟩
theorem SumMem.drewN {w W : World} {g : Nat} {cur : Array Value} {B : Nat} {s : Five} (h : SumMem w W g cur B s) (n : Nat) : SumMem w (W.drewN n) g cur B s :=
  ⟨h.res, h.row, h.h, ⟨h.bel.os, h.bel.tape, h.bel.output, h.bel.size, h.bel.block⟩, h.lo⟩
/-- The first k words as whole numbers, and noughts behind. -/
def wI (bs : List Int) (k : Nat) : List Int := (wordsTo bs k).map (fun x => (x.toNat : Int)) ++ List.replicate (80 - k) 0
theorem wI_length (bs : List Int) (k : Nat) (hk : k ≤ 80) : (wI bs k).length = 80 := by unfold wI; simp [wordsTo_length]; omega
theorem wI_zero (bs : List Int) : wI bs 0 = zeros80 := by simp [wI, wordsTo, zeros80]
theorem wI_set (bs : List Int) (k : Nat) (h : k < 80) (x : BitVec 32) (hx : x = if k < 16 then word0 bs k else rotl ((wordsTo bs k)[k - 3]?.getD 0 ^^^ (wordsTo bs k)[k - 8]?.getD 0 ^^^ (wordsTo bs k)[k - 14]?.getD 0 ^^^ (wordsTo bs k)[k - 16]?.getD 0) 1) :
    (V64 (wI bs k)).setIfInBounds k (.int .i64 (x.toNat : Int)) = V64 (wI bs (k + 1)) := by
  unfold wI V64
  apply Array.toList_inj.1
  rw [Array.toList_setIfInBounds, List.map_append, List.map_append]
  rw [List.set_append_right _ _ (by simp [wordsTo_length])]
  rw [show 80 - k = (80 - (k + 1)) + 1 by omega, List.replicate_succ]
  simp only [List.length_map, wordsTo_length, Nat.sub_self, List.map_cons, List.set_cons_zero]
  rw [wordsTo, ← hx]
  simp
theorem wI_get (bs : List Int) (k j : Nat) (h : j < k) (hk : k ≤ 80) : (V64 (wI bs k))[j]? = some (.int .i64 (((wordsTo bs k)[j]?.getD 0).toNat : Int)) := by
  rw [V64_get _ _ (by rw [wI_length bs k hk]; omega)]
  unfold wI
  rw [List.getElem?_append_left (by simp [wordsTo_length]; omega), List.getElem?_map]
  rw [List.getElem?_eq_getElem (by rw [wordsTo_length]; omega)]
  rfl
theorem word0_nat (x0 x1 x2 x3 : Int) (h0 : 0 ≤ x0 ∧ x0 ≤ 255) (h1 : 0 ≤ x1 ∧ x1 ≤ 255) (h2 : 0 ≤ x2 ∧ x2 ≤ 255) (h3 : 0 ≤ x3 ∧ x3 ≤ 255) :
    x0 * 16777216 + x1 * 65536 + x2 * 256 + x3 = ((BitVec.ofInt 32 (x0 * 16777216 + x1 * 65536 + x2 * 256 + x3)).toNat : Int) := by
  rw [BitVec.toNat_ofInt]; omega
theorem hInts_get (s : Five) : (V64 (hInts s))[0]? = some (.int .i64 (s.a.toNat : Int)) ∧ (V64 (hInts s))[1]? = some (.int .i64 (s.b.toNat : Int)) ∧ (V64 (hInts s))[2]? = some (.int .i64 (s.c.toNat : Int)) ∧ (V64 (hInts s))[3]? = some (.int .i64 (s.d.toNat : Int)) ∧ (V64 (hInts s))[4]? = some (.int .i64 (s.e.toNat : Int)) := ⟨rfl, rfl, rfl, rfl, rfl⟩
theorem SumMem.cells {w W : World} {g : Nat} {cur : Array Value} {B : Nat} {s : Five} (h : SumMem w W g cur B s) :
    W.cell? ⟨B, 0, none⟩ = some (.int .i64 (s.a.toNat : Int)) ∧ W.cell? ⟨B, 1, none⟩ = some (.int .i64 (s.b.toNat : Int)) ∧ W.cell? ⟨B, 2, none⟩ = some (.int .i64 (s.c.toNat : Int)) ∧ W.cell? ⟨B, 3, none⟩ = some (.int .i64 (s.d.toNat : Int)) ∧ W.cell? ⟨B, 4, none⟩ = some (.int .i64 (s.e.toNat : Int)) := by
  obtain ⟨h0, h1, h2, h3, h4⟩ := hInts_get s
  exact ⟨by rw [cell_of_row W _ _ _ _ _ h.h, h0], by rw [cell_of_row W _ _ _ _ _ h.h, h1], by rw [cell_of_row W _ _ _ _ _ h.h, h2], by rw [cell_of_row W _ _ _ _ _ h.h, h3], by rw [cell_of_row W _ _ _ _ _ h.h, h4]⟩
theorem SumMem.five {w W : World} {g : Nat} {cur : Array Value} {B : Nat} {s : Five} (h : SumMem w W g cur B s) (s' : Five) :
    SumMem w (((((W.setCell ⟨B, 0, none⟩ (.int .i64 (s'.a.toNat : Int))).setCell ⟨B, 1, none⟩ (.int .i64 (s'.b.toNat : Int))).setCell ⟨B, 2, none⟩ (.int .i64 (s'.c.toNat : Int))).setCell ⟨B, 3, none⟩ (.int .i64 (s'.d.toNat : Int))).setCell ⟨B, 4, none⟩ (.int .i64 (s'.e.toNat : Int))) g cur B s' := by
  obtain ⟨h1, h2, h3, h4, l1, l2, l3⟩ := h
  have k : ∀ (W : World) (o : Nat) (v : Value) (j : Nat), j ≠ B → (W.setCell ⟨B, o, none⟩ v).heap[j]? = W.heap[j]? := fun W o v j hj => Below.heap_setCell W _ _ _ hj
  refine ⟨?_, ?_, ?_, ?_, l1, l2, l3⟩
  · rw [k _ _ _ _ (by omega), k _ _ _ _ (by omega), k _ _ _ _ (by omega), k _ _ _ _ (by omega), k _ _ _ _ (by omega)]; exact h1
  · rw [k _ _ _ _ l2, k _ _ _ _ l2, k _ _ _ _ l2, k _ _ _ _ l2, k _ _ _ _ l2]; exact h2
  · exact heap_setCell_same _ B 4 _ _ _ (heap_setCell_same _ B 3 _ _ _ (heap_setCell_same _ B 2 _ _ _ (heap_setCell_same _ B 1 _ _ _ (heap_setCell_same _ B 0 _ _ _ h3))))
  · exact ((((h4.setCell (by show w.heap.size ≤ B; omega) _).setCell (by show w.heap.size ≤ B; omega) _).setCell (by show w.heap.size ≤ B; omega) _).setCell (by show w.heap.size ≤ B; omega) _).setCell (by show w.heap.size ≤ B; omega) _
theorem Own.empty_at (w : World) (g : Nat) (hg : w.heap.size = g) : Own (w.alloc (.cells #[] 5)) g (.slice (some ⟨g, 0, none⟩) 0 0) 0 [] := by subst hg; exact Own.empty w
theorem row4 (S : Five) (W : World) (B k : Nat) (hk : k < 5) (x0 x1 x2 x3 : Int) (h : W.heap[B]? = some (.cells (idTo S (4 * k)) 24 (0, 0)))
    (e0 : x0 = tb S (4 * k)) (e1 : x1 = tb S (4 * k + 1)) (e2 : x2 = tb S (4 * k + 2)) (e3 : x3 = tb S (4 * k + 3)) :
    ((((W.setCell ⟨B, 4 * k, none⟩ (.int .u8 x0)).setCell ⟨B, 4 * k + 1, none⟩ (.int .u8 x1)).setCell ⟨B, 4 * k + 2, none⟩ (.int .u8 x2)).setCell ⟨B, 4 * k + 3, none⟩ (.int .u8 x3)).heap[B]? = some (.cells (idTo S (4 * (k + 1))) 24 (0, 0)) := by
  have h0 : (W.setCell ⟨B, 4 * k, none⟩ (.int .u8 x0)).heap[B]? = _ := heap_setCell_same W B (4 * k) _ _ _ h
  rw [idTo_set S _ (by omega) x0 e0] at h0
  have h1 : ((W.setCell ⟨B, 4 * k, none⟩ (.int .u8 x0)).setCell ⟨B, 4 * k + 1, none⟩ (.int .u8 x1)).heap[B]? = _ := heap_setCell_same _ B (4 * k + 1) _ _ _ h0
  rw [idTo_set S _ (by omega) x1 e1] at h1
  have h2 : (((W.setCell ⟨B, 4 * k, none⟩ (.int .u8 x0)).setCell ⟨B, 4 * k + 1, none⟩ (.int .u8 x1)).setCell ⟨B, 4 * k + 2, none⟩ (.int .u8 x2)).heap[B]? = _ := heap_setCell_same _ B (4 * k + 2) _ _ _ h1
  rw [idTo_set S _ (by omega) x2 e2] at h2
  have h3 : ((((W.setCell ⟨B, 4 * k, none⟩ (.int .u8 x0)).setCell ⟨B, 4 * k + 1, none⟩ (.int .u8 x1)).setCell ⟨B, 4 * k + 2, none⟩ (.int .u8 x2)).setCell ⟨B, 4 * k + 3, none⟩ (.int .u8 x3)).heap[B]? = _ := heap_setCell_same _ B (4 * k + 3) _ _ _ h2
  rw [idTo_set S _ (by omega) x3 e3] at h3
  exact h3
set_option maxRecDepth 100000 in
set_option maxHeartbeats 8000000 in
theorem refSum_any (a : Option Addr) (m cap : Nat) (xs : List Int) (w : World) (hm : m ≤ 1000000) (hnil : a = none → cap = 0) (H : Bytes w a m xs) :
    Calls Tryd.prog 20 #[.slice a m cap] w fun e w' => e = .returned (.agg (idTo (sumOf xs) 20)) ∧ Below w.heap.size w w' := by
  have HH : Hid (Bytes w a m xs) := H
  have HXL : Hid (xs.length = m) := H.1
  have hz := zero_24
  have HR0 : Hid ((w.alloc (.cells (V8 zeros20) 24)).heap[w.heap.size]? = some (.cells (V8 zeros20) 24 (0, 0))) := heap_alloc_new w _
  have HB0 : Hid (Below w.heap.size w (w.alloc (.cells (V8 zeros20) 24))) := (Below.refl _ _).alloc (Nat.le_refl _) _
  have HS0 : Hid ((w.alloc (.cells (V8 zeros20) 24)).heap.size = w.heap.size + 1) := by show _ = _; simp
  clear H
  go_enter Tryd.func20, Tryd.ntmps20
  have tok1 : True := trivial
  have tok2 : True := trivial
  go_wp2_with (first
    | (have _t := tok1
       at_builtin
       generalize (w.alloc (.cells (V8 zeros20) 24)) = w0 at *
       refine wpList_append_bytes rfl _ _ rfl (w.heap.size + 1) _ 0 [] rfl (Own.empty_at w0 _ HS0.out) a m cap xs rfl (((HH.out.below HB0.out)).below ((Below.refl _ _).alloc (Nat.le_refl _) _)) hnil (by omega) (by simp [HS0.out]) ?_
       intro v1 w1 hown1 hg1
       clear tok1
       have HK1 : Hid (Below (w.heap.size + 1) w0 w1) := ((Below.refl _ _).alloc (by rw [HS0.out]; exact Nat.le_refl _) _).trans ((Own.empty_at w0 _ HS0.out).kept (by simp [HS0.out]) hg1)
       rw [Nat.zero_add, List.nil_append] at hown1
       have HO1 : Hid (Own w1 (w.heap.size + 1) v1 m xs) := hown1
       have HN1 : Hid (w.heap.size + 1 ≤ w1.heap.size) := by have h1 := HK1.out.size; have h2 := HS0.out; show _ ≤ _; omega
       clear hown1 hg1)
    | (have _t := tok2
       at_builtin
       refine wpList_append_bytes rfl _ _ rfl (w.heap.size + 1) v1 m xs rfl (HO1.out.below ((Below.refl _ _).alloc (Nat.le_refl _) _)) _ 1 1 [128] rfl (Bytes.lit w1 w1.heap.size rfl [128] 5 (0, 0) 1 rfl (by omega) (by simp)) (fun e => by cases e) (by omega) (by have := HN1.out; simp; omega) ?_
       intro v2 w2 hown2 hg2
       clear tok2
       have HK2 : Hid (Below (w.heap.size + 1) w0 w2) := HK1.out.trans (((Below.refl _ _).alloc HN1.out _).trans ((HO1.out.below ((Below.refl _ _).alloc (Nat.le_refl _) _)).kept (by have := HN1.out; simp; omega) hg2))
       have HO2 : Hid (Own w2 (w.heap.size + 1) v2 (m + 1) (padTo xs 0)) := hown2
       clear hown2 hg2 HK1 HO1))
  obtain ⟨M, hM⟩ : ∃ M, (119 - m % 64) % 64 = M := ⟨_, rfl⟩
  have HM : Hid ((119 - m % 64) % 64 = M) := hM
  have hM64 : M < 64 := by omega
  obtain ⟨g2, c2, rfl, -, -, -, -⟩ := HO2.out.form (by omega)
  clear hM
  go_loopw [3] (fun v wr => ∃ (j N g c : Nat), j ≤ M ∧ N = m + 1 + j ∧ v = .slice (some ⟨g, 0, none⟩) N c ∧ Own wr (w.heap.size + 1) (.slice (some ⟨g, 0, none⟩) N c) N (padTo xs j) ∧ Below (w.heap.size + 1) w0 wr) (fun v _ => m + 65 - sizeV v)
  case atStart => exact ⟨0, m + 1, g2, c2, by omega, by omega, by simp, HO2.out, HK2.out⟩
  case round =>
    obtain ⟨j, N, g, c, hj, hN, rfl, hown, hbel⟩ := hrel
    have HO : Hid (Own wr (w.heap.size + 1) (.slice (some ⟨g, 0, none⟩) N c) N (padTo xs j)) := hown
    have HK : Hid (Below (w.heap.size + 1) w0 wr) := hbel
    have HNE : Hid (N = m + 1 + j) := hN
    have HN : Hid (w.heap.size + 1 ≤ wr.heap.size) := by have h1 := hbel.size; have h2 := HS0.out; show _ ≤ _; omega
    clear hown hbel HO2 HK2
    by_cases hlt : j < M
    · as_aux_lemma =>
        have t1 : (((N : Int) % 64) != 56) = true := by have := HM.out; simp; omega
        have hNb : N ≤ 1000065 := by omega
        clear hN
        go_wp2_with (
          at_builtin
          refine wpList_append_bytes rfl _ _ rfl (w.heap.size + 1) _ N (padTo xs j) rfl (HO.out.below ((Below.refl _ _).alloc (Nat.le_refl _) _)) _ 1 1 [0] rfl (Bytes.lit wr wr.heap.size rfl [0] 5 (0, 0) 1 rfl (by omega) (by simp)) (fun e => by cases e) (by omega) (by have := HN.out; simp; omega) ?_
          intro v3 w3 hown3 hg3
          have HK3 : Hid (Below (w.heap.size + 1) w0 w3) := HK.out.trans (((Below.refl _ _).alloc HN.out _).trans ((HO.out.below ((Below.refl _ _).alloc (Nat.le_refl _) _)).kept (by have := HN.out; simp; omega) hg3))
          rw [padTo_snoc] at hown3
          obtain ⟨g3, c3, rfl, -, -, -, -⟩ := hown3.form (by omega))
        exact ⟨⟨j + 1, N + 1, g3, c3, by omega, by have := HNE.out; omega, rfl, hown3, HK3.out⟩, by have := HNE.out; simp [sizeV]; omega⟩
    · as_aux_lemma =>
        obtain rfl : j = M := by omega
        have t1 : (((N : Int) % 64) != 56) = false := by have := HM.out; simp; omega
        have hNb : N ≤ 1000065 := by omega
        clear hN hlt hj
        have hz8 := zero_8 m
        have H8 : Hid ((wr.alloc (.cells (V8 (szTo m 0)) 65)).heap[wr.heap.size]? = some (.cells (V8 (szTo m 0)) 65 (0, 0))) := heap_alloc_new wr _
        have hb8 : Below wr.heap.size wr (wr.alloc (.cells (V8 (szTo m 0)) 65)) := (Below.refl _ _).alloc (Nat.le_refl _) _
        have HO8 : Hid (Own (wr.alloc (.cells (V8 (szTo m 0)) 65)) (w.heap.size + 1) (.slice (some ⟨g, 0, none⟩) N c) N (padTo xs j)) := HO.out.below hb8
        have HK8 : Hid (Below (w.heap.size + 1) w0 (wr.alloc (.cells (V8 (szTo m 0)) 65))) := HK.out.trans (hb8.mono HN.out)
        have HLT : Hid (g < wr.heap.size) := by
          obtain ⟨g', c', e, -, -, -, h⟩ := HO.out.form (by have := HNE.out; omega)
          simp only [Value.slice.injEq, Option.some.injEq, Addr.mk.injEq] at e
          show g < _
          omega
        clear hb8
        go_wp2_with fail
        obtain ⟨B8, hB8⟩ : ∃ B, B = wr.heap.size := ⟨_, rfl⟩
        rw [← hB8] at H8 HLT ⊢
        have HBW : Hid (w.heap.size + 1 ≤ B8) := by rw [hB8]; exact HN.out
        clear hB8
        generalize (wr.alloc (.cells (V8 (szTo m 0)) 65)) = wa at *
        go_loopw [4, 6] (fun n i wq => ∃ (q V : Nat) (z : Int), q ≤ 8 ∧ z = 7 - (q : Int) ∧ V = 8 * m / 256 ^ q ∧ n = .int .i64 (V : Int) ∧ i = .int .i64 z ∧ wq.heap[B8]? = some (.cells (V8 (szTo m q)) 65 (0, 0)) ∧ Own wq (w.heap.size + 1) (.slice (some ⟨g, 0, none⟩) N c) N (padTo xs j) ∧ Below (w.heap.size + 1) w0 wq) (fun _ i _ => (intOf i + 1).toNat)
        case atStart => exact ⟨0, 8 * m, 7, by omega, by omega, by simp, by simp, rfl, H8.out, HO8.out, HK8.out⟩
        case round =>
          clear H8 HO8 HK8 HO HK
          obtain ⟨q, V, z, hq, hzq, hV, rfl, rfl, h8, hown, hbel⟩ := hrel
          have H8 : Hid (wr.heap[B8]? = some (.cells (V8 (szTo m q)) 65 (0, 0))) := h8
          have HO : Hid (Own wr (w.heap.size + 1) (.slice (some ⟨g, 0, none⟩) N c) N (padTo xs j)) := hown
          have HK : Hid (Below (w.heap.size + 1) w0 wr) := hbel
          have HV : Hid (V = 8 * m / 256 ^ q) := hV
          have hVb : V ≤ 8000000 := by rw [hV]; exact Nat.le_trans (Nat.div_le_self _ _) (by omega)
          have HZ : Hid (z = 7 - (q : Int)) := hzq
          clear h8 hown hbel hV
          by_cases hlt : q < 8
          · as_aux_lemma =>
              obtain ⟨y, hy⟩ : ∃ y : Nat, y = 7 - q := ⟨_, rfl⟩
              have HY : Hid (y = 7 - q) := hy
              obtain rfl : z = (y : Int) := by omega
              obtain ⟨ov, ho⟩ : ∃ ov, wr.cell? ⟨B8, y, none⟩ = some ov := ⟨_, by rw [cell_of_row wr _ _ _ _ _ H8.out, Array.getElem?_eq_getElem (by rw [V8_size, szTo_length]; omega)]⟩
              have fo := frozen_of_row wr B8 y (V8 (szTo m q)) 65 H8.out
              have HSET : Hid (∀ x, x = eb m (7 - q) → (V8 (szTo m q)).setIfInBounds (7 - q) (.int .u8 x) = V8 (szTo m (q + 1))) := fun x hx => szTo_set m q hlt x hx
              have HGE : Hid (g ≠ B8) := by have := HLT.out; show _ ≠ _; omega
              have hy8 : (y : Int) < 8 := by omega
              clear hy hzq
              go_wp2_with fail
              exact ⟨⟨q + 1, V / 256, (y : Int) - 1, by omega, by have := HY.out; omega, sz_next m q V HV.out, by go_num, rfl, (heap_setCell_same wr B8 _ _ _ _ H8.out).trans (by have e := HSET.out ((V : Int) % 256) (by rw [← sz_eb m q V hm hlt HV.out]; simp); rw [← HY.out] at e; rw [e]), HO.out.other ⟨B8, y, none⟩ (fun e => HGE.out e.symm) _, HK.out.setCell HBW.out _⟩, by simp [intOf]⟩
          · as_aux_lemma =>
              obtain rfl : q = 8 := by omega
              have hz1 : z = -1 := by omega
              subst hz1
              clear hlt hq HZ hzq hVb HV
              obtain ⟨xs0, hxs0⟩ : ∃ l, padTo xs j = l := ⟨_, rfl⟩
              rw [hxs0] at HO
              have HX0 : Hid (padTo xs j = xs0) := hxs0
              clear hxs0
              go_wp2_with fail
              go_loopw [3, 7] (fun v i wq => ∃ (t N2 g2 c2 : Nat), t ≤ 8 ∧ i = .int .i64 (t : Int) ∧ N2 = N + t ∧ v = .slice (some ⟨g2, 0, none⟩) N2 c2 ∧ wq.heap[B8]? = some (.cells (V8 (szTo m 8)) 65 (0, 0)) ∧ Own wq (w.heap.size + 1) (.slice (some ⟨g2, 0, none⟩) N2 c2) N2 (xs0 ++ (szTo m 8).take t) ∧ Below (w.heap.size + 1) w0 wq) (fun _ i _ => 8 - (intOf i).toNat)
              case atStart => exact ⟨0, N, g, c, by omega, rfl, by omega, rfl, H8.out, by simpa using HO.out, HK.out⟩
              case round =>
                clear H8 HO HK
                obtain ⟨t, N2, g2, c2, ht, rfl, hN2, rfl, h8, hown, hbel⟩ := hrel
                have H8 : Hid (wr.heap[B8]? = some (.cells (V8 (szTo m 8)) 65 (0, 0))) := h8
                have HO : Hid (Own wr (w.heap.size + 1) (.slice (some ⟨g2, 0, none⟩) N2 c2) N2 (xs0 ++ (szTo m 8).take t)) := hown
                have HK : Hid (Below (w.heap.size + 1) w0 wr) := hbel
                have HN2 : Hid (N2 = N + t) := hN2
                have HN : Hid (w.heap.size + 1 ≤ wr.heap.size) := by have h1 := hbel.size; have h2 := HS0.out; show _ ≤ _; omega
                have hNb2 : N2 ≤ 1000100 := by omega
                clear h8 hown hbel hN2
                by_cases hlt : t < 8
                · as_aux_lemma =>
                    have hc8 : wr.cell? ⟨B8, t, none⟩ = some (.int .u8 (eb m t)) := by
                      rw [cell_of_row wr _ _ _ _ _ H8.out, V8_get _ _ (by rw [szTo_length]; exact hlt), szTo_get m t hlt]; rfl
                    have hbb := eb_byte m t
                    have HSN : Hid ((szTo m 8).take t ++ [eb m t] = (szTo m 8).take (t + 1)) := szTo_snoc m t hlt
                    have hlt' : (t : Int) < 8 := by omega
                    generalize eb m t = x at *
                    have HBB : Hid (0 ≤ x ∧ x ≤ 255) := hbb
                    go_wp2_with (
                      at_builtin
                      refine wpList_append_bytes rfl _ _ rfl (w.heap.size + 1) _ N2 (xs0 ++ (szTo m 8).take t) rfl (HO.out.below ((Below.refl _ _).alloc (Nat.le_refl _) _)) _ 1 1 [x] rfl (Bytes.lit wr wr.heap.size rfl [x] 5 (0, 0) 1 rfl (by omega) (by simpa using HBB.out)) (fun e => by cases e) (by omega) (by have := HN.out; simp; omega) ?_
                      intro v3 w3 hown3 hg3
                      have HK3 : Hid (Below (w.heap.size + 1) w0 w3) := HK.out.trans (((Below.refl _ _).alloc HN.out _).trans ((HO.out.below ((Below.refl _ _).alloc (Nat.le_refl _) _)).kept (by have := HN.out; simp; omega) hg3))
                      have H83 : Hid (w3.heap[B8]? = some (.cells (V8 (szTo m 8)) 65 (0, 0))) := by
                        have hl := (Array.getElem?_eq_some_iff.1 H8.out).1
                        have ha := (Below.heap_alloc wr (.cells #[.int .u8 x] 5) B8 hl).trans H8.out
                        show w3.heap[B8]? = _
                        rw [hg3.block B8 (by simp; omega) (fun e => (HO.out.below ((Below.refl _ _).alloc (Nat.le_refl _) _)).blk_ne ha (by decide) e.symm)]
                        exact ha
                      rw [List.append_assoc, HSN.out] at hown3
                      clear hg3
                      obtain ⟨g3, c3, rfl, -, -, -, -⟩ := hown3.form (by omega))
                    exact ⟨⟨t + 1, N2 + 1, g3, c3, by omega, by go_num, by have := HN2.out; omega, rfl, H83.out, hown3, HK3.out⟩, by simp [intOf]; omega⟩
                · as_aux_lemma =>
                    obtain rfl : t = 8 := by omega
                    have hall : xs0 ++ (szTo m 8).take 8 = xs ++ endOf m := by
                      rw [List.take_of_length_le (by rw [szTo_length]; exact Nat.le_refl _), ← HX0.out]
                      exact all_eq xs m j HM.out
                    rw [hall] at HO
                    obtain ⟨mm, hmm⟩ : ∃ mm, N2 = 64 * mm := ⟨N2 / 64, by have h1 := HN2.out; have h2 := HNE.out; have h3 := HM.out; omega⟩
                    have hmb : mm ≤ 20000 := by omega
                    have HN64 : Hid (N2 = 64 * mm) := hmm
                    obtain ⟨al, hal⟩ : ∃ al, xs ++ endOf m = al := ⟨_, rfl⟩
                    rw [hal] at HO
                    have HAL : Hid (xs ++ endOf xs.length = al) := by show _ = _; rw [HXL.out]; exact hal
                    have HALL : Hid (al.length = 64 * mm) := by
                      have h1 := HO.out.1
                      show al.length = _
                      rw [← hmm]
                      simpa using h1
                    have HAB : Hid (∀ p : Nat, 0 ≤ al[p]?.getD 0 ∧ al[p]?.getD 0 ≤ 255) := by
                      rw [← hal]
                      exact range_append HH.out.2.2.1 (getD_bytes _ (endOf_bytes m))
                    have HRES : Hid (wr.heap[w.heap.size]? = some (.cells (V8 zeros20) 24 (0, 0))) := (HK.out.block _ (by omega)).trans HR0.out
                    have HBW : Hid (Below w.heap.size w wr) := HB0.out.trans (HK.out.mono (by omega))
                    obtain ⟨cur, hg2, HCUR, HROW⟩ : ∃ cur, w.heap.size < g2 ∧ Hid (∀ p, p < N2 → cur[p]? = some (.int .u8 (al[p]?.getD 0))) ∧ Hid (wr.heap[g2]? = some (.cells cur 5 (0, 0))) := by
                      obtain ⟨h1, ⟨h2, -⟩ | ⟨g', cap', cur, h3, h4, h5, h6, h7, h8, h9⟩⟩ := HO.out
                      · cases h2
                      · simp only [Value.slice.injEq, Option.some.injEq, Addr.mk.injEq, and_true, true_and] at h3
                        obtain ⟨rfl, rfl⟩ := h3
                        refine ⟨cur, by omega, fun p hp => ?_, h5⟩
                        have e := congrArg (fun l => l[p]?) h9
                        have hl : al.length = N2 := by simpa using h1
                        simp only [Nat.mul_one, List.getElem?_map, List.getElem?_eq_getElem (show p < al.length by omega), Option.map_some] at e
                        rw [List.getElem?_take_of_lt hp, Array.getElem?_toList] at e
                        simpa [List.getElem?_eq_getElem (show p < al.length by omega)] using e
                    clear hall hal H8 HO HK hlt ht hNb2 hmm
                    have hz5 := zero_5
                    have hst := start_V64
                    have HM5 : Hid (SumMem w (boxed5 wr Plain.start.h) g2 cur wr.heap.size Plain.start.h) :=
                      ⟨row_keep HRES.out (boxed5_new wr _), row_keep HROW.out (boxed5_new wr _), boxed5_heap wr _, HBW.out.trans ((boxed5_new wr _).mono HBW.out.size), ⟨hg2, by have := (Array.getElem?_eq_some_iff.1 HROW.out).1; omega, (Array.getElem?_eq_some_iff.1 HRES.out).1⟩⟩
                    obtain ⟨Bh, hBh⟩ : ∃ B, B = wr.heap.size := ⟨_, rfl⟩
                    have tok3 : True := trivial
                    go_wp2_with (
                      have _t := tok3
                      refine wpList_store_row rfl 66 (.tmp 8) (.tmp 62) rfl wr.heap.size (V64 (hInts Plain.start.h)) rfl rfl 66 #[.int .i64 0, .int .i64 0, .int .i64 0, .int .i64 0, .int .i64 0] (heap_alloc_new wr _) (info5 _) (by rw [V64_size]; rfl) (V64_one _) ?_
                      clear tok3
                      change wpList _ _ _ _ _ (boxed5 wr Plain.start.h)
                      generalize boxed5 wr Plain.start.h = w5 at *)
                    rw [← hBh] at HM5 ⊢
                    clear hBh hst hz5 HRES HBW HROW hg2
                    have hz80 := zero_80i
                    go_loopw [9] (fun i wq => ∃ jb : Nat, jb ≤ mm ∧ i = .int .i64 (64 * (jb : Int)) ∧ SumMem w wq g2 cur Bh (blocksTo al jb)) (fun i _ => 64 * mm + 64 - (intOf i).toNat)
                    case atStart => exact ⟨0, by omega, by simp, HM5.out⟩
                    case round =>
                      clear HM5
                      obtain ⟨jb, hjb, rfl, hmem⟩ := hrel
                      have HM : Hid (SumMem w wr g2 cur Bh (blocksTo al jb)) := hmem
                      clear hmem
                      by_cases hlt : jb < mm
                      · as_aux_lemma =>
                          have t1 : 64 * (jb : Int) < (N2 : Int) := by have := HN64.out; omega
                          have HMA : Hid (SumMem w (wr.alloc (.cells (V64 zeros80) 67)) g2 cur Bh (blocksTo al jb)) := HM.out.below ((Below.refl _ _).alloc (Nat.le_refl _) _)
                          have HWA : Hid ((wr.alloc (.cells (V64 zeros80) 67)).heap[wr.heap.size]? = some (.cells (V64 zeros80) 67 (0, 0))) := heap_alloc_new wr _
                          have HBB : Hid (wr.heap.size ≠ w.heap.size ∧ wr.heap.size ≠ g2 ∧ wr.heap.size ≠ Bh ∧ w.heap.size ≤ wr.heap.size) := by
                            have h1 := (Array.getElem?_eq_some_iff.1 HM.out.res).1
                            have h2 := (Array.getElem?_eq_some_iff.1 HM.out.row).1
                            have h3 := (Array.getElem?_eq_some_iff.1 HM.out.h).1
                            exact ⟨by omega, by omega, by omega, by omega⟩
                          go_wp2_with fail
                          obtain ⟨Bw, hBw⟩ : ∃ B, B = wr.heap.size := ⟨_, rfl⟩
                          rw [← hBw] at HWA HBB ⊢
                          generalize (wr.alloc (.cells (V64 zeros80) 67)) = wa at *
                          clear hBw HM t1 hz80
                          obtain ⟨bs, hbs⟩ : ∃ bs, (al.drop (64 * jb)).take 64 = bs := ⟨_, rfl⟩
                          have HBS : Hid ((al.drop (64 * jb)).take 64 = bs) := hbs
                          have HBG : Hid (∀ p, p < 64 → bs[p]?.getD 0 = al[64 * jb + p]?.getD 0) := fun p hp => by rw [← hbs, List.getElem?_take_of_lt hp, List.getElem?_drop]
                          clear hbs
                          go_loopw [11] (fun i wq => ∃ k : Nat, k ≤ 16 ∧ i = .int .i64 (k : Int) ∧ SumMem w wq g2 cur Bh (blocksTo al jb) ∧ wq.heap[Bw]? = some (.cells (V64 (wI bs k)) 67 (0, 0))) (fun i _ => 16 - (intOf i).toNat)
                          case atStart => exact ⟨0, by omega, rfl, HMA.out, by rw [wI_zero]; exact HWA.out⟩
                          case round =>
                            clear HMA HWA
                            obtain ⟨k, hk, rfl, hmem, hrow⟩ := hrel
                            have HM : Hid (SumMem w wr g2 cur Bh (blocksTo al jb)) := hmem
                            have HW : Hid (wr.heap[Bw]? = some (.cells (V64 (wI bs k)) 67 (0, 0))) := hrow
                            clear hmem hrow
                            by_cases hk16 : k < 16
--A1
                            · as_aux_lemma =>
                                obtain ⟨p, hp⟩ : ∃ p : Nat, p = 64 * jb + 4 * k := ⟨_, rfl⟩
                                have ep : 64 * (jb : Int) + 4 * (k : Int) = (p : Int) := by omega
                                have HPN : Hid (p + 3 < N2) := by have := HN64.out; show _ < _; omega
                                have cellp : ∀ q, q < 4 → wr.cell? ⟨g2, p + q, none⟩ = some (.int .u8 (bs[4 * k + q]?.getD 0)) := fun q hq => by
                                  rw [cell_of_row wr _ _ _ _ _ HM.out.row, HCUR.out (p + q) (by have := HPN.out; omega), HBG.out (4 * k + q) (by omega)]
                                  rw [show 64 * jb + (4 * k + q) = p + q by omega]
                                have c0 := cellp 0 (by omega)
                                have c1 := cellp 1 (by omega)
                                have c2' := cellp 2 (by omega)
                                have c3 := cellp 3 (by omega)
                                rw [Nat.add_zero, Nat.add_zero] at c0
                                have rng : ∀ q, q < 4 → 0 ≤ bs[4 * k + q]?.getD 0 ∧ bs[4 * k + q]?.getD 0 ≤ 255 := fun q hq => by rw [HBG.out (4 * k + q) (by omega)]; exact HAB.out _
                                have r0 := rng 0 (by omega)
                                have r1 := rng 1 (by omega)
                                have r2 := rng 2 (by omega)
                                have r3 := rng 3 (by omega)
                                rw [Nat.add_zero] at r0
                                have HVAL : Hid (bs[4 * k]?.getD 0 * 16777216 + bs[4 * k + 1]?.getD 0 * 65536 + bs[4 * k + 2]?.getD 0 * 256 + bs[4 * k + 3]?.getD 0 = ((word0 bs k).toNat : Int)) := word0_nat _ _ _ _ r0 r1 r2 r3
                                have HSET : Hid ((V64 (wI bs k)).setIfInBounds k (.int .i64 ((word0 bs k).toNat : Int)) = V64 (wI bs (k + 1))) := wI_set bs k (by omega) _ (by rw [if_pos hk16])
                                obtain ⟨ov, ho⟩ : ∃ ov, wr.cell? ⟨Bw, k, none⟩ = some ov := ⟨_, by rw [cell_of_row wr _ _ _ _ _ HW.out, Array.getElem?_eq_getElem (by rw [V64_size, wI_length bs k (by omega)]; omega)]⟩
                                have fo := frozen_of_row wr Bw k (V64 (wI bs k)) 67 HW.out
                                generalize bs[4 * k]?.getD 0 = x0 at *
                                generalize bs[4 * k + 1]?.getD 0 = x1 at *
                                generalize bs[4 * k + 2]?.getD 0 = x2 at *
                                generalize bs[4 * k + 3]?.getD 0 = x3 at *
                                generalize word0 bs k = W0 at *
                                clear cellp rng hp
                                have hk16' : (k : Int) < 16 := by omega
                                have hpb : p ≤ 2000000 := by have := HPN.out; have := HN64.out; omega
                                have hpn : (p : Int) + 3 < (N2 : Int) := by have := HPN.out; omega
                                have i0 : (p : Int) < (N2 : Int) := by omega
                                have i1 : (p : Int) + 1 < (N2 : Int) := by omega
                                have i2 : (p : Int) + 2 < (N2 : Int) := by omega
                                go_wp2_with fail
                                have m1 : IntKind.i64.wrap x0 = x0 := IntWalk.i64_in _ (by omega)
                                have m2 : IntKind.i64.wrap x1 = x1 := IntWalk.i64_in _ (by omega)
                                have m3 : IntKind.i64.wrap x2 = x2 := IntWalk.i64_in _ (by omega)
                                have m4 : IntKind.i64.wrap x3 = x3 := IntWalk.i64_in _ (by omega)
                                have m5 : IntKind.i64.wrap (x0 * 16777216) = x0 * 16777216 := IntWalk.i64_in _ (by omega)
                                have m6 : IntKind.i64.wrap (x1 * 65536) = x1 * 65536 := IntWalk.i64_in _ (by omega)
                                have m7 : IntKind.i64.wrap (x2 * 256) = x2 * 256 := IntWalk.i64_in _ (by omega)
                                have m8 : IntKind.i64.wrap (x0 * 16777216 + x1 * 65536) = x0 * 16777216 + x1 * 65536 := IntWalk.i64_in _ (by omega)
                                have m9 : IntKind.i64.wrap (x0 * 16777216 + x1 * 65536 + x2 * 256) = x0 * 16777216 + x1 * 65536 + x2 * 256 := IntWalk.i64_in _ (by omega)
                                have m10 : IntKind.i64.wrap (x0 * 16777216 + x1 * 65536 + x2 * 256 + x3) = (W0.toNat : Int) := by rw [← HVAL.out]; exact IntWalk.i64_in _ (by omega)
                                have n1 : IntKind.i64.wrap ((p : Int) + 1) = (p : Int) + 1 := IntWalk.i64_in _ (by omega)
                                have n2 : IntKind.i64.wrap ((p : Int) + 2) = (p : Int) + 2 := IntWalk.i64_in _ (by omega)
                                have n3 : IntKind.i64.wrap ((p : Int) + 3) = (p : Int) + 3 := IntWalk.i64_in _ (by omega)
                                have o1 : ((p : Int) + 1).toNat = p + 1 := by omega
                                have o2 : ((p : Int) + 2).toNat = p + 2 := by omega
                                have o3 : ((p : Int) + 3).toNat = p + 3 := by omega
                                have z1 : (0 : Int) ≤ (p : Int) + 1 := by omega
                                have hk80 : (k : Int) < 80 := by omega
                                have z2 : (0 : Int) ≤ (p : Int) + 2 := by omega
                                have z3 : (0 : Int) ≤ (p : Int) + 3 := by omega
                                clear r0 r1 r2 r3
                                go_still_tail 31, (by kernel_rfl)
                                go_wp2_with fail
                                refine ⟨⟨k + 1, by omega, by go_num, ?_, ?_⟩, by simp [intOf]; omega⟩
                                · exact (HM.out.set Bw k _ HBB.out).drewN 1
                                · exact (heap_setCell_same wr Bw k _ _ _ HW.out).trans (by rw [HSET.out])
--A2
                            · as_aux_lemma =>
                                have HK16 : Hid (k = 16) := by show _ = _; omega
                                have hk16n : ¬ (k : Int) < 16 := by omega
                                rw [HK16.out] at HW
                                clear hk16 hk
                                go_wp2_with fail
                                go_loopw [13] (fun i wq => ∃ k : Nat, 16 ≤ k ∧ k ≤ 80 ∧ i = .int .i64 (k : Int) ∧ SumMem w wq g2 cur Bh (blocksTo al jb) ∧ wq.heap[Bw]? = some (.cells (V64 (wI bs k)) 67 (0, 0))) (fun i _ => 80 - (intOf i).toNat)
                                case atStart => exact ⟨16, by omega, by omega, by first | rfl | simp, HM.out, HW.out⟩
                                case round =>
                                  clear HM HW
                                  clear hk16n
                                  obtain ⟨k, hk0, hk, rfl, hmem, hrow⟩ := hrel
                                  have HM : Hid (SumMem w wr g2 cur Bh (blocksTo al jb)) := hmem
                                  have HW : Hid (wr.heap[Bw]? = some (.cells (V64 (wI bs k)) 67 (0, 0))) := hrow
                                  clear hmem hrow
                                  by_cases h80 : k < 80
--B1
                                  · as_aux_lemma =>
                                      have f80 : (k : Int) < 80 := by omega
                                      have f16 : 16 ≤ (k : Int) := by omega
                                      have e3 : wr.cell? ⟨Bw, k - 3, none⟩ = some (.int .i64 (((wordsTo bs k)[k - 3]?.getD 0).toNat : Int)) := by rw [cell_of_row wr _ _ _ _ _ HW.out, wI_get bs k (k - 3) (by omega) hk]
                                      have e8 : wr.cell? ⟨Bw, k - 8, none⟩ = some (.int .i64 (((wordsTo bs k)[k - 8]?.getD 0).toNat : Int)) := by rw [cell_of_row wr _ _ _ _ _ HW.out, wI_get bs k (k - 8) (by omega) hk]
                                      have e14 : wr.cell? ⟨Bw, k - 14, none⟩ = some (.int .i64 (((wordsTo bs k)[k - 14]?.getD 0).toNat : Int)) := by rw [cell_of_row wr _ _ _ _ _ HW.out, wI_get bs k (k - 14) (by omega) hk]
                                      have e16 : wr.cell? ⟨Bw, k - 16, none⟩ = some (.int .i64 (((wordsTo bs k)[k - 16]?.getD 0).toNat : Int)) := by rw [cell_of_row wr _ _ _ _ _ HW.out, wI_get bs k (k - 16) (by omega) hk]
                                      obtain ⟨ov, ho⟩ : ∃ ov, wr.cell? ⟨Bw, k, none⟩ = some ov := ⟨_, by rw [cell_of_row wr _ _ _ _ _ HW.out, Array.getElem?_eq_getElem (by rw [V64_size, wI_length bs k (by omega)]; omega)]⟩
                                      have fo := frozen_of_row wr Bw k (V64 (wI bs k)) 67 HW.out
                                      have HS : Hid (∀ x, x = rotl ((wordsTo bs k)[k - 3]?.getD 0 ^^^ (wordsTo bs k)[k - 8]?.getD 0 ^^^ (wordsTo bs k)[k - 14]?.getD 0 ^^^ (wordsTo bs k)[k - 16]?.getD 0) 1 → (V64 (wI bs k)).setIfInBounds k (.int .i64 (x.toNat : Int)) = V64 (wI bs (k + 1))) := fun x hx => wI_set bs k (by omega) x (by rw [if_neg (by omega)]; exact hx)
                                      generalize (wordsTo bs k)[k - 3]?.getD 0 = y3 at *
                                      generalize (wordsTo bs k)[k - 8]?.getD 0 = y8 at *
                                      generalize (wordsTo bs k)[k - 14]?.getD 0 = y14 at *
                                      generalize (wordsTo bs k)[k - 16]?.getD 0 = y16 at *
                                      have g3 : 0 ≤ (k : Int) - 3 ∧ (k : Int) - 3 < 80 := by omega
                                      obtain ⟨g3a, g3b⟩ := g3
                                      have g8 : 0 ≤ (k : Int) - 8 ∧ (k : Int) - 8 < 80 := by omega
                                      obtain ⟨g8a, g8b⟩ := g8
                                      have g14 : 0 ≤ (k : Int) - 14 ∧ (k : Int) - 14 < 80 := by omega
                                      obtain ⟨g14a, g14b⟩ := g14
                                      have g16 : 0 ≤ (k : Int) - 16 ∧ (k : Int) - 16 < 80 := by omega
                                      obtain ⟨g16a, g16b⟩ := g16
                                      go_wp2_with fail
                                      have s3 : IntKind.i64.wrap ((k : Int) - 3) = (k : Int) - 3 := IntWalk.i64_in _ (by omega)
                                      have s8 : IntKind.i64.wrap ((k : Int) - 8) = (k : Int) - 8 := IntWalk.i64_in _ (by omega)
                                      have s14 : IntKind.i64.wrap ((k : Int) - 14) = (k : Int) - 14 := IntWalk.i64_in _ (by omega)
                                      have s16 : IntKind.i64.wrap ((k : Int) - 16) = (k : Int) - 16 := IntWalk.i64_in _ (by omega)
                                      have t3 : ((k : Int) - 3).toNat = k - 3 := by omega
                                      have t8 : ((k : Int) - 8).toNat = k - 8 := by omega
                                      have t14 : ((k : Int) - 14).toNat = k - 14 := by omega
                                      have t16 : ((k : Int) - 16).toNat = k - 16 := by omega
                                      have q3 : (3 : Int) ≤ k := by omega
                                      have q8 : (8 : Int) ≤ k := by omega
                                      have q14 : (14 : Int) ≤ k := by omega
                                      have HA : Hid (bits .xor .i64 (bits .xor .i64 (bits .xor .i64 (y3.toNat : Int) (y8.toNat : Int)) (y14.toNat : Int)) (y16.toNat : Int) = ((y3 ^^^ y8 ^^^ y14 ^^^ y16).toNat : Int)) := by
                                        show _ = _
                                        rw [y_xor, y_xor, y_xor]
                                      go_still_tail 22, (by kernel_rfl)
                                      refine wpStill_step (fun K hK => ?_)
                                      go_simp
                                      refine ⟨.int .i64 (rotl (y3 ^^^ y8 ^^^ y14 ^^^ y16) 1).toNat, ?_, hK _ ?_⟩
                                      · rw [HA.out]
                                        exact turn_w _ _
                                      clear hK K
                                      repeat still_step
                                      try refine wpStill_nil ?_
                                      go_wp2_with fail
                                      refine ⟨⟨k + 1, by omega, by omega, by go_num, (HM.out.set Bw k _ HBB.out).drewN 1, (heap_setCell_same wr Bw k _ _ _ HW.out).trans (by rw [HS.out _ rfl])⟩, by simp [intOf]; omega⟩
--B2
                                  · as_aux_lemma =>
                                      have HK80 : Hid (k = 80) := by show _ = _; omega
                                      have hk80n : ¬ (k : Int) < 80 := by omega
                                      rw [HK80.out] at HW
                                      clear h80 hk hk0
                                      obtain ⟨s, hs⟩ : ∃ s, blocksTo al jb = s := ⟨_, rfl⟩
                                      have HSJ : Hid (blocksTo al jb = s) := hs
                                      rw [hs] at HM
                                      clear hs
                                      obtain ⟨h0, h1, h2, h3, h4⟩ := HM.out.cells
                                      go_wp2_with fail
                                      go_quiet (fail)
                                      have HMD : Hid (SumMem w (wr.drewN nq) g2 cur Bh s) := HM.out.drewN nq
                                      have HWD : Hid ((wr.drewN nq).heap[Bw]? = some (.cells (V64 (wI bs 80)) 67 (0, 0))) := HW.out
                                      generalize wr.drewN nq = wd at *
                                      clear h0 h1 h2 h3 h4 HM HW
                                      go_wp2_with fail
                                      go_loopw [14, 15, 16, 17, 18, 19] (fun va vb vc vd ve i wq => ∃ (k : Nat) (r : Five), k ≤ 80 ∧ r = rounds (wordsTo bs 80) s k ∧ i = .int .i64 (k : Int) ∧ va = .int .i64 (r.a.toNat : Int) ∧ vb = .int .i64 (r.b.toNat : Int) ∧ vc = .int .i64 (r.c.toNat : Int) ∧ vd = .int .i64 (r.d.toNat : Int) ∧ ve = .int .i64 (r.e.toNat : Int) ∧ SumMem w wq g2 cur Bh s ∧ wq.heap[Bw]? = some (.cells (V64 (wI bs 80)) 67 (0, 0))) (fun _ _ _ _ _ i _ => 80 - (intOf i).toNat)
                                      case atStart => exact ⟨0, s, by omega, rfl, rfl, rfl, rfl, rfl, rfl, rfl, HMD.out, HWD.out⟩
                                      case round =>
                                        clear HMD HWD hk80n
                                        obtain ⟨k, r, hk, hr, rfl, rfl, rfl, rfl, rfl, rfl, hmem, hrow⟩ := hrel
                                        have HM : Hid (SumMem w wr g2 cur Bh s) := hmem
                                        have HW : Hid (wr.heap[Bw]? = some (.cells (V64 (wI bs 80)) 67 (0, 0))) := hrow
                                        have HRR : Hid (r = rounds (wordsTo bs 80) s k) := hr
                                        clear hmem hrow hr
                                        by_cases h80 : k < 80
--C1
                                        · as_aux_lemma =>
                                            have ex : wr.cell? ⟨Bw, k, none⟩ = some (.int .i64 (((wordsTo bs 80)[k]?.getD 0).toNat : Int)) := by rw [cell_of_row wr _ _ _ _ _ HW.out, wI_get bs 80 k h80 (by omega)]
                                            obtain ⟨x, hx⟩ : ∃ x, (wordsTo bs 80)[k]?.getD 0 = x := ⟨_, rfl⟩
                                            have HRN : Hid (rounds (wordsTo bs 80) s (k + 1) = round k x r) := by
                                              show round k ((wordsTo bs 80)[k]?.getD 0) (rounds (wordsTo bs 80) s k) = _
                                              rw [hx, HRR.out]
                                            rw [hx] at ex
                                            have la := lt32 r.a
                                            have lb := lt32 r.b
                                            have lc := lt32 r.c
                                            have ld := lt32 r.d
                                            have le := lt32 r.e
                                            have lx := lt32 x
                                            have f80 : (k : Int) < 80 := by omega
                                            clear hx HRR
                                            by_cases h20 : k < 20
                                            · as_aux_lemma =>
                                                skip
                                                obtain ⟨F, hF⟩ : ∃ F : BitVec 32, F = (r.b &&& r.c) ||| (~~~ r.b &&& r.d) := ⟨_, rfl⟩
                                                have HF : Hid (bits .or .i64 (bits .and .i64 (r.b.toNat : Int) (r.c.toNat : Int)) (bits .and .i64 (4294967295 - (r.b.toNat : Int)) (r.d.toNat : Int)) = (F.toNat : Int)) := by show _ = _; rw [hF]; exact f_1 r.b r.c r.d
                                                have HT : Hid ((((rotl r.a 5).toNat : Int) + (F.toNat : Int) + (r.e.toNat : Int) + 1518500249 + (x.toNat : Int)) % 4294967296 = ((round k x r).a.toNat : Int)) := by rw [hF]; exact ra_1 k h20 r x
                                                have lF := lt32 F
                                                have hq : (k : Int) / 20 = 0 := by omega
                                                clear hF
                                                obtain ⟨R5, hR5⟩ : ∃ R, rotl r.a 5 = R := ⟨_, rfl⟩
                                                have HT5 : Hid (∀ W, Calls Tryd.prog 33 #[.int .i64 (r.a.toNat : Int), .int .i64 5] W fun e w' => e = .returned (.int .i64 (R5.toNat : Int)) ∧ w' = W) := fun W => by rw [← hR5]; exact turn_5 r.a W
                                                rw [hR5] at HT
                                                have l5 := lt32 R5
                                                clear hR5
                                                have hf := HF.out
                                                go_wp2_with fail
                                                clear hf HF
                                                have HTT : Hid ({ a := (round k x r).a, b := r.a, c := rotl r.b 30, d := r.c, e := r.d } = round k x r) := rfl
                                                generalize (round k x r).a = T at *
                                                obtain ⟨w1, w2, w3, w4, w5, w6⟩ := sums_of R5 F r.e x T 1518500249 (by omega) HT.out
                                                go_quiet ((go_at_call 33; exact Calls.quiet_of_same (HT5.out _)))
                                                clear w1 w2 w3 w4 w5 w6
                                                go_wp2_with (go_at_call 33; refine (turn_30 _ _).mono ?_; rintro e w' ⟨rfl, rfl⟩)
                                                exact ⟨⟨k + 1, { a := T, b := r.a, c := rotl r.b 30, d := r.c, e := r.d }, by omega, by rw [HRN.out, ← HTT.out], by go_num, rfl, rfl, rfl, rfl, rfl, HM.out.drewN _, HW.out⟩, by simp [intOf]; omega⟩
                                            · as_aux_lemma =>
                                                by_cases h40 : k < 40
                                                · as_aux_lemma =>
                                                    skip
                                                    obtain ⟨F, hF⟩ : ∃ F : BitVec 32, F = r.b ^^^ r.c ^^^ r.d := ⟨_, rfl⟩
                                                    have HF : Hid (bits .xor .i64 (bits .xor .i64 (r.b.toNat : Int) (r.c.toNat : Int)) (r.d.toNat : Int) = (F.toNat : Int)) := by show _ = _; rw [hF]; exact f_2 r.b r.c r.d
                                                    have HT : Hid ((((rotl r.a 5).toNat : Int) + (F.toNat : Int) + (r.e.toNat : Int) + 1859775393 + (x.toNat : Int)) % 4294967296 = ((round k x r).a.toNat : Int)) := by rw [hF]; exact ra_2 k h20 h40 r x
                                                    have lF := lt32 F
                                                    have hq : (k : Int) / 20 = 1 := by omega
                                                    clear hF
                                                    obtain ⟨R5, hR5⟩ : ∃ R, rotl r.a 5 = R := ⟨_, rfl⟩
                                                    have HT5 : Hid (∀ W, Calls Tryd.prog 33 #[.int .i64 (r.a.toNat : Int), .int .i64 5] W fun e w' => e = .returned (.int .i64 (R5.toNat : Int)) ∧ w' = W) := fun W => by rw [← hR5]; exact turn_5 r.a W
                                                    rw [hR5] at HT
                                                    have l5 := lt32 R5
                                                    clear hR5
                                                    have hf := HF.out
                                                    go_wp2_with fail
                                                    clear hf HF
                                                    have HTT : Hid ({ a := (round k x r).a, b := r.a, c := rotl r.b 30, d := r.c, e := r.d } = round k x r) := rfl
                                                    generalize (round k x r).a = T at *
                                                    obtain ⟨w1, w2, w3, w4, w5, w6⟩ := sums_of R5 F r.e x T 1859775393 (by omega) HT.out
                                                    go_quiet ((go_at_call 33; exact Calls.quiet_of_same (HT5.out _)))
                                                    clear w1 w2 w3 w4 w5 w6
                                                    go_wp2_with (go_at_call 33; refine (turn_30 _ _).mono ?_; rintro e w' ⟨rfl, rfl⟩)
                                                    exact ⟨⟨k + 1, { a := T, b := r.a, c := rotl r.b 30, d := r.c, e := r.d }, by omega, by rw [HRN.out, ← HTT.out], by go_num, rfl, rfl, rfl, rfl, rfl, HM.out.drewN _, HW.out⟩, by simp [intOf]; omega⟩
                                                · as_aux_lemma =>
                                                    by_cases h60 : k < 60
                                                    · as_aux_lemma =>
                                                        skip
                                                        obtain ⟨F, hF⟩ : ∃ F : BitVec 32, F = (r.b &&& r.c) ||| (r.b &&& r.d) ||| (r.c &&& r.d) := ⟨_, rfl⟩
                                                        have HF : Hid (bits .or .i64 (bits .or .i64 (bits .and .i64 (r.b.toNat : Int) (r.c.toNat : Int)) (bits .and .i64 (r.b.toNat : Int) (r.d.toNat : Int))) (bits .and .i64 (r.c.toNat : Int) (r.d.toNat : Int)) = (F.toNat : Int)) := by show _ = _; rw [hF]; exact f_3 r.b r.c r.d
                                                        have HT : Hid ((((rotl r.a 5).toNat : Int) + (F.toNat : Int) + (r.e.toNat : Int) + 2400959708 + (x.toNat : Int)) % 4294967296 = ((round k x r).a.toNat : Int)) := by rw [hF]; exact ra_3 k h20 h40 h60 r x
                                                        have lF := lt32 F
                                                        have hq : (k : Int) / 20 = 2 := by omega
                                                        clear hF
                                                        obtain ⟨R5, hR5⟩ : ∃ R, rotl r.a 5 = R := ⟨_, rfl⟩
                                                        have HT5 : Hid (∀ W, Calls Tryd.prog 33 #[.int .i64 (r.a.toNat : Int), .int .i64 5] W fun e w' => e = .returned (.int .i64 (R5.toNat : Int)) ∧ w' = W) := fun W => by rw [← hR5]; exact turn_5 r.a W
                                                        rw [hR5] at HT
                                                        have l5 := lt32 R5
                                                        clear hR5
                                                        have hf := HF.out
                                                        go_wp2_with fail
                                                        clear hf HF
                                                        have HTT : Hid ({ a := (round k x r).a, b := r.a, c := rotl r.b 30, d := r.c, e := r.d } = round k x r) := rfl
                                                        generalize (round k x r).a = T at *
                                                        obtain ⟨w1, w2, w3, w4, w5, w6⟩ := sums_of R5 F r.e x T 2400959708 (by omega) HT.out
                                                        go_quiet ((go_at_call 33; exact Calls.quiet_of_same (HT5.out _)))
                                                        clear w1 w2 w3 w4 w5 w6
                                                        go_wp2_with (go_at_call 33; refine (turn_30 _ _).mono ?_; rintro e w' ⟨rfl, rfl⟩)
                                                        exact ⟨⟨k + 1, { a := T, b := r.a, c := rotl r.b 30, d := r.c, e := r.d }, by omega, by rw [HRN.out, ← HTT.out], by go_num, rfl, rfl, rfl, rfl, rfl, HM.out.drewN _, HW.out⟩, by simp [intOf]; omega⟩
                                                    · as_aux_lemma =>
                                                        skip
                                                        obtain ⟨F, hF⟩ : ∃ F : BitVec 32, F = r.b ^^^ r.c ^^^ r.d := ⟨_, rfl⟩
                                                        have HF : Hid (bits .xor .i64 (bits .xor .i64 (r.b.toNat : Int) (r.c.toNat : Int)) (r.d.toNat : Int) = (F.toNat : Int)) := by show _ = _; rw [hF]; exact f_2 r.b r.c r.d
                                                        have HT : Hid ((((rotl r.a 5).toNat : Int) + (F.toNat : Int) + (r.e.toNat : Int) + 3395469782 + (x.toNat : Int)) % 4294967296 = ((round k x r).a.toNat : Int)) := by rw [hF]; exact ra_4 k h20 h40 h60 r x
                                                        have lF := lt32 F
                                                        have hq : (k : Int) / 20 = 3 := by omega
                                                        clear hF
                                                        obtain ⟨R5, hR5⟩ : ∃ R, rotl r.a 5 = R := ⟨_, rfl⟩
                                                        have HT5 : Hid (∀ W, Calls Tryd.prog 33 #[.int .i64 (r.a.toNat : Int), .int .i64 5] W fun e w' => e = .returned (.int .i64 (R5.toNat : Int)) ∧ w' = W) := fun W => by rw [← hR5]; exact turn_5 r.a W
                                                        rw [hR5] at HT
                                                        have l5 := lt32 R5
                                                        clear hR5
                                                        have hf := HF.out
                                                        go_wp2_with fail
                                                        clear hf HF
                                                        have HTT : Hid ({ a := (round k x r).a, b := r.a, c := rotl r.b 30, d := r.c, e := r.d } = round k x r) := rfl
                                                        generalize (round k x r).a = T at *
                                                        obtain ⟨w1, w2, w3, w4, w5, w6⟩ := sums_of R5 F r.e x T 3395469782 (by omega) HT.out
                                                        go_quiet ((go_at_call 33; exact Calls.quiet_of_same (HT5.out _)))
                                                        clear w1 w2 w3 w4 w5 w6
                                                        go_wp2_with (go_at_call 33; refine (turn_30 _ _).mono ?_; rintro e w' ⟨rfl, rfl⟩)
                                                        exact ⟨⟨k + 1, { a := T, b := r.a, c := rotl r.b 30, d := r.c, e := r.d }, by omega, by rw [HRN.out, ← HTT.out], by go_num, rfl, rfl, rfl, rfl, rfl, HM.out.drewN _, HW.out⟩, by simp [intOf]; omega⟩
--C2
                                        · as_aux_lemma =>
                                            have HK80' : Hid (k = 80) := by show _ = _; omega
                                            have hk80n : ¬ (k : Int) < 80 := by omega
                                            have hrf := HRR.out
                                            rw [HK80'.out] at hrf
                                            have HRF : Hid (r = rounds (wordsTo bs 80) s 80) := hrf
                                            clear hrf
                                            clear h80 hk HRR
                                            have HNX : Hid (blocksTo al (jb + 1) = { a := s.a + r.a, b := s.b + r.b, c := s.c + r.c, d := s.d + r.d, e := s.e + r.e }) := by
                                              have e1 : blocksTo al (jb + 1) = compress (blocksTo al jb) ((al.drop (64 * jb)).take 64) := rfl
                                              show _ = _
                                              rw [e1, HBS.out, HSJ.out, HRF.out]
                                              rfl
                                            obtain ⟨na, hna⟩ : ∃ n : BitVec 32, n = s.a + r.a := ⟨_, rfl⟩
                                            obtain ⟨nb, hnb⟩ : ∃ n : BitVec 32, n = s.b + r.b := ⟨_, rfl⟩
                                            obtain ⟨nc, hnc⟩ : ∃ n : BitVec 32, n = s.c + r.c := ⟨_, rfl⟩
                                            obtain ⟨nd, hnd⟩ : ∃ n : BitVec 32, n = s.d + r.d := ⟨_, rfl⟩
                                            obtain ⟨ne, hne⟩ : ∃ n : BitVec 32, n = s.e + r.e := ⟨_, rfl⟩
                                            have Ea : Hid (((s.a.toNat : Int) + (r.a.toNat : Int)) % 4294967296 = (na.toNat : Int)) := by rw [hna]; exact x_add _ _
                                            have Eb : Hid (((s.b.toNat : Int) + (r.b.toNat : Int)) % 4294967296 = (nb.toNat : Int)) := by rw [hnb]; exact x_add _ _
                                            have Ec : Hid (((s.c.toNat : Int) + (r.c.toNat : Int)) % 4294967296 = (nc.toNat : Int)) := by rw [hnc]; exact x_add _ _
                                            have Ed : Hid (((s.d.toNat : Int) + (r.d.toNat : Int)) % 4294967296 = (nd.toNat : Int)) := by rw [hnd]; exact x_add _ _
                                            have Ee : Hid (((s.e.toNat : Int) + (r.e.toNat : Int)) % 4294967296 = (ne.toNat : Int)) := by rw [hne]; exact x_add _ _
                                            rw [← hna, ← hnb, ← hnc, ← hnd, ← hne] at HNX
                                            clear hna hnb hnc hnd hne HRF
                                            have la := lt32 r.a
                                            have lb := lt32 r.b
                                            have lc := lt32 r.c
                                            have ld := lt32 r.d
                                            have le := lt32 r.e
                                            have ka := lt32 s.a
                                            have kb := lt32 s.b
                                            have kc := lt32 s.c
                                            have kd := lt32 s.d
                                            have ke := lt32 s.e
                                            obtain ⟨h0, h1, h2, h3, h4⟩ := HM.out.cells
                                            have f0 := frozen_of_row wr Bh 0 (V64 (hInts s)) 66 HM.out.h
                                            have f1 := frozen_of_row wr Bh 1 (V64 (hInts s)) 66 HM.out.h
                                            have f2 := frozen_of_row wr Bh 2 (V64 (hInts s)) 66 HM.out.h
                                            have f3 := frozen_of_row wr Bh 3 (V64 (hInts s)) 66 HM.out.h
                                            have f4 := frozen_of_row wr Bh 4 (V64 (hInts s)) 66 HM.out.h
                                            have ea := Ea.out
                                            have eb := Eb.out
                                            have ec := Ec.out
                                            have ed := Ed.out
                                            have ee := Ee.out
                                            have HFI := HM.out.five { a := na, b := nb, c := nc, d := nd, e := ne }
                                            have HF5 : Hid (SumMem w (((((wr.setCell ⟨Bh, 0, none⟩ (.int .i64 (na.toNat : Int))).setCell ⟨Bh, 1, none⟩ (.int .i64 (nb.toNat : Int))).setCell ⟨Bh, 2, none⟩ (.int .i64 (nc.toNat : Int))).setCell ⟨Bh, 3, none⟩ (.int .i64 (nd.toNat : Int))).setCell ⟨Bh, 4, none⟩ (.int .i64 (ne.toNat : Int))) g2 cur Bh { a := na, b := nb, c := nc, d := nd, e := ne }) := HFI
                                            clear HFI
                                            go_wp2_with fail
                                            exact ⟨⟨jb + 1, by omega, congrArg (Value.int .i64) (by omega), by rw [HNX.out]; exact HF5.out⟩, by simp [intOf]; omega⟩
                      · as_aux_lemma =>
                          have HJB : Hid (jb = mm) := by show _ = _; omega
                          have t1 : ¬ 64 * (jb : Int) < (N2 : Int) := by have h1 := HN64.out; have h2 := HJB.out; omega
                          have HSUM : Hid (blocksTo al jb = sumOf xs) := by
                            have h1 := sumOf_blocks xs mm (by rw [HAL.out]; exact HALL.out)
                            rw [HAL.out, ← HJB.out] at h1
                            exact h1.symm
                          rw [HSUM.out] at HM
                          obtain ⟨S, hS⟩ : ∃ S, sumOf xs = S := ⟨_, rfl⟩
                          have HSS : Hid (sumOf xs = S) := hS
                          rw [hS] at HM
                          clear hS hjb hlt hz80
                          have hz24 := zero_24
                          have HMO : Hid (SumMem w (wr.alloc (.cells (V8 zeros20) 24)) g2 cur Bh S) := HM.out.below ((Below.refl _ _).alloc (Nat.le_refl _) _)
                          have HWO : Hid ((wr.alloc (.cells (V8 zeros20) 24)).heap[wr.heap.size]? = some (.cells (idTo S 0) 24 (0, 0))) := by rw [← idTo_zeros]; exact heap_alloc_new wr _
                          have HBB : Hid (wr.heap.size ≠ w.heap.size ∧ wr.heap.size ≠ g2 ∧ wr.heap.size ≠ Bh ∧ w.heap.size ≤ wr.heap.size) := by
                            have h1 := (Array.getElem?_eq_some_iff.1 HM.out.res).1
                            have h2 := (Array.getElem?_eq_some_iff.1 HM.out.row).1
                            have h3 := (Array.getElem?_eq_some_iff.1 HM.out.h).1
                            exact ⟨by omega, by omega, by omega, by omega⟩
                          go_wp2_with fail
                          obtain ⟨Bo, hBo⟩ : ∃ B, B = wr.heap.size := ⟨_, rfl⟩
                          rw [← hBo] at HWO HBB ⊢
                          generalize (wr.alloc (.cells (V8 zeros20) 24)) = wa at *
                          clear hBo HM t1 hz24 hz
                          go_loopw [24] (fun i wq => ∃ k : Nat, k ≤ 5 ∧ i = .int .i64 (k : Int) ∧ SumMem w wq g2 cur Bh S ∧ wq.heap[Bo]? = some (.cells (idTo S (4 * k)) 24 (0, 0))) (fun i _ => 5 - (intOf i).toNat)
                          case atStart => exact ⟨0, by omega, rfl, HMO.out, HWO.out⟩
                          case round =>
                            clear HMO HWO
                            obtain ⟨k, hk, rfl, hmem, hrow⟩ := hrel
                            have HM : Hid (SumMem w wr g2 cur Bh S) := hmem
                            have HO : Hid (wr.heap[Bo]? = some (.cells (idTo S (4 * k)) 24 (0, 0))) := hrow
                            clear hmem hrow
                            by_cases h5 : k < 5
                            · as_aux_lemma =>
                                obtain ⟨h0, h1, h2, h3, h4⟩ := HM.out.cells
                                have isS : ∀ j, j < 20 → ∃ ov, wr.cell? ⟨Bo, j, none⟩ = some ov := fun j hj => ⟨_, by rw [cell_of_row wr _ _ _ _ _ HO.out, Array.getElem?_eq_getElem (by rw [idTo_size]; omega)]⟩
                                have ffr : ∀ j, wr.frozen? ⟨Bo, j, none⟩ = false := fun j => frozen_of_row wr Bo j (idTo S (4 * k)) 24 HO.out
                                have ka := lt32 S.a
                                have kb := lt32 S.b
                                have kc := lt32 S.c
                                have kd := lt32 S.d
                                have ke := lt32 S.e
                                have HST : Hid (∀ j x, j < 20 → x = tb S j → (idTo S j).setIfInBounds j (.int .u8 x) = idTo S (j + 1)) := fun j x hj hx => idTo_set S j hj x hx
                                have hc : k = 0 ∨ k = 1 ∨ k = 2 ∨ k = 3 ∨ k = 4 := by omega
                                clear h5 hk
                                have hbo : ∀ (W : World) (o p : Nat) (v : Value), (W.setCell ⟨Bo, o, none⟩ v).cell? ⟨Bh, p, none⟩ = W.cell? ⟨Bh, p, none⟩ := fun W o p v => World.cell?_setCell_other _ _ _ _ (fun e => HBB.out.2.2.1 (congrArg Addr.block e))
                                rcases hc with rfl | rfl | rfl | rfl | rfl
                                · as_aux_lemma =>
                                    obtain ⟨o0, p0⟩ := isS 0 (by omega)
                                    obtain ⟨o1, p1⟩ := isS 1 (by omega)
                                    obtain ⟨o2, p2⟩ := isS 2 (by omega)
                                    obtain ⟨o3, p3⟩ := isS 3 (by omega)
                                    have q0 := ffr 0
                                    have q1 := ffr 1
                                    have q2 := ffr 2
                                    have q3 := ffr 3
                                    clear isS ffr
                                    go_wp2_with fail
                                    refine ⟨⟨1, by omega, by go_num, (((HM.out.set Bo 0 _ HBB.out).set Bo 1 _ HBB.out).set Bo 2 _ HBB.out).set Bo 3 _ HBB.out, row4 S _ Bo 0 (by omega) _ _ _ _ HO.out ?_ ?_ ?_ ?_⟩, by simp [intOf]⟩
                                    all_goals simp [tb, fiveAt] <;> omega
                                · as_aux_lemma =>
                                    obtain ⟨o0, p0⟩ := isS 4 (by omega)
                                    obtain ⟨o1, p1⟩ := isS 5 (by omega)
                                    obtain ⟨o2, p2⟩ := isS 6 (by omega)
                                    obtain ⟨o3, p3⟩ := isS 7 (by omega)
                                    have q0 := ffr 4
                                    have q1 := ffr 5
                                    have q2 := ffr 6
                                    have q3 := ffr 7
                                    clear isS ffr
                                    go_wp2_with fail
                                    refine ⟨⟨2, by omega, by go_num, (((HM.out.set Bo 4 _ HBB.out).set Bo 5 _ HBB.out).set Bo 6 _ HBB.out).set Bo 7 _ HBB.out, row4 S _ Bo 1 (by omega) _ _ _ _ HO.out ?_ ?_ ?_ ?_⟩, by simp [intOf]⟩
                                    all_goals simp [tb, fiveAt] <;> omega
                                · as_aux_lemma =>
                                    obtain ⟨o0, p0⟩ := isS 8 (by omega)
                                    obtain ⟨o1, p1⟩ := isS 9 (by omega)
                                    obtain ⟨o2, p2⟩ := isS 10 (by omega)
                                    obtain ⟨o3, p3⟩ := isS 11 (by omega)
                                    have q0 := ffr 8
                                    have q1 := ffr 9
                                    have q2 := ffr 10
                                    have q3 := ffr 11
                                    clear isS ffr
                                    go_wp2_with fail
                                    refine ⟨⟨3, by omega, by go_num, (((HM.out.set Bo 8 _ HBB.out).set Bo 9 _ HBB.out).set Bo 10 _ HBB.out).set Bo 11 _ HBB.out, row4 S _ Bo 2 (by omega) _ _ _ _ HO.out ?_ ?_ ?_ ?_⟩, by simp [intOf]⟩
                                    all_goals simp [tb, fiveAt] <;> omega
                                · as_aux_lemma =>
                                    obtain ⟨o0, p0⟩ := isS 12 (by omega)
                                    obtain ⟨o1, p1⟩ := isS 13 (by omega)
                                    obtain ⟨o2, p2⟩ := isS 14 (by omega)
                                    obtain ⟨o3, p3⟩ := isS 15 (by omega)
                                    have q0 := ffr 12
                                    have q1 := ffr 13
                                    have q2 := ffr 14
                                    have q3 := ffr 15
                                    clear isS ffr
                                    go_wp2_with fail
                                    refine ⟨⟨4, by omega, by go_num, (((HM.out.set Bo 12 _ HBB.out).set Bo 13 _ HBB.out).set Bo 14 _ HBB.out).set Bo 15 _ HBB.out, row4 S _ Bo 3 (by omega) _ _ _ _ HO.out ?_ ?_ ?_ ?_⟩, by simp [intOf]⟩
                                    all_goals simp [tb, fiveAt] <;> omega
                                · as_aux_lemma =>
                                    obtain ⟨o0, p0⟩ := isS 16 (by omega)
                                    obtain ⟨o1, p1⟩ := isS 17 (by omega)
                                    obtain ⟨o2, p2⟩ := isS 18 (by omega)
                                    obtain ⟨o3, p3⟩ := isS 19 (by omega)
                                    have q0 := ffr 16
                                    have q1 := ffr 17
                                    have q2 := ffr 18
                                    have q3 := ffr 19
                                    clear isS ffr
                                    go_wp2_with fail
                                    refine ⟨⟨5, by omega, by go_num, (((HM.out.set Bo 16 _ HBB.out).set Bo 17 _ HBB.out).set Bo 18 _ HBB.out).set Bo 19 _ HBB.out, row4 S _ Bo 4 (by omega) _ _ _ _ HO.out ?_ ?_ ?_ ?_⟩, by simp [intOf]⟩
                                    all_goals simp [tb, fiveAt] <;> omega
                            · as_aux_lemma =>
                                obtain rfl : k = 5 := by omega
                                clear h5 hk
                                have HI : Hid ((Tryd.prog.info? 24).map (·.size) = some (idTo S 20).size) := by
                                  show (Tryd.prog.info? 24).map (·.size) = some (idTo S 20).size
                                  rw [idTo_size]; kernel_rfl
                                have HL : Hid ((V8 zeros20).size = (idTo S 20).size) := by show (V8 zeros20).size = (idTo S 20).size; rw [idTo_size]; rfl
                                have HOO : Hid ((idTo S 20).all (·.oneCell') = true) := by
                                  show (idTo S 20).all (·.oneCell') = true
                                  rw [Array.all_eq_true_iff_forall_mem]; intro v hv; unfold idTo at hv; simp at hv; obtain ⟨x, _, rfl⟩ := hv; rfl
                                have tok1 : True := trivial
                                have tok2 : True := trivial
                                go_wp2_with (first
                                  | (have _t := tok1; refine wpList_load_row rfl 24 _ rfl Bo rfl 24 (idTo S 20) (0, 0) (.array 20 5) HO.out Tryd.underlying24 rfl HI.out ?_; clear tok1)
                                  | (have _t := tok2; refine wpList_store_row rfl 24 _ _ rfl w.heap.size (idTo S 20) rfl rfl 24 (V8 zeros20) HM.out.res HI.out HL.out HOO.out ?_; clear tok2))
                                refine bodyPost_ret (results_cell_row Tryd.results20 _ _ w.heap.size 24 _ (0, 0) (.array 20 5) rfl (setRow_heap wr _ _ _ _ _ HM.out.res) Tryd.underlying24 rfl HI.out) rfl ⟨by rw [HSS.out], below_setRow HM.out.bel (Nat.le_refl _) _⟩
end Go.Proofs.YtlnfgebonmfokaaDoor
