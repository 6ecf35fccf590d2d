/- How great what the document reads can be; small facts for the walk of its Parse. -/
import Derived.Test.YtindmggmblmmcaaGreatDoorCoLines
import Derived.Test.YtindmggmblmmcaaGreatDoorCoRPrint
import Derived.Test.YtindmggmblmmcaaGreatDoorRefParse
namespace Go.Proofs.YtindmggmblmmcaaGreatDoor
open Go.RowKit Plain Go.ChangeShapes Go.WideShapes Go.ChangeAt Go.Great
set_option linter.unusedVariables false
set_option linter.unusedSimpArgs false
def sumL : List (List UInt8) → Nat
  | [] => 0
  | x :: r => x.length + 1 + sumL r
theorem sum_lines : ∀ (n : Nat) (l : List UInt8), l.length ≤ n → sumL (linesF l) = l.length + 1
  | n, l, hl => by
    rcases nl_split l with h | ⟨a, b, rfl, h⟩
    · rw [lines_last h]; rfl
    · cases n with
      | zero => simp at hl
      | succ n =>
        rw [lines_cons h]
        show a.length + 1 + sumL (linesF b) = _
        rw [sum_lines n b (by simp at hl; omega)]
        simp only [List.length_append, List.length_cons]
        omega
theorem sum_count : ∀ l : List (List UInt8), l.length ≤ sumL l
  | [] => Nat.le_refl _
  | x :: r => by
    have := sum_count r
    show r.length + 1 ≤ x.length + 1 + sumL r
    omega
theorem sum_drop : ∀ (l : List (List UInt8)) (k : Nat), sumL (l.drop k) ≤ sumL l
  | l, 0 => Nat.le_refl _
  | [], k + 1 => Nat.le_refl _
  | x :: r, k + 1 => by
    have := sum_drop r k
    show sumL (r.drop k) ≤ x.length + 1 + sumL r
    omega
theorem sum_mem : ∀ (l : List (List UInt8)) (x : List UInt8), x ∈ l → x.length + 1 ≤ sumL l
  | y :: r, x, h => by
    show _ ≤ y.length + 1 + sumL r
    rcases List.mem_cons.1 h with rfl | h
    · omega
    · have := sum_mem r x h; omega
theorem join_len : ∀ l : List (List UInt8), (joinL l).length ≤ sumL l
  | [] => Nat.le_refl _
  | [x] => by show x.length ≤ x.length + 1 + 0; omega
  | x :: y :: r => by
    have := join_len (y :: r)
    show (x ++ 10 :: joinL (y :: r)).length ≤ x.length + 1 + sumL (y :: r)
    simp only [List.length_append, List.length_cons]
    omega
theorem join_snoc : ∀ (ls : List (List UInt8)) (x : List UInt8), ls ≠ [] → joinL (ls ++ [x]) = joinL ls ++ [10] ++ x
  | [], x, h => absurd rfl h
  | [a], x, _ => by show a ++ 10 :: x = a ++ [10] ++ x; simp
  | a :: b :: r, x, _ => by
    have := join_snoc (b :: r) x (by simp)
    show a ++ 10 :: joinL (b :: r ++ [x]) = (a ++ 10 :: joinL (b :: r)) ++ [10] ++ x
    rw [this]
    simp
def exsz : List (ByteArray × ByteArray) → Nat
  | [] => 0
  | x :: r => x.1.size + x.2.size + 1 + exsz r
theorem exsz_app : ∀ a b : List (ByteArray × ByteArray), exsz (a ++ b) = exsz a + exsz b
  | [], b => by show exsz b = 0 + exsz b; omega
  | x :: a, b => by
    show x.1.size + x.2.size + 1 + exsz (a ++ b) = x.1.size + x.2.size + 1 + exsz a + exsz b
    rw [exsz_app a b]; omega
theorem exsz_mem : ∀ (xs : List (ByteArray × ByteArray)) (x), x ∈ xs → x.1.size + x.2.size + 1 ≤ exsz xs
  | y :: r, x, h => by
    show _ ≤ y.1.size + y.2.size + 1 + exsz r
    rcases List.mem_cons.1 h with rfl | h
    · omega
    · have := exsz_mem r x h; omega
theorem exsz_count : ∀ xs : List (ByteArray × ByteArray), xs.length ≤ exsz xs
  | [] => Nat.le_refl _
  | x :: r => by
    have := exsz_count r
    show r.length + 1 ≤ x.1.size + x.2.size + 1 + exsz r
    omega
theorem exsz_text : ∀ xs : List (ByteArray × ByteArray), (exsT xs).length ≤ 2 * exsz xs
  | [] => Nat.le_refl _
  | x :: r => by
    have h1 := exsz_text r
    have h2 := congrArg List.length (exsT_cons x r [])
    simp only [List.append_nil, List.length_append, List.length_cons] at h2
    have h3 : (extT x).length = x.1.size + 1 + (nlB x.2.data.toList).length := by
      unfold extT
      rw [rep_nlB]
      simp only [List.length_append, List.length_cons, List.length_nil, Lib.size_eq]
    have h4 := nlB_len x.2.data.toList
    rw [← Lib.size_eq] at h4
    show _ ≤ 2 * (x.1.size + x.2.size + 1 + exsz r)
    omega
theorem exsz_one (x : ByteArray × ByteArray) : exsz [x] = x.1.size + x.2.size + 1 := by show _ + 0 = _; omega
theorem ext_size (xs : List (ByteArray × ByteArray)) (x : List UInt8) (hx : x ≠ []) : exsz (extStep xs x) ≤ exsz xs + x.length + 1 := by
  unfold extStep
  split
  · rename_i h
    obtain ⟨y, hy⟩ : ∃ y, xs.getLast? = some y := by
      cases hl : xs.getLast? with
      | none => exact absurd (List.getLast?_eq_none_iff.1 hl) h.2
      | some y => exact ⟨y, rfl⟩
    unfold addV
    rw [hy]
    dsimp only
    have e : xs = xs.dropLast ++ [y] := by
      obtain ⟨ys, hys⟩ := List.getLast?_eq_some_iff.1 hy
      rw [hys, List.dropLast_concat]
    have e2 : exsz xs = exsz xs.dropLast + exsz [y] := by conv => lhs; rw [e]; rw [exsz_app]
    rw [exsz_app, exsz_one]
    rw [exsz_one] at e2
    have h3 : (txt (y.2.data.toList ++ [10] ++ x.drop 1)).size = y.2.size + 1 + (x.length - 1) := by
      rw [txt_size]
      simp only [List.length_append, List.length_cons, List.length_nil, List.length_drop, Lib.size_eq]
    have h4 := List.length_pos_iff.2 hx
    dsimp only
    omega
  · rw [exsz_app, exsz_one, txt_size, txt_size]
    have : (Lib.cut x [32]).1.length + (Lib.cut x [32]).2.1.length ≤ x.length := by
      rcases cut_or 32 x with h | ⟨a, b, rfl, h⟩
      · rw [cut_not x 32 h]; simp
      · rw [cut_at a b 32 h]; simp only [List.length_append, List.length_cons]; omega
    omega
theorem rExt_size : ∀ (l : List (List UInt8)) (xs : List (ByteArray × ByteArray)), exsz (rExt xs l).1 + sumL (rExt xs l).2 ≤ exsz xs + sumL l
  | [], xs => Nat.le_refl _
  | x :: r, xs => by
    unfold rExt
    split
    · exact Nat.le_refl _
    · rename_i h
      have h1 := rExt_size r (extStep xs x)
      have h2 := ext_size xs x h
      show _ ≤ exsz xs + (x.length + 1 + sumL r)
      omega
theorem rPar_size : ∀ l : List (List UInt8), (rPar l).1.length + sumL (rPar l).2 ≤ sumL l
  | [] => Nat.le_refl _
  | x :: r => by
    unfold rPar
    split
    · show 0 + sumL (x :: r) ≤ sumL (x :: r); omega
    · have := rPar_size r
      show (rPar r).1.length + 1 + sumL (rPar r).2 ≤ x.length + 1 + sumL r
      omega
theorem frontW_len (k l : List UInt8) : (frontW k l).length ≤ l.length := by
  unfold frontW
  split
  · rw [List.length_drop]; omega
  · simp
theorem guess_small2 (L : List UInt8) (h : L.length ≤ 2000) : WhoSmall (guessX L) ∧ (guessX L).n.size + (guessX L).m.size + (guessX L).z.size ≤ 6000 := by
  have l1 := cutS_len L [60]
  have l2 := cutS_len (Lib.cut L [60]).2.1 [62]
  have l0 := frontF_len (Lib.cut (Lib.cut L [60]).2.1 [62]).2.1
  have l3 := cutS_len (frontF (Lib.cut (Lib.cut L [60]).2.1 [62]).2.1) [32]
  have l4 := decF_le (Lib.cut (frontF (Lib.cut (Lib.cut L [60]).2.1 [62]).2.1) [32]).1
  have e1 : (guessX L).n.size ≤ 2000 := by show (txt (List.take _ _)).size ≤ _; rw [txt_size, List.length_take]; omega
  have e2 : (guessX L).m.size ≤ 2000 := by show (txt _).size ≤ _; rw [txt_size]; omega
  have e3 : (guessX L).z.size ≤ 2000 := by show (txt _).size ≤ _; rw [txt_size]; omega
  refine ⟨⟨by omega, by omega, by omega, ?_, ?_⟩, by omega⟩
  · show (-9223372036854775808 : Int) ≤ ((_ : Nat) : Int); omega
  · show ((_ : Nat) : Int) ≤ 9223372036854775807; omega
theorem rWho_sum (k : List UInt8) (l : List (List UInt8)) : sumL (rWho k l).2 ≤ sumL l := by
  cases l with
  | nil => exact Nat.le_refl _
  | cons x r => show sumL r ≤ x.length + 1 + sumL r; omega
theorem rWho_small (k : List UInt8) (l : List (List UInt8)) (h : sumL l ≤ 2001) : WhoSmall (rWho k l).1 ∧ (whoT (rWho k l).1).length ≤ 10000 := by
  cases l with
  | nil => exact ⟨wzero_small, by show (whoT wzero).length ≤ _; decide +kernel⟩
  | cons x r =>
    have hx : x.length ≤ 2000 := by have : x.length + 1 + sumL r ≤ 2001 := h; omega
    have hf := frontW_len (k ++ [32]) x
    have hg := guess_small2 (frontW (k ++ [32]) x) (by omega)
    refine ⟨hg.1, ?_⟩
    show (whoT (guessX _)).length ≤ _
    have hi := itoa_len (guessX (frontW (k ++ [32]) x)).t hg.1.2.2.2
    have h2 := hg.2
    unfold whoT
    simp only [List.length_append, List.length_cons, List.length_nil]
    rw [← Lib.size_eq, ← Lib.size_eq, ← Lib.size_eq]
    omega
theorem raw_bounds (L : List UInt8) (h : L.length ≤ 2000) : CoSmall (rawR L) ∧ (printC (rawR L)).length ≤ 1000000 ∧ (rawR L).ps.length ≤ 2001 ∧ exsz (rawR L).xs ≤ 2001 := by
  have hs := sum_lines _ L (Nat.le_refl _)
  have h1 : sumL ((linesF L).drop 1) ≤ 2001 := by have := sum_drop (linesF L) 1; omega
  have h2 := rPar_size ((linesF L).drop 1)
  have h3 : sumL (rwA (linesF L)).2 ≤ 2001 := by have := rWho_sum kAut (rwP (linesF L)).2; show sumL (rWho kAut (rwP (linesF L)).2).2 ≤ _; unfold rwP at *; omega
  have h4 : sumL (rwC (linesF L)).2 ≤ 2001 := by have := rWho_sum kCom (rwA (linesF L)).2; show sumL (rWho kCom (rwA (linesF L)).2).2 ≤ _; omega
  have h5 := rExt_size (rwC (linesF L)).2 []
  have h6 : exsz (rwE (linesF L)).1 + sumL (rwE (linesF L)).2 ≤ 2001 := by show exsz (rExt [] (rwC (linesF L)).2).1 + sumL (rExt [] (rwC (linesF L)).2).2 ≤ _; have : exsz ([] : List (ByteArray × ByteArray)) = 0 := rfl; omega
  have ha := rWho_small kAut (rwP (linesF L)).2 (by show sumL (rPar ((linesF L).drop 1)).2 ≤ _; omega)
  have hc := rWho_small kCom (rwA (linesF L)).2 h3
  have hm := join_len ((rwE (linesF L)).2.drop 1)
  have hm2 := sum_drop (rwE (linesF L)).2 1
  have hp : (rwP (linesF L)).1.length ≤ 2001 := by show (rPar ((linesF L).drop 1)).1.length ≤ _; omega
  have hxc := exsz_count (rwE (linesF L)).1
  have hxt := exsz_text (rwE (linesF L)).1
  refine ⟨⟨ha.1, hc.1, by show (rwP (linesF L)).1.length ≤ _; omega, by show (rwE (linesF L)).1.length ≤ _; omega, fun x hx => ?_, by show (txt (joinL _)).size ≤ _; rw [txt_size]; omega⟩, ?_, hp, by show exsz (rwE (linesF L)).1 ≤ _; omega⟩
  · have := exsz_mem (rwE (linesF L)).1 x hx
    exact ⟨by omega, by omega⟩
  · rw [printC_size, treeT_len (raw_good L).1.1]
    have e2 : ((rawR L).ps.flatMap parT).length ≤ 2001 * 48 := Nat.le_trans (flat_le' parT 48 _ fun p hp => Nat.le_of_eq (parT_len ((raw_good L).2 p hp).1)) (Nat.mul_le_mul_right _ hp)
    have la : (autT (rawR L)).length = 7 + (whoT (rwA (linesF L)).1).length + 1 := by unfold autT; simp only [List.length_append, List.length_cons, List.length_nil]; rfl
    have lc : (comT (rawR L)).length = 10 + (whoT (rwC (linesF L)).1).length + 1 := by unfold comT; simp only [List.length_append, List.length_cons, List.length_nil]; rfl
    have ha2 : (whoT (rwA (linesF L)).1).length ≤ 10000 := ha.2
    have hc2 : (whoT (rwC (linesF L)).1).length ≤ 10000 := hc.2
    have lx : (exsT (rawR L).xs).length ≤ 2 * exsz (rwE (linesF L)).1 := hxt
    have lm : (rawR L).m.data.toList.length = (joinL ((rwE (linesF L)).2.drop 1)).length := by show (txt _).data.toList.length = _; rw [txt_list]
    omega
theorem FrR.setCells {r : Nat} : ∀ (vs : List Value) (o : Nat) (w : World), FrR r w (w.setCells r o vs)
  | [], o, w => FrR.refl r w
  | v :: vs, o, w => (FrR.setCell r o v w).trans (FrR.setCells vs (o + 1) _)
theorem rco_there {w : World} {b : Nat} {c : CC} {pv xv : Value} (h : w.heap[b]? = some (.cells (coA c pv xv) 28 (0, 0))) (h20 : c.tr.length = 20) (o n : Nat) (ho : o + n ≤ 31) : w.there b o n := fun j hj => by
  refine ⟨?_, frozen_of_row w b (o + j) _ _ h⟩
  rw [cell_of_row _ _ _ _ _ _ h, Array.getElem?_eq_getElem (by rw [coA_size _ _ _ h20]; omega)]
  rfl
theorem coA_tree (c : CC) (pv xv : Value) (h20 : c.tr.length = 20) (tr : List Int) (ht : tr.length = 20) : setAll (coA c pv xv) 0 (U8 tr) = coA { c with tr := tr } pv xv := by
  apply Array.toList_inj.1
  rw [setAll_list _ _ _ (by rw [U8_length, ht, coA_size _ _ _ h20]; decide), U8_length, ht]
  show (coL c pv xv).take 0 ++ U8 tr ++ (coL c pv xv).drop (0 + 20) = _
  unfold coL
  rw [List.take_zero, List.drop_left' (by rw [U8_length, h20])]
  rfl
theorem own_set2 {e : TypeId} {w : World} {base g n c : Nat} {xs : List (ByteArray × ByteArray)} {y : ByteArray × ByteArray} {init : List (ByteArray × ByteArray)} (h : OwnG 2 extE e w base (.slice (some ⟨g, 0, none⟩) n c) xs) (hx : xs = init ++ [y]) (v : ByteArray) :
    OwnG 2 extE e (w.setCell ⟨g, init.length * 2 + 1, none⟩ (.string v)) base (.slice (some ⟨g, 0, none⟩) n c) (init ++ [(y.1, v)]) := by
  have hn : xs.length = n := (h.fs extE_len).2
  have hl : (init ++ [(y.1, v)]).length = n := by rw [← hn, hx]; simp
  unfold OwnG at h ⊢
  rw [hn] at h
  rw [hl]
  have := (World.ownsRow.stored h (init.length * 2 + 1) (.string v)).1
  have e : (xs.flatMap extE).set (init.length * 2 + 1) (.string v) = (init ++ [(y.1, v)]).flatMap extE := by
    rw [hx, List.flatMap_append, List.flatMap_append]
    have hf := flat_len (α := ByteArray × ByteArray) (k := 2) (enc := extE) extE_len init
    rw [List.set_append_right _ _ (by rw [hf]; omega), hf, Nat.add_sub_cancel_left]
    rfl
  rwa [e] at this
/-- Where the document's reading stands: the commit's block, and the row that grows. -/
structure RS {α : Type} (k : Nat) (enc : α → List Value) (e : TypeId) (w4 : World) (cb B : Nat) (W : World) (C : CC) (pv xv v : Value) (xs : List α) : Prop where
  fr : FrR cb w4 W
  h20 : C.tr.length = 20
  co : W.heap[cb]? = some (.cells (coA C pv xv) 28 (0, 0))
  own : OwnG k enc e W B v xs
  sz : B ≤ W.heap.size
section
variable {α : Type} {k : Nat} {enc : α → List Value} {e : TypeId} {w4 W : World} {cb B : Nat} {C : CC} {pv xv v : Value} {xs : List α}
theorem RS.below (h : RS k enc e w4 cb B W C pv xv v xs) {W' : World} (hb : Below W.heap.size W W') : RS k enc e w4 cb B W' C pv xv v xs :=
  ⟨h.fr.trans (FrR.of hb), h.h20, (hb.block cb (Array.getElem?_eq_some_iff.1 h.co).1).trans h.co, h.own.below hb, Nat.le_trans h.sz hb.size⟩
theorem RS.cells (h : RS k enc e w4 cb B W C pv xv v xs) (o : Nat) (vs : List Value) (C' : CC) (h20 : C'.tr.length = 20) (hs : setAll (coA C pv xv) o vs = coA C' pv xv) (hB : cb < B) : RS k enc e w4 cb B (W.setCells cb o vs) C' pv xv v xs :=
  ⟨h.fr.trans (FrR.setCells vs o W), h20, by rw [heap_setCells cb _ vs o W _ h.co, hs], h.own.move fun g hg _ => heap_setCells_ne cb g (by omega) vs o W, by rw [setCells_size]; exact h.sz⟩
theorem RS.cell (h : RS k enc e w4 cb B W C pv xv v xs) (i : Nat) (x : Value) (C' : CC) {pv' xv' : Value} (h20 : C'.tr.length = 20) (hs : (coA C pv xv).setIfInBounds i x = coA C' pv' xv') (hB : cb < B) : RS k enc e w4 cb B (W.setCell ⟨cb, i, none⟩ x) C' pv' xv' v xs :=
  ⟨h.fr.trans (FrR.setCell cb i x W), h20, (heap_setCell_same W cb i _ _ _ h.co).trans (by rw [hs]), h.own.move fun g hg _ => heap_setCell_ne W ⟨cb, i, none⟩ x g (by show g ≠ cb; omega), by have := h.sz; simpa [World.setCell] using this⟩
theorem RS.append (h : RS k enc e w4 cb B W C pv xv v xs) {Wa w7 : World} {v' : Value} {xs' : List α} (hW : Below W.heap.size W Wa) (hO : OwnG k enc e Wa B v xs) (hg : Wa.grownBy w7 v.ownBlock) (ho : OwnG k enc e w7 B v' xs') (hB : cb < B) (h4 : w4.heap.size ≤ B) : RS k enc e w4 cb B w7 C pv xv v' xs' := by
  have hb : Below B W w7 := (hW.mono h.sz).grown hg (Nat.le_trans h.sz hW.size) (fun g hh => (hO.lt hh).1)
  exact ⟨⟨hb.os.trans h.fr.os, hb.tape.trans h.fr.tape, hb.output.trans h.fr.output, Nat.le_trans h.fr.size hb.size, fun k hk hn => (hb.block k (by omega)).trans (h.fr.block k hk hn)⟩, h.h20, (hb.block cb hB).trans h.co, ho, Nat.le_trans h.sz hb.size⟩
end
theorem RS.set2 {w4 W : World} {cb B : Nat} {C : CC} {pv xv : Value} {g n c : Nat} {xs init : List (ByteArray × ByteArray)} {y : ByteArray × ByteArray} (h : RS 2 extE 75 w4 cb B W C pv xv (.slice (some ⟨g, 0, none⟩) n c) xs) (hx : xs = init ++ [y]) (v : ByteArray) (hB : cb < B) (h4 : w4.heap.size ≤ B) :
    RS 2 extE 75 w4 cb B (W.setCell ⟨g, init.length * 2 + 1, none⟩ (.string v)) C pv xv (.slice (some ⟨g, 0, none⟩) n c) (init ++ [(y.1, v)]) := by
  have hg : B ≤ g := (h.own.lt (g := g) rfl).1
  exact ⟨⟨h.fr.os, h.fr.tape, h.fr.output, by have := h.fr.size; simpa [World.setCell] using this, fun k hk hn => (heap_setCell_ne W ⟨g, init.length * 2 + 1, none⟩ _ k (by show k ≠ g; omega)).trans (h.fr.block k hk hn)⟩, h.h20, (heap_setCell_ne W ⟨g, init.length * 2 + 1, none⟩ _ cb (by show cb ≠ g; omega)).trans h.co, own_set2 h.own hx v, by have := h.sz; simpa [World.setCell] using this⟩
theorem own_last {W : World} {B g n c : Nat} {xs init : List (ByteArray × ByteArray)} {y : ByteArray × ByteArray} {e : TypeId} (h : OwnG 2 extE e W B (.slice (some ⟨g, 0, none⟩) n c) xs) (hx : xs = init ++ [y]) : W.cell? ⟨g, init.length * 2 + 1, none⟩ = some (.string y.2) := by
  rcases (h.fs extE_len).1 with h0 | ⟨b, off, e1, -, hc⟩
  · rw [hx] at h0; simp at h0
  · simp only [Option.some.injEq, Addr.mk.injEq] at e1
    obtain ⟨rfl, rfl, -⟩ := e1
    have := hc init.length y (by rw [hx]; simp) 1 (.string y.2) rfl
    rwa [Nat.zero_add] at this
theorem own_frozen {W : World} {B g n c : Nat} {xs : List (ByteArray × ByteArray)} {e : TypeId} (h : OwnG 2 extE e W B (.slice (some ⟨g, 0, none⟩) n c) xs) (o : Nat) : W.frozen? ⟨g, o, none⟩ = false := by
  obtain ⟨h1, ⟨h2, -⟩ | ⟨g', cap, cur, h3, h4, h5, h6⟩⟩ := h
  · cases h2
  · simp only [Value.slice.injEq, Option.some.injEq, Addr.mk.injEq] at h3
    obtain ⟨⟨rfl, -⟩, -⟩ := h3
    exact frozen_of_row W g o _ _ h5
theorem own_addr {W : World} {B n c : Nat} {a : Option Addr} {α : Type} {k : Nat} {enc : α → List Value} {xs : List α} {e : TypeId} (h : OwnG k enc e W B (.slice a n c) xs) (hn : n ≠ 0) : ∃ g, a = some ⟨g, 0, none⟩ := by
  obtain ⟨h1, ⟨h2, -⟩ | ⟨g', cap, cur, h3, h4, h5, h6⟩⟩ := h
  · simp only [Value.slice.injEq] at h2
    exact absurd h2.2.1 hn
  · simp only [Value.slice.injEq] at h3
    exact ⟨g', h3.1⟩
theorem lines_cell {W : World} {base : Nat} {a : Addr} {n c : Nat} {l : List ByteArray} (h : OwnG 1 strE 9 W base (.slice (some a) n c) l) : ∃ g, a = ⟨g, 0, none⟩ ∧ base ≤ g ∧ g < W.heap.size ∧ ∀ W' : World, W'.heap[g]? = W.heap[g]? → ∀ (k : Nat) x, l[k]? = some x → W'.cell? ⟨g, k, none⟩ = some (.string x) := by
  have hr := (h.fs strE_len).1
  obtain ⟨h1, ⟨h2, -⟩ | ⟨g, cap, cur, h3, h4, h5, h6⟩⟩ := h
  · cases h2
  · simp only [Value.slice.injEq, Option.some.injEq] at h3
    obtain ⟨rfl, -⟩ := h3
    refine ⟨g, rfl, h4, (Array.getElem?_eq_some_iff.1 h5).1, fun W' hh k x hk => ?_⟩
    rcases hr with h0 | ⟨b, off, e1, -, hc⟩
    · have := (List.getElem?_eq_some_iff.1 hk).1; omega
    · simp only [Option.some.injEq, Addr.mk.injEq] at e1
      obtain ⟨rfl, rfl, -⟩ := e1
      have := hc k x hk 0 (.string x) rfl
      rw [Nat.zero_add, Nat.mul_one, Nat.add_zero] at this
      rw [← this]
      unfold World.cell?
      rw [hh]
theorem sum_take : ∀ (l : List (List UInt8)) (k : Nat), sumL (l.take k) ≤ sumL l
  | l, 0 => Nat.zero_le _
  | [], k + 1 => Nat.le_refl _
  | x :: r, k + 1 => by
    have := sum_take r k
    show x.length + 1 + sumL (r.take k) ≤ x.length + 1 + sumL r
    omega
theorem join_step {l : List (List UInt8)} {t : Nat} {x : List UInt8} (h : l[t]? = some x) (ht : t ≠ 0) : joinL (l.take (t + 1)) = joinL (l.take t) ++ [10] ++ x := by
  rw [take_snoc h]
  refine join_snoc _ _ fun e => ?_
  have h1 := congrArg List.length e
  rw [List.length_take, List.length_nil] at h1
  have h2 := (List.getElem?_eq_some_iff.1 h).1
  omega
theorem join_first {l : List (List UInt8)} {x : List UInt8} (h : l[0]? = some x) : joinL (l.take 1) = x := by
  rw [take_snoc h]
  rfl
theorem drop_cons {α : Type} {l : List α} {k : Nat} {x : α} (h : l[k]? = some x) : l.drop k = x :: l.drop (k + 1) := by
  obtain ⟨hlt, he⟩ := List.getElem?_eq_some_iff.1 h
  rw [List.drop_eq_getElem_cons hlt, he]
theorem rPar_stop {x : List UInt8} {r : List (List UInt8)} (h : frontW (kPar ++ [32]) x = []) : rPar (x :: r) = ([], x :: r) := by
  show (if _ then _ else _) = _
  rw [if_pos h]
theorem rPar_go {x : List UInt8} {r : List (List UInt8)} (h : frontW (kPar ++ [32]) x ≠ []) : rPar (x :: r) = (parsed (txt (frontW (kPar ++ [32]) x)) :: (rPar r).1, (rPar r).2) := by
  show (if _ then _ else _) = _
  rw [if_neg h]
end Go.Proofs.YtindmggmblmmcaaGreatDoor
