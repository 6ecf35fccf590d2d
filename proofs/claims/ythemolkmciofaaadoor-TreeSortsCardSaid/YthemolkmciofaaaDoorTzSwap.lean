/- Entries that change places in a row of the call's own. -/
import Derived.Test.YthemolkmciofaaaDoorStabT
import Derived.Deep.CutBlock
namespace Go.Proofs.YthemolkmciofaaaDoor
open Go.RowKit Plain Go.ChangeShapes Go.WideShapes Go.ChangeAt Go.Great
set_option linter.unusedVariables false
set_option linter.unusedSimpArgs false
def setL (cur : List Value) : Nat → List Value → List Value
  | _, [] => cur
  | o, v :: r => setL (cur.set o v) (o + 1) r
theorem setL_eq : ∀ (vs : List Value) (o : Nat) (cur : List Value), o + vs.length ≤ cur.length → setL cur o vs = cur.take o ++ vs ++ cur.drop (o + vs.length)
  | [], o, cur, h => by simp [setL]
  | v :: r, o, cur, h => by
    rw [List.length_cons] at h
    have ih := setL_eq r (o + 1) (cur.set o v) (by rw [List.length_set]; omega)
    rw [setL, ih]
    have hl : o < cur.length := by omega
    rw [List.take_set, List.drop_set_of_lt (by omega), List.length_cons, show o + 1 + r.length = o + (r.length + 1) by omega, List.take_add_one, List.getElem?_eq_getElem hl]
    have h1 : (cur.take o).length = o := by rw [List.length_take]; omega
    rw [List.set_append_right _ _ (by omega), h1, Nat.sub_self]
    simp
theorem owns_setCells {e : TypeId} {base g n c s : Nat} : ∀ (vs : List Value) (o : Nat) (w : World) (cells : List Value), w.ownsRow base e s (.slice (some ⟨g, 0, none⟩) n c) n cells → (w.setCells g o vs).ownsRow base e s (.slice (some ⟨g, 0, none⟩) n c) n (setL cells o vs)
  | [], o, w, cells, h => h
  | v :: r, o, w, cells, h => owns_setCells r (o + 1) _ _ (World.ownsRow.stored h o v).1
theorem flatE_set {xs : List TE} (h20 : ∀ x ∈ xs, x.n.length = 20) {k : Nat} (hk : k < xs.length) {y : TE} (hy : y.n.length = 20) : setL (flatE xs) (k * 22) (entL y) = flatE (xs.set k y) := by
  have hl := flatE_len xs h20
  have hyl := entL_len y hy
  rw [setL_eq _ _ _ (by rw [hl, hyl]; omega), hyl, List.set_eq_take_append_cons_drop, if_pos hk]
  have e0 : xs = xs.take k ++ xs[k] :: xs.drop (k + 1) := by rw [← List.drop_eq_getElem_cons hk, List.take_append_drop]
  have e1 : flatE xs = flatE (xs.take k) ++ (entL xs[k] ++ flatE (xs.drop (k + 1))) := by
    conv => lhs; rw [e0]
    rw [flatE_append, flatE_cons]
  have l1 : (flatE (xs.take k)).length = k * 22 := by rw [flatE_len _ (fun x hx => h20 x (List.mem_of_mem_take hx)), List.length_take]; omega
  have l2 : (entL xs[k]).length = 22 := entL_len _ (h20 _ (List.getElem_mem hk))
  rw [flatE_append, flatE_cons, e1, List.take_left' l1, ← List.append_assoc (flatE (xs.take k)) (entL xs[k]), List.drop_left' (by rw [List.length_append, l1, l2])]
  simp only [List.append_assoc]
theorem OwnE.set {e : TypeId} {w : World} {base g n c : Nat} {xs : List TE} (h : OwnE e w base (.slice (some ⟨g, 0, none⟩) n c) xs) {k : Nat} (hk : k < xs.length) {y : TE} (hy : y.n.length = 20) : OwnE e (w.setCells g (k * 22) (entL y)) base (.slice (some ⟨g, 0, none⟩) n c) (xs.set k y) := by
  have hn := h.fs.2
  subst hn
  refine ⟨?_, fun x hx => ?_⟩
  · rw [List.length_set, ← flatE_set h.2 hk hy]
    exact owns_setCells _ _ _ _ h.1
  · rcases List.mem_or_eq_of_mem_set hx with h1 | rfl
    · exact h.2 x h1
    · exact hy
theorem OwnE.row {e : TypeId} {w : World} {base g n c : Nat} {xs : List TE} (h : OwnE e w base (.slice (some ⟨g, 0, none⟩) n c) xs) : xs.length = n ∧ base ≤ g ∧ g < w.heap.size ∧ (∀ k x, xs[k]? = some x → w.rangeAt g (k * 22) (entL x)) ∧ (∀ k, k < xs.length → w.there g (k * 22) 22) := by
  obtain ⟨hE, hn⟩ := h.fs
  obtain ⟨h1, h20⟩ := id h
  obtain ⟨h2, ⟨h0, -⟩ | ⟨g', cap, cur, e1, h3, h4, h5⟩⟩ := id h1
  · cases h0
  simp only [Value.slice.injEq, Option.some.injEq, Addr.mk.injEq] at e1
  obtain ⟨⟨rfl, -⟩, -, -⟩ := e1
  have hr : ∀ k x, xs[k]? = some x → w.rangeAt g (k * 22) (entL x) := fun k x hk => by
    rcases hE.rows with h0 | ⟨b, off, e2, -, hc⟩
    · have := (List.getElem?_eq_some_iff.1 hk).1; omega
    · simp only [Option.some.injEq, Addr.mk.injEq] at e2
      obtain ⟨rfl, rfl, -⟩ := e2
      have := hc k x hk
      rwa [Nat.zero_add] at this
  refine ⟨hn, h3, (Array.getElem?_eq_some_iff.1 h4).1, hr, fun k hk j hj => ⟨?_, frozen_of_row w g _ _ _ h4⟩⟩
  have hx : xs[k]? = some (xs[k]'hk) := List.getElem?_eq_getElem hk
  have hl := entL_len xs[k] (h20 _ (List.getElem_mem hk))
  rw [hr k _ hx j _ (List.getElem?_eq_getElem (by rw [hl]; exact hj))]
  rfl
theorem w64 (z : Int) (h1 : -9223372036854775808 ≤ z) (h2 : z ≤ 9223372036854775807) : wrap64 z = z := by unfold wrap64; omega
theorem w64k (z : Int) (h1 : -9223372036854775808 ≤ z) (h2 : z ≤ 9223372036854775807) : IntKind.i64.wrap z = z := by rw [IntKind.wrap_i64]; omega
theorem below_setCellsE {B : Nat} {a : World} (b : Nat) (hb : B ≤ b) : ∀ (vs : List Value) (o : Nat) (w : World), Below B a w → Below B a (w.setCells b o vs)
  | [], o, w, h => h
  | v :: r, o, w, h => below_setCellsE b hb r (o + 1) _ (h.setCell (p := ⟨b, o, none⟩) hb v)
theorem step_load_mid {P : Program} {ops : Array Oper} {o : Oper} {a : Act} {w : World} {K : Act → World → Prop} {Q : Exit → Act → World → Prop} {E : Prop} (hw : Region.wanted o (yielded ops a.tmps) = true) (ty : TypeId) (x : Operand) (ho : o.op = .load ty x)
    (b off : Nat) (hx : a.eval x = .pointer (some ⟨b, off, none⟩)) (xs : List Value) (d : TypeDesc) (hc : w.rangeAt b off xs) (hu : P.underlying ty = some d) (hd : d.isRow = true) (hi : (P.info? ty).map (·.size) = some xs.length) (h : K (a.put o.dst (.agg xs.toArray)) w) :
    if Region.wanted o (yielded ops a.tmps) = true then Oper.wp P o a w K Q else E := by
  rw [if_pos hw]
  exact wp_load_mid ty x ho b off hx xs d hc hu hd hi h
theorem step_store_mid {P : Program} {ops : Array Oper} {o : Oper} {a : Act} {w : World} {K : Act → World → Prop} {Q : Exit → Act → World → Prop} {E : Prop} (hw : Region.wanted o (yielded ops a.tmps) = true) (ty : TypeId) (x y : Operand) (ho : o.op = .store ty x y)
    (b off : Nat) (cells : Array Value) (hx : a.eval x = .pointer (some ⟨b, off, none⟩)) (hy : a.eval y = .agg cells) (ht : w.there b off cells.size) (hi : (P.info? ty).map (·.size) = some cells.size) (h1 : cells.all (·.oneCell') = true) (h : K (a.put o.dst undef) (w.setCells b off cells.toList)) :
    if Region.wanted o (yielded ops a.tmps) = true then Oper.wp P o a w K Q else E := by
  rw [if_pos hw]
  exact wp_store_mid ty x y ho b off cells hx hy ht hi h1 h
set_option maxRecDepth 100000 in
set_option maxHeartbeats 16000000 in
theorem swaprange_any (xs : List TE) (g n c a b m base : Nat) (f : Value) (w : World) (h : OwnE 30 w base (.slice (some ⟨g, 0, none⟩) n c) xs) (hn : n ≤ 100000) (ha : a + m ≤ b) (hb : b + m ≤ n) (hbase : base ≤ w.heap.size) :
    Calls Tryd.prog 46 #[.slice (some ⟨g, 0, none⟩) n c, .int .i64 (a : Int), .int .i64 (b : Int), .int .i64 (m : Int), f] w fun e w' => e = .returned (.tuple #[]) ∧ OwnE 30 w' base (.slice (some ⟨g, 0, none⟩) n c) (swapN xs a b m) ∧ Below base w w' := by
  have H0 := Lib.hid h
  have HNB := Lib.hid hn
  have HAB := Lib.hid ha
  have HBN := Lib.hid hb
  clear h hn ha hb
  go_enter Tryd.func46, Tryd.ntmps46
  go_wp2_with fail
  go_loopw [10] (fun i wr => ∃ k : Nat, i = .int .i64 (k : Int) ∧ k ≤ m ∧ OwnE 30 wr base (.slice (some ⟨g, 0, none⟩) n c) (swapN xs a b k) ∧ Below base w wr) (fun i _ => m - (intOf i).toNat)
  case atStart => exact ⟨0, rfl, Nat.zero_le _, H0.out, Below.refl _ _⟩
  case round =>
    obtain ⟨k, rfl, hk, ho, hbl⟩ := hrel
    have HO := Lib.hid ho
    have HB := Lib.hid hbl
    have WK := Lib.hid (next_int k (by have := HAB.out; have := HBN.out; have := HNB.out; omega))
    obtain ⟨hln, hbg, hgl, hrow, hth⟩ := ho.row
    by_cases hkm : k < m
    · have hki : (k : Int) < (m : Int) := by omega
      have HKN : Hid (k + 1 ≤ m) := hkm
      obtain ⟨p, hp⟩ : ∃ p, a + k = p := ⟨_, rfl⟩
      obtain ⟨q, hq⟩ : ∃ q, b + k = q := ⟨_, rfl⟩
      have hpq : p < q := by have := HAB.out; omega
      have hqn : q < n := by have := HBN.out; omega
      have hpi : (p : Int) < (n : Int) := by omega
      have hqi : (q : Int) < (n : Int) := by omega
      obtain ⟨x, hx⟩ : ∃ x, (swapN xs a b k)[p]? = some x := ⟨_, List.getElem?_eq_getElem (by omega)⟩
      obtain ⟨y, hy⟩ : ∃ y, (swapN xs a b k)[q]? = some y := ⟨_, List.getElem?_eq_getElem (by omega)⟩
      have Hx : Hid (x.n.length = 20) := HO.out.2 x (List.mem_of_getElem? hx)
      have Hy : Hid (y.n.length = 20) := HO.out.2 y (List.mem_of_getElem? hy)
      have HRx : Hid (wr.drew.rangeAt g (p * 22) (entL x)) := hrow p x hx
      have HRy : Hid (wr.drew.rangeAt g (q * 22) (entL y)) := hrow q y hy
      have HOD : Hid (OwnE 30 wr.drew base (.slice (some ⟨g, 0, none⟩) n c) (swapN xs a b k)) := HO.out.below (Below.refl _ _).drew
      have HT1 : Hid (wr.drew.there g (p * 22) (entA y).size) := by rw [entA_size y Hy.out]; exact HOD.out.row.2.2.2.2 p (by omega)
      have HO1 : Hid (OwnE 30 ((wr.drew.setCells g (p * 22) (entA y).toList)) base (.slice (some ⟨g, 0, none⟩) n c) ((swapN xs a b k).set p y)) := HOD.out.set (by omega) Hy.out
      have HT2 : Hid (((wr.drew.setCells g (p * 22) (entA y).toList)).there g (q * 22) (entA x).size) := by rw [entA_size x Hx.out]; exact HO1.out.row.2.2.2.2 q (by rw [List.length_set]; omega)
      have HO2 : Hid (OwnE 30 (((wr.drew.setCells g (p * 22) (entA y).toList)).setCells g (q * 22) (entA x).toList) base (.slice (some ⟨g, 0, none⟩) n c) (swapN xs a b (k + 1))) := by
        have h1 := HO1.out.set (k := q) (by rw [List.length_set]; omega) Hx.out
        show OwnE _ _ _ _ (swapL (swapN xs a b k) (a + k) (b + k))
        rw [hp, hq, swap_val hx hy]
        exact h1
      have HB2 : Hid (Below base w (((wr.drew.setCells g (p * 22) (entA y).toList)).setCells g (q * 22) (entA x).toList)) := below_setCellsE g hbg _ _ _ (below_setCellsE g hbg _ _ _ HB.out.drew)
      have hnb := HNB.out
      have ea : (a : Int) + (k : Int) = (p : Int) := by omega
      have eb : (b : Int) + (k : Int) = (q : Int) := by omega
      have bp : -9223372036854775808 ≤ (p : Int) ∧ (p : Int) ≤ 9223372036854775807 := by omega
      have bq : -9223372036854775808 ≤ (q : Int) ∧ (q : Int) ≤ 9223372036854775807 := by omega
      have hwa : wrap64 ((a : Int) + (k : Int)) = (p : Int) := by rw [ea]; exact w64 _ bp.1 bp.2
      have hwb : wrap64 ((b : Int) + (k : Int)) = (q : Int) := by rw [eb]; exact w64 _ bq.1 bq.2
      have hva : IntKind.i64.wrap ((a : Int) + (k : Int)) = (p : Int) := by rw [ea]; exact w64k _ bp.1 bp.2
      have hvb : IntKind.i64.wrap ((b : Int) + (k : Int)) = (q : Int) := by rw [eb]; exact w64k _ bq.1 bq.2
      have hp0 : (0 : Int) ≤ (p : Int) := Int.natCast_nonneg p
      have hq0 : (0 : Int) ≤ (q : Int) := Int.natCast_nonneg q
      clear hx hy hrow hth hkm hk hp hq hpq hqn hln hgl hnb ea eb bp bq
      go_wp2_with fail
      refine wp_region_noPanic ?_
      refine wp_region_held_drew (S := fun _ => True) (by kernel_rfl) ?_ (fun hHeld => ?_)
      · exact True.intro
      refine wpAnyH_take (i := 0) (v := ?_) (by simp only [List.getElem?_toArray, List.getElem?_cons_zero]; rfl) (by kernel_rfl) (by kernel_rfl) (by kernel_rfl) (fun _ _ _ h => h) (Or.inl ⟨by rfl, ?_⟩) (by assumption) ?_
      rotate_left
      · intro W hSW
        go_simp
        try with_reducible rfl
      try simp only [Act.put, List.setIfInBounds_toArray, List.set_cons_zero, List.set_cons_succ]
      refine wpAnyH_take (i := 1) (v := ?_) (by simp only [List.getElem?_toArray, List.getElem?_cons_succ, List.getElem?_cons_zero]; rfl) (by kernel_rfl) (by kernel_rfl) (by kernel_rfl) (fun _ _ _ h => h) (Or.inl ⟨by rfl, ?_⟩) (by assumption) ?_
      rotate_left
      · intro W hSW
        go_simp
        try with_reducible rfl
      try simp only [Act.put, List.setIfInBounds_toArray, List.set_cons_zero, List.set_cons_succ]
      refine wpAnyH_take (i := 2) (v := ?_) (by simp only [List.getElem?_toArray, List.getElem?_cons_succ, List.getElem?_cons_zero]; rfl) (by kernel_rfl) (by kernel_rfl) (by kernel_rfl) (fun _ _ _ h => h) (Or.inl ⟨by rfl, ?_⟩) (by assumption) ?_
      rotate_left
      · intro W hSW
        go_simp
        try with_reducible rfl
      try simp only [Act.put, List.setIfInBounds_toArray, List.set_cons_zero, List.set_cons_succ]
      refine wpAnyH_take (i := 3) (v := ?_) (by simp only [List.getElem?_toArray, List.getElem?_cons_succ, List.getElem?_cons_zero]; rfl) (by kernel_rfl) (by kernel_rfl) (by kernel_rfl) (fun _ _ _ h => h) (Or.inl ⟨by rfl, ?_⟩) (by assumption) ?_
      rotate_left
      · intro W hSW
        go_simp
        try with_reducible rfl
      try simp only [Act.put, List.setIfInBounds_toArray, List.set_cons_zero, List.set_cons_succ]
      refine wpAnyH_take (i := 4) (v := ?_) (by simp only [List.getElem?_toArray, List.getElem?_cons_succ, List.getElem?_cons_zero]; rfl) (by kernel_rfl) (by kernel_rfl) (by kernel_rfl) (fun _ _ _ h => h) (Or.inl ⟨by rfl, ?_⟩) (by assumption) ?_
      rotate_left
      · intro W hSW
        go_simp
        try with_reducible rfl
      try simp only [Act.put, List.setIfInBounds_toArray, List.set_cons_zero, List.set_cons_succ]
      refine wpAnyH_take (i := 5) (v := ?_) (by simp only [List.getElem?_toArray, List.getElem?_cons_succ, List.getElem?_cons_zero]; rfl) (by kernel_rfl) (by kernel_rfl) (by kernel_rfl) (fun _ _ _ h => h) (Or.inl ⟨by rfl, ?_⟩) (by assumption) ?_
      rotate_left
      · intro W hSW
        go_simp
        try with_reducible rfl
      try simp only [Act.put, List.setIfInBounds_toArray, List.set_cons_zero, List.set_cons_succ]
      refine wpAnyH_take (i := 6) (v := ?_) (by simp only [List.getElem?_toArray, List.getElem?_cons_succ, List.getElem?_cons_zero]; rfl) (by kernel_rfl) (by kernel_rfl) (by kernel_rfl) (fun _ _ _ h => h) (Or.inl ⟨by rfl, ?_⟩) (by assumption) ?_
      rotate_left
      · intro W hSW
        go_simp
        try with_reducible rfl
      try simp only [Act.put, List.setIfInBounds_toArray, List.set_cons_zero, List.set_cons_succ]
      refine wpAnyH_take (i := 7) (v := ?_) (by simp only [List.getElem?_toArray, List.getElem?_cons_succ, List.getElem?_cons_zero]; rfl) (by kernel_rfl) (by kernel_rfl) (by kernel_rfl) (fun _ _ _ h => h) (Or.inl ⟨by rfl, ?_⟩) (by assumption) ?_
      rotate_left
      · intro W hSW
        go_simp
        try with_reducible rfl
      try simp only [Act.put, List.setIfInBounds_toArray, List.set_cons_zero, List.set_cons_succ]
      refine wpAnyH_take (i := 8) (v := ?_) (by simp only [List.getElem?_toArray, List.getElem?_cons_succ, List.getElem?_cons_zero]; rfl) (by kernel_rfl) (by kernel_rfl) (by kernel_rfl) (fun _ _ _ h => h) (Or.inl ⟨by rfl, ?_⟩) (by assumption) ?_
      rotate_left
      · intro W hSW
        go_simp
        try with_reducible rfl
      try simp only [Act.put, List.setIfInBounds_toArray, List.set_cons_zero, List.set_cons_succ]
      refine wpAnyH_take (i := 9) (v := ?_) (by simp only [List.getElem?_toArray, List.getElem?_cons_succ, List.getElem?_cons_zero]; rfl) (by kernel_rfl) (by kernel_rfl) (by kernel_rfl) (fun _ _ _ h => h) (Or.inl ⟨by rfl, ?_⟩) (by assumption) ?_
      rotate_left
      · intro W hSW
        go_simp
        try with_reducible rfl
      try simp only [Act.put, List.setIfInBounds_toArray, List.set_cons_zero, List.set_cons_succ]
      refine wpAnyH_take (i := 10) (v := ?_) (by simp only [List.getElem?_toArray, List.getElem?_cons_succ, List.getElem?_cons_zero]; rfl) (by kernel_rfl) (by kernel_rfl) (by kernel_rfl) (fun _ _ _ h => h) (Or.inl ⟨by rfl, ?_⟩) (by assumption) ?_
      rotate_left
      · intro W hSW
        go_simp
        try with_reducible rfl
      try simp only [Act.put, List.setIfInBounds_toArray, List.set_cons_zero, List.set_cons_succ]
      refine wpAnyH_take (i := 11) (v := ?_) (by simp only [List.getElem?_toArray, List.getElem?_cons_succ, List.getElem?_cons_zero]; rfl) (by kernel_rfl) (by kernel_rfl) (by kernel_rfl) (fun _ _ _ h => h) (Or.inl ⟨by rfl, ?_⟩) (by assumption) ?_
      rotate_left
      · intro W hSW
        go_simp
        try with_reducible rfl
      try simp only [Act.put, List.setIfInBounds_toArray, List.set_cons_zero, List.set_cons_succ]
      refine wpAnyH_take (i := 12) (v := ?_) (by simp only [List.getElem?_toArray, List.getElem?_cons_succ, List.getElem?_cons_zero]; rfl) (by kernel_rfl) (by kernel_rfl) (by kernel_rfl) (fun _ _ _ h => h) (Or.inl ⟨by rfl, ?_⟩) (by assumption) ?_
      rotate_left
      · intro W hSW
        go_simp
        try with_reducible rfl
      try simp only [Act.put, List.setIfInBounds_toArray, List.set_cons_zero, List.set_cons_succ]
      refine wpAnyH_take (i := 14) (v := ?_) (by simp only [List.getElem?_toArray, List.getElem?_cons_succ, List.getElem?_cons_zero]; rfl) (by kernel_rfl) (by kernel_rfl) (by kernel_rfl) (fun _ _ _ h => h) (Or.inl ⟨by rfl, ?_⟩) (by assumption) ?_
      rotate_left
      · intro W hSW
        go_simp
        try with_reducible rfl
      try simp only [Act.put, List.setIfInBounds_toArray, List.set_cons_zero, List.set_cons_succ]
      refine wpAnyH_take (i := 15) (v := ?_) (by simp only [List.getElem?_toArray, List.getElem?_cons_succ, List.getElem?_cons_zero]; rfl) (by kernel_rfl) (by kernel_rfl) (by kernel_rfl) (fun _ _ _ h => h) (Or.inl ⟨by rfl, ?_⟩) (by assumption) ?_
      rotate_left
      · intro W hSW
        go_simp
        try with_reducible rfl
      try simp only [Act.put, List.setIfInBounds_toArray, List.set_cons_zero, List.set_cons_succ]
      refine wpAnyH_take (i := 16) (v := ?_) (by simp only [List.getElem?_toArray, List.getElem?_cons_succ, List.getElem?_cons_zero]; rfl) (by kernel_rfl) (by kernel_rfl) (by kernel_rfl) (fun _ _ _ h => h) (Or.inl ⟨by rfl, ?_⟩) (by assumption) ?_
      rotate_left
      · intro W hSW
        go_simp
        try with_reducible rfl
      try simp only [Act.put, List.setIfInBounds_toArray, List.set_cons_zero, List.set_cons_succ]
      refine wpAnyH_take (i := 17) (v := ?_) (by simp only [List.getElem?_toArray, List.getElem?_cons_succ, List.getElem?_cons_zero]; rfl) (by kernel_rfl) (by kernel_rfl) (by kernel_rfl) (fun _ _ _ h => h) (Or.inl ⟨by rfl, ?_⟩) (by assumption) ?_
      rotate_left
      · intro W hSW
        go_simp
        try with_reducible rfl
      try simp only [Act.put, List.setIfInBounds_toArray, List.set_cons_zero, List.set_cons_succ]
      refine wpAnyH_take (i := 18) (v := ?_) (by simp only [List.getElem?_toArray, List.getElem?_cons_succ, List.getElem?_cons_zero]; rfl) (by kernel_rfl) (by kernel_rfl) (by kernel_rfl) (fun _ _ _ h => h) (Or.inl ⟨by rfl, ?_⟩) (by assumption) ?_
      rotate_left
      · intro W hSW
        go_simp
        try with_reducible rfl
      try simp only [Act.put, List.setIfInBounds_toArray, List.set_cons_zero, List.set_cons_succ]
      refine wpAnyH_ready (rs := [13, 19]) (by kernel_rfl) (by simp) ?_
      refine AllReadyH.cons (by simp only [List.getElem?_toArray, List.getElem?_cons_succ, List.getElem?_cons_zero]; rfl) (fun K hK => ?_) (AllReadyH.cons (by simp only [List.getElem?_toArray, List.getElem?_cons_succ, List.getElem?_cons_zero]; rfl) (fun K hK => ?_) AllReadyH.nil)
      · refine step_load_mid (by rfl) 30 _ rfl g (q * 22) rfl (entL y) _ (HRy.out) Tryd.underlying30 rfl (ent_infoL y Hy.out) ?_
        refine hK.out _ _ (True.intro) (fun hHeld2 => ?_)
        clear hK K hHeld
        have hHeld := hHeld2
        clear hHeld2
        try simp only [Act.put, List.setIfInBounds_toArray, List.set_cons_zero, List.set_cons_succ]
        refine wpAnyH_ready (rs := [19]) (by kernel_rfl) (by simp) ?_
        refine AllReadyH.cons (by simp only [List.getElem?_toArray, List.getElem?_cons_succ, List.getElem?_cons_zero]; rfl) (fun K hK => ?_) AllReadyH.nil
        refine step_load_mid (by rfl) 30 _ rfl g (p * 22) rfl (entL x) _ (HRx.out) Tryd.underlying30 rfl (ent_infoL x Hx.out) ?_
        refine hK.out _ _ (True.intro) (fun hHeld2 => ?_)
        clear hK K hHeld
        have hHeld := hHeld2
        clear hHeld2
        try simp only [Act.put, List.setIfInBounds_toArray, List.set_cons_zero, List.set_cons_succ]
        refine wpAnyH_take (i := 20) (v := ?_) (by simp only [List.getElem?_toArray, List.getElem?_cons_succ, List.getElem?_cons_zero]; rfl) (by kernel_rfl) (by kernel_rfl) (by kernel_rfl) (fun _ _ _ h => h) (Or.inl ⟨by rfl, ?_⟩) (by assumption) ?_
        rotate_left
        · intro W hSW
          go_simp
          try with_reducible rfl
        try simp only [Act.put, List.setIfInBounds_toArray, List.set_cons_zero, List.set_cons_succ]
        refine wpAnyH_ready (rs := [21]) (by kernel_rfl) (by simp) ?_
        refine AllReadyH.cons (by simp only [List.getElem?_toArray, List.getElem?_cons_succ, List.getElem?_cons_zero]; rfl) (fun K hK => ?_) AllReadyH.nil
        refine step_store_mid (by rfl) 30 _ _ rfl g (p * 22) (entA y) rfl rfl HT1.out (ent_info y Hy.out) (entA_one y) ?_
        refine hK.out _ _ (True.intro) (fun hHeld2 => ?_)
        clear hK K hHeld
        have hHeld := hHeld2
        clear hHeld2
        try simp only [Act.put, List.setIfInBounds_toArray, List.set_cons_zero, List.set_cons_succ]
        refine wpAnyH_take (i := 22) (v := ?_) (by simp only [List.getElem?_toArray, List.getElem?_cons_succ, List.getElem?_cons_zero]; rfl) (by kernel_rfl) (by kernel_rfl) (by kernel_rfl) (fun _ _ _ h => h) (Or.inl ⟨by rfl, ?_⟩) (by assumption) ?_
        rotate_left
        · intro W hSW
          go_simp
          try with_reducible rfl
        try simp only [Act.put, List.setIfInBounds_toArray, List.set_cons_zero, List.set_cons_succ]
        refine wpAnyH_ready (rs := [23]) (by kernel_rfl) (by simp) ?_
        refine AllReadyH.cons (by simp only [List.getElem?_toArray, List.getElem?_cons_succ, List.getElem?_cons_zero]; rfl) (fun K hK => ?_) AllReadyH.nil
        refine step_store_mid (by rfl) 30 _ _ rfl g (q * 22) (entA x) rfl rfl HT2.out (ent_info x Hx.out) (entA_one x) ?_
        refine hK.out _ _ (True.intro) (fun hHeld2 => ?_)
        clear hK K hHeld
        have hHeld := hHeld2
        clear hHeld2
        try simp only [Act.put, List.setIfInBounds_toArray, List.set_cons_zero, List.set_cons_succ]
        refine wpAnyH_done (by kernel_rfl) ?_ _
        refine NoPanic.normal ?_
        clear hHeld
        go_wp2_with fail
        exact ⟨⟨k + 1, by first | rw [WK.out _ rfl] | rfl, HKN.out, HO2.out, HB2.out⟩, by have := HKN.out; (first | rw [WK.out _ rfl] | skip); simp [intOf]; omega⟩
      · refine step_load_mid (by rfl) 30 _ rfl g (p * 22) rfl (entL x) _ (HRx.out) Tryd.underlying30 rfl (ent_infoL x Hx.out) ?_
        refine hK.out _ _ (True.intro) (fun hHeld2 => ?_)
        clear hK K hHeld
        have hHeld := hHeld2
        clear hHeld2
        try simp only [Act.put, List.setIfInBounds_toArray, List.set_cons_zero, List.set_cons_succ]
        refine wpAnyH_ready (rs := [13]) (by kernel_rfl) (by simp) ?_
        refine AllReadyH.cons (by simp only [List.getElem?_toArray, List.getElem?_cons_succ, List.getElem?_cons_zero]; rfl) (fun K hK => ?_) AllReadyH.nil
        refine step_load_mid (by rfl) 30 _ rfl g (q * 22) rfl (entL y) _ (HRy.out) Tryd.underlying30 rfl (ent_infoL y Hy.out) ?_
        refine hK.out _ _ (True.intro) (fun hHeld2 => ?_)
        clear hK K hHeld
        have hHeld := hHeld2
        clear hHeld2
        try simp only [Act.put, List.setIfInBounds_toArray, List.set_cons_zero, List.set_cons_succ]
        refine wpAnyH_take (i := 20) (v := ?_) (by simp only [List.getElem?_toArray, List.getElem?_cons_succ, List.getElem?_cons_zero]; rfl) (by kernel_rfl) (by kernel_rfl) (by kernel_rfl) (fun _ _ _ h => h) (Or.inl ⟨by rfl, ?_⟩) (by assumption) ?_
        rotate_left
        · intro W hSW
          go_simp
          try with_reducible rfl
        try simp only [Act.put, List.setIfInBounds_toArray, List.set_cons_zero, List.set_cons_succ]
        refine wpAnyH_ready (rs := [21]) (by kernel_rfl) (by simp) ?_
        refine AllReadyH.cons (by simp only [List.getElem?_toArray, List.getElem?_cons_succ, List.getElem?_cons_zero]; rfl) (fun K hK => ?_) AllReadyH.nil
        refine step_store_mid (by rfl) 30 _ _ rfl g (p * 22) (entA y) rfl rfl HT1.out (ent_info y Hy.out) (entA_one y) ?_
        refine hK.out _ _ (True.intro) (fun hHeld2 => ?_)
        clear hK K hHeld
        have hHeld := hHeld2
        clear hHeld2
        try simp only [Act.put, List.setIfInBounds_toArray, List.set_cons_zero, List.set_cons_succ]
        refine wpAnyH_take (i := 22) (v := ?_) (by simp only [List.getElem?_toArray, List.getElem?_cons_succ, List.getElem?_cons_zero]; rfl) (by kernel_rfl) (by kernel_rfl) (by kernel_rfl) (fun _ _ _ h => h) (Or.inl ⟨by rfl, ?_⟩) (by assumption) ?_
        rotate_left
        · intro W hSW
          go_simp
          try with_reducible rfl
        try simp only [Act.put, List.setIfInBounds_toArray, List.set_cons_zero, List.set_cons_succ]
        refine wpAnyH_ready (rs := [23]) (by kernel_rfl) (by simp) ?_
        refine AllReadyH.cons (by simp only [List.getElem?_toArray, List.getElem?_cons_succ, List.getElem?_cons_zero]; rfl) (fun K hK => ?_) AllReadyH.nil
        refine step_store_mid (by rfl) 30 _ _ rfl g (q * 22) (entA x) rfl rfl HT2.out (ent_info x Hx.out) (entA_one x) ?_
        refine hK.out _ _ (True.intro) (fun hHeld2 => ?_)
        clear hK K hHeld
        have hHeld := hHeld2
        clear hHeld2
        try simp only [Act.put, List.setIfInBounds_toArray, List.set_cons_zero, List.set_cons_succ]
        refine wpAnyH_done (by kernel_rfl) ?_ _
        refine NoPanic.normal ?_
        clear hHeld
        go_wp2_with fail
        exact ⟨⟨k + 1, by first | rw [WK.out _ rfl] | rfl, HKN.out, HO2.out, HB2.out⟩, by have := HKN.out; (first | rw [WK.out _ rfl] | skip); simp [intOf]; omega⟩
    · have hki : ¬ (k : Int) < (m : Int) := by omega
      have hkm2 : k = m := by omega
      subst hkm2
      clear hrow hth hkm hk
      go_wp2_with fail
      refine bodyPost_end (results_none rfl _ _ _) rfl ?_
      exact ⟨rfl, HO.out, HB.out⟩
end Go.Proofs.YthemolkmciofaaaDoor
