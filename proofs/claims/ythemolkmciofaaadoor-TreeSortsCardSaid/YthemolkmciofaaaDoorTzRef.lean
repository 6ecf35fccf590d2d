/- The document's Sort of entries. -/
import Derived.Test.YthemolkmciofaaaDoorTzRefRow
import Derived.Test.YthemolkmciofaaaDoorTrRefRight
namespace Go.Proofs.YthemolkmciofaaaDoor
open Go.RowKit Plain Go.ChangeShapes Go.WideShapes Go.ChangeAt Go.Great
set_option linter.unusedVariables false
set_option linter.unusedSimpArgs false
theorem map_oneR (a : Act) (x : Operand) (v : Value) (h : a.eval x = v) : (#[(0, x)] : Array (Nat × Operand)).map (fun (i, x) => (i, a.eval x)) = #[(0, v)] := by simp [h]
theorem grown_refl (w : World) (row : Option Nat) : w.grownBy w row := ⟨rfl, rfl, rfl, Nat.le_refl _, fun _ _ _ => rfl⟩
theorem wp_append_manyR {w : World} {o : Oper} {ac : Act} {K : Act → World → Prop} {Q : Exit → Act → World → Prop} (s x : Operand)
    (ho : o.op = .call { callee := .builtin .append, args := #[s, x], argTypes := #[22, 22] })
    (base : Nat) (v : Value) (xs : List TE) (n : Nat) (hn : xs.length = n) (hs : ac.eval s = v) (hown : OwnE 33 w base v xs) (ax : Option Addr) (m c : Nat) (ys : List TE) (hm : ys.length = m)
    (hx : ac.eval x = .slice ax m c) (hy : EsAt w ax ys) (n2 : Nat) (zs : List TE) (hn2 : n + m = n2) (hzs : xs ++ ys = zs) (hsum : n2 ≤ 1000001) (hbase : base ≤ w.heap.size)
    (h : ∀ v' w', OwnE 33 w' base v' zs → w.grownBy w' v.ownBlock → K (ac.put o.dst v') w') :
    Oper.wp Tryd.prog o ac w K Q := by
  by_cases h0 : m = 0
  · subst h0
    have e : ys = [] := List.length_eq_zero_iff.1 hm
    subst e hzs
    rw [List.append_nil] at h
    obtain ⟨i, hi, -⟩ := parts_rent
    have hrun := run_append_zero (P := Tryd.prog) w base 22 o.type 33 i 22 (Tryd.underlying22) hi v _ _ hown.1 ax c
    unfold Oper.wp
    simp [execOp, ho, resolve, invoke, builtin, hs, hx, hrun, Result.andThen]
    exact h v w hown (grown_refl w _)
  · obtain ⟨b, off, rfl, hb, hc⟩ := hy.rows.resolve_left (by omega)
    exact wp_append_entsR s x ho base v xs n hn hs hown b off m c ys hm (by omega) (fun y hy' => hy.each y hy') hx hc n2 zs hn2 hzs hsum hbase fun g c w' h1 h2 _ _ => h _ w' h1 h2
theorem step_append_manyR {w : World} {ops : Array Oper} {o : Oper} {ac : Act} {K : Act → World → Prop} {Q : Exit → Act → World → Prop} {E : Prop} (hw : Region.wanted o (yielded ops ac.tmps) = true) (s x : Operand)
    (ho : o.op = .call { callee := .builtin .append, args := #[s, x], argTypes := #[22, 22] })
    (base : Nat) (v : Value) (xs : List TE) (n : Nat) (hn : xs.length = n) (hs : ac.eval s = v) (hown : OwnE 33 w base v xs) (ax : Option Addr) (m c : Nat) (ys : List TE) (hm : ys.length = m)
    (hx : ac.eval x = .slice ax m c) (hy : EsAt w ax ys) (n2 : Nat) (zs : List TE) (hn2 : n + m = n2) (hzs : xs ++ ys = zs) (hsum : n2 ≤ 1000001) (hbase : base ≤ w.heap.size)
    (h : ∀ v' w', OwnE 33 w' base v' zs → w.grownBy w' v.ownBlock → K (ac.put o.dst v') w') :
    if Region.wanted o (yielded ops ac.tmps) = true then Oper.wp Tryd.prog o ac w K Q else E := by
  rw [if_pos hw]
  exact wp_append_manyR s x ho base v xs n hn hs hown ax m c ys hm hx hy n2 zs hn2 hzs hsum hbase h
theorem wpList_append_manyR {w : World} {ops : Array Oper} {rest : List Oper} {o : Oper} {ac : Act} {Q : Exit → Act → World → Prop} (hgd : o.guard = none) (s x : Operand)
    (ho : o.op = .call { callee := .builtin .append, args := #[s, x], argTypes := #[22, 22] })
    (base : Nat) (v : Value) (xs : List TE) (n : Nat) (hn : xs.length = n) (hs : ac.eval s = v) (hown : OwnE 33 w base v xs) (ax : Option Addr) (m c : Nat) (ys : List TE) (hm : ys.length = m)
    (hx : ac.eval x = .slice ax m c) (hy : EsAt w ax ys) (n2 : Nat) (zs : List TE) (hn2 : n + m = n2) (hzs : xs ++ ys = zs) (hsum : n2 ≤ 1000001) (hbase : base ≤ w.heap.size)
    (h : ∀ v' w', OwnE 33 w' base v' zs → w.grownBy w' v.ownBlock → wpList Tryd.prog ops Q rest (ac.put o.dst v') w') :
    wpList Tryd.prog ops Q (o :: rest) ac w :=
  wpList_plain hgd fun _ hK => wp_append_manyR s x ho base v xs n hn hs hown ax m c ys hm hx hy n2 zs hn2 hzs hsum hbase fun v' w' h1 h2 => hK _ _ (h v' w' h1 h2)
theorem wp_append_many {w : World} {o : Oper} {ac : Act} {K : Act → World → Prop} {Q : Exit → Act → World → Prop} (s x : Operand)
    (ho : o.op = .call { callee := .builtin .append, args := #[s, x], argTypes := #[23, 23] })
    (base : Nat) (v : Value) (xs : List TE) (n : Nat) (hn : xs.length = n) (hs : ac.eval s = v) (hown : OwnE 30 w base v xs) (ax : Option Addr) (m c : Nat) (ys : List TE) (hm : ys.length = m)
    (hx : ac.eval x = .slice ax m c) (hy : EsAt w ax ys) (n2 : Nat) (zs : List TE) (hn2 : n + m = n2) (hzs : xs ++ ys = zs) (hsum : n2 ≤ 1000001) (hbase : base ≤ w.heap.size)
    (h : ∀ v' w', OwnE 30 w' base v' zs → w.grownBy w' v.ownBlock → K (ac.put o.dst v') w') :
    Oper.wp Tryd.prog o ac w K Q := by
  by_cases h0 : m = 0
  · subst h0
    have e : ys = [] := List.length_eq_zero_iff.1 hm
    subst e hzs
    rw [List.append_nil] at h
    obtain ⟨i, hi, -⟩ := parts_ent
    have hrun := run_append_zero (P := Tryd.prog) w base 23 o.type 30 i 22 (Tryd.underlying23) hi v _ _ hown.1 ax c
    unfold Oper.wp
    simp [execOp, ho, resolve, invoke, builtin, hs, hx, hrun, Result.andThen]
    exact h v w hown (grown_refl w _)
  · obtain ⟨b, off, rfl, hb, hc⟩ := hy.rows.resolve_left (by omega)
    exact wp_append_ents s x ho base v xs n hn hs hown b off m c ys hm (by omega) (fun y hy' => hy.each y hy') hx hc n2 zs hn2 hzs hsum hbase fun g c w' h1 h2 _ _ => h _ w' h1 h2
theorem step_append_many {w : World} {ops : Array Oper} {o : Oper} {ac : Act} {K : Act → World → Prop} {Q : Exit → Act → World → Prop} {E : Prop} (hw : Region.wanted o (yielded ops ac.tmps) = true) (s x : Operand)
    (ho : o.op = .call { callee := .builtin .append, args := #[s, x], argTypes := #[23, 23] })
    (base : Nat) (v : Value) (xs : List TE) (n : Nat) (hn : xs.length = n) (hs : ac.eval s = v) (hown : OwnE 30 w base v xs) (ax : Option Addr) (m c : Nat) (ys : List TE) (hm : ys.length = m)
    (hx : ac.eval x = .slice ax m c) (hy : EsAt w ax ys) (n2 : Nat) (zs : List TE) (hn2 : n + m = n2) (hzs : xs ++ ys = zs) (hsum : n2 ≤ 1000001) (hbase : base ≤ w.heap.size)
    (h : ∀ v' w', OwnE 30 w' base v' zs → w.grownBy w' v.ownBlock → K (ac.put o.dst v') w') :
    if Region.wanted o (yielded ops ac.tmps) = true then Oper.wp Tryd.prog o ac w K Q else E := by
  rw [if_pos hw]
  exact wp_append_many s x ho base v xs n hn hs hown ax m c ys hm hx hy n2 zs hn2 hzs hsum hbase h
theorem wpList_append_many {w : World} {ops : Array Oper} {rest : List Oper} {o : Oper} {ac : Act} {Q : Exit → Act → World → Prop} (hgd : o.guard = none) (s x : Operand)
    (ho : o.op = .call { callee := .builtin .append, args := #[s, x], argTypes := #[23, 23] })
    (base : Nat) (v : Value) (xs : List TE) (n : Nat) (hn : xs.length = n) (hs : ac.eval s = v) (hown : OwnE 30 w base v xs) (ax : Option Addr) (m c : Nat) (ys : List TE) (hm : ys.length = m)
    (hx : ac.eval x = .slice ax m c) (hy : EsAt w ax ys) (n2 : Nat) (zs : List TE) (hn2 : n + m = n2) (hzs : xs ++ ys = zs) (hsum : n2 ≤ 1000001) (hbase : base ≤ w.heap.size)
    (h : ∀ v' w', OwnE 30 w' base v' zs → w.grownBy w' v.ownBlock → wpList Tryd.prog ops Q rest (ac.put o.dst v') w') :
    wpList Tryd.prog ops Q (o :: rest) ac w :=
  wpList_plain hgd fun _ hK => wp_append_many s x ho base v xs n hn hs hown ax m c ys hm hx hy n2 zs hn2 hzs hsum hbase fun v' w' h1 h2 => hK _ _ (h v' w' h1 h2)
set_option maxRecDepth 100000 in
set_option maxHeartbeats 16000000 in
theorem refsort_any (a : Option Addr) (c : Nat) (xs : List TE) (w : World) (h : EsAt w a xs) (hn : xs.length ≤ 100000) (hp : ∀ z ∈ xs, z.p.size ≤ 100000) :
    Calls Tryd.prog 14 #[.slice a xs.length c] w fun e w' => (∃ v, e = .returned v ∧ OwnE 33 w' w.heap.size v (sortS ltT xs)) ∧ Below w.heap.size w w' := by
  have H0 := Lib.hid h
  have HPS := Lib.hid hp
  obtain ⟨n, hnl⟩ : ∃ n, xs.length = n := ⟨_, rfl⟩
  have HNL := Lib.hid hnl
  have HNB : Hid (n ≤ 100000) := by rw [← hnl]; exact hn
  rw [hnl]
  clear h hn hp hnl
  go_enter Tryd.func14, Tryd.ntmps14
  go_wp2_with fail
  go_loopw [3, 4, 5, 6] (fun ov iv kv nv wr => ∃ i : Nat, iv = .int .i64 (i : Int) ∧ i ≤ n ∧ OwnE 33 wr w.heap.size ov (sortS ltT (xs.take i)) ∧ Below w.heap.size w wr) (fun _ iv _ _ _ => n - (intOf iv).toNat)
  case atStart => exact ⟨0, rfl, Nat.zero_le _, nilE _ _, Below.refl _ _⟩
  case round =>
    obtain ⟨i, rfl, hin, ho, hbl⟩ := hrel
    have HB := Lib.hid hbl
    by_cases hi : i < n
    · have hii : (i : Int) < (n : Int) := by omega
      obtain ⟨X, hX⟩ : ∃ X, sortS ltT (xs.take i) = X := ⟨_, rfl⟩
      have HXE := Lib.hid hX
      have HX : Hid (Srt ltT X) := by rw [← hX]; exact sortS_sorted ltT_swo _ _ rfl
      have hxl : X.length = i := by rw [← hX, sortS_len, List.length_take]; have := HNL.out; omega
      have HXP : Hid (∀ x ∈ X, x.p.size ≤ 100000) := fun x hx => by
        rw [← hX] at hx
        exact HPS.out x (List.mem_of_mem_take ((sortS_perm _ _ rfl).mem_iff.1 hx))
      rw [hX] at ho
      obtain ⟨oa, oc, rfl, hat, hoc, -⟩ := ho.at
      rw [hxl] at ho hoc ⊢
      have HO := Lib.hid ho
      have HAT := Lib.hid hat
      have HXL := Lib.hid hxl
      have HOC := Lib.hid hoc
      have HNI : Hid (i < n ∧ i ≤ 100000) := ⟨hi, by have := HNB.out; omega⟩
      obtain ⟨b, off, y, rfl, hy, hy20, hbl2, hry⟩ := (H0.out.below HB.out).at (show i < xs.length by rw [HNL.out]; exact hi)
      have HY := Lib.hid hy
      have Hy : Hid (y.n.length = 20) := hy20
      have Hyp : Hid (y.p.size ≤ 100000) := HPS.out y (List.mem_of_getElem? hy)
      have HRY := Lib.hid hry
      have HBL := Lib.hid hbl2
      have HIN := Lib.hid (next_int i (by have := HNI.out; omega))
      clear ho hat hxl hoc hX hi hin hbl hy hy20 hry hbl2
      go_upto_block 2 with fail
      go_cut [5] from 7 to 47 (fun kv wx => ∃ k : Nat, kv = .int .i64 (k : Int) ∧ k ≤ i ∧ sortS ltT (xs.take (i + 1)) = X.take k ++ y :: X.drop k ∧ Below wr.heap.size wr wx)
      case first =>
        go_wp2_with fail
        go_loopw [5] (fun kv wq => ∃ q : Nat, kv = .int .i64 (q : Int) ∧ q ≤ i ∧ (∀ x, X[q]? = some x → ltT y x = true) ∧ Below wr.heap.size wr wq) (fun kv _ => (intOf kv).toNat)
        case atStart => exact ⟨i, rfl, Nat.le_refl _, (fun x hx => by rw [List.getElem?_eq_none (by rw [HXL.out]; omega)] at hx; cases hx), Below.refl _ _⟩
        case round =>
          rename World => wq
          obtain ⟨q, rfl, hqi, hseen, hbq⟩ := hrel
          have HSEEN := Lib.hid hseen
          have HBQ := Lib.hid hbq
          have HQI : Hid (q ≤ i) := hqi
          have HEND : Hid (∀ k, k ≤ i → (∀ x, 0 < k → X[k - 1]? = some x → ltT y x = false) → (∀ x, X[k]? = some x → ltT y x = true) → sortS ltT (xs.take (i + 1)) = X.take k ++ y :: X.drop k) := fun k hk h1 h2 => by
            rw [block_step xs i y HY.out, HXE.out]
            exact one_right ltT_swo HX.out k (by rw [HXL.out]; exact hk) h1 h2
          clear hseen hbq
          cases q with
          | zero =>
            have HE := Lib.hid (HEND.out 0 hqi (fun x h => absurd h (by omega)) HSEEN.out)
            rw [show ((0 : Nat) : Int) = 0 from rfl]
            clear hqi
            go_wp2_with fail
            refine wp_region_noPanic ?_
            refine wp_region_held_drew (S := fun _ => True) (by kernel_rfl) ?_ (fun hHeld => ?_)
            · exact True.intro
            refine wpAnyH_take (i := 0) (v := ?_) (by simp only [List.getElem?_toArray, List.getElem?_cons_zero]; rfl) (by kernel_rfl) (by kernel_rfl) (by kernel_rfl) (fun _ _ _ h => h) (Or.inl ⟨by rfl, ?_⟩) (by assumption) ?_
            rotate_left
            · intro W hSW
              go_simp
              try with_reducible rfl
            try simp only [Act.put, List.setIfInBounds_toArray, List.set_cons_zero, List.set_cons_succ]
            refine wpAnyH_take (i := 1) (v := ?_) (by simp only [List.getElem?_toArray, List.getElem?_cons_succ, List.getElem?_cons_zero]; rfl) (by kernel_rfl) (by kernel_rfl) (by kernel_rfl) (fun _ _ _ h => h) (Or.inl ⟨by rfl, ?_⟩) (by assumption) ?_
            rotate_left
            · intro W hSW
              go_simp
              try with_reducible rfl
            try simp only [Act.put, List.setIfInBounds_toArray, List.set_cons_zero, List.set_cons_succ]
            refine wpAnyH_take (i := 2) (v := ?_) (by simp only [List.getElem?_toArray, List.getElem?_cons_succ, List.getElem?_cons_zero]; rfl) (by kernel_rfl) (by kernel_rfl) (by kernel_rfl) (fun _ _ _ h => h) (Or.inl ⟨by rfl, ?_⟩) (by assumption) ?_
            rotate_left
            · intro W hSW
              go_simp
              try with_reducible rfl
            try simp only [Act.put, List.setIfInBounds_toArray, List.set_cons_zero, List.set_cons_succ]
            refine wpAnyH_take (i := 3) (v := undef) (by simp only [List.getElem?_toArray, List.getElem?_cons_succ, List.getElem?_cons_zero]; rfl) (by kernel_rfl) (by kernel_rfl) (by kernel_rfl) (fun _ _ _ h => h) (Or.inr ⟨by rfl, rfl⟩) (by assumption) ?_
            try simp only [Act.put, List.setIfInBounds_toArray, List.set_cons_zero, List.set_cons_succ]
            refine wpAnyH_take (i := 4) (v := undef) (by simp only [List.getElem?_toArray, List.getElem?_cons_succ, List.getElem?_cons_zero]; rfl) (by kernel_rfl) (by kernel_rfl) (by kernel_rfl) (fun _ _ _ h => h) (Or.inr ⟨by rfl, rfl⟩) (by assumption) ?_
            try simp only [Act.put, List.setIfInBounds_toArray, List.set_cons_zero, List.set_cons_succ]
            refine wpAnyH_take (i := 5) (v := undef) (by simp only [List.getElem?_toArray, List.getElem?_cons_succ, List.getElem?_cons_zero]; rfl) (by kernel_rfl) (by kernel_rfl) (by kernel_rfl) (fun _ _ _ h => h) (Or.inr ⟨by rfl, rfl⟩) (by assumption) ?_
            try simp only [Act.put, List.setIfInBounds_toArray, List.set_cons_zero, List.set_cons_succ]
            refine wpAnyH_take (i := 6) (v := undef) (by simp only [List.getElem?_toArray, List.getElem?_cons_succ, List.getElem?_cons_zero]; rfl) (by kernel_rfl) (by kernel_rfl) (by kernel_rfl) (fun _ _ _ h => h) (Or.inr ⟨by rfl, rfl⟩) (by assumption) ?_
            try simp only [Act.put, List.setIfInBounds_toArray, List.set_cons_zero, List.set_cons_succ]
            refine wpAnyH_take (i := 7) (v := undef) (by simp only [List.getElem?_toArray, List.getElem?_cons_succ, List.getElem?_cons_zero]; rfl) (by kernel_rfl) (by kernel_rfl) (by kernel_rfl) (fun _ _ _ h => h) (Or.inr ⟨by rfl, rfl⟩) (by assumption) ?_
            try simp only [Act.put, List.setIfInBounds_toArray, List.set_cons_zero, List.set_cons_succ]
            refine wpAnyH_take (i := 8) (v := undef) (by simp only [List.getElem?_toArray, List.getElem?_cons_succ, List.getElem?_cons_zero]; rfl) (by kernel_rfl) (by kernel_rfl) (by kernel_rfl) (fun _ _ _ h => h) (Or.inr ⟨by rfl, rfl⟩) (by assumption) ?_
            try simp only [Act.put, List.setIfInBounds_toArray, List.set_cons_zero, List.set_cons_succ]
            refine wpAnyH_take (i := 9) (v := undef) (by simp only [List.getElem?_toArray, List.getElem?_cons_succ, List.getElem?_cons_zero]; rfl) (by kernel_rfl) (by kernel_rfl) (by kernel_rfl) (fun _ _ _ h => h) (Or.inr ⟨by rfl, rfl⟩) (by assumption) ?_
            try simp only [Act.put, List.setIfInBounds_toArray, List.set_cons_zero, List.set_cons_succ]
            refine wpAnyH_take (i := 10) (v := undef) (by simp only [List.getElem?_toArray, List.getElem?_cons_succ, List.getElem?_cons_zero]; rfl) (by kernel_rfl) (by kernel_rfl) (by kernel_rfl) (fun _ _ _ h => h) (Or.inr ⟨by rfl, rfl⟩) (by assumption) ?_
            try simp only [Act.put, List.setIfInBounds_toArray, List.set_cons_zero, List.set_cons_succ]
            refine wpAnyH_take (i := 11) (v := undef) (by simp only [List.getElem?_toArray, List.getElem?_cons_succ, List.getElem?_cons_zero]; rfl) (by kernel_rfl) (by kernel_rfl) (by kernel_rfl) (fun _ _ _ h => h) (Or.inr ⟨by rfl, rfl⟩) (by assumption) ?_
            try simp only [Act.put, List.setIfInBounds_toArray, List.set_cons_zero, List.set_cons_succ]
            refine wpAnyH_take (i := 12) (v := undef) (by simp only [List.getElem?_toArray, List.getElem?_cons_succ, List.getElem?_cons_zero]; rfl) (by kernel_rfl) (by kernel_rfl) (by kernel_rfl) (fun _ _ _ h => h) (Or.inr ⟨by rfl, rfl⟩) (by assumption) ?_
            try simp only [Act.put, List.setIfInBounds_toArray, List.set_cons_zero, List.set_cons_succ]
            refine wpAnyH_take (i := 13) (v := ?_) (by simp only [List.getElem?_toArray, List.getElem?_cons_succ, List.getElem?_cons_zero]; rfl) (by kernel_rfl) (by kernel_rfl) (by kernel_rfl) (fun _ _ _ h => h) (Or.inl ⟨by rfl, ?_⟩) (by assumption) ?_
            rotate_left
            · intro W hSW
              go_simp
              try with_reducible rfl
            try simp only [Act.put, List.setIfInBounds_toArray, List.set_cons_zero, List.set_cons_succ]
            refine wpAnyH_done (by kernel_rfl) ?_ _
            refine NoPanic.normal ?_
            clear hHeld
            go_wp2_with fail
            go_meet
            exact ⟨0, rfl, Nat.zero_le _, HE.out, HBQ.out.drew⟩
          | succ p =>
            obtain ⟨q, hq⟩ : ∃ q, p + 1 = q := ⟨_, rfl⟩
            obtain ⟨bo, oo, x, rfl, hx, hx20, hbo, hrx⟩ := (HAT.out.below HBQ.out).at (show p < X.length by rw [HXL.out]; omega)
            have HXX := Lib.hid hx
            have Hx : Hid (x.n.length = 20) := hx20
            have Hxp : Hid (x.p.size ≤ 100000) := HXP.out x (List.mem_of_getElem? hx)
            have HRXq : Hid (wq.drew.rangeAt bo (oo + p * 22) (entL x)) := hrx
            have HBOq : Hid (bo < wq.drew.heap.size) := hbo
            have HRYq : Hid (wq.drew.rangeAt b (off + i * 22) (entL y)) := range_below HRY.out HBQ.out.drew HBL.out
            have HBLq : Hid (b < wq.drew.heap.size) := Nat.lt_of_lt_of_le HBL.out HBQ.out.size
            have HPQ : Hid (q = p + 1 ∧ p < i) := ⟨hq.symm, by omega⟩
            have hq0 : (0 : Int) < (q : Int) := by omega
            have hq00 : 0 < q := by omega
            have hp0 : (0 : Int) ≤ (p : Int) := Int.natCast_nonneg p
            have hpi : (p : Int) < (i : Int) := by omega
            have hi0 : (0 : Int) ≤ (i : Int) := Int.natCast_nonneg i
            have e1 : (q : Int) - 1 = (p : Int) := by omega
            have bp : -9223372036854775808 ≤ (p : Int) ∧ (p : Int) ≤ 9223372036854775807 := by have := HNI.out; omega
            have HW1 : Hid (wrap64 ((q : Int) - 1) = (p : Int)) := by rw [e1]; exact w64 _ bp.1 bp.2
            have HV1 : Hid (IntKind.i64.wrap ((q : Int) - 1) = (p : Int)) := by rw [e1]; exact w64k _ bp.1 bp.2
            have HSE : Hid (∀ x, X[q]? = some x → ltT y x = true) := by rw [← hq]; exact HSEEN.out
            rw [hq]
            clear hx hx20 hrx hbo hqi e1 bp hq HSEEN
            have hw1 := HW1.out
            have hv1 := HV1.out
            go_wp2_with fail
            refine wp_region_noPanic ?_
            refine wp_region_held_drew (S := fun W => W.rangeAt b (off + i * 22) (entL y) ∧ W.rangeAt bo (oo + p * 22) (entL x)) (by kernel_rfl) ?_ (fun hHeld => ?_)
            · exact ⟨HRYq.out, HRXq.out⟩
            refine wpAnyH_take (i := 0) (v := ?_) (by simp only [List.getElem?_toArray, List.getElem?_cons_zero]; rfl) (by kernel_rfl) (by kernel_rfl) (by kernel_rfl) (fun _ _ _ h => h) (Or.inl ⟨by rfl, ?_⟩) (by assumption) ?_
            rotate_left
            · intro W hSW
              go_simp
              try with_reducible rfl
            try simp only [Act.put, List.setIfInBounds_toArray, List.set_cons_zero, List.set_cons_succ]
            refine wpAnyH_take (i := 1) (v := ?_) (by simp only [List.getElem?_toArray, List.getElem?_cons_succ, List.getElem?_cons_zero]; rfl) (by kernel_rfl) (by kernel_rfl) (by kernel_rfl) (fun _ _ _ h => h) (Or.inl ⟨by rfl, ?_⟩) (by assumption) ?_
            rotate_left
            · intro W hSW
              go_simp
              try with_reducible rfl
            try simp only [Act.put, List.setIfInBounds_toArray, List.set_cons_zero, List.set_cons_succ]
            refine wpAnyH_take (i := 2) (v := ?_) (by simp only [List.getElem?_toArray, List.getElem?_cons_succ, List.getElem?_cons_zero]; rfl) (by kernel_rfl) (by kernel_rfl) (by kernel_rfl) (fun _ _ _ h => h) (Or.inl ⟨by rfl, ?_⟩) (by assumption) ?_
            rotate_left
            · intro W hSW
              go_simp
              try with_reducible rfl
            try simp only [Act.put, List.setIfInBounds_toArray, List.set_cons_zero, List.set_cons_succ]
            refine wpAnyH_take (i := 3) (v := ?_) (by simp only [List.getElem?_toArray, List.getElem?_cons_succ, List.getElem?_cons_zero]; rfl) (by kernel_rfl) (by kernel_rfl) (by kernel_rfl) (fun _ _ _ h => h) (Or.inl ⟨by rfl, ?_⟩) (by assumption) ?_
            rotate_left
            · intro W hSW
              go_simp
              try with_reducible rfl
            try simp only [Act.put, List.setIfInBounds_toArray, List.set_cons_zero, List.set_cons_succ]
            refine wpAnyH_take (i := 4) (v := ?_) (by simp only [List.getElem?_toArray, List.getElem?_cons_succ, List.getElem?_cons_zero]; rfl) (by kernel_rfl) (by kernel_rfl) (by kernel_rfl) (fun _ _ _ h => h) (Or.inl ⟨by rfl, ?_⟩) (by assumption) ?_
            rotate_left
            · intro W hSW
              go_simp
              try with_reducible rfl
            try simp only [Act.put, List.setIfInBounds_toArray, List.set_cons_zero, List.set_cons_succ]
            refine wpAnyH_take (i := 5) (v := ?_) (by simp only [List.getElem?_toArray, List.getElem?_cons_succ, List.getElem?_cons_zero]; rfl) (by kernel_rfl) (by kernel_rfl) (by kernel_rfl) (fun _ _ _ h => h) (Or.inl ⟨by rfl, ?_⟩) (by assumption) ?_
            rotate_left
            · intro W hSW
              go_simp
              try with_reducible rfl
            try simp only [Act.put, List.setIfInBounds_toArray, List.set_cons_zero, List.set_cons_succ]
            refine wpAnyH_take (i := 6) (by simp only [List.getElem?_toArray, List.getElem?_cons_succ, List.getElem?_cons_zero]; rfl) (by kernel_rfl) (by kernel_rfl) (by kernel_rfl) (fun _ _ _ h => h) (yieldsIf_load_mid (by rfl) 33 _ rfl b (off + i * 22) rfl (entL y) _ (fun W h => h.1) Tryd.underlying33 rfl (rent_infoL y Hy.out)) (by assumption) ?_
            try simp only [Act.put, List.setIfInBounds_toArray, List.set_cons_zero, List.set_cons_succ]
            refine wpAnyH_take (i := 7) (v := ?_) (by simp only [List.getElem?_toArray, List.getElem?_cons_succ, List.getElem?_cons_zero]; rfl) (by kernel_rfl) (by kernel_rfl) (by kernel_rfl) (fun _ _ _ h => h) (Or.inl ⟨by rfl, ?_⟩) (by assumption) ?_
            rotate_left
            · intro W hSW
              go_simp
              try with_reducible rfl
            try simp only [Act.put, List.setIfInBounds_toArray, List.set_cons_zero, List.set_cons_succ]
            refine wpAnyH_take (i := 8) (v := ?_) (by simp only [List.getElem?_toArray, List.getElem?_cons_succ, List.getElem?_cons_zero]; rfl) (by kernel_rfl) (by kernel_rfl) (by kernel_rfl) (fun _ _ _ h => h) (Or.inl ⟨by rfl, ?_⟩) (by assumption) ?_
            rotate_left
            · intro W hSW
              go_simp
              try with_reducible rfl
            try simp only [Act.put, List.setIfInBounds_toArray, List.set_cons_zero, List.set_cons_succ]
            refine wpAnyH_take (i := 9) (v := ?_) (by simp only [List.getElem?_toArray, List.getElem?_cons_succ, List.getElem?_cons_zero]; rfl) (by kernel_rfl) (by kernel_rfl) (by kernel_rfl) (fun _ _ _ h => h) (Or.inl ⟨by rfl, ?_⟩) (by assumption) ?_
            rotate_left
            · intro W hSW
              go_simp
              try with_reducible rfl
            try simp only [Act.put, List.setIfInBounds_toArray, List.set_cons_zero, List.set_cons_succ]
            refine wpAnyH_take (i := 10) (v := ?_) (by simp only [List.getElem?_toArray, List.getElem?_cons_succ, List.getElem?_cons_zero]; rfl) (by kernel_rfl) (by kernel_rfl) (by kernel_rfl) (fun _ _ _ h => h) (Or.inl ⟨by rfl, ?_⟩) (by assumption) ?_
            rotate_left
            · intro W hSW
              go_simp
              try with_reducible rfl
            try simp only [Act.put, List.setIfInBounds_toArray, List.set_cons_zero, List.set_cons_succ]
            refine wpAnyH_take (i := 11) (by simp only [List.getElem?_toArray, List.getElem?_cons_succ, List.getElem?_cons_zero]; rfl) (by kernel_rfl) (by kernel_rfl) (by kernel_rfl) (fun _ _ _ h => h) (yieldsIf_load_mid (by rfl) 33 _ rfl bo (oo + p * 22) rfl (entL x) _ (fun W h => h.2) Tryd.underlying33 rfl (rent_infoL x Hx.out)) (by assumption) ?_
            try simp only [Act.put, List.setIfInBounds_toArray, List.set_cons_zero, List.set_cons_succ]
            refine wpAnyH_ready (rs := [12]) (by kernel_rfl) (by simp) ?_
            refine AllReadyH.cons (by simp only [List.getElem?_toArray, List.getElem?_cons_succ, List.getElem?_cons_zero]; rfl) (fun K hK => ?_) AllReadyH.nil
            go_simp
            refine (refless_any y x Hyp.out Hxp.out _).mono ?_
            rintro e v1 ⟨rfl, hb⟩
            have HFV := Lib.hid hb
            clear hb
            go_wp2_with fail
            refine hK.out _ _ (⟨range_below HRYq.out HFV.out HBLq.out, range_below HRXq.out HFV.out HBOq.out⟩) (fun hHeld2 => ?_)
            clear hK K hHeld
            have hHeld := hHeld2
            clear hHeld2
            try simp only [Act.put, List.setIfInBounds_toArray, List.set_cons_zero, List.set_cons_succ]
            refine wpAnyH_take (i := 13) (v := ?_) (by simp only [List.getElem?_toArray, List.getElem?_cons_succ, List.getElem?_cons_zero]; rfl) (by kernel_rfl) (by kernel_rfl) (by kernel_rfl) (fun _ _ _ h => h) (Or.inl ⟨by rfl, ?_⟩) (by assumption) ?_
            rotate_left
            · intro W hSW
              go_simp
              try with_reducible rfl
            try simp only [Act.put, List.setIfInBounds_toArray, List.set_cons_zero, List.set_cons_succ]
            refine wpAnyH_done (by kernel_rfl) ?_ _
            refine NoPanic.normal ?_
            clear hHeld
            have HBV : Hid (Below wr.heap.size wr v1) := HBQ.out.drew.trans (HFV.out.mono HBQ.out.size)
            cases hl : ltT y x
            · have HE := Lib.hid (HEND.out q (by have := HPQ.out; omega) (fun z _ hz => by rw [HPQ.out.1, Nat.add_sub_cancel, HXX.out] at hz; cases hz; exact hl) HSE.out)
              have HL := Lib.hid hl
              clear hl
              simp only [show ltB (keyT y) (keyT x) = false from HL.out]
              go_wp2_with fail
              go_meet
              exact ⟨q, rfl, by have := HPQ.out; omega, HE.out, HBV.out⟩
            · have HS2 : Hid (∀ z, X[p]? = some z → ltT y z = true) := fun z hz => by rw [HXX.out] at hz; cases hz; exact hl
              have HL := Lib.hid hl
              clear hl
              simp only [show ltB (keyT y) (keyT x) = true from HL.out]
              go_wp2_with fail
              exact ⟨⟨p, by first | rw [HW1.out] | rfl, by have := HPQ.out; omega, HS2.out, HBV.out⟩, by have := HPQ.out; (first | rw [HW1.out] | skip); simp [intOf]; omega⟩
      case rest =>
      obtain ⟨k, rfl, hki, hse, hbw⟩ := hcut
      generalize wc = w1 at *
      have HSE := Lib.hid hse
      have HBW := Lib.hid hbw
      have HKI : Hid (k ≤ i) := hki
      have HXA : Hid (EsAt w1 oa X) := HAT.out.below HBW.out
      have HZB : Hid (Below w1.heap.size w1 (w1.alloc (.cells #[] 33))) := (Below.refl _ _).alloc (Nat.le_refl _) _
      have HZ : Hid (OwnE 33 (w1.alloc (.cells #[] 33)) w1.heap.size (.slice (some ⟨w1.heap.size, 0, none⟩) 0 0) ([])) := OwnE.emptyR w1
      have hs1 := fun W => slice_toER oa i oc k (by have := HOC.out; omega) W
      have tok : True := trivial
      clear hki hse hbw
      go_wp2_with (first
        | refine wpList_slice (by rfl) _ _ _ rfl #[] (by simp) _ _ (slice_noER w1) ?_
        | (have _t := tok; at_builtin; clear tok; refine Hid.out ?_))
      refine unhid ?_
      refine wpList_append_manyR rfl _ _ rfl w1.heap.size _ [] 0 rfl rfl HZ.out oa k oc (X.take k) (by rw [List.length_take, HXL.out]; have := HKI.out; omega) rfl ((HXA.out.below HZB.out).take k) k (X.take k) (Nat.zero_add _) rfl (by have := HKI.out; have := HNI.out; omega) (by simp) (fun va w2 ho hg => ?_)
      have HO2 : Hid (OwnE 33 w2 w1.heap.size va (X.take k)) := ho
      have HB2 : Hid (Below w1.heap.size w1 w2) := HZB.out.trans (own_off HZ.out (by simp) hg)
      clear ho hg hs1
      have tok : True := trivial
      have HRY2 : Hid (w2.rangeAt b (off + i * 22) (entL y)) := range_below HRY.out (HBW.out.trans (HB2.out.mono HBW.out.size)) HBL.out
      have HBX : Hid (Below w2.heap.size w2 (w2.alloc (.cells (entA y) 33))) := (Below.refl _ _).alloc (Nat.le_refl _) _
      have HO2b : Hid (OwnE 33 (w2.alloc (.cells (entA y) 33)) w1.heap.size va (X.take k)) := HO2.out.below HBX.out
      have HEY : Hid (EsAt (w2.alloc (.cells (entA y) 33)) (some ⟨w2.heap.size, 0, none⟩) [y]) := by
        have e := ents_box w2 [y] 33 (one_20 Hy.out)
        rw [flatE_one] at e
        exact e
      have hi0 : (0 : Int) ≤ (i : Int) := Int.natCast_nonneg i
      go_wp2_with (first
        | refine wpList_load_e (by rfl) 33 _ rfl b (off + i * 22) rfl y _ HRY2.out Tryd.underlying33 rfl (rent_infoL y Hy.out) ?_
        | refine wpList_slice (by rfl) _ _ _ rfl #[(0, .agg (entA y))] (map_oneR _ _ _ rfl) _ _ (slice_rent y Hy.out w2) ?_
        | (have _t := tok; at_builtin; clear tok; refine Hid.out ?_))
      refine unhid ?_
      refine wpList_append_manyR rfl _ _ rfl w1.heap.size va (X.take k) k (by rw [List.length_take, HXL.out]; have := HKI.out; omega) rfl HO2b.out _ 1 1 [y] rfl rfl HEY.out (k + 1) (X.take k ++ [y]) rfl rfl (by have := HKI.out; have := HNI.out; omega) (Nat.le_trans HB2.out.size HBX.out.size) (fun vb w3 ho hg => ?_)
      have HO3 : Hid (OwnE 33 w3 w1.heap.size vb (X.take k ++ [y])) := ho
      have HB3 : Hid (Below w1.heap.size w1 w3) := (HB2.out.trans (HBX.out.mono HB2.out.size)).trans (own_off HO2b.out (Nat.le_trans HB2.out.size HBX.out.size) hg)
      clear ho hg hi0 HRY2 HBX HO2b HEY HO2 HB2
      have tok : True := trivial
      have hs2 := fun W => slice_fromER oa i oc k HKI.out HOC.out W
      go_wp2_with (have _t := tok; at_builtin; clear tok; refine Hid.out ?_)
      refine unhid ?_
      refine wpList_append_manyR rfl _ _ rfl w1.heap.size vb (X.take k ++ [y]) (k + 1) (by rw [List.length_append, List.length_take, HXL.out]; have := HKI.out; simp; omega) rfl HO3.out (subE oa oc k) (i - k) (oc - k) (X.drop k) (by rw [List.length_drop, HXL.out]) rfl ((HXA.out.below HB3.out).drop oc k (by rw [HXL.out]; exact HOC.out) (by rw [HXL.out]; exact HKI.out)) (i + 1) (sortS ltT (xs.take (i + 1))) (by have := HKI.out; omega) (by rw [HSE.out]; simp) (by have := HNI.out; omega) HB3.out.size (fun vc w4 ho hg => ?_)
      have HO4 : Hid (OwnE 33 w4 w1.heap.size vc (sortS ltT (xs.take (i + 1)))) := ho
      have HB4 : Hid (Below w1.heap.size w1 w4) := HB3.out.trans (own_off HO3.out HB3.out.size hg)
      clear ho hg hs2
      go_wp2_with fail
      first
        | (go_roundw
           case measure => have := HNI.out; (first | rw [HIN.out _ rfl] | skip); simp [intOf]; omega
           case rel =>
             (repeat apply Exists.intro)
             exact ⟨⟨by first | rw [HIN.out _ rfl] | rfl, by have := HNI.out; omega, HO4.out.lower (Nat.le_trans HB.out.size HBW.out.size), HB.out.trans ((HBW.out.trans (HB4.out.mono HBW.out.size)).mono HB.out.size)⟩, rfl⟩)
        | exact ⟨⟨i + 1, by first | rw [HIN.out _ rfl] | rfl, by have := HNI.out; omega, HO4.out.lower (Nat.le_trans HB.out.size HBW.out.size), HB.out.trans ((HBW.out.trans (HB4.out.mono HBW.out.size)).mono HB.out.size)⟩, by have := HNI.out; (first | rw [HIN.out _ rfl] | skip); simp [intOf]; omega⟩
        | (trace_state; sorry)
    · have hii : ¬ (i : Int) < (n : Int) := by omega
      obtain rfl : i = n := by omega
      have HO : Hid (OwnE 33 wr w.heap.size u3 (sortS ltT xs)) := by
        rw [List.take_of_length_le (by rw [HNL.out]; omega)] at ho
        exact ho
      clear ho hbl hin hi
      go_wp2_with fail
      go_ret
      exact ⟨⟨_, rfl, HO.out⟩, HB.out⟩
end Go.Proofs.YthemolkmciofaaaDoor
