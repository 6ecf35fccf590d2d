/- A tree's entries in order: slices.SortStableFunc, slices.Clone, tree.Sort. -/
import Derived.Test.YthemolkmciofaaaDoorTzStab
import Derived.Test.YthemolkmciofaaaDoorTrSome
namespace Go.Proofs.YthemolkmciofaaaDoor
open Go.RowKit Plain Go.ChangeShapes Go.WideShapes Go.ChangeAt Go.Great
set_option linter.unusedVariables false
set_option linter.unusedSimpArgs false
theorem run_append_zero {P : Program} (w : World) (base : Nat) (t ty e : TypeId) (i : TypeInfo) (size : Nat) (ht : P.underlying t = some (.slice e)) (hi : P.info? e = some i)
    (v : Value) (n : Nat) (xs : List Value) (hown : w.ownsRow base e size v n xs) (x : Option Addr) (cx : Nat) :
    (Builtin.append_ #[t, t] ty #[v, .slice x 0 cx]).run P w = .ok v w := by
  rcases hown.2 with ⟨rfl, rfl⟩ | ⟨g, cap, cur, rfl, _, _, hnc, _⟩ <;> cases x <;>
    simp [Builtin.append_, run_underlying ht, sizeOf, typeInfo, hi, Builtin.lenOf, Builtin.firstCells, storeCells, loadCells, loadCellsFrom, *]
theorem wpList_append_zeroE {w : World} {ops : Array Oper} {rest : List Oper} {o : Oper} {a : Act} {Q : Exit → Act → World → Prop} (hgd : o.guard = none) (s x : Operand) (t : TypeId)
    (ho : o.op = .call { callee := .builtin .append, args := #[s, x], argTypes := #[t, t] }) (base : Nat) (e : TypeId) (hu : Tryd.prog.underlying t = some (.slice e)) {i : TypeInfo} (hi : Tryd.prog.info? e = some i) (v : Value) (xs : List TE) (hs : a.eval s = v) (hown : OwnE e w base v xs) (x0 : Option Addr) (cx : Nat) (hx : a.eval x = .slice x0 0 cx)
    (h : wpList Tryd.prog ops Q rest (a.put o.dst v) w) : wpList Tryd.prog ops Q (o :: rest) a w := wpList_plain hgd fun _ hK => by
  have hrun := run_append_zero (P := Tryd.prog) w base t o.type e i 22 hu hi v _ _ hown.1 x0 cx
  unfold Oper.wp
  simp [execOp, ho, resolve, invoke, builtin, hs, hx, hrun, Result.andThen]
  exact hK _ _ h
theorem step_append_zeroE {w : World} {ops : Array Oper} {o : Oper} {a : Act} {K : Act → World → Prop} {Q : Exit → Act → World → Prop} {E : Prop} (hw : Region.wanted o (yielded ops a.tmps) = true) (s x : Operand) (t : TypeId)
    (ho : o.op = .call { callee := .builtin .append, args := #[s, x], argTypes := #[t, t] }) (base : Nat) (e : TypeId) (hu : Tryd.prog.underlying t = some (.slice e)) {i : TypeInfo} (hi : Tryd.prog.info? e = some i) (v : Value) (xs : List TE) (hs : a.eval s = v) (hown : OwnE e w base v xs) (x0 : Option Addr) (cx : Nat) (hx : a.eval x = .slice x0 0 cx)
    (h : K (a.put o.dst v) w) : if Region.wanted o (yielded ops a.tmps) = true then Oper.wp Tryd.prog o a w K Q else E := by
  rw [if_pos hw]
  have hrun := run_append_zero (P := Tryd.prog) w base t o.type e i 22 hu hi v _ _ hown.1 x0 cx
  unfold Oper.wp
  simp [execOp, ho, resolve, invoke, builtin, hs, hx, hrun, Result.andThen]
  exact h
/-! ### Nothing in order -/
theorem ins_nil (w : World) : Calls Tryd.prog 31 #[.slice none 0 0, .int .i64 0, .int .i64 0, (.func (.func 18) #[] #[])] w fun e w' => e = .returned (.tuple #[]) ∧ w' = w := by
  go_enter Tryd.func31, Tryd.ntmps31
  go_wp2_with fail
  go_loopw [8] (fun iv wr => iv = .int .i64 1 ∧ wr = w) (fun _ _ => 0)
  case atStart => exact ⟨rfl, rfl⟩
  case round =>
    obtain ⟨rfl, rfl⟩ := hrel
    go_wp2_with fail
    refine bodyPost_end (results_none rfl _ _ _) rfl ?_
    exact ⟨rfl, rfl⟩
set_option maxRecDepth 100000 in
set_option maxHeartbeats 16000000 in
theorem stable_nil (w : World) : Calls Tryd.prog 25 #[.slice none 0 0, .int .i64 0, (.func (.func 18) #[] #[])] w fun e w' => e = .returned (.tuple #[]) ∧ w' = w := by
  go_enter Tryd.func25, Tryd.ntmps25
  go_wp2_with fail
  go_loopw [7, 8] (fun av bv wr => av = .int .i64 0 ∧ bv = .int .i64 20 ∧ wr = w) (fun _ _ _ => 0)
  case atStart => exact ⟨rfl, rfl, rfl⟩
  case round =>
    obtain ⟨rfl, rfl, rfl⟩ := hrel
    go_wp2_with fail
    refine (ins_nil _).mono ?_
    rintro e w1 ⟨rfl, rfl⟩
    go_wp2_with fail
    go_loopw [6, 7, 8, 9] (fun sv _ _ _ wr => sv = .int .i64 20 ∧ wr = w1) (fun _ _ _ _ _ => 0)
    case atStart => exact ⟨rfl, rfl⟩
    case round =>
      obtain ⟨rfl, rfl⟩ := hrel
      go_wp2_with fail
      refine bodyPost_end (results_none rfl _ _ _) rfl ?_
      exact ⟨rfl, rfl⟩
set_option maxRecDepth 100000 in
set_option maxHeartbeats 16000000 in
theorem sortst_any (v : Value) (L : List TE) (base : Nat) (w : World) (h : OwnE 30 w base v L) (hn : L.length ≤ 100000) (hp : ∀ z ∈ L, z.p.size ≤ 100000) (hbase : base ≤ w.heap.size) :
    Calls Tryd.prog 17 #[v, (.func (.func 18) #[] #[])] w fun e w' => e = .returned (.tuple #[]) ∧ OwnE 30 w' base v (sortS ltT L) ∧ Below base w w' := by
  obtain ⟨n, hnl⟩ : ∃ n, L.length = n := ⟨_, rfl⟩
  have H0 := Lib.hid h
  rcases h.1.2 with ⟨rfl, h0⟩ | ⟨g, cap, cur, rfl, -⟩
  · have hL : L = [] := List.length_eq_zero_iff.1 h0
    subst hL
    clear h
    go_enter Tryd.func17, Tryd.ntmps17
    go_wp2_with fail
    refine (stable_nil _).mono ?_
    rintro e w1 ⟨rfl, rfl⟩
    go_wp2_with fail
    refine bodyPost_end (results_none rfl _ _ _) rfl ?_
    exact ⟨rfl, H0.out, Below.refl _ _⟩
  · rw [hnl] at H0 hn ⊢
    have HS := Lib.hid (stable_any L g n cap base w H0.out hn hp hbase)
    clear h hn hp hbase hnl
    go_enter Tryd.func17, Tryd.ntmps17
    go_wp2_with fail
    refine HS.out.mono ?_
    rintro e w1 ⟨rfl, ho, hb⟩
    have HO := Lib.hid ho
    have HB := Lib.hid hb
    clear ho hb
    go_wp2_with fail
    refine bodyPost_end (results_none rfl _ _ _) rfl ?_
    exact ⟨rfl, HO.out, HB.out⟩
theorem nil_yesE (W : World) : (binOp .eql 23 (.slice none 0 0) (.slice none 0 0)).run Tryd.prog W = .ok (.bool true) W := by kernel_rfl
theorem nil_noE (x : Addr) (n c : Nat) (W : World) : (binOp .eql 23 (.slice (some x) n c) (.slice none 0 0)).run Tryd.prog W = .ok (.bool false) W := by kernel_rfl
theorem nilE (e : TypeId) (w : World) : OwnE e w w.heap.size (.slice none 0 0) [] := ⟨⟨rfl, .inl ⟨rfl, rfl⟩⟩, by simp⟩
set_option maxRecDepth 100000 in
set_option maxHeartbeats 16000000 in
theorem clone_any (a : Option Addr) (c : Nat) (xs : List TE) (w : World) (h : EsAt w a xs) (hn : xs.length ≤ 1000000) (hnc : a = none → c = 0) :
    Calls Tryd.prog 16 #[.slice a xs.length c] w fun e w' => (∃ v, e = .returned v ∧ OwnE 30 w' w.heap.size v xs) ∧ Below w.heap.size w w' := by
  obtain ⟨n, hnl⟩ : ∃ n, xs.length = n := ⟨_, rfl⟩
  obtain ⟨i, hi, -⟩ := parts_ent
  have HI := Lib.hid hi
  have H0 := Lib.hid h
  have HNB : Hid (n ≤ 1000000 ∧ xs.length = n) := ⟨by omega, hnl⟩
  have tok : True := trivial
  cases a with
  | none =>
    have hL : xs = [] := List.length_eq_zero_iff.1 (by rcases h.rows with h0 | ⟨b, off, h0, -⟩; exact h0; cases h0)
    subst hL
    obtain rfl : n = 0 := hnl.symm
    rw [hnl]
    obtain rfl := hnc rfl
    have hy := nil_yesE
    clear h hn hnl hi hnc
    go_enter Tryd.func16, Tryd.ntmps16
    go_wp2_with fail
    (try simp only [Exit.inBlock, Exit.then])
    go_ret
    exact ⟨⟨_, rfl, nilE _ _⟩, Below.refl _ _⟩
  | some x =>
    rw [hnl]
    clear hnc
    have hy := fun W => nil_noE x n c W
    have HZ : Hid (OwnE 30 (w.alloc (.cells #[] 30)) w.heap.size (.slice (some ⟨w.heap.size, 0, none⟩) 0 0) []) := OwnE.empty w
    have HBZ : Hid (Below w.heap.size w (w.alloc (.cells #[] 30))) := (Below.refl _ _).alloc (Nat.le_refl _) _
    by_cases h0 : n = 0
    · subst h0
      have hL : xs = [] := List.length_eq_zero_iff.1 hnl
      subst hL
      clear h hn hnl hi
      go_enter Tryd.func16, Tryd.ntmps16
      go_wp2_with (first
        | refine wpList_slice (by rfl) _ _ _ rfl #[] (by simp) _ _ (slice_noE w) ?_
        | (refine wpList_append_zeroE rfl _ _ _ rfl w.heap.size 30 Tryd.underlying23 HI.out _ [] rfl HZ.out _ _ rfl ?_))
      go_ret
      exact ⟨⟨_, rfl, HZ.out⟩, HBZ.out⟩
    · obtain ⟨b, off, rfl, hbl, hr⟩ : ∃ b off, x = ⟨b, off, none⟩ ∧ b < w.heap.size ∧ ∀ j p, xs[j]? = some p → w.rangeAt b (off + j * 22) (entL p) := by
        rcases h.rows with h1 | ⟨b, off, h1, h2, h3⟩
        · omega
        · cases h1; exact ⟨b, off, rfl, h2, h3⟩
      have HR : Hid (∀ (j : Nat) p, xs[j]? = some p → (w.alloc (.cells #[] 30)).rangeAt b (off + j * 22) (entL p)) := fun j p hj => range_below (hr j p hj) HBZ.out hbl
      have HN0 : Hid (0 < n) := Nat.pos_of_ne_zero h0
      have H20 : Hid (∀ x ∈ xs, x.n.length = 20) := fun x hx => H0.out.each x hx
      clear h hn hnl hi h0 hr hbl
      go_enter Tryd.func16, Tryd.ntmps16
      go_wp2_with (first
        | refine wpList_slice (by rfl) _ _ _ rfl #[] (by simp) _ _ (slice_noE w) ?_
        | (have _t := tok; at_builtin; clear tok; refine Hid.out ?_))
      refine unhid ?_
      refine wpList_append_ents rfl _ _ rfl w.heap.size _ [] 0 rfl rfl HZ.out b off n c xs HNB.out.2 HN0.out H20.out rfl HR.out n xs (Nat.zero_add _) rfl (by have := HNB.out; omega) (by simp) (fun g c2 w3 ho hg1 hg2 hg3 => ?_)
      have HO := Lib.hid ho
      have HB : Hid (Below w.heap.size w w3) := by
        exact HBZ.out.trans (own_off HZ.out (by simp) hg1)
      clear ho hg1 hg2 hg3
      go_wp2_with fail
      go_ret
      exact ⟨⟨_, rfl, HO.out⟩, HB.out⟩
set_option maxRecDepth 100000 in
set_option maxHeartbeats 16000000 in
theorem tsort_any (a : Option Addr) (c : Nat) (xs : List TE) (w : World) (h : EsAt w a xs) (hnc : a = none → c = 0) (hn : xs.length ≤ 100000) (hp : ∀ z ∈ xs, z.p.size ≤ 100000) :
    Calls Tryd.prog 6 #[.slice a xs.length c] w fun e w' => (∃ v, e = .returned v ∧ OwnE 30 w' w.heap.size v (sortS ltT xs)) ∧ Below w.heap.size w w' := by
  have HC := Lib.hid (clone_any a c xs w h (by omega) hnc)
  have HNB := Lib.hid hn
  have HPS := Lib.hid hp
  obtain ⟨n, hnl⟩ : ∃ n, xs.length = n := ⟨_, rfl⟩
  rw [hnl] at HC ⊢
  clear h hn hp hnl hnc
  go_enter Tryd.func6, Tryd.ntmps6
  go_wp2_with fail
  refine HC.out.mono ?_
  rintro e w1 ⟨⟨v, rfl, ho⟩, hb⟩
  have HO := Lib.hid ho
  have HB := Lib.hid hb
  clear ho hb
  go_wp2_with fail
  refine (sortst_any v xs w.heap.size w1 HO.out HNB.out HPS.out HB.out.size).mono ?_
  rintro e w2 ⟨rfl, ho, hb⟩
  have HO2 := Lib.hid ho
  have HB2 := Lib.hid (HB.out.trans hb)
  clear ho hb
  go_wp2_with fail
  go_ret
  exact ⟨⟨_, rfl, HO2.out⟩, HB2.out⟩
end Go.Proofs.YthemolkmciofaaaDoor
