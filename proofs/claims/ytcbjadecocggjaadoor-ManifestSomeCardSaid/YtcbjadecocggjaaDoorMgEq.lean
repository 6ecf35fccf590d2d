/- Files compared; slices.Equal of files; the document's Same. -/
import Derived.Test.YtcbjadecocggjaaDoorMgBy
import Derived.Test.YtcbjadecocggjaaDoorEq
namespace Go.Proofs.YtcbjadecocggjaaDoor
open Go.RowKit Go.WideMaps Go.Maps Plain Go.ChangeShapes Go.WideShapes Go.ChangeAt Go.Great
set_option linter.unusedVariables false
set_option linter.unusedSimpArgs false
theorem run_equalIn_arr8 (w : World) (d : Nat) (t : TypeId) (n : Nat) (ht : Tryd.prog.underlying t = some (.array n 5)) (xs ys : List Int) (hx : xs.length = n) (hy : ys.length = n) :
    (Op.equalIn (d + 2) t (.agg (V8 xs)) (.agg (V8 ys))).run Tryd.prog w = .ok (xs == ys) w := by
  obtain ⟨i, hi, -⟩ := Option.map_eq_some_iff.1 (show (Tryd.prog.info? 5).map (fun i => (i.zero, i.size, i.bytes)) = some (some (.int .u8 0), 1, 1) from by kernel_rfl)
  rw [run_equalIn_array w (d + 1) (V8 xs) (V8 ys) ht hi, u8cells, eqItems_u8 d w xs ys (List.range n) (fun j hj => by have := List.mem_range.1 hj; omega)]
  rw [all_eq_list xs ys n hx hy]
theorem eqFields_three (P : Program) (w : World) (d : Nat) (X Y : Array Value) (f1 f2 f3 : Field) (a1 b1 a2 b2 a3 b3 : Value) (r1 r2 r3 : Bool) (n1 : f1.name ≠ "_") (n2 : f2.name ≠ "_") (n3 : f3.name ≠ "_")
    (x1 : (part f1.type X f1.offset).run P w = .ok a1 w) (y1 : (part f1.type Y f1.offset).run P w = .ok b1 w)
    (x2 : (part f2.type X f2.offset).run P w = .ok a2 w) (y2 : (part f2.type Y f2.offset).run P w = .ok b2 w)
    (x3 : (part f3.type X f3.offset).run P w = .ok a3 w) (y3 : (part f3.type Y f3.offset).run P w = .ok b3 w)
    (e1 : (Op.equalIn d f1.type a1 b1).run P w = .ok r1 w) (e2 : (Op.equalIn d f2.type a2 b2).run P w = .ok r2 w) (e3 : (Op.equalIn d f3.type a3 b3).run P w = .ok r3 w) :
    (Op.eqFields d X Y [f1, f2, f3]).run P w = .ok (r1 && (r2 && r3)) w := by
  simp only [Op.eqFields, n1, n2, n3, ne_eq, not_false_eq_true, if_true, Sem.run_bind, x1, y1, e1, Result.andThen_ok]
  cases r1
  · simp
  · simp only [Bool.not_true, Bool.false_eq_true, if_false, Sem.run_bind, x2, y2, e2, Result.andThen_ok]
    cases r2
    · simp
    · simp only [Bool.not_true, Bool.false_eq_true, if_false, Sem.run_bind, x3, y3, e3, Result.andThen_ok]
      cases r3 <;> simp
set_option maxRecDepth 100000 in
theorem fields_pfile : ∃ f1 f2 f3, (Tryd.prog.fieldsOf 32).toList = [f1, f2, f3] ∧ f1.name ≠ "_" ∧ f2.name ≠ "_" ∧ f3.name ≠ "_" ∧ (f1.type = 9 ∧ f1.offset = 0) ∧ (f2.type = 30 ∧ f2.offset = 1) ∧ f3.type = 9 ∧ f3.offset = 21 := by
  have h : (Tryd.prog.fieldsOf 32).toList.map (fun f => (f.name == "_", f.type, f.offset)) = [(false, 9, 0), (false, 30, 1), (false, 9, 21)] := by kernel_rfl
  generalize (Tryd.prog.fieldsOf 32).toList = l at *
  match l, h with
  | [], h => cases h
  | [_], h => simp at h
  | [_, _], h => simp at h
  | _ :: _ :: _ :: _ :: _, h => simp at h
  | [f1, f2, f3], h =>
    simp only [List.map_cons, List.map_nil, List.cons.injEq, Prod.mk.injEq, and_true, beq_eq_false_iff_ne] at h
    exact ⟨f1, f2, f3, rfl, h.1.1, h.2.1.1, h.2.2.1, h.1.2, h.2.1.2, h.2.2.2⟩
set_option maxRecDepth 100000 in
theorem part_idF (w : World) (x : MF) (h : x.n.length = 20) : (part 30 (fileA x) 1).run Tryd.prog w = .ok (.agg (V8 x.n)) w := by
  have hagg : (isAgg 30).run Tryd.prog w = .ok true w := by kernel_rfl
  obtain ⟨i, hi, h1⟩ := Option.map_eq_some_iff.1 (show (Tryd.prog.info? 30).map (·.size) = some 20 from by kernel_rfl)
  have e : (fileA x).extract 1 (1 + 20) = V8 x.n := by
    apply Array.ext'
    have h2 : (U8 x.n).length = 20 := by rw [U8_length]; exact h
    simp only [fileA, fileL, V8]
    simp
    rw [List.take_append_of_le_length (by omega), List.take_of_length_le (by omega)]
  simp [part, hagg, sizeOf, typeInfo, hi, h1, e]
/-- Are two files the same? -/
def eqM (x y : MF) : Bool := x.p.toList == y.p.toList && (x.n == y.n && x.f.toList == y.f.toList)
theorem eqM_self (x : MF) : eqM x x = true := by unfold eqM; simp
theorem eqM_comm (x y : MF) : eqM x y = eqM y x := by
  have h : ∀ {α : Type} [BEq α] [LawfulBEq α] (a b : α), (a == b) = (b == a) := fun a b => by
    rw [Bool.eq_iff_iff, beq_iff_eq, beq_iff_eq]; exact eq_comm
  unfold eqM
  rw [h x.p.toList, h x.n, h x.f.toList]
/-- .. two rows? -/
def sameM : List MF → List MF → Bool
  | [], [] => true
  | x :: xs, y :: ys => eqM x y && sameM xs ys
  | _, _ => false
theorem sameM_self : ∀ l, sameM l l = true
  | [] => rfl
  | x :: l => by unfold sameM; rw [eqM_self, sameM_self l]; rfl
theorem sameM_comm : ∀ l m, sameM l m = sameM m l
  | [], [] => rfl
  | [], _ :: _ => rfl
  | _ :: _, [] => rfl
  | x :: l, y :: m => by unfold sameM; rw [eqM_comm, sameM_comm l m]
theorem sameM_len : ∀ l m, l.length ≠ m.length → sameM l m = false
  | [], [], h => absurd rfl h
  | [], _ :: _, _ => rfl
  | _ :: _, [], _ => rfl
  | x :: l, y :: m, h => by unfold sameM; rw [sameM_len l m (by simpa using h), Bool.and_false]
theorem sameM_no : ∀ (l m : List MF) (k : Nat) (x y : MF), l[k]? = some x → m[k]? = some y → eqM x y = false → sameM l m = false
  | [], _, k, x, y, h, _, _ => by simp at h
  | _ :: _, [], k, x, y, _, h, _ => by simp at h
  | a :: l, b :: m, 0, x, y, h1, h2, h => by
    simp at h1 h2
    subst h1 h2
    unfold sameM
    rw [h]; rfl
  | a :: l, b :: m, k + 1, x, y, h1, h2, h => by
    unfold sameM
    rw [sameM_no l m k x y (by simpa using h1) (by simpa using h2) h, Bool.and_false]
theorem sameM_all : ∀ (l m : List MF), l.length = m.length → (∀ (k : Nat) (x y : MF), l[k]? = some x → m[k]? = some y → eqM x y = true) → sameM l m = true
  | [], [], _, _ => rfl
  | [], _ :: _, h, _ => by simp at h
  | _ :: _, [], h, _ => by simp at h
  | a :: l, b :: m, h, hk => by
    unfold sameM
    rw [hk 0 a b rfl rfl, sameM_all l m (by simpa using h) (fun k x y h1 h2 => hk (k + 1) x y (by simpa using h1) (by simpa using h2))]
    rfl
set_option maxRecDepth 100000 in
theorem equal_pfile (w : World) (d : Nat) (x y : MF) (hx : x.n.length = 20) (hy : y.n.length = 20) : (Op.equalIn (d + 4) 32 (.agg (fileA x)) (.agg (fileA y))).run Tryd.prog w = .ok (eqM x y) w := by
  obtain ⟨f1, f2, f3, hf, n1, n2, n3, ⟨t1, o1⟩, ⟨t2, o2⟩, t3, o3⟩ := fields_pfile
  rw [run_equalIn_struct w (d + 3) 32 _ _ Tryd.underlying32 (by kernel_rfl), hf]
  exact eqFields_three Tryd.prog w (d + 3) _ _ f1 f2 f3 _ _ _ _ _ _ _ _ _ n1 n2 n3
    (by rw [t1, o1]; exact part_strF w _ 0 x.p (by simp [fileA, fileL])) (by rw [t1, o1]; exact part_strF w _ 0 y.p (by simp [fileA, fileL]))
    (by rw [t2, o2]; exact part_idF w x hx) (by rw [t2, o2]; exact part_idF w y hy)
    (by rw [t3, o3]; exact part_strF w _ 21 x.f (by simp [fileA, fileL, U8, hx])) (by rw [t3, o3]; exact part_strF w _ 21 y.f (by simp [fileA, fileL, U8, hy]))
    (by rw [t1]; exact run_equalIn_string w (d + 2) 9 x.p y.p Tryd.underlying9)
    (by rw [t2]; exact run_equalIn_arr8 w (d + 1) 30 20 Tryd.underlying30 _ _ hx hy)
    (by rw [t3]; exact run_equalIn_string w (d + 2) 9 x.f y.f Tryd.underlying9)
theorem neq_pfile (x y : MF) (hx : x.n.length = 20) (hy : y.n.length = 20) (w : World) : (binOp .neq 32 (.agg (fileA x)) (.agg (fileA y))).run Tryd.prog w = .ok (.bool (!eqM x y)) w := by
  rw [run_neq_struct]
  have e := equal_pfile w 9996 x y hx hy
  rw [show (9996 + 4 : Nat) = 10000 from rfl] at e
  rw [e]
  rfl
theorem guard_pneq (x y : Operand) (u v : Array Value) (W : World) : (eqGuard .neq 32 x y (.agg u) (.agg v)).run Tryd.prog W = .ok () W := by
  simp [eqGuard]
set_option maxRecDepth 100000 in
theorem equal_rfile (w : World) (d : Nat) (x y : MF) (hx : x.n.length = 20) (hy : y.n.length = 20) : (Op.equalIn (d + 4) 45 (.agg (fileA x)) (.agg (fileA y))).run Tryd.prog w = .ok (eqM x y) w := by
  obtain ⟨f1, f2, f3, hf, n1, n2, n3, ⟨t1, o1⟩, ⟨t2, o2⟩, t3, o3⟩ := fields_rfile
  rw [run_equalIn_struct w (d + 3) 45 _ _ Tryd.underlying45 (by kernel_rfl), hf]
  exact eqFields_three Tryd.prog w (d + 3) _ _ f1 f2 f3 _ _ _ _ _ _ _ _ _ n1 n2 n3
    (by rw [t1, o1]; exact part_strF w _ 0 x.p (by simp [fileA, fileL])) (by rw [t1, o1]; exact part_strF w _ 0 y.p (by simp [fileA, fileL]))
    (by rw [t2, o2]; exact part_nodeF w x hx) (by rw [t2, o2]; exact part_nodeF w y hy)
    (by rw [t3, o3]; exact part_strF w _ 21 x.f (by simp [fileA, fileL, U8, hx])) (by rw [t3, o3]; exact part_strF w _ 21 y.f (by simp [fileA, fileL, U8, hy]))
    (by rw [t1]; exact run_equalIn_string w (d + 2) 9 x.p y.p Tryd.underlying9)
    (by rw [t2]; exact run_equalIn_arr8 w (d + 1) 29 20 Tryd.underlying29 _ _ hx hy)
    (by rw [t3]; exact run_equalIn_string w (d + 2) 9 x.f y.f Tryd.underlying9)
theorem neq_rfile (x y : MF) (hx : x.n.length = 20) (hy : y.n.length = 20) (w : World) : (binOp .neq 45 (.agg (fileA x)) (.agg (fileA y))).run Tryd.prog w = .ok (.bool (!eqM x y)) w := by
  rw [run_neq_struct]
  have e := equal_rfile w 9996 x y hx hy
  rw [show (9996 + 4 : Nat) = 10000 from rfl] at e
  rw [e]
  rfl
theorem guard_rneq (x y : Operand) (u v : Array Value) (W : World) : (eqGuard .neq 45 x y (.agg u) (.agg v)).run Tryd.prog W = .ok () W := by
  simp [eqGuard]
set_option maxRecDepth 100000 in
set_option maxHeartbeats 16000000 in
theorem equal_any (a1 a2 : Option Addr) (c1 c2 : Nat) (xs ys : List MF) (w : World) (h1 : FsAt w a1 xs) (h2 : FsAt w a2 ys) (hn : xs.length ≤ 1000000) (hm : ys.length ≤ 1000000) :
    Calls Tryd.prog 13 #[.slice a1 xs.length c1, .slice a2 ys.length c2] w fun e w' => e = .returned (.bool (sameM xs ys)) ∧ Below w.heap.size w w' := by
  have H1 := Lib.hid h1
  have H2 := Lib.hid h2
  obtain ⟨n, hnl⟩ : ∃ n, xs.length = n := ⟨_, rfl⟩
  obtain ⟨m, hml⟩ : ∃ n, ys.length = n := ⟨_, rfl⟩
  have HN := Lib.hid hnl
  have HM := Lib.hid hml
  rw [hnl, hml]
  by_cases hnm : n = m
  · subst hnm
    have HNB : Hid (n ≤ 1000000) := by show _ ≤ _; omega
    clear h1 h2 hn hm hnl hml
    go_enter Tryd.func13, Tryd.ntmps13
    go_wp2_with fail
    go_loopw [13] (fun iv wr => ∃ k : Nat, iv = .int .i64 (k : Int) ∧ k ≤ n ∧ (∀ j, j < k → ∀ x y, xs[j]? = some x → ys[j]? = some y → eqM x y = true) ∧ Below w.heap.size w wr) (fun iv _ => n - (intOf iv).toNat)
    case atStart => exact ⟨0, rfl, Nat.zero_le _, fun j h => absurd h (by omega), Below.refl _ _⟩
    case round =>
      obtain ⟨k, rfl, hk, hall, hbl⟩ := hrel
      have HALL := Lib.hid hall
      have HB := Lib.hid hbl
      have WK := Lib.hid (next_int k (by have := HNB.out; omega))
      clear hall
      by_cases hkn : k < n
      · have hki : (k : Int) < (n : Int) := by omega
        have hk0 : (0 : Int) ≤ (k : Int) := Int.natCast_nonneg k
        obtain ⟨b1, o1, x, rfl, hx, hx20, -, hr1⟩ := (H1.out.below hbl).at (show k < xs.length by rw [HN.out]; exact hkn)
        obtain ⟨b2, o2, y, rfl, hy, hy20, -, hr2⟩ := (H2.out.below hbl).at (show k < ys.length by rw [HM.out]; exact hkn)
        have HX := Lib.hid hx20
        have HY := Lib.hid hy20
        have HR1 : Hid (wr.drew.rangeAt b1 (o1 + k * 22) (fileL x)) := hr1
        have HR2 : Hid (wr.drew.rangeAt b2 (o2 + k * 22) (fileL y)) := hr2
        have HL1 := Lib.hid (file_infoL x hx20)
        have HL2 := Lib.hid (file_infoL y hy20)
        have HXX := Lib.hid hx
        have HYY := Lib.hid hy
        have HKN : Hid (k < n) := hkn
        clear hx hy hx20 hy20 hr1 hr2 hbl hk hkn
        go_wp2_with fail
        refine wp_region_noPanic ?_
        refine wp_region_held_drew (S := fun W => W.rangeAt b1 (o1 + k * 22) (fileL x) ∧ W.rangeAt b2 (o2 + k * 22) (fileL y)) (by kernel_rfl) ?_ (fun hHeld => ?_)
        · exact ⟨HR1.out, HR2.out⟩
        refine wpAnyH_take (i := 0) (v := ?_) (by simp only [List.getElem?_toArray, List.getElem?_cons_zero]; rfl) (by kernel_rfl) (by kernel_rfl) (by kernel_rfl) (fun _ _ _ h => h) (Or.inl ⟨by rfl, ?_⟩) (by assumption) ?_
        rotate_left
        · intro W hSW
          go_simp
          try with_reducible rfl
        try simp only [Act.put, List.setIfInBounds_toArray, List.set_cons_zero, List.set_cons_succ]
        refine wpAnyH_take (i := 1) (v := ?_) (by simp only [List.getElem?_toArray, List.getElem?_cons_succ, List.getElem?_cons_zero]; rfl) (by kernel_rfl) (by kernel_rfl) (by kernel_rfl) (fun _ _ _ h => h) (Or.inl ⟨by rfl, ?_⟩) (by assumption) ?_
        rotate_left
        · intro W hSW
          go_simp
          try with_reducible rfl
        try simp only [Act.put, List.setIfInBounds_toArray, List.set_cons_zero, List.set_cons_succ]
        refine wpAnyH_take (i := 2) (v := ?_) (by simp only [List.getElem?_toArray, List.getElem?_cons_succ, List.getElem?_cons_zero]; rfl) (by kernel_rfl) (by kernel_rfl) (by kernel_rfl) (fun _ _ _ h => h) (Or.inl ⟨by rfl, ?_⟩) (by assumption) ?_
        rotate_left
        · intro W hSW
          go_simp
          try with_reducible rfl
        try simp only [Act.put, List.setIfInBounds_toArray, List.set_cons_zero, List.set_cons_succ]
        refine wpAnyH_take (i := 3) (by simp only [List.getElem?_toArray, List.getElem?_cons_succ, List.getElem?_cons_zero]; rfl) (by kernel_rfl) (by kernel_rfl) (by kernel_rfl) (fun _ _ _ h => h) (yieldsIf_load_mid (by rfl) 32 _ rfl b1 (o1 + k * 22) rfl (fileL x) _ (fun W h => h.1) Tryd.underlying32 rfl HL1.out) (by assumption) ?_
        try simp only [Act.put, List.setIfInBounds_toArray, List.set_cons_zero, List.set_cons_succ]
        refine wpAnyH_take (i := 4) (v := ?_) (by simp only [List.getElem?_toArray, List.getElem?_cons_succ, List.getElem?_cons_zero]; rfl) (by kernel_rfl) (by kernel_rfl) (by kernel_rfl) (fun _ _ _ h => h) (Or.inl ⟨by rfl, ?_⟩) (by assumption) ?_
        rotate_left
        · intro W hSW
          go_simp
          try with_reducible rfl
        try simp only [Act.put, List.setIfInBounds_toArray, List.set_cons_zero, List.set_cons_succ]
        refine wpAnyH_take (i := 5) (v := ?_) (by simp only [List.getElem?_toArray, List.getElem?_cons_succ, List.getElem?_cons_zero]; rfl) (by kernel_rfl) (by kernel_rfl) (by kernel_rfl) (fun _ _ _ h => h) (Or.inl ⟨by rfl, ?_⟩) (by assumption) ?_
        rotate_left
        · intro W hSW
          go_simp
          try with_reducible rfl
        try simp only [Act.put, List.setIfInBounds_toArray, List.set_cons_zero, List.set_cons_succ]
        refine wpAnyH_take (i := 6) (v := ?_) (by simp only [List.getElem?_toArray, List.getElem?_cons_succ, List.getElem?_cons_zero]; rfl) (by kernel_rfl) (by kernel_rfl) (by kernel_rfl) (fun _ _ _ h => h) (Or.inl ⟨by rfl, ?_⟩) (by assumption) ?_
        rotate_left
        · intro W hSW
          go_simp
          try with_reducible rfl
        try simp only [Act.put, List.setIfInBounds_toArray, List.set_cons_zero, List.set_cons_succ]
        refine wpAnyH_take (i := 7) (by simp only [List.getElem?_toArray, List.getElem?_cons_succ, List.getElem?_cons_zero]; rfl) (by kernel_rfl) (by kernel_rfl) (by kernel_rfl) (fun _ _ _ h => h) (yieldsIf_load_mid (by rfl) 32 _ rfl b2 (o2 + k * 22) rfl (fileL y) _ (fun W h => h.2) Tryd.underlying32 rfl HL2.out) (by assumption) ?_
        try simp only [Act.put, List.setIfInBounds_toArray, List.set_cons_zero, List.set_cons_succ]
        refine wpAnyH_take (i := 8) (by simp only [List.getElem?_toArray, List.getElem?_cons_succ, List.getElem?_cons_zero]; rfl) (by kernel_rfl) (by kernel_rfl) (by kernel_rfl) (fun _ _ _ h => h) (yieldsIf_eql (by rfl) .neq 32 _ _ _ rfl (.agg (fileA x)) (.agg (fileA y)) rfl rfl (.bool (!eqM x y)) (fun W => guard_pneq _ _ _ _ W) (fun W => neq_pfile x y HX.out HY.out W)) (by assumption) ?_
        try simp only [Act.put, List.setIfInBounds_toArray, List.set_cons_zero, List.set_cons_succ]
        refine wpAnyH_done (by kernel_rfl) ?_ _
        refine NoPanic.normal ?_
        clear hHeld
        cases he : eqM x y
        · have HE := Lib.hid (sameM_no xs ys k x y HXX.out HYY.out he)
          clear he
          go_wp2_with fail
          (try simp only [Exit.inBlock, Exit.then])
          go_ret
          exact ⟨by rw [HE.out]; rfl, HB.out.drew⟩
        · have HA2 : Hid (∀ j, j < k + 1 → ∀ x y, xs[j]? = some x → ys[j]? = some y → eqM x y = true) := fun j hj x' y' hx' hy' => by
            rcases Nat.lt_succ_iff_lt_or_eq.1 hj with h | rfl
            · exact HALL.out j h x' y' hx' hy'
            · rw [HXX.out] at hx'; rw [HYY.out] at hy'
              cases hx'; cases hy'; exact he
          clear he
          go_wp2_with fail
          exact ⟨⟨k + 1, by first | rw [WK.out _ rfl] | rfl, HKN.out, HA2.out, HB.out.drew⟩, by have := HKN.out; (first | rw [WK.out _ rfl] | skip); simp [intOf]; omega⟩
      · have hki : ¬ (k : Int) < (n : Int) := by omega
        have HE : Hid (sameM xs ys = true) := sameM_all xs ys (by rw [HN.out, HM.out]) (fun j x y hx hy => HALL.out j (by have := (List.getElem?_eq_some_iff.1 hx).1; rw [HN.out] at this; omega) x y hx hy)
        clear hk hkn hbl
        go_wp2_with fail
        go_ret
        exact ⟨by rw [HE.out]; rfl, HB.out⟩
  · have hne : ¬ (n : Int) = (m : Int) := by omega
    have hnb : ((n : Int) != (m : Int)) = true := by simp only [bne_iff_ne, ne_eq]; omega
    have HE := Lib.hid (sameM_len xs ys (by rw [hnl, hml]; exact hnm))
    clear h1 h2 hn hm hnl hml hnm
    go_enter Tryd.func13, Tryd.ntmps13
    go_wp2_with fail
    (try simp only [Exit.inBlock, Exit.then])
    go_ret
    exact ⟨by rw [HE.out]; rfl, Below.refl _ _⟩
set_option maxRecDepth 100000 in
set_option maxHeartbeats 16000000 in
theorem rsame_any (a1 a2 : Option Addr) (c1 c2 : Nat) (xs ys : List MF) (w : World) (h1 : FsAt w a1 xs) (h2 : FsAt w a2 ys) (hn : xs.length ≤ 1000000) (hm : ys.length ≤ 1000000) :
    Calls Tryd.prog 15 #[.slice a1 xs.length c1, .slice a2 ys.length c2] w fun e w' => e = .returned (.bool (sameM xs ys)) ∧ Below w.heap.size w w' := by
  have H1 := Lib.hid h1
  have H2 := Lib.hid h2
  obtain ⟨n, hnl⟩ : ∃ n, xs.length = n := ⟨_, rfl⟩
  obtain ⟨m, hml⟩ : ∃ n, ys.length = n := ⟨_, rfl⟩
  have HN := Lib.hid hnl
  have HM := Lib.hid hml
  rw [hnl, hml]
  by_cases hnm : n = m
  · subst hnm
    have HNB : Hid (n ≤ 1000000) := by show _ ≤ _; omega
    clear h1 h2 hn hm hnl hml
    go_enter Tryd.func15, Tryd.ntmps15
    go_wp2_with fail
    go_loopw [5] (fun iv wr => ∃ k : Nat, iv = .int .i64 (k : Int) ∧ k ≤ n ∧ (∀ j, j < k → ∀ x y, xs[j]? = some x → ys[j]? = some y → eqM x y = true) ∧ Below w.heap.size w wr) (fun iv _ => n - (intOf iv).toNat)
    case atStart => exact ⟨0, rfl, Nat.zero_le _, fun j h => absurd h (by omega), Below.refl _ _⟩
    case round =>
      obtain ⟨k, rfl, hk, hall, hbl⟩ := hrel
      have HALL := Lib.hid hall
      have HB := Lib.hid hbl
      have WK := Lib.hid (next_int k (by have := HNB.out; omega))
      clear hall
      by_cases hkn : k < n
      · have hki : (k : Int) < (n : Int) := by omega
        have hk0 : (0 : Int) ≤ (k : Int) := Int.natCast_nonneg k
        obtain ⟨b1, o1, x, rfl, hx, hx20, -, hr1⟩ := (H1.out.below hbl).at (show k < xs.length by rw [HN.out]; exact hkn)
        obtain ⟨b2, o2, y, rfl, hy, hy20, -, hr2⟩ := (H2.out.below hbl).at (show k < ys.length by rw [HM.out]; exact hkn)
        have HX := Lib.hid hx20
        have HY := Lib.hid hy20
        have HR1 : Hid (wr.drew.rangeAt b1 (o1 + k * 22) (fileL x)) := hr1
        have HR2 : Hid (wr.drew.rangeAt b2 (o2 + k * 22) (fileL y)) := hr2
        have HL1 := Lib.hid (rfile_infoL x hx20)
        have HL2 := Lib.hid (rfile_infoL y hy20)
        have HXX := Lib.hid hx
        have HYY := Lib.hid hy
        have HKN : Hid (k < n) := hkn
        clear hx hy hx20 hy20 hr1 hr2 hbl hk hkn
        go_wp2_with fail
        refine wp_region_noPanic ?_
        refine wp_region_held_drew (S := fun W => W.rangeAt b1 (o1 + k * 22) (fileL x) ∧ W.rangeAt b2 (o2 + k * 22) (fileL y)) (by kernel_rfl) ?_ (fun hHeld => ?_)
        · exact ⟨HR1.out, HR2.out⟩
        refine wpAnyH_take (i := 0) (v := ?_) (by simp only [List.getElem?_toArray, List.getElem?_cons_zero]; rfl) (by kernel_rfl) (by kernel_rfl) (by kernel_rfl) (fun _ _ _ h => h) (Or.inl ⟨by rfl, ?_⟩) (by assumption) ?_
        rotate_left
        · intro W hSW
          go_simp
          try with_reducible rfl
        try simp only [Act.put, List.setIfInBounds_toArray, List.set_cons_zero, List.set_cons_succ]
        refine wpAnyH_take (i := 1) (v := ?_) (by simp only [List.getElem?_toArray, List.getElem?_cons_succ, List.getElem?_cons_zero]; rfl) (by kernel_rfl) (by kernel_rfl) (by kernel_rfl) (fun _ _ _ h => h) (Or.inl ⟨by rfl, ?_⟩) (by assumption) ?_
        rotate_left
        · intro W hSW
          go_simp
          try with_reducible rfl
        try simp only [Act.put, List.setIfInBounds_toArray, List.set_cons_zero, List.set_cons_succ]
        refine wpAnyH_take (i := 2) (v := ?_) (by simp only [List.getElem?_toArray, List.getElem?_cons_succ, List.getElem?_cons_zero]; rfl) (by kernel_rfl) (by kernel_rfl) (by kernel_rfl) (fun _ _ _ h => h) (Or.inl ⟨by rfl, ?_⟩) (by assumption) ?_
        rotate_left
        · intro W hSW
          go_simp
          try with_reducible rfl
        try simp only [Act.put, List.setIfInBounds_toArray, List.set_cons_zero, List.set_cons_succ]
        refine wpAnyH_take (i := 3) (by simp only [List.getElem?_toArray, List.getElem?_cons_succ, List.getElem?_cons_zero]; rfl) (by kernel_rfl) (by kernel_rfl) (by kernel_rfl) (fun _ _ _ h => h) (yieldsIf_load_mid (by rfl) 45 _ rfl b1 (o1 + k * 22) rfl (fileL x) _ (fun W h => h.1) Tryd.underlying45 rfl HL1.out) (by assumption) ?_
        try simp only [Act.put, List.setIfInBounds_toArray, List.set_cons_zero, List.set_cons_succ]
        refine wpAnyH_take (i := 4) (v := ?_) (by simp only [List.getElem?_toArray, List.getElem?_cons_succ, List.getElem?_cons_zero]; rfl) (by kernel_rfl) (by kernel_rfl) (by kernel_rfl) (fun _ _ _ h => h) (Or.inl ⟨by rfl, ?_⟩) (by assumption) ?_
        rotate_left
        · intro W hSW
          go_simp
          try with_reducible rfl
        try simp only [Act.put, List.setIfInBounds_toArray, List.set_cons_zero, List.set_cons_succ]
        refine wpAnyH_take (i := 5) (v := ?_) (by simp only [List.getElem?_toArray, List.getElem?_cons_succ, List.getElem?_cons_zero]; rfl) (by kernel_rfl) (by kernel_rfl) (by kernel_rfl) (fun _ _ _ h => h) (Or.inl ⟨by rfl, ?_⟩) (by assumption) ?_
        rotate_left
        · intro W hSW
          go_simp
          try with_reducible rfl
        try simp only [Act.put, List.setIfInBounds_toArray, List.set_cons_zero, List.set_cons_succ]
        refine wpAnyH_take (i := 6) (v := ?_) (by simp only [List.getElem?_toArray, List.getElem?_cons_succ, List.getElem?_cons_zero]; rfl) (by kernel_rfl) (by kernel_rfl) (by kernel_rfl) (fun _ _ _ h => h) (Or.inl ⟨by rfl, ?_⟩) (by assumption) ?_
        rotate_left
        · intro W hSW
          go_simp
          try with_reducible rfl
        try simp only [Act.put, List.setIfInBounds_toArray, List.set_cons_zero, List.set_cons_succ]
        refine wpAnyH_take (i := 7) (by simp only [List.getElem?_toArray, List.getElem?_cons_succ, List.getElem?_cons_zero]; rfl) (by kernel_rfl) (by kernel_rfl) (by kernel_rfl) (fun _ _ _ h => h) (yieldsIf_load_mid (by rfl) 45 _ rfl b2 (o2 + k * 22) rfl (fileL y) _ (fun W h => h.2) Tryd.underlying45 rfl HL2.out) (by assumption) ?_
        try simp only [Act.put, List.setIfInBounds_toArray, List.set_cons_zero, List.set_cons_succ]
        refine wpAnyH_take (i := 8) (by simp only [List.getElem?_toArray, List.getElem?_cons_succ, List.getElem?_cons_zero]; rfl) (by kernel_rfl) (by kernel_rfl) (by kernel_rfl) (fun _ _ _ h => h) (yieldsIf_eql (by rfl) .neq 45 _ _ _ rfl (.agg (fileA x)) (.agg (fileA y)) rfl rfl (.bool (!eqM x y)) (fun W => guard_rneq _ _ _ _ W) (fun W => neq_rfile x y HX.out HY.out W)) (by assumption) ?_
        try simp only [Act.put, List.setIfInBounds_toArray, List.set_cons_zero, List.set_cons_succ]
        refine wpAnyH_done (by kernel_rfl) ?_ _
        refine NoPanic.normal ?_
        clear hHeld
        cases he : eqM x y
        · have HE := Lib.hid (sameM_no xs ys k x y HXX.out HYY.out he)
          clear he
          go_wp2_with fail
          (try simp only [Exit.inBlock, Exit.then])
          go_ret
          exact ⟨by rw [HE.out]; rfl, HB.out.drew⟩
        · have HA2 : Hid (∀ j, j < k + 1 → ∀ x y, xs[j]? = some x → ys[j]? = some y → eqM x y = true) := fun j hj x' y' hx' hy' => by
            rcases Nat.lt_succ_iff_lt_or_eq.1 hj with h | rfl
            · exact HALL.out j h x' y' hx' hy'
            · rw [HXX.out] at hx'; rw [HYY.out] at hy'
              cases hx'; cases hy'; exact he
          clear he
          go_wp2_with fail
          exact ⟨⟨k + 1, by first | rw [WK.out _ rfl] | rfl, HKN.out, HA2.out, HB.out.drew⟩, by have := HKN.out; (first | rw [WK.out _ rfl] | skip); simp [intOf]; omega⟩
      · have hki : ¬ (k : Int) < (n : Int) := by omega
        have HE : Hid (sameM xs ys = true) := sameM_all xs ys (by rw [HN.out, HM.out]) (fun j x y hx hy => HALL.out j (by have := (List.getElem?_eq_some_iff.1 hx).1; rw [HN.out] at this; omega) x y hx hy)
        clear hk hkn hbl
        go_wp2_with fail
        go_ret
        exact ⟨by rw [HE.out]; rfl, HB.out⟩
  · have hne : ¬ (n : Int) = (m : Int) := by omega
    have hnb : ((n : Int) != (m : Int)) = true := by simp only [bne_iff_ne, ne_eq]; omega
    have HE := Lib.hid (sameM_len xs ys (by rw [hnl, hml]; exact hnm))
    clear h1 h2 hn hm hnl hml hnm
    go_enter Tryd.func15, Tryd.ntmps15
    go_wp2_with fail
    (try simp only [Exit.inBlock, Exit.then])
    go_ret
    exact ⟨by rw [HE.out]; rfl, Below.refl _ _⟩
end Go.Proofs.YtcbjadecocggjaaDoor
