/- Which files a manifest may have, plainly; rightFlag. -/
import Derived.Test.YtcbjadecocggjaaDoorFiles
import Derived.Test.YtcbjadecocggjaaDoorKeyMap
namespace Go.Proofs.YtcbjadecocggjaaDoor
open Go.RowKit Plain
set_option linter.unusedVariables false
def flagOk (f : ByteArray) : Bool := f.toList.isEmpty || f.toList == [120] || f.toList == [108]
/-- Lies the one under the other as a directory? -/
def under (p q : ByteArray) : Bool := (p.data.toList ++ [47]).isPrefixOf q.data.toList
def okAt (xs : List MF) (k : Nat) (x : MF) : Bool := rightL x.p.data.toList && flagOk x.f && (match k with | 0 => true | j + 1 => match xs[j]? with | some y => Op.bytesLess y.p.toList x.p.toList | none => true)
def rightM (xs : List MF) : Bool := ((List.range xs.length).all fun k => match xs[k]? with | some x => okAt xs k x | none => true) && xs.all fun q => xs.all fun p => !under p.p q.p
theorem rightM_iff (xs : List MF) : rightM xs = true ↔ (∀ k x, xs[k]? = some x → okAt xs k x = true) ∧ ∀ q ∈ xs, ∀ p ∈ xs, under p.p q.p = false := by
  unfold rightM
  rw [Bool.and_eq_true, List.all_eq_true, List.all_eq_true]
  constructor
  · rintro ⟨h1, h2⟩
    refine ⟨fun k x hx => ?_, fun q hq p hp => ?_⟩
    · have := h1 k (List.mem_range.2 (List.getElem?_eq_some_iff.1 hx).1)
      rw [hx] at this
      exact this
    · have := List.all_eq_true.1 (h2 q hq) p hp
      simpa using this
  · rintro ⟨h1, h2⟩
    refine ⟨fun k hk => ?_, fun q hq => List.all_eq_true.2 fun p hp => by rw [h2 q hq p hp]; rfl⟩
    cases hx : xs[k]? with
    | none => rfl
    | some x => exact h1 k x hx
theorem rightM_bad {xs : List MF} {k : Nat} {x : MF} (h : xs[k]? = some x) (ho : okAt xs k x = false) : rightM xs = false := by
  rw [Bool.eq_false_iff]
  intro hr
  have := ((rightM_iff xs).1 hr).1 k x h
  rw [ho] at this
  cases this
theorem rightM_under {xs : List MF} {p q : MF} (hp : p ∈ xs) (hq : q ∈ xs) (hu : under p.p q.p = true) : rightM xs = false := by
  rw [Bool.eq_false_iff]
  intro hr
  have := ((rightM_iff xs).1 hr).2 q hq p hp
  rw [hu] at this
  cases this
theorem rightL_len {l : List UInt8} (h : rightL l = true) : l.length ≤ 255 := by
  unfold rightL at h
  simp only [Bool.and_eq_true, decide_eq_true_eq] at h
  exact h.1.1
theorem rightL_no {l : List UInt8} (h : rightL l = true) : ∀ b ∈ l, b ≠ 0 ∧ b ≠ 10 := fun b hb => by
  unfold rightL at h
  simp only [Bool.and_eq_true, Bool.not_eq_true', List.any_eq_false] at h
  have := h.1.2 b hb
  unfold oddByte at this
  simp only [Bool.or_eq_true, beq_iff_eq, not_or] at this
  exact ⟨this.1.1, this.1.2⟩
theorem okAt_path {xs : List MF} {k : Nat} {x : MF} (h : okAt xs k x = true) : rightL x.p.data.toList = true := by
  unfold okAt at h
  simp only [Bool.and_eq_true] at h
  exact h.1.1
theorem okAt_flag {xs : List MF} {k : Nat} {x : MF} (h : okAt xs k x = true) : flagOk x.f = true := by
  unfold okAt at h
  simp only [Bool.and_eq_true] at h
  exact h.1.2
theorem flagOk_len {f : ByteArray} (h : flagOk f = true) : f.size ≤ 1 := by
  unfold flagOk at h
  simp only [Bool.or_eq_true, beq_iff_eq, List.isEmpty_iff] at h
  rw [Lib.toList_data] at h
  rw [Lib.size_eq]
  rcases h with (h | h) | h <;> rw [h] <;> decide
theorem flagOk_no {f : ByteArray} (h : flagOk f = true) : ∀ b ∈ f.data.toList, b ≠ 0 ∧ b ≠ 10 := fun b hb => by
  unfold flagOk at h
  simp only [Bool.or_eq_true, beq_iff_eq, List.isEmpty_iff] at h
  rw [Lib.toList_data] at h
  rcases h with (h | h) | h <;> rw [h] at hb
  · cases hb
  · rw [List.mem_singleton.1 hb]; decide
  · rw [List.mem_singleton.1 hb]; decide
theorem extract_list (s : ByteArray) (i : Nat) : (s.extract 0 i).data.toList = s.data.toList.take i := by
  simp [ByteArray.data_extract]
theorem bytes_ext {a b : ByteArray} (h : a.data.toList = b.data.toList) : a = b := by
  cases a; cases b
  simp only at h
  rw [Array.toList_inj.1 h]
/-- That lies there under one that ends at a slash. -/
theorem under_iff (p q : ByteArray) : under p q = true ↔ p.size < q.size ∧ q.extract 0 p.size = p ∧ q.data.toList[p.size]? = some 47 := by
  have hp := Lib.size_eq p
  have hq := Lib.size_eq q
  unfold under
  rw [List.isPrefixOf_iff_prefix]
  constructor
  · rintro ⟨t, ht⟩
    have hl := congrArg List.length ht
    simp only [List.length_append, List.length_singleton] at hl
    refine ⟨by omega, bytes_ext ?_, ?_⟩
    · rw [extract_list, ← ht, hp, List.append_assoc, List.take_left]
    · rw [← ht, hp, List.append_assoc, List.getElem?_append_right (Nat.le_refl _), Nat.sub_self]
      rfl
  · rintro ⟨h1, h2, h3⟩
    have e1 : q.data.toList.take p.size = p.data.toList := by rw [← extract_list, h2]
    have e2 := List.take_append_drop (p.size + 1) q.data.toList
    refine ⟨q.data.toList.drop (p.size + 1), ?_⟩
    rw [← e1, ← take_snoc h3]
    exact e2
def keysOf (xs : List MF) (k : Nat) : List ByteArray := ((xs.take k).map (·.p)).reverse
theorem keysOf_step {xs : List MF} {k : Nat} {x : MF} (h : xs[k]? = some x) : keysOf xs (k + 1) = x.p :: keysOf xs k := by
  unfold keysOf; rw [take_snoc h, List.map_append, List.reverse_append]; rfl
theorem keysOf_len (xs : List MF) (k : Nat) : (keysOf xs k).length ≤ xs.length := by unfold keysOf; simp; omega
theorem keysOf_mem (xs : List MF) (p : ByteArray) : p ∈ keysOf xs xs.length ↔ ∃ x ∈ xs, x.p = p := by
  unfold keysOf; simp
abbrev KM (w : World) (b : Nat) (ks : List ByteArray) : Prop := KeyMap Tryd.prog 9 3 Value.string w b ks
theorem str_inj (a b : ByteArray) (h : Value.string a = Value.string b) : a = b := by injection h
theorem strKey : Maps.Keyed Tryd.prog 9 := Maps.string_keyed Tryd.underlying9
theorem zero_int (u : World) : (zeroValue 3).run Tryd.prog u = .ok (.int .i64 0) u := by kernel_rfl
theorem wpList_mapUpdate {P : Program} {w : World} {ops : Array Oper} {rest : List Oper} {o : Oper} {a : Act} {Q : Exit → Act → World → Prop} (hg : o.guard = none) (ty : TypeId) (x y z : Operand) (ho : o.op = .mapUpdate ty x y z)
    (u1 u2 u3 : Value) (h1 : a.eval x = u1) (h2 : a.eval y = u2) (h3 : a.eval z = u3) (w' : World) (hr : (Instr.mapUpdate ty u1 u2 u3).run P w = .ok () w') (h : wpList P ops Q rest (a.put o.dst undef) w') : wpList P ops Q (o :: rest) a w := by
  refine wpList_plain hg fun K' hK' => ?_
  unfold Oper.wp execOp
  simp only [ho, h1, h2, h3, Sem.run_bind, hr, Result.andThen_ok]
  exact hK' _ _ h
theorem wpList_lookup {P : Program} {w : World} {ops : Array Oper} {rest : List Oper} {o : Oper} {a : Act} {Q : Exit → Act → World → Prop} (hg : o.guard = none) (ty : TypeId) (x y : Operand) (c : Bool) (ho : o.op = .lookup ty x y c)
    (u1 u2 : Value) (h1 : a.eval x = u1) (h2 : a.eval y = u2) (v : Value) (hr : (Instr.lookup ty u1 u2 c).run P w = .ok v w) (h : wpList P ops Q rest (a.put o.dst v) w) : wpList P ops Q (o :: rest) a w := by
  refine wpList_plain hg fun K' hK' => ?_
  unfold Oper.wp execOp
  simp only [ho, h1, h2, Sem.run_bind, hr, Result.andThen_ok]
  exact hK' _ _ h
theorem wpList_file {P : Program} {ops : Array Oper} {rest : List Oper} {op : Oper} {a : Act} {w : World} {Q : Exit → Act → World → Prop} (hgd : op.guard = none) (ty : TypeId) (x : Operand) (ho : op.op = .load ty x)
    (b o : Nat) (hx : a.eval x = .pointer (some ⟨b, o, none⟩)) (y : MF) (d : TypeDesc) (hc : w.rangeAt b o (fileL y))
    (hu : P.underlying ty = some d) (hd : d.isRow = true) (hi : (P.info? ty).map (·.size) = some (fileL y).length)
    (h : wpList P ops Q rest (a.put op.dst (.agg (fileA y))) w) : wpList P ops Q (op :: rest) a w := wpList_load_mid hgd ty x ho b o hx (fileL y) d hc hu hd hi h
set_option maxRecDepth 100000 in
set_option maxHeartbeats 4000000 in
theorem flag_any (f : ByteArray) (w : World) :
    Calls Tryd.prog 30 #[.string f] w fun e w' => e = .returned (.bool (flagOk f)) ∧ w' = w := by
  obtain ⟨b1, hb1⟩ : ∃ b, f.toList.isEmpty = b := ⟨_, rfl⟩
  obtain ⟨b2, hb2⟩ : ∃ b, (f.toList == [120]) = b := ⟨_, rfl⟩
  obtain ⟨b3, hb3⟩ : ∃ b, (f.toList == [108]) = b := ⟨_, rfl⟩
  have HF : Hid (flagOk f = (b1 || b2 || b3)) := by
    show _ = _
    unfold flagOk
    rw [hb1, hb2, hb3]
  cases b1
  · cases b2
    · cases b3
      · have n2 : ¬ f.toList = [120] := beq_eq_false_iff_ne.1 hb2
        have n3 : ¬ f.toList = [108] := beq_eq_false_iff_ne.1 hb3
        go_enter Tryd.func30, Tryd.ntmps30
        go_wp2_with fail
        go_ret
        rw [HF.out]
        exact ⟨rfl, rfl⟩
      · have n2 : ¬ f.toList = [120] := beq_eq_false_iff_ne.1 hb2
        go_enter Tryd.func30, Tryd.ntmps30
        go_wp2_with fail
        go_ret
        rw [HF.out]
        exact ⟨rfl, rfl⟩
    · go_enter Tryd.func30, Tryd.ntmps30
      go_wp2_with fail
      go_ret
      rw [HF.out]
      exact ⟨rfl, rfl⟩
  · go_enter Tryd.func30, Tryd.ntmps30
    go_wp2_with fail
    go_ret
    rw [HF.out]
    exact ⟨rfl, rfl⟩
end Go.Proofs.YtcbjadecocggjaaDoor
