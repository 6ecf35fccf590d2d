/- Slices of bytes: appended to, cut. -/
import Derived.Test.YthemolkmciofaaaDoorTrRight
import Derived.Deep.AppendSrc
namespace Go.Proofs.YthemolkmciofaaaDoor
open Go.RowKit Plain
set_option linter.unusedVariables false
theorem src_bytes {w : World} {a : Option Addr} {m c : Nat} {ys : List Int} (h : Bytes w a m ys) : Src Tryd.prog 1 39 (.slice a m c) m (U8 ys) w := by
  obtain ⟨h1, h2, h3, rfl | ⟨b, off, rfl, hc⟩⟩ := h
  · obtain rfl : ys = [] := List.eq_nil_of_length_eq_zero h1
    cases a with
    | none => exact Src.ofNil w Tryd.underlying39 c
    | some x => exact Src.ofSlice w Tryd.underlying39 x 0 c [] rfl (fun j u hu => by simp at hu) (fun u hu => by cases hu)
  · refine Src.ofSlice w Tryd.underlying39 ⟨b, off, none⟩ m c (U8 ys) (by rw [U8_length]; omega) (fun j u hu => ?_) (U8_one ys)
    rw [Addr.add_mid]
    have hj : j < ys.length := by
      rcases Nat.lt_or_ge j ys.length with h | h
      · exact h
      · rw [List.getElem?_eq_none (by rw [U8_length]; exact h)] at hu; cases hu
    rw [hc j (by omega)]
    unfold U8 at hu
    rw [List.getElem?_map, List.getElem?_eq_getElem hj] at hu
    rw [List.getElem?_eq_getElem hj]
    exact hu
theorem wpList_append_mid {w : World} {ops : Array Oper} {rest : List Oper} {o : Oper} {ac : Act} {Q : Exit → Act → World → Prop} (hgd : o.guard = none) (s x : Operand) (tx : TypeId)
    (ho : o.op = .call { callee := .builtin .append, args := #[s, x], argTypes := #[39, tx] })
    (base : Nat) (v : Value) (n : Nat) (xs : List Int) (hs : ac.eval s = v) (hown : Mid w base v n xs) (xv : Value) (m : Nat) (ys : List Int) (hx : ac.eval x = xv) (hsrc : Src Tryd.prog 1 tx xv m (U8 ys) w)
    (hsum : n + m ≤ 70368744177664) (hbase : base ≤ w.heap.size)
    (h : ∀ v' w', Mid w' base v' (n + m) (xs ++ ys) → w.grownBy w' v.ownBlock → (v'.ownBlock = v.ownBlock ∨ v'.ownBlock = some w.heap.size) → wpList Tryd.prog ops Q rest (ac.put o.dst v') w') : wpList Tryd.prog ops Q (o :: rest) ac w := by
  refine wpList_plain hgd fun K hK => ?_
  obtain ⟨v', w', hrun, r1, r2, r3⟩ := mid_append w o.type tx base v n xs hown xv m ys hsrc hsum hbase
  unfold Oper.wp
  simp [execOp, ho, resolve, invoke, builtin, hs, hx, hrun, Result.andThen]
  exact hK _ _ (h v' w' r1 r2 r3)
/-- A slice of bytes, with what its ends are. -/
structure RowB (w : World) (a : Option Addr) (n c : Nat) (xs : List Int) : Prop where
  le : n ≤ c
  cap : c ≤ 9223372036854775807
  nil : a = none → c = 0
  bytes : Bytes w a n xs
theorem RowB.below {w w' : World} {a : Option Addr} {n c : Nat} {xs : List Int} (h : RowB w a n c xs) (hb : Below w.heap.size w w') : RowB w' a n c xs := ⟨h.le, h.cap, h.nil, h.bytes.below hb⟩
theorem RowB.len {w : World} {a : Option Addr} {n c : Nat} {xs : List Int} (h : RowB w a n c xs) : xs.length = n := h.bytes.1
theorem RowB.range {w : World} {a : Option Addr} {n c : Nat} {xs : List Int} (h : RowB w a n c xs) : ∀ j : Nat, 0 ≤ xs[j]?.getD 0 ∧ xs[j]?.getD 0 ≤ 255 := h.bytes.2.2.1
theorem Mid.row {w : World} {base : Nat} {a : Option Addr} {n c : Nat} {xs : List Int} (h : Mid w base (.slice a n c) n xs) (hx : ∀ j : Nat, 0 ≤ xs[j]?.getD 0 ∧ xs[j]?.getD 0 ≤ 255) : RowB w a n c xs := by
  obtain ⟨a', c', e, h1, h2, h3⟩ := h.shape
  simp only [Value.slice.injEq, true_and] at e
  obtain ⟨rfl, rfl⟩ := e
  exact ⟨h1, h3, h2, h.bytes hx⟩
theorem row_in {w : World} {a : Option Addr} {len cap : Nat} {zs : List Int} 
    (h : (a = none ∧ len = 0 ∧ cap = 0 ∧ zs = []) ∨ ∃ x, a = some x ∧ len ≤ cap ∧ cap ≤ maxLen ∧ zs.length = cap ∧ (∀ i, i < zs.length → w.cell? (x.add i) = some (.int .u8 (zs.getD i 0))) ∧ ∀ n ∈ zs, (Lit.int .u8 n).wf = true) (k : Nat) : RowB w a (min len k) cap ((zs.take len).take k) ∧ len ≤ cap ∧ cap ≤ 9223372036854775807 := by
  obtain ⟨hb, hlc, hcm⟩ := bytes_of h
  refine ⟨⟨by omega, hcm, ?_, hb.first k⟩, hlc, hcm⟩
  rcases h with ⟨-, -, h, -⟩ | ⟨x, rfl, -⟩
  · exact fun _ => h
  · exact fun e => by cases e
theorem wpList_append_to {w : World} {ops : Array Oper} {rest : List Oper} {o : Oper} {ac : Act} {Q : Exit → Act → World → Prop} (hgd : o.guard = none) (s x : Operand) (tx : TypeId)
    (ho : o.op = .call { callee := .builtin .append, args := #[s, x], argTypes := #[39, tx] })
    (base : Nat) (v : Value) (n : Nat) (xs : List Int) (hs : ac.eval s = v) (hown : Mid w base v n xs) (xv : Value) (m : Nat) (ys : List Int) (hx : ac.eval x = xv) (hsrc : Src Tryd.prog 1 tx xv m (U8 ys) w)
    (n2 : Nat) (zs : List Int) (hn2 : n + m = n2) (hzs : xs ++ ys = zs) (hsum : n2 ≤ 70368744177664) (hbase : base ≤ w.heap.size)
    (h : ∀ a' c' w', Mid w' base (.slice a' n2 c') n2 zs → Below base w w' → wpList Tryd.prog ops Q rest (ac.put o.dst (.slice a' n2 c')) w') : wpList Tryd.prog ops Q (o :: rest) ac w := by
  subst hn2 hzs
  refine wpList_append_mid hgd s x tx ho base v n xs hs hown xv m ys hx hsrc hsum hbase fun v' w' hm hg ho => ?_
  obtain ⟨a, c, rfl, -⟩ := hm.shape
  exact h a c w' hm (hown.off hbase hg)
theorem unhid {p : Prop} (h : p) : Hid p := h
theorem step_append_mid {W : World} {ops : Array Oper} {o : Oper} {ac : Act} {K : Act → World → Prop} {Q : Exit → Act → World → Prop} {E : Prop} (hgd : o.guard = none) (s x : Operand) (tx : TypeId)
    (ho : o.op = .call { callee := .builtin .append, args := #[s, x], argTypes := #[39, tx] })
    (base : Nat) (v : Value) (n : Nat) (xs : List Int) (hs : ac.eval s = v) (hown : Mid W base v n xs) (xv : Value) (m : Nat) (ys : List Int) (hx : ac.eval x = xv) (hsrc : Src Tryd.prog 1 tx xv m (U8 ys) W)
    (hsum : n + m ≤ 70368744177664) (hbase : base ≤ W.heap.size)
    (h : ∀ v' w', Mid w' base v' (n + m) (xs ++ ys) → W.grownBy w' v.ownBlock → (v'.ownBlock = v.ownBlock ∨ v'.ownBlock = some W.heap.size) → K (ac.put o.dst v') w') :
    if Region.wanted o (yielded ops ac.tmps) = true then Oper.wp Tryd.prog o ac W K Q else E := by
  have hw : Region.wanted o (yielded ops ac.tmps) = true := by simp [Region.wanted, hgd]
  rw [if_pos hw]
  obtain ⟨v', w', hrun, r1, r2, r3⟩ := mid_append W o.type tx base v n xs hown xv m ys hsrc hsum hbase
  unfold Oper.wp
  simp [execOp, ho, resolve, invoke, builtin, hs, hx, hrun, Result.andThen]
  exact h v' w' r1 r2 r3
theorem RowB.front {w : World} {a : Option Addr} {n c : Nat} {xs : List Int} (h : RowB w a n c xs) (hi : Nat) (hh : hi ≤ n) : RowB w a hi c (xs.take hi) := by
  have hp := h.bytes.part c 0 hi (Nat.zero_le _) hh h.le
  have e : subA a c 0 = a := by
    unfold subA
    split
    · rfl
    · cases a with
      | none => rfl
      | some x => simp [Addr.add]
  rw [List.drop_zero, Nat.sub_zero, e] at hp
  exact ⟨by have := h.le; omega, h.cap, h.nil, hp⟩
theorem RowB.none (w : World) : RowB w none 0 0 [] := ⟨Nat.le_refl _, by omega, fun _ => rfl, (Mid.nil w 0).row (range_of_mem (by decide)) |>.bytes⟩
theorem RowB.mem {w : World} {a : Option Addr} {n c : Nat} {xs : List Int} (h : RowB w a n c xs) : ∀ x ∈ xs, 0 ≤ x ∧ x < 256 := fun x hx => by
  obtain ⟨j, hj, e⟩ := List.mem_iff_getElem.1 hx
  have := h.range j
  rw [List.getElem?_eq_getElem hj, e] at this
  simp only [Option.getD_some] at this
  omega
theorem RowB.part {w : World} {a : Option Addr} {n c : Nat} {xs : List Int} (h : RowB w a n c xs) (lo : Nat) (hlo : lo ≤ n) : RowB w (subA a c lo) (n - lo) (c - lo) (xs.drop lo) := by
  have hp := h.bytes.part c lo n hlo (Nat.le_refl _) h.le
  rw [List.take_of_length_le (by rw [List.length_drop, h.len]; omega)] at hp
  exact ⟨by have := h.le; omega, by have := h.cap; omega, subA_nil h.nil, hp⟩
end Go.Proofs.YthemolkmciofaaaDoor
