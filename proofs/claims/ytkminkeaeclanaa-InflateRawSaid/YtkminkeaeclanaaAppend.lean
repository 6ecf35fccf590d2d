/- append to a row of the call's own, anywhere; its parts. -/
import Derived.Test.YtkminkeaeclanaaState
import Derived.Test.YtkminkeaeclanaaSub
namespace Go.Proofs.Ytkminkeaeclanaa
open Go.RowKit
set_option linter.unusedVariables false
theorem grownBy_set1 (w : World) (g i : Nat) (v : Value) : w.grownBy (w.setCell ⟨g, i, none⟩ v) (some g) := by
  refine ⟨rfl, rfl, rfl, ?_, fun k hk hne => ?_⟩
  · rw [World.size_setCell]; exact Nat.le_refl _
  · exact Below.heap_setCell w _ v k (fun e => hne (by rw [e]))
theorem Mid.block_ge {w : World} {base : Nat} {v : Value} {n : Nat} {xs : List Int} (h : Mid w base v n xs) : ∀ k, v.ownBlock = some k → base ≤ k ∧ k < w.heap.size := by
  intro k hk
  obtain ⟨h1, ⟨rfl, rfl⟩ | ⟨g, o, cap, rfl, hb, hlt, -⟩⟩ := h
  · cases hk
  · simp only [Value.ownBlock, Option.some.injEq] at hk
    subst hk
    exact ⟨hb, hlt⟩
theorem src_bytes {w : World} {a : Option Addr} {m c : Nat} {ys : List Int} (h : Bytes w a m ys) : Src Try.prog 1 22 (.slice a m c) m (U8 ys) w := by
  obtain ⟨h1, h2, h3, rfl | ⟨b, off, rfl, hc⟩⟩ := h
  · obtain rfl : ys = [] := List.eq_nil_of_length_eq_zero h1
    cases a with
    | none => exact Src.ofNil w Try.underlying22 c
    | some x => exact Src.ofSlice w Try.underlying22 x 0 c [] rfl (fun j u hu => by simp at hu) (fun u hu => by cases hu)
  · refine Src.ofSlice w Try.underlying22 ⟨b, off, none⟩ m c (U8 ys) (by rw [U8_length]; omega) (fun j u hu => ?_) (U8_one ys)
    rw [Addr.add_mid]
    have hj : j < ys.length := by
      rcases Nat.lt_or_ge j ys.length with h | h
      · exact h
      · rw [List.getElem?_eq_none (by rw [U8_length]; exact h)] at hu; cases hu
    rw [hc j (by omega)]
    unfold U8 at hu
    rw [List.getElem?_map, List.getElem?_eq_getElem hj] at hu
    rw [List.getElem?_eq_getElem hj]
    exact hu
theorem wpList_append_mid {w : World} {ops : Array Oper} {rest : List Oper} {o : Oper} {ac : Act} {Q : Exit → Act → World → Prop} (hgd : o.guard = none) (s x : Operand) (tx : TypeId)
    (ho : o.op = .call { callee := .builtin .append, args := #[s, x], argTypes := #[22, tx] })
    (base : Nat) (v : Value) (n : Nat) (xs : List Int) (hs : ac.eval s = v) (hown : Mid w base v n xs) (xv : Value) (m : Nat) (ys : List Int) (hx : ac.eval x = xv) (hsrc : Src Try.prog 1 tx xv m (U8 ys) w)
    (hsum : n + m ≤ 70368744177664) (hbase : base ≤ w.heap.size)
    (h : ∀ v' w', Mid w' base v' (n + m) (xs ++ ys) → w.grownBy w' v.ownBlock → (v'.ownBlock = v.ownBlock ∨ v'.ownBlock = some w.heap.size) → wpList Try.prog ops Q rest (ac.put o.dst v') w') : wpList Try.prog ops Q (o :: rest) ac w := by
  refine wpList_plain hgd fun K hK => ?_
  obtain ⟨v', w', hrun, r1, r2, r3⟩ := mid_append w o.type tx base v n xs hown xv m ys hsrc hsum hbase
  unfold Oper.wp
  simp [execOp, ho, resolve, invoke, builtin, hs, hx, hrun, Result.andThen]
  exact hK _ _ (h v' w' r1 r2 r3)
theorem step_append_mid {W : World} {ops : Array Oper} {o : Oper} {ac : Act} {K : Act → World → Prop} {Q : Exit → Act → World → Prop} {E : Prop} (hgd : o.guard = none) (s x : Operand) (tx : TypeId)
    (ho : o.op = .call { callee := .builtin .append, args := #[s, x], argTypes := #[22, tx] })
    (base : Nat) (v : Value) (n : Nat) (xs : List Int) (hs : ac.eval s = v) (hown : Mid W base v n xs) (xv : Value) (m : Nat) (ys : List Int) (hx : ac.eval x = xv) (hsrc : Src Try.prog 1 tx xv m (U8 ys) W)
    (hsum : n + m ≤ 70368744177664) (hbase : base ≤ W.heap.size)
    (h : ∀ v' w', Mid w' base v' (n + m) (xs ++ ys) → W.grownBy w' v.ownBlock → (v'.ownBlock = v.ownBlock ∨ v'.ownBlock = some W.heap.size) → K (ac.put o.dst v') w') :
    if Region.wanted o (yielded ops ac.tmps) = true then Oper.wp Try.prog o ac W K Q else E := by
  have hw : Region.wanted o (yielded ops ac.tmps) = true := by simp [Region.wanted, hgd]
  rw [if_pos hw]
  obtain ⟨v', w', hrun, r1, r2, r3⟩ := mid_append W o.type tx base v n xs hown xv m ys hsrc hsum hbase
  unfold Oper.wp
  simp [execOp, ho, resolve, invoke, builtin, hs, hx, hrun, Result.andThen]
  exact h v' w' r1 r2 r3
theorem Mid.cut {w : World} {base : Nat} {a : Option Addr} {n c : Nat} {xs : List Int} (h : Mid w base (.slice a n c) n xs) (lo hi : Nat) (h1 : lo ≤ hi) (h2 : hi ≤ n) : Mid w base (.slice (subA a c lo) (hi - lo) (c - lo)) (hi - lo) ((xs.drop lo).take (hi - lo)) := by
  obtain ⟨hl, ⟨e, rfl⟩ | ⟨g, o, cap, e, hb, hlt, hn, hc, hr, ht⟩⟩ := h
  · simp only [Value.slice.injEq] at e
    obtain ⟨rfl, -, rfl⟩ := e
    obtain rfl : lo = 0 := by omega
    obtain rfl : hi = 0 := by omega
    refine ⟨by simp, .inl ⟨by simp [subA], rfl⟩⟩
  · simp only [Value.slice.injEq, true_and] at e
    obtain ⟨rfl, rfl⟩ := e
    refine ⟨by rw [List.length_take, List.length_drop]; omega, .inr ?_⟩
    by_cases hcl : c = lo
    · refine ⟨g, o, c - lo, by rw [subA, if_pos hcl], hb, hlt, by omega, by omega, ?_, fun j hj => by omega⟩
      intro j v hv
      rw [show hi - lo = 0 by omega, List.take_zero] at hv
      simp [U8] at hv
    · refine ⟨g, o + lo, c - lo, ?_, hb, hlt, by omega, by omega, ?_, fun j hj => by have := ht (lo + j) (by omega); rwa [← Nat.add_assoc] at this⟩
      · rw [subA, if_neg hcl]
        show Value.slice (some (Addr.add _ _)) _ _ = _
        rw [Addr.add_mid]
      · intro j v hv
        have hj : j < hi - lo := by
          rcases Nat.lt_or_ge j (hi - lo) with h | h
          · exact h
          · rw [List.getElem?_eq_none (by rw [U8_length, List.length_take, List.length_drop]; omega)] at hv; cases hv
        have := hr (lo + j) v (by
          unfold U8 at hv ⊢
          rw [List.getElem?_map] at hv ⊢
          rwa [List.getElem?_take_of_lt hj, List.getElem?_drop] at hv)
        rwa [← Nat.add_assoc] at this
theorem own_subA (a : Option Addr) (n c lo m k : Nat) : (Value.slice (subA a c lo) n m).ownBlock = (Value.slice a k c).ownBlock := by
  unfold subA
  split
  · cases a <;> rfl
  · cases a with
    | none => rfl
    | some x =>
      show some (x.add lo).block = some x.block
      unfold Addr.add
      split <;> rfl
theorem Mid.front {w : World} {base : Nat} {a : Option Addr} {n c : Nat} {xs : List Int} (h : Mid w base (.slice a n c) n xs) (k : Nat) (hk : k ≤ n) : Mid w base (.slice a k c) k (xs.take k) := by
  obtain ⟨hl, ⟨e, rfl⟩ | ⟨g, o, cap, e, hb, hlt, hn, hc, hr, ht⟩⟩ := h
  · simp only [Value.slice.injEq] at e
    obtain ⟨rfl, -, rfl⟩ := e
    obtain rfl : k = 0 := by omega
    exact ⟨by simp, .inl ⟨rfl, rfl⟩⟩
  · simp only [Value.slice.injEq, true_and] at e
    obtain ⟨rfl, rfl⟩ := e
    refine ⟨by rw [List.length_take]; omega, .inr ⟨g, o, c, rfl, hb, hlt, by omega, hc, fun j v hv => hr j v ?_, ht⟩⟩
    unfold U8 at hv ⊢
    rw [List.getElem?_map] at hv ⊢
    have hj : j < k := by
      rcases Nat.lt_or_ge j k with h | h
      · exact h
      · rw [List.getElem?_eq_none (by rw [List.length_take]; omega)] at hv; cases hv
    rwa [List.getElem?_take_of_lt hj] at hv
theorem Mid.at {w : World} {base : Nat} {a : Option Addr} {n c : Nat} {xs : List Int} (h : Mid w base (.slice a n c) n xs) (hn : 0 < n) : ∃ g o, a = some ⟨g, o, none⟩ ∧ ∀ j, j < n → w.cell? ⟨g, o + j, none⟩ = some (.int .u8 (xs[j]?.getD 0)) := by
  obtain ⟨hl, ⟨e, h0⟩ | ⟨g, o, cap, e, hb, hlt, hnc, hc, hr, ht⟩⟩ := h
  · omega
  · simp only [Value.slice.injEq, true_and] at e
    obtain ⟨rfl, rfl⟩ := e
    refine ⟨g, o, rfl, fun j hj => hr j _ ?_⟩
    unfold U8
    rw [List.getElem?_map, List.getElem?_eq_getElem (by omega)]
    rfl
theorem min2_run {P : Program} (ts : Array TypeId) (t : TypeId) (k k1 : IntKind) (x y : Int) (w : World) : (Builtin.min_ ts t #[.int k x, .int k1 y]).run P w = .ok (.int k (min x y)) w := by
  have e : ∀ p q : Int, (if q < p then q else p) = min p q := fun p q => by split <;> omega
  simp [Builtin.min_, Builtin.min2, e]
open Plain
/-- The row has grown, and is put down. -/
theorem OutL.grow {w0 : World} {Ob : Nat} {ba : Option Addr} {bn bc N most : Nat} {w wA w2 : World} {p : Nat} {mv v2 : Value} {made m2 : List Int} (h : OutL 8 w0 Ob ba bn bc N most w p mv made) (hb : Below w.heap.size w wA)
    (hg : wA.grownBy w2 mv.ownBlock) (hm : Mid w2 w0.heap.size v2 m2.length m2) (ho : v2.ownBlock = mv.ownBlock ∨ v2.ownBlock = some wA.heap.size) (hl : m2.length ≤ most) (hr : ∀ x ∈ m2, 0 ≤ x ∧ x ≤ 255) :
    w2.heap[Ob]? = w.heap[Ob]? ∧ OutL 8 w0 Ob ba bn bc N most (w2.setCell ⟨Ob, 4, none⟩ v2) p v2 m2 ∧ Turn Ob mv v2 w (w2.setCell ⟨Ob, 4, none⟩ v2) := by
  have hOlt := h.lt
  obtain ⟨a, hd, l, hh, h1, h2, h3, h4, hmid, hO, hbel, hge, -, -⟩ := h
  have hsz := hb.size
  have e1 : w2.heap[Ob]? = w.heap[Ob]? := (hg.block Ob (by omega) (fun e => hO e.symm)).trans (hb.block Ob hOlt)
  have hvO : v2.ownBlock ≠ some Ob := by
    rcases ho with e | e
    · rw [e]; exact hO
    · rw [e]; intro e'; injection e' with e'; omega
  have hset := grownBy_set1 w2 Ob 4 v2
  have hs0 := hbel.size
  refine ⟨e1, ⟨a, hd, l, heap_setCell_same w2 Ob 4 _ _ v2 (e1.trans hh), h1, h2, h3, h4, hm.kept hset (.inr hvO), hvO, ?_, hge, hl, hr⟩, ?_⟩
  · have b1 : Below w0.heap.size w0 wA := hbel.trans (hb.mono hs0)
    have b2 := b1.grown hg (by omega) (fun k hk => (hmid.block_ge k hk).1)
    exact b2.setCell hge _
  · refine ⟨hg.os.trans hb.os, hg.tape.trans hb.tape, hg.output.trans hb.output, ?_, fun k hk hkO hkm => ?_, fun k hk => ?_⟩
    · rw [World.size_setCell]; exact Nat.le_trans hsz hg.size
    · exact (Below.heap_setCell w2 _ v2 k hkO).trans ((hg.block k (by omega) (fun e => hkm e.symm)).trans (hb.block k hk))
    · rcases ho with e | e
      · exact .inl (e ▸ hk)
      · rw [e] at hk; injection hk with hk; exact .inr (by omega)
end Go.Proofs.Ytkminkeaeclanaa
