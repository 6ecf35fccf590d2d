/- append to a row of the call's own, anywhere; its parts. -/
import Derived.Test.YtglgchjkonjpiaaGreatDoorBase
import Derived.BigRegion
import Derived.Deep.RegionWith
import Derived.RegionTactic
/-! append to a row of the call's own, anywhere; its parts. -/
namespace Go.Proofs.YtglgchjkonjpiaaGreatDoor
open Go.RowKit
set_option linter.unusedVariables false
theorem grownBy_set1 (w : World) (g i : Nat) (v : Value) : w.grownBy (w.setCell ⟨g, i, none⟩ v) (some g) := by
  refine ⟨rfl, rfl, rfl, ?_, fun k hk hne => ?_⟩
  · rw [World.size_setCell]; exact Nat.le_refl _
  · exact Below.heap_setCell w _ v k (fun e => hne (by rw [e]))
theorem Mid.block_ge {w : World} {base : Nat} {v : Value} {n : Nat} {xs : List Int} (h : Mid w base v n xs) : ∀ k, v.ownBlock = some k → base ≤ k ∧ k < w.heap.size := by
  intro k hk
  obtain ⟨h1, ⟨rfl, rfl⟩ | ⟨g, o, cap, rfl, hb, hlt, -⟩⟩ := h
  · cases hk
  · simp only [Value.ownBlock, Option.some.injEq] at hk
    subst hk
    exact ⟨hb, hlt⟩
theorem src_bytes {w : World} {a : Option Addr} {m c : Nat} {ys : List Int} (h : Bytes w a m ys) : Src Tryz.prog 1 22 (.slice a m c) m (U8 ys) w := by
  obtain ⟨h1, h2, h3, rfl | ⟨b, off, rfl, hc⟩⟩ := h
  · obtain rfl : ys = [] := List.eq_nil_of_length_eq_zero h1
    cases a with
    | none => exact Src.ofNil w Tryz.underlying22 c
    | some x => exact Src.ofSlice w Tryz.underlying22 x 0 c [] rfl (fun j u hu => by simp at hu) (fun u hu => by cases hu)
  · refine Src.ofSlice w Tryz.underlying22 ⟨b, off, none⟩ m c (U8 ys) (by rw [U8_length]; omega) (fun j u hu => ?_) (U8_one ys)
    rw [Addr.add_mid]
    have hj : j < ys.length := by
      rcases Nat.lt_or_ge j ys.length with h | h
      · exact h
      · rw [List.getElem?_eq_none (by rw [U8_length]; exact h)] at hu; cases hu
    rw [hc j (by omega)]
    unfold U8 at hu
    rw [List.getElem?_map, List.getElem?_eq_getElem hj] at hu
    rw [List.getElem?_eq_getElem hj]
    exact hu
theorem wpList_append_mid {w : World} {ops : Array Oper} {rest : List Oper} {o : Oper} {ac : Act} {Q : Exit → Act → World → Prop} (hgd : o.guard = none) (s x : Operand) (tx : TypeId)
    (ho : o.op = .call { callee := .builtin .append, args := #[s, x], argTypes := #[22, tx] })
    (base : Nat) (v : Value) (n : Nat) (xs : List Int) (hs : ac.eval s = v) (hown : Mid w base v n xs) (xv : Value) (m : Nat) (ys : List Int) (hx : ac.eval x = xv) (hsrc : Src Tryz.prog 1 tx xv m (U8 ys) w)
    (hsum : n + m ≤ 70368744177664) (hbase : base ≤ w.heap.size)
    (h : ∀ v' w', Mid w' base v' (n + m) (xs ++ ys) → w.grownBy w' v.ownBlock → (v'.ownBlock = v.ownBlock ∨ v'.ownBlock = some w.heap.size) → wpList Tryz.prog ops Q rest (ac.put o.dst v') w') : wpList Tryz.prog ops Q (o :: rest) ac w := by
  refine wpList_plain hgd fun K hK => ?_
  obtain ⟨v', w', hrun, r1, r2, r3⟩ := mid_append w o.type tx base v n xs hown xv m ys hsrc hsum hbase
  unfold Oper.wp
  simp [execOp, ho, resolve, invoke, builtin, hs, hx, hrun, Result.andThen]
  exact hK _ _ (h v' w' r1 r2 r3)
theorem step_append_mid {W : World} {ops : Array Oper} {o : Oper} {ac : Act} {K : Act → World → Prop} {Q : Exit → Act → World → Prop} {E : Prop} (hgd : o.guard = none) (s x : Operand) (tx : TypeId)
    (ho : o.op = .call { callee := .builtin .append, args := #[s, x], argTypes := #[22, tx] })
    (base : Nat) (v : Value) (n : Nat) (xs : List Int) (hs : ac.eval s = v) (hown : Mid W base v n xs) (xv : Value) (m : Nat) (ys : List Int) (hx : ac.eval x = xv) (hsrc : Src Tryz.prog 1 tx xv m (U8 ys) W)
    (hsum : n + m ≤ 70368744177664) (hbase : base ≤ W.heap.size)
    (h : ∀ v' w', Mid w' base v' (n + m) (xs ++ ys) → W.grownBy w' v.ownBlock → (v'.ownBlock = v.ownBlock ∨ v'.ownBlock = some W.heap.size) → K (ac.put o.dst v') w') :
    if Region.wanted o (yielded ops ac.tmps) = true then Oper.wp Tryz.prog o ac W K Q else E := by
  have hw : Region.wanted o (yielded ops ac.tmps) = true := by simp [Region.wanted, hgd]
  rw [if_pos hw]
  obtain ⟨v', w', hrun, r1, r2, r3⟩ := mid_append W o.type tx base v n xs hown xv m ys hsrc hsum hbase
  unfold Oper.wp
  simp [execOp, ho, resolve, invoke, builtin, hs, hx, hrun, Result.andThen]
  exact h v' w' r1 r2 r3
theorem Mid.cut {w : World} {base : Nat} {a : Option Addr} {n c : Nat} {xs : List Int} (h : Mid w base (.slice a n c) n xs) (lo hi : Nat) (h1 : lo ≤ hi) (h2 : hi ≤ n) : Mid w base (.slice (subA a c lo) (hi - lo) (c - lo)) (hi - lo) ((xs.drop lo).take (hi - lo)) := by
  obtain ⟨hl, ⟨e, rfl⟩ | ⟨g, o, cap, e, hb, hlt, hn, hc, hr, ht⟩⟩ := h
  · simp only [Value.slice.injEq] at e
    obtain ⟨rfl, -, rfl⟩ := e
    obtain rfl : lo = 0 := by omega
    obtain rfl : hi = 0 := by omega
    refine ⟨by simp, .inl ⟨by simp [subA], rfl⟩⟩
  · simp only [Value.slice.injEq, true_and] at e
    obtain ⟨rfl, rfl⟩ := e
    refine ⟨by rw [List.length_take, List.length_drop]; omega, .inr ?_⟩
    by_cases hcl : c = lo
    · refine ⟨g, o, c - lo, by rw [subA, if_pos hcl], hb, hlt, by omega, by omega, ?_, fun j hj => by omega⟩
      intro j v hv
      rw [show hi - lo = 0 by omega, List.take_zero] at hv
      simp [U8] at hv
    · refine ⟨g, o + lo, c - lo, ?_, hb, hlt, by omega, by omega, ?_, fun j hj => by have := ht (lo + j) (by omega); rwa [← Nat.add_assoc] at this⟩
      · rw [subA, if_neg hcl]
        show Value.slice (some (Addr.add _ _)) _ _ = _
        rw [Addr.add_mid]
      · intro j v hv
        have hj : j < hi - lo := by
          rcases Nat.lt_or_ge j (hi - lo) with h | h
          · exact h
          · rw [List.getElem?_eq_none (by rw [U8_length, List.length_take, List.length_drop]; omega)] at hv; cases hv
        have := hr (lo + j) v (by
          unfold U8 at hv ⊢
          rw [List.getElem?_map] at hv ⊢
          rwa [List.getElem?_take_of_lt hj, List.getElem?_drop] at hv)
        rwa [← Nat.add_assoc] at this
theorem own_subA (a : Option Addr) (n c lo m k : Nat) : (Value.slice (subA a c lo) n m).ownBlock = (Value.slice a k c).ownBlock := by
  unfold subA
  split
  · cases a <;> rfl
  · cases a with
    | none => rfl
    | some x =>
      show some (x.add lo).block = some x.block
      unfold Addr.add
      split <;> rfl
theorem Mid.front {w : World} {base : Nat} {a : Option Addr} {n c : Nat} {xs : List Int} (h : Mid w base (.slice a n c) n xs) (k : Nat) (hk : k ≤ n) : Mid w base (.slice a k c) k (xs.take k) := by
  obtain ⟨hl, ⟨e, rfl⟩ | ⟨g, o, cap, e, hb, hlt, hn, hc, hr, ht⟩⟩ := h
  · simp only [Value.slice.injEq] at e
    obtain ⟨rfl, -, rfl⟩ := e
    obtain rfl : k = 0 := by omega
    exact ⟨by simp, .inl ⟨rfl, rfl⟩⟩
  · simp only [Value.slice.injEq, true_and] at e
    obtain ⟨rfl, rfl⟩ := e
    refine ⟨by rw [List.length_take]; omega, .inr ⟨g, o, c, rfl, hb, hlt, by omega, hc, fun j v hv => hr j v ?_, ht⟩⟩
    unfold U8 at hv ⊢
    rw [List.getElem?_map] at hv ⊢
    have hj : j < k := by
      rcases Nat.lt_or_ge j k with h | h
      · exact h
      · rw [List.getElem?_eq_none (by rw [List.length_take]; omega)] at hv; cases hv
    rwa [List.getElem?_take_of_lt hj] at hv
theorem Mid.at {w : World} {base : Nat} {a : Option Addr} {n c : Nat} {xs : List Int} (h : Mid w base (.slice a n c) n xs) (hn : 0 < n) : ∃ g o, a = some ⟨g, o, none⟩ ∧ ∀ j, j < n → w.cell? ⟨g, o + j, none⟩ = some (.int .u8 (xs[j]?.getD 0)) := by
  obtain ⟨hl, ⟨e, h0⟩ | ⟨g, o, cap, e, hb, hlt, hnc, hc, hr, ht⟩⟩ := h
  · omega
  · simp only [Value.slice.injEq, true_and] at e
    obtain ⟨rfl, rfl⟩ := e
    refine ⟨g, o, rfl, fun j hj => hr j _ ?_⟩
    unfold U8
    rw [List.getElem?_map, List.getElem?_eq_getElem (by omega)]
    rfl
theorem min2_run {P : Program} (ts : Array TypeId) (t : TypeId) (k k1 : IntKind) (x y : Int) (w : World) : (Builtin.min_ ts t #[.int k x, .int k1 y]).run P w = .ok (.int k (min x y)) w := by
  have e : ∀ p q : Int, (if q < p then q else p) = min p q := fun p q => by split <;> omega
  simp [Builtin.min_, Builtin.min2, e]
open Plain
/-- The row has grown, and is put down. -/
theorem OutL.grow {w0 : World} {Ob : Nat} {ba : Option Addr} {bn bc N most : Nat} {w wA w2 : World} {p : Nat} {mv v2 : Value} {made m2 : List Int} (h : OutL 8 w0 Ob ba bn bc N most w p mv made) (hb : Below w.heap.size w wA)
    (hg : wA.grownBy w2 mv.ownBlock) (hm : Mid w2 w0.heap.size v2 m2.length m2) (ho : v2.ownBlock = mv.ownBlock ∨ v2.ownBlock = some wA.heap.size) (hl : m2.length ≤ most) (hr : ∀ x ∈ m2, 0 ≤ x ∧ x ≤ 255) :
    w2.heap[Ob]? = w.heap[Ob]? ∧ OutL 8 w0 Ob ba bn bc N most (w2.setCell ⟨Ob, 4, none⟩ v2) p v2 m2 ∧ Turn Ob mv v2 w (w2.setCell ⟨Ob, 4, none⟩ v2) := by
  have hOlt := h.lt
  obtain ⟨a, hd, l, hh, h1, h2, h3, h4, hmid, hO, hbel, hge, -, -⟩ := h
  have hsz := hb.size
  have e1 : w2.heap[Ob]? = w.heap[Ob]? := (hg.block Ob (by omega) (fun e => hO e.symm)).trans (hb.block Ob hOlt)
  have hvO : v2.ownBlock ≠ some Ob := by
    rcases ho with e | e
    · rw [e]; exact hO
    · rw [e]; intro e'; injection e' with e'; omega
  have hset := grownBy_set1 w2 Ob 4 v2
  have hs0 := hbel.size
  refine ⟨e1, ⟨a, hd, l, heap_setCell_same w2 Ob 4 _ _ v2 (e1.trans hh), h1, h2, h3, h4, hm.kept hset (.inr hvO), hvO, ?_, hge, hl, hr⟩, ?_⟩
  · have b1 : Below w0.heap.size w0 wA := hbel.trans (hb.mono hs0)
    have b2 := b1.grown hg (by omega) (fun k hk => (hmid.block_ge k hk).1)
    exact b2.setCell hge _
  · refine ⟨hg.os.trans hb.os, hg.tape.trans hb.tape, hg.output.trans hb.output, ?_, fun k hk hkO hkm => ?_, fun k hk => ?_⟩
    · rw [World.size_setCell]; exact Nat.le_trans hsz hg.size
    · exact (Below.heap_setCell w2 _ v2 k hkO).trans ((hg.block k (by omega) (fun e => hkm e.symm)).trans (hb.block k hk))
    · rcases ho with e | e
      · exact .inl (e ▸ hk)
      · rw [e] at hk; injection hk with hk; exact .inr (by omega)
end Go.Proofs.YtglgchjkonjpiaaGreatDoor
/-! A number of some bits: the walk. -/
namespace Go.Proofs.YtglgchjkonjpiaaGreatDoor
open Go.RowKit Plain
set_option linter.unusedVariables false
/-- What a call that reads tells. -/
def Got (w0 : World) (Ob : Nat) (ba : Option Addr) (bn bc N most : Nat) (w : World) (mv : Value) (made : List Int) (r : Except Nat (Nat × Nat)) (e : Ending) (w' : World) : Prop :=
  Turn Ob mv mv w w' ∧ ((∃ x q, r = .ok (x, q) ∧ e = .returned (.int .i64 (x : Int)) ∧ OutL 8 w0 Ob ba bn bc N most w' q mv made) ∨ ∃ n, r = .error n ∧ e = thrown n)
theorem raw_cells {w : World} {Ob : Nat} {ba : Option Addr} {bn bc a h l most : Nat} {mv : Value} {t : TypeId} (hh : w.heap[Ob]? = some (.cells (cellsO ba bn bc a h l mv most) t (0, 0))) :
    w.cell? ⟨Ob, 0, none⟩ = some (.slice ba bn bc) ∧ w.cell? ⟨Ob, 1, none⟩ = some (.int .i64 (a : Int)) ∧ w.cell? ⟨Ob, 2, none⟩ = some (.int .u64 (h : Int)) ∧ w.cell? ⟨Ob, 3, none⟩ = some (.int .i64 (l : Int)) ∧ w.cell? ⟨Ob, 4, none⟩ = some mv ∧ w.cell? ⟨Ob, 5, none⟩ = some (.int .i64 (most : Int)) :=
  ⟨cell_row0 w Ob 0 _ _ _ hh, cell_row0 w Ob 1 _ _ _ hh, cell_row0 w Ob 2 _ _ _ hh, cell_row0 w Ob 3 _ _ _ hh, cell_row0 w Ob 4 _ _ _ hh, cell_row0 w Ob 5 _ _ _ hh⟩
theorem raw_free {w : World} {Ob : Nat} {ba : Option Addr} {bn bc a h l most : Nat} {mv : Value} {t : TypeId} (hh : w.heap[Ob]? = some (.cells (cellsO ba bn bc a h l mv most) t (0, 0))) (k : Nat) : w.frozen? ⟨Ob, k, none⟩ = false := free_row0 w Ob k _ _ hh
theorem or_held (h b l : Nat) (h1 : h < 2 ^ l) (hb : b < 256) (hl : l ≤ 24) : bits .or .u64 (h : Int) (IntKind.u64.wrap (IntKind.u64.wrap (b : Int) * 2 ^ l)) = ((h + b * 2 ^ l : Nat) : Int) := by
  have hp : 2 ^ l ≤ 16777216 := by have := Nat.pow_le_pow_right (n := 2) (by omega) hl; simpa using this
  have hm : b * 2 ^ l ≤ 255 * 16777216 := Nat.mul_le_mul (by omega) hp
  have e0 : IntKind.u64.wrap (b : Int) = (b : Int) := by rw [IntKind.wrap_u64]; omega
  have e1 : IntKind.u64.wrap ((b : Int) * 2 ^ l) = ((b * 2 ^ l : Nat) : Int) := by
    have : (b : Int) * 2 ^ l = ((b * 2 ^ l : Nat) : Int) := by simp
    rw [this, IntKind.wrap_u64]; omega
  rw [e0, e1]
  show IntKind.u64.wrap ((BitVec.ofInt 64 _ ||| BitVec.ofInt 64 _ : BitVec 64).toNat : Int) = _
  rw [BitVec.toNat_or, BitVec.toNat_ofInt, BitVec.toNat_ofInt]
  have e2 : (((h : Nat) : Int) % ((2 ^ 64 : Nat) : Int)).toNat = h := by omega
  have e3 : (((b * 2 ^ l : Nat) : Int) % ((2 ^ 64 : Nat) : Int)).toNat = b <<< l := by rw [Nat.shiftLeft_eq]; omega
  rw [e2, e3, Nat.or_comm, ← Nat.shiftLeft_add_eq_or_of_lt h1, Nat.shiftLeft_eq, IntKind.wrap_u64]
  generalize b * 2 ^ l = z at *
  omega
theorem and_held (h n : Nat) (hn : n ≤ 16) : bits .and .u64 (h : Int) (IntKind.u64.wrap (IntKind.u64.wrap (2 ^ n) - 1)) = ((h % 2 ^ n : Nat) : Int) := by
  have hp : 2 ^ n ≤ 65536 := by have := Nat.pow_le_pow_right (n := 2) (by omega) hn; simpa using this
  have hp0 : 0 < 2 ^ n := Nat.two_pow_pos n
  have e1 : (2 : Int) ^ n = ((2 ^ n : Nat) : Int) := by simp
  have e2 : IntKind.u64.wrap (IntKind.u64.wrap ((2 ^ n : Nat) : Int) - 1) = ((2 ^ n - 1 : Nat) : Int) := by
    rw [IntKind.wrap_u64, IntKind.wrap_u64]
    generalize 2 ^ n = q at *
    omega
  rw [e1, e2]
  have hlt : h % 2 ^ n < 65536 := Nat.lt_of_lt_of_le (Nat.mod_lt _ hp0) hp
  show IntKind.u64.wrap ((BitVec.ofInt 64 _ &&& BitVec.ofInt 64 _ : BitVec 64).toNat : Int) = _
  rw [BitVec.toNat_and, BitVec.toNat_ofInt, BitVec.toNat_ofInt]
  have e4 : (((2 ^ n - 1 : Nat) : Int) % ((2 ^ 64 : Nat) : Int)).toNat = 2 ^ n - 1 := by
    generalize 2 ^ n = q at *
    omega
  have e5 : (((h : Nat) : Int) % ((2 ^ 64 : Nat) : Int)).toNat = h % 2 ^ 64 := by omega
  rw [e4, e5, Nat.and_two_pow_sub_one_eq_mod, Nat.mod_mod_of_dvd _ (Nat.pow_dvd_pow 2 (by omega)), IntKind.wrap_u64]
  omega
theorem held_more (bs : List Int) (N p l a b : Nat) (hN : N = streamN bs) (hr : ∀ x ∈ bs, 0 ≤ x ∧ x ≤ 255) (hpl : p + l = 8 * a) (hb : bs[a]?.getD 0 = (b : Int)) : N / 2 ^ p % 2 ^ l + b * 2 ^ l = N / 2 ^ p % 2 ^ (l + 8) := by
  rw [bits_split, hpl, hN]
  have := stream_at bs hr a
  rw [hb, Int.toNat_natCast] at this
  rw [show (2 : Nat) ^ 8 = 256 from rfl, this, Nat.mul_comm]
/-- How many bytes were begun. -/
def posA (Ob : Nat) (w : World) : Nat := match w.cell? ⟨Ob, 1, none⟩ with
  | some (.int _ a) => a.toNat
  | _ => 0
theorem posA_of {w : World} {Ob : Nat} {ba : Option Addr} {bn bc a h l most : Nat} {mv : Value} {t : TypeId} (hh : w.heap[Ob]? = some (.cells (cellsO ba bn bc a h l mv most) t (0, 0))) : posA Ob w = a := by
  unfold posA
  rw [(raw_cells hh).2.1]
  exact Int.toNat_natCast a
set_option maxRecDepth 100000 in
set_option maxHeartbeats 8000000 in
theorem number_any {w0 : World} {Ob : Nat} {ba : Option Addr} {bn bc N most : Nat} {bs : List Int} (HS : SrcB w0 ba bn bc N most bs) (w : World) (p : Nat) (mv : Value) (made : List Int) (H : OutL 8 w0 Ob ba bn bc N most w p mv made) (n : Nat) (hn : n ≤ 16) :
    Calls Tryz.prog 69 #[.pointer (some ⟨Ob, 0, none⟩), .int .i64 (n : Int)] w (Got w0 Ob ba bn bc N most w mv made (num N (8 * bn) p n)) := by
  have HSS := Lib.hid HS
  have HO := Lib.hid H
  have hbn := HS.few
  have hbc := HS.le
  clear HS H
  go_enter Tryz.func69, Tryz.ntmps69
  go_wp2_with fail
  go_loopw [] (fun wr => OutL (n + 8) w0 Ob ba bn bc N most wr p mv made ∧ Turn Ob mv mv w wr) (fun wr => bn - posA Ob wr)
  case atStart =>
    obtain ⟨a, h, l, h1, h2, h3, h4⟩ := HO.out
    exact ⟨⟨a, h, l, h1, h2, by omega, h4⟩, Turn.refl _ _ _⟩
  case round =>
    obtain ⟨ho, ht⟩ := hrel
    have HR := Lib.hid ho
    obtain ⟨a, hd, l, hh, h1, h2, h3, h4, -⟩ := ho
    obtain ⟨c0, c1, c2, c3, c4, c5⟩ := raw_cells hh
    have HH := Lib.hid hh
    have HT := Lib.hid ht
    have H4 := Lib.hid h4
    clear hh ht h4 HO
    by_cases hlt : l < n
    · have hlti : (l : Int) < (n : Int) := by omega
      by_cases hend : a = bn
      · subst hend
        have herr : num N (8 * a) p n = .error 3 := by unfold num; rw [if_neg (by omega)]
        have HE := Lib.hid herr
        clear herr
        go_wp2_with fail
        go_quiet (fail)
        have HTd := Lib.hid (HT.out.drewN nq)
        generalize wr.drewN nq = wz at *
        clear c0 c1 c2 c3 c4 c5
        go_wp2_with fail
        refine (with_any 3 wz).mono ?_
        rintro e w2 ⟨rfl, rfl⟩
        dsimp only [thrown]
        go_wp2_with fail
        exact ⟨rfl, HTd.out, .inr ⟨3, HE.out, rfl⟩⟩
      · have hae : ((a : Int) == (bn : Int)) = false := by simp; omega
        have haj : ¬ (a : Int) = (bn : Int) := by omega
        obtain ⟨-, -, hr, h0' | ⟨b1, o1, hba, hcell⟩⟩ := HSS.out.bytes.below (show Below w0.heap.size w0 wr from by obtain ⟨-, -, -, -, -, -, -, -, -, -, hb, -⟩ := HR.out; exact hb)
        · omega
        subst hba
        have q1 := hcell a (by omega)
        have hra := hr a
        obtain ⟨b, hb⟩ : ∃ b : Nat, bs[a]?.getD 0 = (b : Int) := Int.eq_ofNat_of_zero_le hra.1
        rw [hb] at q1
        have hb8 : b < 256 := by omega
        have hai : (a : Int) < (bn : Int) := by omega
        have HBA := Lib.hid hb
        have HN2 : Hid (N / 2 ^ p % 2 ^ l + b * 2 ^ l = N / 2 ^ p % 2 ^ (l + 8)) := held_more bs N p l a b HSS.out.num (mem_of_getD hr) h1 hb
        have hor := or_held hd b l (by rw [H4.out]; exact bits_lt _ _ _) hb8 (by omega)
        obtain ⟨h2', hh2⟩ : ∃ h2', hd + b * 2 ^ l = h2' := ⟨_, rfl⟩
        rw [hh2] at hor
        have HH2 : Hid (h2' = N / 2 ^ p % 2 ^ (l + 8)) := by show _ = _; rw [← hh2, H4.out]; exact HN2.out
        clear hr hcell hra hb hh2
        go_wp2_with fail
        go_quiet (fail)
        have HOd : Hid (OnlyAt Ob wr (wr.drewN nq)) := (OnlyAt.refl Ob wr).drewN nq
        have HHd : Hid ((wr.drewN nq).heap[Ob]? = some (.cells (cellsO (some ⟨b1, o1, none⟩) bn bc a hd l mv most) 104 (0, 0))) := HH.out
        have q1' : (wr.drewN nq).cell? ⟨b1, o1 + a, none⟩ = some (.int .u8 (b : Int)) := q1
        clear q1 c0 c1 c2 c3 c4 c5
        generalize wr.drewN nq = wz at *
        obtain ⟨c0, c1, c2, c3, c4, c5⟩ := raw_cells HHd.out
        go_wp2_with fail
        go_still_tail 21, (by kernel_rfl)
        change wpList _ _ _ _ _ wz.drew
        try rw [hor]
        have HHe : Hid (wz.drew.heap[Ob]? = some (.cells (cellsO (some ⟨b1, o1, none⟩) bn bc a hd l mv most) 104 (0, 0))) := HHd.out
        have HOe := Lib.hid HOd.out.drew
        clear q1' hor c0 c1 c2 c3 c4 c5
        generalize wz.drew = wy at *
        obtain ⟨c0, c1, c2, c3, c4, c5⟩ := raw_cells HHe.out
        have f0 := raw_free HHe.out
        have hl8 : (l : Int) + 8 ≤ 100 := by omega
        go_wp2_with fail
        have hh3 : (((wy.setCell ⟨Ob, 2, none⟩ (.int .u64 (h2' : Int))).setCell ⟨Ob, 1, none⟩ (.int .i64 ((a : Int) + 1))).setCell ⟨Ob, 3, none⟩ (.int .i64 ((l : Int) + 8))).heap[Ob]? = some (.cells (cellsO (some ⟨b1, o1, none⟩) bn bc (a + 1) h2' (l + 8) mv most) 104 (0, 0)) :=
          heap_setCell_same _ Ob 3 _ _ _ (heap_setCell_same _ Ob 1 _ _ _ (heap_setCell_same _ Ob 2 _ _ _ HHe.out))
        have hput := HR.out.put (lim' := n + 8) (p' := p) (a + 1) h2' (l + 8) (((HOe.out.set 2 _).set 1 _).set 3 _) hh3 (by omega) (by omega) (by omega) HH2.out
        refine ⟨⟨hput.1, HT.out.trans hput.2⟩, ?_⟩
        rw [posA_of hh3, posA_of HH.out]
        omega
    · have hlti : ¬ (l : Int) < (n : Int) := by omega
      have hnl : n ≤ l := by omega
      have hand := and_held hd n hn
      obtain ⟨x, hx⟩ : ∃ x, hd % 2 ^ n = x := ⟨_, rfl⟩
      obtain ⟨y, hy⟩ : ∃ y, hd / 2 ^ n = y := ⟨_, rfl⟩
      have hdiv : (hd : Int) / 2 ^ n = (y : Int) := by rw [← hy]; simp
      have hx16 : x ≤ 65535 := by
        have h1 := Nat.mod_lt hd (Nat.two_pow_pos n)
        have h2 := Nat.pow_le_pow_right (n := 2) (by omega) hn
        have h3 : (2 : Nat) ^ 16 = 65536 := rfl
        omega
      rw [hx] at hand
      have HNUM : Hid (num N (8 * bn) p n = .ok (x, p + n)) := by
        show _ = _
        unfold num
        rw [if_pos (by omega), ← hx, H4.out, bits_mod _ _ _ _ hnl]
      have HY : Hid (y = N / 2 ^ (p + n) % 2 ^ (l - n)) := by show _ = _; rw [← hy, H4.out, bits_div _ _ _ _ hnl]
      clear hx hy
      go_wp2_with fail
      go_quiet (fail)
      have HOd : Hid (OnlyAt Ob wr (wr.drewN nq)) := (OnlyAt.refl Ob wr).drewN nq
      have HHd : Hid ((wr.drewN nq).heap[Ob]? = some (.cells (cellsO ba bn bc a hd l mv most) 104 (0, 0))) := HH.out
      clear c0 c1 c2 c3 c4 c5
      generalize wr.drewN nq = wz at *
      obtain ⟨c0, c1, c2, c3, c4, c5⟩ := raw_cells HHd.out
      have f2 := raw_free HHd.out 2
      have f3 := raw_free HHd.out 3
      try rw [hand]
      go_wp2_with fail
      go_ret
      have hll : (l : Int) - (n : Int) = ((l - n : Nat) : Int) := by omega
      have hh2 : ((wz.setCell ⟨Ob, 2, none⟩ (.int .u64 (y : Int))).setCell ⟨Ob, 3, none⟩ (.int .i64 ((l : Int) - (n : Int)))).heap[Ob]? = some (.cells (cellsO ba bn bc a y (l - n) mv most) 104 (0, 0)) := by
        rw [hll]
        exact heap_setCell_same _ Ob 3 _ _ _ (heap_setCell_same _ Ob 2 _ _ _ HHd.out)
      have hput := HR.out.put (lim' := 8) (p' := p + n) a y (l - n) ((HOd.out.set 2 _).set 3 _) hh2 (by omega) (by omega) h3 HY.out
      exact ⟨HT.out.trans hput.2, .inl ⟨x, p + n, HNUM.out, rfl, hput.1⟩⟩
end Go.Proofs.YtglgchjkonjpiaaGreatDoor
/-! One bit; a code, the highest bit first: the walks. -/
namespace Go.Proofs.YtglgchjkonjpiaaGreatDoor
open Go.RowKit Plain
set_option linter.unusedVariables false
theorem Got.lift {w0 : World} {Ob : Nat} {ba : Option Addr} {bn bc N most : Nat} {w : World} {mv : Value} {made : List Int} {r : Except Nat (Nat × Nat)} {e : Ending} {w' : World} (h : Got w0 Ob ba bn bc N most w mv made r e w') :
    (∃ x q, r = .ok (x, q) ∧ e = .returned (.int .i64 (x : Int)) ∧ Turn Ob mv mv w w' ∧ OutL 8 w0 Ob ba bn bc N most w' q mv made) ∨ ∃ n, r = .error n ∧ e = .panicked [{ v := .iface 126 (.agg #[.int .i64 (n : Int)]), recovered := false }] ∧ Turn Ob mv mv w w' := by
  obtain ⟨ht, ⟨x, q, h1, h2, h3⟩ | ⟨n, h1, h2⟩⟩ := h
  · exact .inl ⟨x, q, h1, h2, ht, h3⟩
  · exact .inr ⟨n, h1, h2, ht⟩
set_option maxRecDepth 100000 in
set_option maxHeartbeats 4000000 in
theorem one_any {w0 : World} {Ob : Nat} {ba : Option Addr} {bn bc N most : Nat} {bs : List Int} (HS : SrcB w0 ba bn bc N most bs) (w : World) (p : Nat) (mv : Value) (made : List Int) (H : OutL 8 w0 Ob ba bn bc N most w p mv made) :
    Calls Tryz.prog 67 #[.pointer (some ⟨Ob, 0, none⟩)] w (Got w0 Ob ba bn bc N most w mv made (num N (8 * bn) p 1)) := by
  have hnum := number_any HS w p mv made H 1 (by omega)
  clear HS H
  go_enter Tryz.func67, Tryz.ntmps67
  go_wp2_with fail
  refine hnum.mono ?_
  intro e w2 hgot
  obtain ⟨x, q, hr, rfl, ht, ho⟩ | ⟨k, hr, rfl, ht⟩ := hgot.lift
  · have HG := Lib.hid hgot
    clear hnum hgot hr ht ho
    go_wp2_with fail
    go_ret
    exact HG.out
  · have HG := Lib.hid hgot
    clear hnum hgot hr ht
    go_wp2_with fail
    exact ⟨rfl, HG.out⟩
set_option maxRecDepth 100000 in
set_option maxHeartbeats 4000000 in
theorem reverse_any (x : Nat) (hx : x < 256) (w : World) : Calls Tryz.prog 132 #[.int .u8 (x : Int)] w fun e w' => e = .returned (.int .u8 (rev 8 x : Nat)) ∧ w = w' := by
  go_enter Tryz.func132, Tryz.ntmps132
  go_wp2_with fail
  go_ret
  refine ⟨congrArg Ending.returned (congrArg (Value.int .u8) (congrArg Int.ofNat ?_)), rfl⟩
  rename_i hxi
  clear w
  revert hxi
  revert hx
  revert x
  decide +kernel
end Go.Proofs.YtglgchjkonjpiaaGreatDoor
/-! Codes with the highest bit first; the signs of the codes that are given: the walks. -/
namespace Go.Proofs.YtglgchjkonjpiaaGreatDoor
open Go.RowKit Plain
set_option linter.unusedVariables false
theorem rev7 : ∀ x : Nat, x < 128 → rev 8 x / 2 = rev 7 x ∧ rev 8 x ≤ 255 ∧ rev 7 x ≤ 127 := by decide +kernel
theorem rev5 : ∀ x : Nat, x < 32 → rev 8 x / 8 = rev 5 x ∧ rev 8 x ≤ 255 ∧ rev 5 x ≤ 31 := by decide +kernel
set_option maxRecDepth 100000 in
set_option maxHeartbeats 4000000 in
theorem code7_any {w0 : World} {Ob : Nat} {ba : Option Addr} {bn bc N most : Nat} {bs : List Int} (HS : SrcB w0 ba bn bc N most bs) (w : World) (p : Nat) (mv : Value) (made : List Int) (H : OutL 8 w0 Ob ba bn bc N most w p mv made) :
    Calls Tryz.prog 111 #[.pointer (some ⟨Ob, 0, none⟩), .int .i64 7] w (Got w0 Ob ba bn bc N most w mv made (codeN N (8 * bn) p 7)) := by
  have hnum := number_any HS w p mv made H 7 (by omega)
  clear HS H
  go_enter Tryz.func111, Tryz.ntmps111
  go_wp2_with fail
  refine hnum.mono ?_
  intro e w2 hgot
  obtain ⟨x, q, hr, rfl, ht, ho⟩ | ⟨k, hr, rfl, ht⟩ := hgot.lift
  · have hlt := (num_ok hr).1
    have HC : Hid (codeN N (8 * bn) p 7 = .ok (rev 7 x, q)) := by show _ = _; unfold codeN; rw [hr]
    have HT := Lib.hid ht
    have HO := Lib.hid ho
    have hx7 : x < 128 := hlt
    obtain ⟨r1, r2, r3⟩ := rev7 x hx7
    have hx8 : IntKind.u8.wrap (x : Int) = (x : Int) := by rw [IntKind.wrap_u8]; omega
    have hrv := reverse_any x (by omega) w2
    obtain ⟨y, hy⟩ : ∃ y, rev 8 x = y := ⟨_, rfl⟩
    obtain ⟨z, hz⟩ : ∃ z, rev 7 x = z := ⟨_, rfl⟩
    rw [hy] at r1 r2 hrv
    rw [hz] at r1 r3 HC
    have hdv : (y : Int) / 2 = (z : Int) := by omega
    clear hnum hgot hr ht ho hy hz hlt r1
    go_wp2_with fail
    refine hrv.mono ?_
    rintro e w3 ⟨rfl, rfl⟩
    clear hrv
    go_wp2_with fail
    go_ret
    exact ⟨HT.out, .inl ⟨z, q, HC.out, rfl, HO.out⟩⟩
  · have HC : Hid (codeN N (8 * bn) p 7 = .error k) := by show _ = _; unfold codeN; rw [hr]
    have HT := Lib.hid ht
    clear hnum hgot hr ht
    go_wp2_with fail
    exact ⟨rfl, HT.out, .inr ⟨k, HC.out, rfl⟩⟩
set_option maxRecDepth 100000 in
set_option maxHeartbeats 4000000 in
theorem code5_any {w0 : World} {Ob : Nat} {ba : Option Addr} {bn bc N most : Nat} {bs : List Int} (HS : SrcB w0 ba bn bc N most bs) (w : World) (p : Nat) (mv : Value) (made : List Int) (H : OutL 8 w0 Ob ba bn bc N most w p mv made) :
    Calls Tryz.prog 111 #[.pointer (some ⟨Ob, 0, none⟩), .int .i64 5] w (Got w0 Ob ba bn bc N most w mv made (codeN N (8 * bn) p 5)) := by
  have hnum := number_any HS w p mv made H 5 (by omega)
  clear HS H
  go_enter Tryz.func111, Tryz.ntmps111
  go_wp2_with fail
  refine hnum.mono ?_
  intro e w2 hgot
  obtain ⟨x, q, hr, rfl, ht, ho⟩ | ⟨k, hr, rfl, ht⟩ := hgot.lift
  · have hlt := (num_ok hr).1
    have HC : Hid (codeN N (8 * bn) p 5 = .ok (rev 5 x, q)) := by show _ = _; unfold codeN; rw [hr]
    have HT := Lib.hid ht
    have HO := Lib.hid ho
    have hx7 : x < 32 := hlt
    obtain ⟨r1, r2, r3⟩ := rev5 x hx7
    have hx8 : IntKind.u8.wrap (x : Int) = (x : Int) := by rw [IntKind.wrap_u8]; omega
    have hrv := reverse_any x (by omega) w2
    obtain ⟨y, hy⟩ : ∃ y, rev 8 x = y := ⟨_, rfl⟩
    obtain ⟨z, hz⟩ : ∃ z, rev 5 x = z := ⟨_, rfl⟩
    rw [hy] at r1 r2 hrv
    rw [hz] at r1 r3 HC
    have hdv : (y : Int) / 8 = (z : Int) := by omega
    clear hnum hgot hr ht ho hy hz hlt r1
    go_wp2_with fail
    refine hrv.mono ?_
    rintro e w3 ⟨rfl, rfl⟩
    clear hrv
    go_wp2_with fail
    go_ret
    exact ⟨HT.out, .inl ⟨z, q, HC.out, rfl, HO.out⟩⟩
  · have HC : Hid (codeN N (8 * bn) p 5 = .error k) := by show _ = _; unfold codeN; rw [hr]
    have HT := Lib.hid ht
    clear hnum hgot hr ht
    go_wp2_with fail
    exact ⟨rfl, HT.out, .inr ⟨k, HC.out, rfl⟩⟩
set_option maxRecDepth 100000 in
set_option maxHeartbeats 4000000 in
theorem fixedDist_any {w0 : World} {Ob : Nat} {ba : Option Addr} {bn bc N most : Nat} {bs : List Int} (HS : SrcB w0 ba bn bc N most bs) (w : World) (p : Nat) (mv : Value) (made : List Int) (H : OutL 8 w0 Ob ba bn bc N most w p mv made) :
    Calls Tryz.prog 89 #[.pointer (some ⟨Ob, 0, none⟩)] w (Got w0 Ob ba bn bc N most w mv made (fixedDistN N (8 * bn) p)) := by
  have hnum := code5_any HS w p mv made H
  clear HS H
  go_enter Tryz.func89, Tryz.ntmps89
  go_wp2_with fail
  refine hnum.mono ?_
  intro e w2 hgot
  obtain ⟨x, q, hr, rfl, ht, ho⟩ | ⟨k, hr, rfl, ht⟩ := hgot.lift
  · have HG := Lib.hid hgot
    clear hnum hgot hr ht ho
    go_wp2_with fail
    go_ret
    exact HG.out
  · have HG := Lib.hid hgot
    clear hnum hgot hr ht
    go_wp2_with fail
    exact ⟨rfl, HG.out⟩
theorem or_bit (x b : Nat) (hx : x ≤ 100000) (hb : b < 2) : bits .or .i64 ((x : Int) * 2) (b : Int) = ((2 * x + b : Nat) : Int) := by
  show IntKind.i64.wrap ((BitVec.ofInt 64 _ ||| BitVec.ofInt 64 _ : BitVec 64).toNat : Int) = _
  rw [BitVec.toNat_or, BitVec.toNat_ofInt, BitVec.toNat_ofInt]
  have e1 : (((x : Int) * 2) % ((2 ^ 64 : Nat) : Int)).toNat = x <<< 1 := by rw [Nat.shiftLeft_eq]; omega
  have e2 : (((b : Nat) : Int) % ((2 ^ 64 : Nat) : Int)).toNat = b := by omega
  rw [e1, e2, ← Nat.shiftLeft_add_eq_or_of_lt (by omega), Nat.shiftLeft_eq, IntKind.wrap_i64]
  omega
set_option maxRecDepth 100000 in
set_option maxHeartbeats 4000000 in
theorem fixedSign_any {w0 : World} {Ob : Nat} {ba : Option Addr} {bn bc N most : Nat} {bs : List Int} (HS : SrcB w0 ba bn bc N most bs) (w : World) (p : Nat) (mv : Value) (made : List Int) (H : OutL 8 w0 Ob ba bn bc N most w p mv made) :
    Calls Tryz.prog 88 #[.pointer (some ⟨Ob, 0, none⟩)] w (Got w0 Ob ba bn bc N most w mv made (fixedSignN N (8 * bn) p)) := by
  have hnum := code7_any HS w p mv made H
  have HSS := Lib.hid HS
  clear HS H
  go_enter Tryz.func88, Tryz.ntmps88
  go_wp2_with fail
  refine hnum.mono ?_
  intro e w2 hgot
  obtain ⟨x, q, hr, rfl, ht, ho⟩ | ⟨k, hr, rfl, ht⟩ := hgot.lift
  · have hx7 : x ≤ 127 := by
      unfold codeN at hr
      cases hn : num N (8 * bn) p 7 with
      | error e => rw [hn] at hr; cases hr
      | ok v =>
        obtain ⟨y, z⟩ := v
        rw [hn] at hr
        injection hr with hr
        injection hr with h1 h2
        have := (rev7 y (num_ok hn).1).2.2
        omega
    have HR := Lib.hid hr
    have HT := Lib.hid ht
    have HO := Lib.hid ho
    clear hnum hgot hr ht ho
    by_cases h23 : x ≤ 23
    · have h23i : (x : Int) ≤ 23 := by omega
      go_wp2_with fail
      go_ret
      exact ⟨HT.out, .inl ⟨256 + x, q, by unfold fixedSignN; rw [HR.out]; simp only []; rw [if_pos h23], rfl, HO.out⟩⟩
    · have h23i : ¬ (x : Int) ≤ 23 := by omega
      have hone := one_any HSS.out w2 q mv made HO.out
      go_wp2_with fail
      refine hone.mono ?_
      intro e w3 hgot
      obtain ⟨b, r, hr, rfl, ht, ho⟩ | ⟨k, hr, rfl, ht⟩ := hgot.lift
      · have hb2 : b < 2 := (num_ok hr).1
        have hor := or_bit x b (by omega) hb2
        have HR2 := Lib.hid hr
        have HT2 := Lib.hid (HT.out.trans ht)
        have HO2 := Lib.hid ho
        clear hone hgot hr ht ho
        obtain ⟨y, hy⟩ : ∃ y, 2 * x + b = y := ⟨_, rfl⟩
        rw [hy] at hor
        have HY := Lib.hid hy
        have hy8 : y ≤ 255 := by omega
        have hy9 : 48 ≤ y := by omega
        clear hy
        by_cases h191 : y ≤ 191
        · have h191i : (y : Int) ≤ 191 := by omega
          go_wp2_with fail
          go_ret
          refine ⟨HT2.out, .inl ⟨y - 48, r, by unfold fixedSignN; rw [HR.out]; simp only []; rw [if_neg h23, HR2.out]; simp only []; rw [HY.out, if_pos h191], ?_, HO2.out⟩⟩
          exact congrArg (fun z => Ending.returned (.int .i64 z)) (by omega)
        · have h191i : ¬ (y : Int) ≤ 191 := by omega
          by_cases h199 : y ≤ 199
          · have h199i : (y : Int) ≤ 199 := by omega
            go_wp2_with fail
            go_ret
            refine ⟨HT2.out, .inl ⟨280 + y - 192, r, by unfold fixedSignN; rw [HR.out]; simp only []; rw [if_neg h23, HR2.out]; simp only []; rw [HY.out, if_neg h191, if_pos h199], ?_, HO2.out⟩⟩
            exact congrArg (fun z => Ending.returned (.int .i64 z)) (by omega)
          · have h199i : ¬ (y : Int) ≤ 199 := by omega
            have hone := one_any HSS.out w3 r mv made HO2.out
            go_wp2_with fail
            refine hone.mono ?_
            intro e w4 hgot
            obtain ⟨c, s, hr, rfl, ht, ho⟩ | ⟨k, hr, rfl, ht⟩ := hgot.lift
            · have hc2 : c < 2 := (num_ok hr).1
              have hor2 := or_bit y c (by omega) hc2
              have HR3 := Lib.hid hr
              have HT3 := Lib.hid (HT2.out.trans ht)
              have HO3 := Lib.hid ho
              clear hone hgot hr ht ho hor
              obtain ⟨z, hz⟩ : ∃ z, 2 * y + c = z := ⟨_, rfl⟩
              rw [hz] at hor2
              have HZ := Lib.hid hz
              have hz8 : z ≤ 511 := by omega
              have hz9 : 400 ≤ z := by omega
              clear hz
              go_wp2_with fail
              go_ret
              refine ⟨HT3.out, .inl ⟨144 + z - 400, s, by unfold fixedSignN; rw [HR.out]; simp only []; rw [if_neg h23, HR2.out]; simp only []; rw [HY.out, if_neg h191, if_neg h199, HR3.out]; simp only []; rw [HZ.out], ?_, HO3.out⟩⟩
              exact congrArg (fun z => Ending.returned (.int .i64 z)) (by omega)
            · have HR3 := Lib.hid hr
              have HT3 := Lib.hid (HT2.out.trans ht)
              clear hone hgot hr ht hor
              go_wp2_with fail
              exact ⟨rfl, HT3.out, .inr ⟨k, by unfold fixedSignN; rw [HR.out]; simp only []; rw [if_neg h23, HR2.out]; simp only []; rw [HY.out, if_neg h191, if_neg h199, HR3.out], rfl⟩⟩
      · have HR2 := Lib.hid hr
        have HT2 := Lib.hid (HT.out.trans ht)
        clear hone hgot hr ht
        go_wp2_with fail
        exact ⟨rfl, HT2.out, .inr ⟨k, by unfold fixedSignN; rw [HR.out]; simp only []; rw [if_neg h23, HR2.out], rfl⟩⟩
  · have HR := Lib.hid hr
    have HT := Lib.hid ht
    clear hnum hgot hr ht
    go_wp2_with fail
    exact ⟨rfl, HT.out, .inr ⟨k, by unfold fixedSignN; rw [HR.out], rfl⟩⟩
end Go.Proofs.YtglgchjkonjpiaaGreatDoor
/-! A byte is given; lengths and distances: the walks. -/
namespace Go.Proofs.YtglgchjkonjpiaaGreatDoor
open Go.RowKit Plain
set_option linter.unusedVariables false
theorem leave_any {w0 : World} {Ob : Nat} {ba : Option Addr} {bn bc N most : Nat} (w : World) (p : Nat) (mv : Value) (made : List Int) (H : OutL 8 w0 Ob ba bn bc N most w p mv made) :
    Calls Tryz.prog 106 #[.pointer (some ⟨Ob, 0, none⟩)] w fun e w' => e = .returned (.tuple #[]) ∧ OutL 8 w0 Ob ba bn bc N most w' (8 * ((p + 7) / 8)) mv made ∧ Turn Ob mv mv w w' := by
  have HO := Lib.hid H
  obtain ⟨a, hd, l, hh, h1, h2, h3, h4, -⟩ := H
  obtain ⟨c0, c1, c2, c3, c4, c5⟩ := raw_cells hh
  have f2 := raw_free hh 2
  have f3 := raw_free hh 3
  have HH := Lib.hid hh
  clear hh h4
  go_enter Tryz.func106, Tryz.ntmps106
  go_wp2_with fail
  go_end0
  have hh2 : ((w.setCell ⟨Ob, 2, none⟩ (.int .u64 0)).setCell ⟨Ob, 3, none⟩ (.int .i64 0)).heap[Ob]? = some (.cells (cellsO ba bn bc a 0 0 mv most) 104 (0, 0)) :=
    heap_setCell_same _ Ob 3 _ _ _ (heap_setCell_same _ Ob 2 _ _ _ HH.out)
  exact ⟨rfl, HO.out.put (lim' := 8) (p' := 8 * ((p + 7) / 8)) a 0 0 (((OnlyAt.refl Ob w).set 2 _).set 3 _) hh2 (by omega) (by omega) h3 (by simp [Nat.mod_one])⟩
set_option maxRecDepth 100000 in
set_option maxHeartbeats 4000000 in
theorem give_any {w0 : World} {Ob : Nat} {ba : Option Addr} {bn bc N most : Nat} (hmost : most ≤ 1000000000) (w : World) (p : Nat) (mv : Value) (made : List Int) (H : OutL 8 w0 Ob ba bn bc N most w p mv made) (x : Nat) (hx : x ≤ 255) :
    Calls Tryz.prog 107 #[.pointer (some ⟨Ob, 0, none⟩), .int .u8 (x : Int)] w fun e w' => (made.length < most ∧ e = .returned (.tuple #[]) ∧ ∃ mv', OutL 8 w0 Ob ba bn bc N most w' p mv' (made ++ [(x : Int)]) ∧ Turn Ob mv mv' w w') ∨ (most ≤ made.length ∧ e = thrown 2 ∧ Turn Ob mv mv w w') := by
  have HO := Lib.hid H
  obtain ⟨a, hd, l, hh, h1, h2, h3, h4, hmid, hO, hbel, hge, hlen, hr⟩ := H
  obtain ⟨va, vc, rfl, -, -, -⟩ := hmid.shape
  have HMID := Lib.hid hmid
  have HR := Lib.hid hr
  have HH := Lib.hid hh
  obtain ⟨n, hn⟩ : ∃ n, made.length = n := ⟨_, rfl⟩
  have HN := Lib.hid hn
  rw [hn] at hlen HMID HH hO HO
  have hsz := hbel.size
  clear hh h4 hr hmid hbel
  rw [hn]
  clear hn
  go_enter Tryz.func107, Tryz.ntmps107
  obtain ⟨c0, c1, c2, c3, c4, c5⟩ := raw_cells HH.out
  by_cases hlt : n < most
  · have hlti : ¬ (most : Int) ≤ (n : Int) := by omega
    go_wp2_with fail
    go_quiet (fail)
    have HTd : Hid (Below w.heap.size w (w.drewN nq)) := ⟨rfl, rfl, rfl, Nat.le_refl _, fun _ _ => rfl⟩
    have HOd : Hid (OutL 8 w0 Ob ba bn bc N most (w.drewN nq) p (.slice va n vc) made) := HO.out.below (below_drewN w nq)
    have HHd : Hid ((w.drewN nq).heap[Ob]? = some (.cells (cellsO ba bn bc a hd l (.slice va n vc) most) 104 (0, 0))) := HH.out
    have HMd : Hid (Mid (w.drewN nq) w0.heap.size (.slice va n vc) n made) := HMID.out
    have hsz2 : w0.heap.size ≤ (w.drewN nq).heap.size := hsz
    clear c0 c1 c2 c3 c4 c5
    generalize w.drewN nq = wz at *
    obtain ⟨c0, c1, c2, c3, c4, c5⟩ := raw_cells HHd.out
    have HB4 : Hid (Below wz.heap.size wz (wz.alloc (.cells #[.int .u8 (x : Int)] 5))) := (Below.refl _ _).alloc (Nat.le_refl _) _
    have tok : True := trivial
    go_wp2_with (
      have _t := tok
      at_builtin
      refine wpList_append_mid rfl _ _ 22 rfl w0.heap.size (.slice va n vc) n made rfl (HMd.out.below HB4.out) _ 1 [(x : Int)] rfl (src_bytes (Bytes.lit wz wz.heap.size rfl [(x : Int)] 5 (0, 0) 1 rfl (by omega) (by intro y hy; simp at hy; omega))) (by omega) (by simp; omega) ?_
      intro v5 w5 hm5 hg5 ho5
      have HM5 := Lib.hid hm5
      have HG5 := Lib.hid hg5
      have HO5 := Lib.hid ho5
      clear tok hm5 hg5 ho5
      refine Hid.out ?_)
    refine unhid ?_
    have hnew := HOd.out.grow HB4.out HG5.out (v2 := v5) (m2 := made ++ [(x : Int)]) (by rw [List.length_append, HN.out]; exact HM5.out) HO5.out (by rw [List.length_append, HN.out]; simp; omega) (fun y hy => by
      rcases List.mem_append.1 hy with h | h
      · exact HR.out y h
      · rw [List.mem_singleton] at h; omega)
    obtain ⟨d5, e5, hv5, -⟩ := HM5.out.shape
    have hh5 := hnew.1.trans HHd.out
    obtain ⟨k0, k1, k2, k3, k4, k5⟩ := raw_cells hh5
    have kf := raw_free hh5 4
    subst hv5
    have HNW := Lib.hid hnew.2
    clear hnew hh5 c0 c1 c2 c3 c4 c5
    go_wp2_with fail
    go_end0
    exact .inl ⟨hlt, rfl, _, HNW.out.1, HNW.out.2.after HTd.out⟩
  · have hlti : (most : Int) ≤ (n : Int) := by omega
    go_wp2_with fail
    go_quiet (fail)
    have HTd : Hid (Turn Ob (.slice va n vc) (.slice va n vc) w (w.drewN nq)) := (Turn.refl _ _ _).drewN nq
    clear c0 c1 c2 c3 c4 c5
    generalize w.drewN nq = wz at *
    go_wp2_with fail
    refine (with_any 2 wz).mono ?_
    rintro e w2 ⟨rfl, rfl⟩
    dsimp only [thrown]
    go_wp2_with fail
    exact ⟨rfl, .inr ⟨by omega, rfl, HTd.out⟩⟩
end Go.Proofs.YtglgchjkonjpiaaGreatDoor
