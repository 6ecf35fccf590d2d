/- Rows of bytes: appended, copied, put together: the walks. -/
import Derived.Test.YtmkhnlfhbiabcaaDoorV8
import Derived.Test.YtmkhnlfhbiabcaaDoorSub
import Derived.Lib.AppendZeros
import Derived.Deep.AppendSrc
import Derived.Test.YtmkhnlfhbiabcaaDoorRefPath
namespace Go.Proofs.YtmkhnlfhbiabcaaDoor
open Go.RowKit Plain
set_option linter.unusedVariables false
theorem Own.mid {w : World} {base : Nat} {v : Value} {n : Nat} {xs : List Int} (h : Own w base v n xs) : Mid w base v n xs := by
  have hl : xs.length = n := by have := h.1; simpa using this
  rcases Nat.eq_zero_or_pos n with h0 | h0
  · subst h0
    obtain rfl : xs = [] := List.eq_nil_of_length_eq_zero hl
    obtain ⟨h1, ⟨rfl, -⟩ | ⟨g, cap, cur, rfl, h3, h4, h5, h6, h7, h8⟩⟩ := h
    · exact Mid.nil w base
    · refine ⟨rfl, .inr ⟨g, 0, cap, rfl, h3, ?_, h5, by unfold maxLen at h6; omega, fun j v hv => (by cases hv), fun j hj => ?_⟩⟩
      · rcases Nat.lt_or_ge g w.heap.size with h | h
        · exact h
        · simp [Array.getElem?_eq_none h] at h4
      · simp [World.cell?, World.frozen?, h4, show j < cur.size by omega]
  · obtain ⟨h1, ⟨rfl, rfl⟩ | ⟨g, cap, cur, rfl, h3, h4, h5, h6, h7, h8⟩⟩ := h
    · omega
    · have hh : Own w base (.slice (some ⟨g, 0, none⟩) n cap) n xs := ⟨h1, .inr ⟨g, cap, cur, rfl, h3, h4, h5, h6, h7, h8⟩⟩
      refine ⟨hl, .inr ⟨g, 0, cap, rfl, h3, ?_, h5, by unfold maxLen at h6; omega, fun j v hv => ?_, fun j hj => ?_⟩⟩
      · rcases Nat.lt_or_ge g w.heap.size with h | h
        · exact h
        · simp [Array.getElem?_eq_none h] at h4
      · have hj : j < xs.length := by
          rcases Nat.lt_or_ge j xs.length with h | h
          · exact h
          · unfold U8 at hv; rw [List.getElem?_map, List.getElem?_eq_none h] at hv; cases hv
        rw [Nat.zero_add, hh.cell j (by omega)]
        unfold U8 at hv
        rw [List.getElem?_map, List.getElem?_eq_getElem hj] at hv
        rw [List.getElem?_eq_getElem hj]
        exact hv
      · simp [World.cell?, World.frozen?, h4, show j < cur.size by omega]
theorem range_of_mem0 {xs : List Int} (h : ∀ x ∈ xs, 0 ≤ x ∧ x ≤ 255) (j : Nat) : 0 ≤ xs[j]?.getD 0 ∧ xs[j]?.getD 0 ≤ 255 := by
  by_cases hj : j < xs.length
  · rw [List.getElem?_eq_getElem hj]; exact h _ (List.getElem_mem hj)
  · rw [List.getElem?_eq_none (by omega)]; simp
theorem src_bytes {w : World} {a : Option Addr} {m c : Nat} {ys : List Int} (h : Bytes w a m ys) : Src Tryd.prog 1 22 (.slice a m c) m (U8 ys) w := by
  obtain ⟨h1, h2, h3, rfl | ⟨b, off, rfl, hc⟩⟩ := h
  · obtain rfl : ys = [] := List.eq_nil_of_length_eq_zero h1
    cases a with
    | none => exact Src.ofNil w Tryd.underlying22 c
    | some x => exact Src.ofSlice w Tryd.underlying22 x 0 c [] rfl (fun j u hu => by simp at hu) (fun u hu => by cases hu)
  · refine Src.ofSlice w Tryd.underlying22 ⟨b, off, none⟩ m c (U8 ys) (by rw [U8_length]; omega) (fun j u hu => ?_) (U8_one ys)
    rw [Addr.add_mid]
    have hj : j < ys.length := by
      rcases Nat.lt_or_ge j ys.length with h | h
      · exact h
      · rw [List.getElem?_eq_none (by rw [U8_length]; exact h)] at hu; cases hu
    rw [hc j (by omega)]
    unfold U8 at hu
    rw [List.getElem?_map, List.getElem?_eq_getElem hj] at hu
    rw [List.getElem?_eq_getElem hj]
    exact hu
theorem wpList_append_mid {w : World} {ops : Array Oper} {rest : List Oper} {o : Oper} {ac : Act} {Q : Exit → Act → World → Prop} (hgd : o.guard = none) (s x : Operand) (tx : TypeId)
    (ho : o.op = .call { callee := .builtin .append, args := #[s, x], argTypes := #[22, tx] })
    (base : Nat) (v : Value) (n : Nat) (xs : List Int) (hs : ac.eval s = v) (hown : Mid w base v n xs) (xv : Value) (m : Nat) (ys : List Int) (hx : ac.eval x = xv) (hsrc : Src Tryd.prog 1 tx xv m (U8 ys) w)
    (hsum : n + m ≤ 70368744177664) (hbase : base ≤ w.heap.size)
    (h : ∀ v' w', Mid w' base v' (n + m) (xs ++ ys) → w.grownBy w' v.ownBlock → (v'.ownBlock = v.ownBlock ∨ v'.ownBlock = some w.heap.size) → wpList Tryd.prog ops Q rest (ac.put o.dst v') w') : wpList Tryd.prog ops Q (o :: rest) ac w := by
  refine wpList_plain hgd fun K hK => ?_
  obtain ⟨v', w', hrun, r1, r2, r3⟩ := mid_append w o.type tx base v n xs hown xv m ys hsrc hsum hbase
  unfold Oper.wp
  simp [execOp, ho, resolve, invoke, builtin, hs, hx, hrun, Result.andThen]
  exact hK _ _ (h v' w' r1 r2 r3)
/-- A slice of bytes, with what its ends are. -/
structure RowB (w : World) (a : Option Addr) (n c : Nat) (xs : List Int) : Prop where
  le : n ≤ c
  cap : c ≤ 9223372036854775807
  nil : a = none → c = 0
  bytes : Bytes w a n xs
theorem RowB.below {w w' : World} {a : Option Addr} {n c : Nat} {xs : List Int} (h : RowB w a n c xs) (hb : Below w.heap.size w w') : RowB w' a n c xs := ⟨h.le, h.cap, h.nil, h.bytes.below hb⟩
theorem RowB.len {w : World} {a : Option Addr} {n c : Nat} {xs : List Int} (h : RowB w a n c xs) : xs.length = n := h.bytes.1
theorem RowB.range {w : World} {a : Option Addr} {n c : Nat} {xs : List Int} (h : RowB w a n c xs) : ∀ j : Nat, 0 ≤ xs[j]?.getD 0 ∧ xs[j]?.getD 0 ≤ 255 := h.bytes.2.2.1
theorem Mid.row {w : World} {base : Nat} {a : Option Addr} {n c : Nat} {xs : List Int} (h : Mid w base (.slice a n c) n xs) (hx : ∀ j : Nat, 0 ≤ xs[j]?.getD 0 ∧ xs[j]?.getD 0 ≤ 255) : RowB w a n c xs := by
  obtain ⟨a', c', e, h1, h2, h3⟩ := h.shape
  simp only [Value.slice.injEq, true_and] at e
  obtain ⟨rfl, rfl⟩ := e
  exact ⟨h1, h3, h2, h.bytes hx⟩
theorem Own.row {w : World} {base : Nat} {a : Option Addr} {n c : Nat} {xs : List Int} (h : Own w base (.slice a n c) n xs) (hx : ∀ j : Nat, 0 ≤ xs[j]?.getD 0 ∧ xs[j]?.getD 0 ≤ 255) : RowB w a n c xs := h.mid.row hx
theorem row_in {w : World} {a : Option Addr} {len cap : Nat} {zs : List Int} 
    (h : (a = none ∧ len = 0 ∧ cap = 0 ∧ zs = []) ∨ ∃ x, a = some x ∧ len ≤ cap ∧ cap ≤ maxLen ∧ zs.length = cap ∧ (∀ i, i < zs.length → w.cell? (x.add i) = some (.int .u8 (zs.getD i 0))) ∧ ∀ n ∈ zs, (Lit.int .u8 n).wf = true) (k : Nat) : RowB w a (min len k) cap ((zs.take len).take k) ∧ len ≤ cap ∧ cap ≤ 9223372036854775807 := by
  obtain ⟨hb, hlc, hcm⟩ := bytes_of h
  refine ⟨⟨by omega, hcm, ?_, hb.first k⟩, hlc, hcm⟩
  rcases h with ⟨-, -, h, -⟩ | ⟨x, rfl, -⟩
  · exact fun _ => h
  · exact fun e => by cases e
theorem wpList_append_to {w : World} {ops : Array Oper} {rest : List Oper} {o : Oper} {ac : Act} {Q : Exit → Act → World → Prop} (hgd : o.guard = none) (s x : Operand) (tx : TypeId)
    (ho : o.op = .call { callee := .builtin .append, args := #[s, x], argTypes := #[22, tx] })
    (base : Nat) (v : Value) (n : Nat) (xs : List Int) (hs : ac.eval s = v) (hown : Mid w base v n xs) (xv : Value) (m : Nat) (ys : List Int) (hx : ac.eval x = xv) (hsrc : Src Tryd.prog 1 tx xv m (U8 ys) w)
    (n2 : Nat) (zs : List Int) (hn2 : n + m = n2) (hzs : xs ++ ys = zs) (hsum : n2 ≤ 70368744177664) (hbase : base ≤ w.heap.size)
    (h : ∀ a' c' w', Mid w' base (.slice a' n2 c') n2 zs → Below base w w' → wpList Tryd.prog ops Q rest (ac.put o.dst (.slice a' n2 c')) w') : wpList Tryd.prog ops Q (o :: rest) ac w := by
  subst hn2 hzs
  refine wpList_append_mid hgd s x tx ho base v n xs hs hown xv m ys hx hsrc hsum hbase fun v' w' hm hg ho => ?_
  obtain ⟨a, c, rfl, -⟩ := hm.shape
  exact h a c w' hm (hown.off hbase hg)
theorem cell_block {w : World} {b o : Nat} {v : Value} (h : w.cell? ⟨b, o, none⟩ = some v) : b < w.heap.size := World.block_lt_of_cell? w ⟨b, o, none⟩ h
theorem mid_zeros (w : World) (n : Nat) (hn : n ≤ 1000000000) : ∃ c, grownCap w n 0 5 = c ∧ n ≤ c ∧ c ≤ 9223372036854775807 ∧
    Mid (w.drew.alloc (.cells (Builtin.zeroCells (Value.int .u8 0).cells n ++ Builtin.zeroCells (Value.int .u8 0).cells (c - n)) 5)) w.heap.size (.slice (some ⟨w.heap.size, 0, none⟩) 0 c) 0 [] := by
  have hge := grownCap_ge w n 0 5
  have hcm : grownCap w n 0 5 ≤ maxLen := grownCap_le_maxLen w n 0 5 (by unfold maxLen; omega)
  unfold maxLen at hcm
  refine ⟨_, rfl, hge, by omega, rfl, ?_⟩
  generalize grownCap w n 0 5 = gc at *
  have hz1' : (Value.int IntKind.u8 0).cells.size = 1 := rfl
  have hsz : (Builtin.zeroCells (Value.int .u8 0).cells n ++ Builtin.zeroCells (Value.int .u8 0).cells (gc - n)).size = gc := by
    simp only [Array.size_append, size_zeroCells, hz1']
    omega
  have hnew := heap_alloc_new w.drew (.cells (Builtin.zeroCells (Value.int .u8 0).cells n ++ Builtin.zeroCells (Value.int .u8 0).cells (gc - n)) 5)
  have hnew2 : (w.drew.alloc (.cells (Builtin.zeroCells (Value.int .u8 0).cells n ++ Builtin.zeroCells (Value.int .u8 0).cells (gc - n)) 5)).heap[w.heap.size]? = some (.cells (Builtin.zeroCells (Value.int .u8 0).cells n ++ Builtin.zeroCells (Value.int .u8 0).cells (gc - n)) 5 (0, 0)) := hnew
  have hsize : w.heap.size < (w.drew.alloc (.cells (Builtin.zeroCells (Value.int .u8 0).cells n ++ Builtin.zeroCells (Value.int .u8 0).cells (gc - n)) 5)).heap.size := by simp
  clear hnew
  generalize w.drew.alloc (.cells (Builtin.zeroCells (Value.int .u8 0).cells n ++ Builtin.zeroCells (Value.int .u8 0).cells (gc - n)) 5) = W1 at *
  generalize Builtin.zeroCells (Value.int .u8 0).cells n ++ Builtin.zeroCells (Value.int .u8 0).cells (gc - n) = arr at *
  have hcell : ∀ k, W1.cell? ⟨w.heap.size, k, none⟩ = arr[k]? := fun k => by simp [World.cell?, hnew2]
  have hfro : ∀ k, W1.frozen? ⟨w.heap.size, k, none⟩ = false := fun k => by simp [World.frozen?, hnew2]
  refine .inr ⟨w.heap.size, 0, gc, rfl, Nat.le_refl _, hsize, Nat.zero_le _, by omega, (fun j v hv => by cases hv), fun j hj => ?_⟩
  rw [Nat.zero_add, hcell, hfro]
  exact ⟨by rw [Array.getElem?_eq_getElem (by rw [hsz]; exact hj)]; rfl, rfl⟩
set_option maxRecDepth 100000 in
set_option maxHeartbeats 4000000 in
theorem grow_nil (n : Nat) (h0 : 0 < n) (hn : n ≤ 1000000000) (w : World) :
    Calls Tryd.prog 27 #[.slice none 0 0, .int .i64 (n : Int)] w fun e w' => (∃ g c, e = .returned (.slice (some ⟨g, 0, none⟩) 0 c) ∧ Mid w' w.heap.size (.slice (some ⟨g, 0, none⟩) 0 c) 0 []) ∧ Below w.heap.size w w' := by
  obtain ⟨i, hi, hz0, hz1, hz2⟩ := info_parts u8info
  obtain ⟨c, hc, hnc, hcm, hmid⟩ := mid_zeros w n hn
  have hra := fun ty => Lib.run_append_nil_zeros (P := Tryd.prog) w 22 3 ty 5 i (.int .u8 0) .i64 .i64 Tryd.underlying22 Tryd.underlying3 hi hz0 n h0 (by omega) (by omega) (by rw [hz2]; omega)
  rw [hc] at hra
  have HM := Lib.hid hmid
  have HB : Hid (Below w.heap.size w (w.drew.alloc (.cells (Builtin.zeroCells (Value.int .u8 0).cells n ++ Builtin.zeroCells (Value.int .u8 0).cells (c - n)) 5))) := (Below.refl _ _).drew.alloc (Nat.le_refl _) _
  clear hmid hc
  generalize w.drew.alloc (.cells (Builtin.zeroCells (Value.int .u8 0).cells n ++ Builtin.zeroCells (Value.int .u8 0).cells (c - n)) 5) = W1 at *
  have n1 : ¬ (n : Int) < 0 := by omega
  have n2 : (n : Int) > 0 := by omega
  have n3 : (0 : Int) < n := by omega
  have hw0 : wrap64 (n : Int) = n := IntWalk.wrap64_in _ (by omega)
  have HRA := Lib.hid hra
  have hsl := fun g W => slice_to (some ⟨g, 0, none⟩) n c 0 (Nat.zero_le _) W
  clear hra
  go_enter Tryd.func27, Tryd.ntmps27
  have tok : True := trivial
  go_wp2_with (
    have _t := tok
    at_builtin
    refine Lib.wpList_append_run _ rfl _ _ _ _ rfl _ _ rfl rfl _ _ (HRA.out _) ?_
    clear tok
    refine Hid.out ?_)
  refine unhid ?_
  go_wp2_with fail
  go_ret
  exact ⟨⟨_, _, rfl, HM.out⟩, HB.out⟩
def catN (n m : Nat) : Nat → Nat
  | 0 => 0
  | 1 => n
  | _ => n + m
def catL (xs ys : List Int) : Nat → List Int
  | 0 => []
  | 1 => xs
  | _ => xs ++ ys
set_option maxRecDepth 100000 in
set_option maxHeartbeats 4000000 in
theorem concat_any (g : Nat) (a b : Option Addr) (n m c d : Nat) (xs ys : List Int) (w : World) (k0 : w.cell? ⟨g, 0, none⟩ = some (.slice a n c)) (k1 : w.cell? ⟨g, 1, none⟩ = some (.slice b m d)) (H1 : Bytes w a n xs) (H2 : Bytes w b m ys) (hn : n ≤ 20000000) (hm : m ≤ 20000000) (h0 : 0 < n + m) :
    Calls Tryd.prog 17 #[.slice (some ⟨g, 0, none⟩) 2 2] w fun e w' => (∃ va vc, e = .returned (.slice va (n + m) vc) ∧ Mid w' w.heap.size (.slice va (n + m) vc) (n + m) (xs ++ ys)) ∧ Below w.heap.size w w' := by
  have hg : g < w.heap.size := cell_block k0
  have HX := Lib.hid H1
  have HY := Lib.hid H2
  have K0 := Lib.hid k0
  have K1 := Lib.hid k1
  have w1 : wrap64 (0 + (n : Int)) = n := by rw [Int.zero_add]; exact IntWalk.wrap64_in _ (by omega)
  have w1b : wrap64 (n : Int) = n := IntWalk.wrap64_in _ (by omega)
  have w2 : wrap64 ((n : Int) + (m : Int)) = ((n + m : Nat) : Int) := by
    rw [show (n : Int) + (m : Int) = ((n + m : Nat) : Int) by omega]
    exact IntWalk.wrap64_in _ (by omega)
  have HS : Hid (n + m ≤ 40000000) := by show _ ≤ _; omega
  have H0 := Lib.hid h0
  obtain ⟨t, ht⟩ : ∃ t, n + m = t := ⟨_, rfl⟩
  have HT := Lib.hid ht
  rw [ht] at w2 HS H0 ⊢
  have n1 : ¬ (n : Int) < 0 := by omega
  have n2 : ¬ (t : Int) < 0 := by omega
  clear H1 H2 h0 ht hn hm
  go_enter Tryd.func17, Tryd.ntmps17
  go_wp2_with fail
  go_loop [3, 11] (fun s i => ∃ k : Nat, k ≤ 2 ∧ i = .int .i64 (k : Int) ∧ s = .int .i64 ((catN n m k : Nat) : Int)) (fun s i => 2 - (intOf i).toNat)
  case atStart => exact ⟨0, by omega, rfl, rfl⟩
  case round =>
    obtain ⟨k, hk, rfl, rfl⟩ := hrel
    obtain rfl | rfl | rfl : k = 0 ∨ k = 1 ∨ k = 2 := by omega
    · rw [show catN n m 0 = 0 from rfl]
      go_wp2_with fail
      exact ⟨⟨1, by omega, rfl, congrArg (Value.int .i64) w1b⟩, by simp [intOf]⟩
    · rw [show catN n m 1 = n from rfl]
      go_wp2_with fail
      exact ⟨⟨2, by omega, rfl, by rw [show catN n m 2 = n + m from rfl, HT.out]; exact congrArg (Value.int .i64) w2⟩, by simp [intOf]⟩
    · rw [show catN n m 2 = n + m from rfl, HT.out]
      clear w1 w1b w2 n1
      go_wp2_with fail
      refine (grow_nil t H0.out (by have := HS.out; omega) w).mono ?_
      rintro e w3 ⟨⟨gr, gc, rfl, hmid⟩, hb⟩
      have HM := Lib.hid hmid
      have HB := Lib.hid hb
      clear hmid hb k0 k1
      go_wp2_with fail
      go_loopw [6, 27] (fun v i wr => ∃ (k : Nat) (va : Option Addr) (vc : Nat), k ≤ 2 ∧ i = .int .i64 (k : Int) ∧ v = .slice va (catN n m k) vc ∧ Mid wr w.heap.size (.slice va (catN n m k) vc) (catN n m k) (catL xs ys k) ∧ Below w.heap.size w wr) (fun v i wr => 2 - (intOf i).toNat)
      case atStart => exact ⟨0, some ⟨gr, 0, none⟩, gc, by omega, rfl, rfl, HM.out, HB.out⟩
      case round =>
        clear HM HB
        obtain ⟨k, va, vc, hk, rfl, rfl, hmid, hb⟩ := hrel
        have HM := Lib.hid hmid
        have HB := Lib.hid hb
        have k0 := (hb.cell (p := ⟨g, 0, none⟩) hg).trans K0.out
        have k1 := (hb.cell (p := ⟨g, 1, none⟩) hg).trans K1.out
        clear hmid hb
        have hs := HS.out
        have ht := HT.out
        have h40 : n ≤ 40000000 := by omega
        clear hs ht
        obtain rfl | rfl | rfl : k = 0 ∨ k = 1 ∨ k = 2 := by omega
        · rw [show catN n m 0 = 0 from rfl, show catL xs ys 0 = [] from rfl] at HM
          rw [show catN n m 0 = 0 from rfl]
          have tok : True := trivial
          go_wp2_with (
            have _t := tok
            at_builtin
            refine wpList_append_to rfl _ _ 22 rfl w.heap.size (.slice va 0 vc) 0 [] rfl HM.out _ n xs rfl (src_bytes (HX.out.below HB.out)) n xs (Nat.zero_add n) rfl (by omega) HB.out.size ?_
            intro qa qc w4 hm4 hb4
            have HM4 := Lib.hid hm4
            have HB4 : Hid (Below w.heap.size w w4) := HB.out.trans hb4
            clear tok hm4 hb4 HM
            refine Hid.out ?_)
          refine unhid ?_
          go_wp2_with fail
          exact ⟨⟨1, qa, qc, by omega, rfl, rfl, HM4.out, HB4.out⟩, by simp [intOf]⟩
        · rw [show catN n m 1 = n from rfl, show catL xs ys 1 = xs from rfl] at HM
          rw [show catN n m 1 = n from rfl]
          have tok : True := trivial
          go_wp2_with (
            have _t := tok
            at_builtin
            refine wpList_append_to rfl _ _ 22 rfl w.heap.size (.slice va n vc) n xs rfl HM.out _ m ys rfl (src_bytes (HY.out.below HB.out)) (n + m) (xs ++ ys) rfl rfl (by have := HS.out; have := HT.out; omega) HB.out.size ?_
            intro qa qc w4 hm4 hb4
            have HM4 := Lib.hid hm4
            have HB4 : Hid (Below w.heap.size w w4) := HB.out.trans hb4
            clear tok hm4 hb4 HM
            refine Hid.out ?_)
          refine unhid ?_
          go_wp2_with fail
          exact ⟨⟨2, qa, qc, by omega, rfl, rfl, HM4.out, HB4.out⟩, by simp [intOf]⟩
        · rw [show catN n m 2 = n + m from rfl, HT.out, show catL xs ys 2 = xs ++ ys from rfl] at HM
          rw [show catN n m 2 = n + m from rfl, HT.out]
          go_wp2_with fail
          go_ret
          exact ⟨⟨va, vc, rfl, HM.out⟩, HB.out⟩
theorem nil_yes (W : World) : (binOp .eql 22 (.slice none 0 0) (.slice none 0 0)).run Tryd.prog W = .ok (.bool true) W := by kernel_rfl
theorem nil_no (x : Addr) (n c : Nat) (W : World) : (binOp .eql 22 (.slice (some x) n c) (.slice none 0 0)).run Tryd.prog W = .ok (.bool false) W := by kernel_rfl
set_option maxRecDepth 100000 in
set_option maxHeartbeats 4000000 in
theorem clone_any (a : Option Addr) (n c : Nat) (xs : List Int) (w : World) (h : RowB w a n c xs) (hn : n ≤ 20000000) :
    Calls Tryd.prog 16 #[.slice a n c] w fun e w' => (∃ va vc, e = .returned (.slice va n vc) ∧ Mid w' w.heap.size (.slice va n vc) n xs) ∧ Below w.heap.size w w' := by
  cases a with
  | none =>
    obtain rfl := h.nil rfl
    have hn0 : n = 0 := by have := h.le; omega
    subst hn0
    obtain rfl : xs = [] := List.eq_nil_of_length_eq_zero h.len
    clear h hn
    have hy := nil_yes
    go_enter Tryd.func16, Tryd.ntmps16
    go_wp2_with fail
    go_ret
    exact ⟨⟨none, 0, rfl, Mid.nil _ _⟩, Below.refl _ _⟩
  | some x =>
    have HB : Hid (Below w.heap.size w (w.alloc (.cells #[] 5))) := (Below.refl _ _).alloc (Nat.le_refl _) _
    have HE := Lib.hid (Own.empty w).mid
    have HS := Lib.hid (h.below HB.out).bytes
    have hy := fun W => nil_no x n c W
    have tok : True := trivial
    clear h
    go_enter Tryd.func16, Tryd.ntmps16
    go_wp2_with (have _t := tok; at_builtin; clear tok; refine Hid.out ?_)
    refine unhid ?_
    refine wpList_append_to rfl _ _ 22 rfl w.heap.size _ 0 [] rfl HE.out _ n xs rfl (src_bytes HS.out) n xs (Nat.zero_add n) rfl (by omega) HB.out.size ?_
    intro qa qc w' hm hb
    have HM := Lib.hid hm
    have HB1 := Lib.hid (HB.out.trans (hb.mono (by omega)))
    clear hm hb
    go_wp2_with fail
    go_ret
    exact ⟨⟨qa, qc, rfl, HM.out⟩, HB1.out⟩
end Go.Proofs.YtmkhnlfhbiabcaaDoor
