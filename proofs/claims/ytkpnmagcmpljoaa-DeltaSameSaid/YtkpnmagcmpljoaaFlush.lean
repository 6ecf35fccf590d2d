/- What is pending is written: the walk. -/
import Derived.Test.YtkpnmagcmpljoaaWr
import Derived.Test.YtkpnmagcmpljoaaSub
import Derived.Deep.RegionLaw
namespace Go.Proofs.Ytkpnmagcmpljoaa
open Go.RowKit
set_option linter.unusedVariables false
theorem step_append_mid {W : World} {ops : Array Oper} {o : Oper} {ac : Act} {K : Act → World → Prop} {Q : Exit → Act → World → Prop} {E : Prop} (hgd : o.guard = none) (s x : Operand) (tx : TypeId)
    (ho : o.op = .call { callee := .builtin .append, args := #[s, x], argTypes := #[22, tx] })
    (base : Nat) (v : Value) (n : Nat) (xs : List Int) (hs : ac.eval s = v) (hown : Mid W base v n xs) (xv : Value) (m : Nat) (ys : List Int) (hx : ac.eval x = xv) (hsrc : Src Try.prog 1 tx xv m (U8 ys) W)
    (hsum : n + m ≤ 70368744177664) (hbase : base ≤ W.heap.size)
    (h : ∀ v' w', Mid w' base v' (n + m) (xs ++ ys) → W.grownBy w' v.ownBlock → (v'.ownBlock = v.ownBlock ∨ v'.ownBlock = some W.heap.size) → K (ac.put o.dst v') w') :
    if Region.wanted o (yielded ops ac.tmps) = true then Oper.wp Try.prog o ac W K Q else E := by
  have hw : Region.wanted o (yielded ops ac.tmps) = true := by simp [Region.wanted, hgd]
  rw [if_pos hw]
  obtain ⟨v', w', hrun, r1, r2, r3⟩ := mid_append W o.type tx base v n xs hown xv m ys hsrc hsum hbase
  unfold Oper.wp
  simp [execOp, ho, resolve, invoke, builtin, hs, hx, hrun, Result.andThen]
  exact h v' w' r1 r2 r3
namespace Plain
/-- What is pending, as inserts. -/
def flushF : Nat → List Int → List Int
  | 0, _ => []
  | f + 1, P => if P = [] then [] else ((min P.length 127 : Nat) : Int) :: P.take 127 ++ flushF f (P.drop 127)
def flushOf (P : List Int) : List Int := flushF P.length P
end Plain
open Plain
theorem flushF_more : ∀ (f g : Nat) (P : List Int), P.length ≤ f → P.length ≤ g → flushF f P = flushF g P
  | 0, g, P, hf, hg => by
    obtain rfl : P = [] := List.eq_nil_of_length_eq_zero (by omega)
    cases g with
    | zero => rfl
    | succ g => rw [flushF, flushF, if_pos rfl]
  | f + 1, 0, P, hf, hg => by
    obtain rfl : P = [] := List.eq_nil_of_length_eq_zero (by omega)
    rw [flushF, flushF, if_pos rfl]
  | f + 1, g + 1, P, hf, hg => by
    rw [flushF, flushF]
    by_cases h : P = []
    · rw [if_pos h, if_pos h]
    · have hl : 0 < P.length := List.length_pos_iff.2 h
      rw [if_neg h, if_neg h, flushF_more f g (P.drop 127) (by rw [List.length_drop]; omega) (by rw [List.length_drop]; omega)]
theorem flushOf_nil : flushOf [] = [] := rfl
theorem flushOf_step (P : List Int) (h : P ≠ []) : flushOf P = ((min P.length 127 : Nat) : Int) :: P.take 127 ++ flushOf (P.drop 127) := by
  unfold flushOf
  have hl : 0 < P.length := List.length_pos_iff.2 h
  obtain ⟨f, hf⟩ : ∃ f, P.length = f + 1 := ⟨P.length - 1, by omega⟩
  rw [hf, flushF, if_neg h, flushF_more f (P.drop 127).length (P.drop 127) (by rw [List.length_drop]; omega) (Nat.le_refl _), ← hf]
/-- How many bytes are pending. -/
def pendLen (Wb : Nat) (w : World) : Nat := match w.cell? ⟨Wb, 1, none⟩ with
  | some (.slice _ n _) => n
  | _ => 0
theorem Mid.cut {w : World} {base : Nat} {a : Option Addr} {n c : Nat} {xs : List Int} (h : Mid w base (.slice a n c) n xs) (lo hi : Nat) (h1 : lo ≤ hi) (h2 : hi ≤ n) : Mid w base (.slice (subA a c lo) (hi - lo) (c - lo)) (hi - lo) ((xs.drop lo).take (hi - lo)) := by
  obtain ⟨hl, ⟨e, rfl⟩ | ⟨g, o, cap, e, hb, hlt, hn, hc, hr, ht⟩⟩ := h
  · simp only [Value.slice.injEq] at e
    obtain ⟨rfl, -, rfl⟩ := e
    obtain rfl : lo = 0 := by omega
    obtain rfl : hi = 0 := by omega
    refine ⟨by simp, .inl ⟨by simp [subA], rfl⟩⟩
  · simp only [Value.slice.injEq, true_and] at e
    obtain ⟨rfl, rfl⟩ := e
    refine ⟨by rw [List.length_take, List.length_drop]; omega, .inr ?_⟩
    by_cases hcl : c = lo
    · refine ⟨g, o, c - lo, by rw [subA, if_pos hcl], hb, hlt, by omega, by omega, ?_, fun j hj => by omega⟩
      intro j v hv
      rw [show hi - lo = 0 by omega, List.take_zero] at hv
      simp [U8] at hv
    · refine ⟨g, o + lo, c - lo, ?_, hb, hlt, by omega, by omega, ?_, fun j hj => by have := ht (lo + j) (by omega); rwa [← Nat.add_assoc] at this⟩
      · rw [subA, if_neg hcl]
        show Value.slice (some (Addr.add _ _)) _ _ = _
        rw [Addr.add_mid]
      · intro j v hv
        have hj : j < hi - lo := by
          rcases Nat.lt_or_ge j (hi - lo) with h | h
          · exact h
          · rw [List.getElem?_eq_none (by rw [U8_length, List.length_take, List.length_drop]; omega)] at hv; cases hv
        have := hr (lo + j) v (by
          unfold U8 at hv ⊢
          rw [List.getElem?_map] at hv ⊢
          rwa [List.getElem?_take_of_lt hj, List.getElem?_drop] at hv)
        rwa [← Nat.add_assoc] at this
theorem own_subA (a : Option Addr) (n c lo m k : Nat) : (Value.slice (subA a c lo) n m).ownBlock = (Value.slice a k c).ownBlock := by
  unfold subA
  split
  · cases a <;> rfl
  · cases a with
    | none => rfl
    | some x =>
      show some (x.add lo).block = some x.block
      unfold Addr.add
      split <;> rfl
theorem Mid.front {w : World} {base : Nat} {a : Option Addr} {n c : Nat} {xs : List Int} (h : Mid w base (.slice a n c) n xs) (k : Nat) (hk : k ≤ n) : Mid w base (.slice a k c) k (xs.take k) := by
  obtain ⟨hl, ⟨e, rfl⟩ | ⟨g, o, cap, e, hb, hlt, hn, hc, hr, ht⟩⟩ := h
  · simp only [Value.slice.injEq] at e
    obtain ⟨rfl, -, rfl⟩ := e
    obtain rfl : k = 0 := by omega
    exact ⟨by simp, .inl ⟨rfl, rfl⟩⟩
  · simp only [Value.slice.injEq, true_and] at e
    obtain ⟨rfl, rfl⟩ := e
    refine ⟨by rw [List.length_take]; omega, .inr ⟨g, o, c, rfl, hb, hlt, by omega, hc, fun j v hv => hr j v ?_, ht⟩⟩
    unfold U8 at hv ⊢
    rw [List.getElem?_map] at hv ⊢
    have hj : j < k := by
      rcases Nat.lt_or_ge j k with h | h
      · exact h
      · rw [List.getElem?_eq_none (by rw [List.length_take]; omega)] at hv; cases hv
    rwa [List.getElem?_take_of_lt hj] at hv
theorem range_of_mem0 {xs : List Int} (h : ∀ x ∈ xs, 0 ≤ x ∧ x ≤ 255) (j : Nat) : 0 ≤ xs[j]?.getD 0 ∧ xs[j]?.getD 0 ≤ 255 := by
  by_cases hj : j < xs.length
  · rw [List.getElem?_eq_getElem hj]; exact h _ (List.getElem_mem hj)
  · rw [List.getElem?_eq_none (by omega)]; simp
/-- The writer, both rows by name. -/
def Raw (w : World) (s0 Wb Mb : Nat) (dv : Value) (dn : Nat) (D : List Int) (pv : Value) (pn : Nat) (P : List Int) : Prop :=
  w.heap[Wb]? = some (.cells #[dv, pv] 48 (0, 0)) ∧ Mid w s0 dv dn D ∧ Mid w s0 pv pn P ∧ s0 ≤ Wb ∧ Wb ≠ Mb ∧ Mb < w.heap.size ∧
    dv.ownBlock ≠ some Wb ∧ dv.ownBlock ≠ some Mb ∧ pv.ownBlock ≠ some Wb ∧ pv.ownBlock ≠ some Mb ∧ (dv.ownBlock = none ∨ dv.ownBlock ≠ pv.ownBlock)
theorem Raw.wr {w : World} {s0 Wb Mb : Nat} {dv : Value} {dn : Nat} {D : List Int} {pv : Value} {pn : Nat} {P : List Int} (h : Raw w s0 Wb Mb dv dn D pv pn P) : Wr w s0 Wb Mb D P := ⟨dv, pv, dn, pn, h⟩
theorem Raw.lt {w : World} {s0 Wb Mb : Nat} {dv : Value} {dn : Nat} {D : List Int} {pv : Value} {pn : Nat} {P : List Int} (h : Raw w s0 Wb Mb dv dn D pv pn P) : Wb < w.heap.size := by
  rcases Nat.lt_or_ge Wb w.heap.size with h' | h'
  · exact h'
  · have := h.1; rw [Array.getElem?_eq_none h'] at this; cases this
theorem Raw.drew {w : World} {s0 Wb Mb : Nat} {dv : Value} {dn : Nat} {D : List Int} {pv : Value} {pn : Nat} {P : List Int} (h : Raw w s0 Wb Mb dv dn D pv pn P) : Raw w.drew s0 Wb Mb dv dn D pv pn P := h
theorem Fr.drew {s0 Mb : Nat} {a w : World} (h : Fr s0 Mb a w) : Fr s0 Mb a w.drew := ⟨h.below.drew, h.keeps⟩
/-- The row has grown, and is put down. -/
theorem raw_row {w wA w2 : World} {s0 Wb Mb dn pn n2 : Nat} {D P D2 : List Int} {dv pv v2 : Value} (h : Raw w s0 Wb Mb dv dn D pv pn P) (hs : s0 ≤ w.heap.size) (hb : Below w.heap.size w wA) (hm : Mid w2 s0 v2 n2 D2)
    (hg : wA.grownBy w2 dv.ownBlock) (ho : v2.ownBlock = dv.ownBlock ∨ v2.ownBlock = some wA.heap.size) :
    w2.heap[Wb]? = some (.cells #[dv, pv] 48 (0, 0)) ∧ Raw (w2.setCell ⟨Wb, 0, none⟩ v2) s0 Wb Mb v2 n2 D2 pv pn P ∧ Fr s0 Mb w (w2.setCell ⟨Wb, 0, none⟩ v2) := by
  have hL := h.lt
  obtain ⟨hh, hd, hp, h1, h2, h3, h4, h5, h6, h7, h8⟩ := h
  have h8' : pv.ownBlock = none ∨ pv.ownBlock ≠ dv.ownBlock := by
    rcases h8 with e | e
    · cases hpv : pv.ownBlock with
      | none => exact .inl rfl
      | some k => exact .inr (by rw [e]; simp)
    · exact .inr (fun e' => e e'.symm)
  obtain ⟨g1, g2, g3, g4, g5, g6, g7⟩ := side_grown hL hb hp hd h3 h6 h7 h4 h5 h8' hs hg ho
  have g1' := g1.trans hh
  have hset := grownBy_set1 w2 Wb 0 v2
  have g6' : v2.ownBlock = none ∨ v2.ownBlock ≠ pv.ownBlock := by
    rcases g6 with e | e
    · cases hv : v2.ownBlock with
      | none => exact .inl rfl
      | some k => exact .inr (by rw [e]; simp)
    · exact .inr (fun e' => e e'.symm)
  refine ⟨g1', ⟨(heap_setCell_same w2 Wb 0 _ _ v2 g1').trans rfl, hm.kept hset (.inr g4), g2.kept hset (.inr h6), h1, h2, ?_, g4, g5, h6, h7, g6'⟩, ?_⟩
  · rw [World.size_setCell]; exact g3
  · exact g7.grown hset (by have := g7.below.size; omega) g3 (fun k hk => by injection hk with hk; omega) (fun e => by injection e with e; exact h2 e)
/-- Less is pending. -/
theorem raw_less {w : World} {s0 Wb Mb dn pn n2 : Nat} {D P P2 : List Int} {dv pv v2 : Value} (h : Raw w s0 Wb Mb dv dn D pv pn P) (hs : s0 ≤ w.heap.size) (hm : Mid w s0 v2 n2 P2) (ho : v2.ownBlock = pv.ownBlock) :
    Raw (w.setCell ⟨Wb, 1, none⟩ v2) s0 Wb Mb dv dn D v2 n2 P2 ∧ Fr s0 Mb w (w.setCell ⟨Wb, 1, none⟩ v2) := by
  obtain ⟨hh, hd, hp, h1, h2, h3, h4, h5, h6, h7, h8⟩ := h
  have hset := grownBy_set1 w Wb 1 v2
  rw [← ho] at h6 h7 h8
  refine ⟨⟨(heap_setCell_same w Wb 1 _ _ v2 hh).trans rfl, hd.kept hset (.inr h4), hm.kept hset (.inr h6), h1, h2, ?_, h4, h5, h6, h7, h8⟩, ?_⟩
  · rw [World.size_setCell]; exact h3
  · exact (Fr.refl _ _ _).grown hset hs h3 (fun k hk => by injection hk with hk; omega) (fun e => by injection e with e; exact h2 e)
theorem raw_cells {w : World} {Wb : Nat} {dv pv : Value} {t : TypeId} (h : w.heap[Wb]? = some (.cells #[dv, pv] t (0, 0))) :
    w.cell? ⟨Wb, 0, none⟩ = some dv ∧ w.cell? ⟨Wb, 1, none⟩ = some pv ∧ w.frozen? ⟨Wb, 0, none⟩ = false ∧ w.frozen? ⟨Wb, 1, none⟩ = false :=
  ⟨cell_row0 w Wb 0 _ _ _ h, cell_row0 w Wb 1 _ _ _ h, free_row0 w Wb 0 _ _ h, free_row0 w Wb 1 _ _ h⟩
theorem min2_run {P : Program} (ts : Array TypeId) (t : TypeId) (k k1 : IntKind) (x y : Int) (w : World) : (Builtin.min_ ts t #[.int k x, .int k1 y]).run P w = .ok (.int k (min x y)) w := by
  have e : ∀ p q : Int, (if q < p then q else p) = min p q := fun p q => by split <;> omega
  simp [Builtin.min_, Builtin.min2, e]
set_option maxRecDepth 100000 in
set_option maxHeartbeats 8000000 in
theorem flush_any (s0 Wb Mb : Nat) (D P : List Int) (hx : ∀ x ∈ P, 0 ≤ x ∧ x ≤ 255) (hP : D.length + 2 * P.length ≤ 1000000000) (w : World) (hs : s0 ≤ w.heap.size) (H : Wr w s0 Wb Mb D P) :
    Calls Try.prog 26 #[.pointer (some ⟨Wb, 0, none⟩)] w fun e w' => e = .returned (.tuple #[]) ∧ Wr w' s0 Wb Mb (D ++ flushOf P) [] ∧ Fr s0 Mb w w' := by
  have HX := Lib.hid hx
  have HW := Lib.hid H
  clear hx H
  go_enter Try.func26, Try.ntmps26
  go_wp2_with fail
  go_loopw [] (fun wr => ∃ D1 P1, Wr wr s0 Wb Mb D1 P1 ∧ D1 ++ flushOf P1 = D ++ flushOf P ∧ (∀ x ∈ P1, 0 ≤ x ∧ x ≤ 255) ∧ D1.length + 2 * P1.length ≤ 1000000000 ∧ Fr s0 Mb w wr) (fun wr => pendLen Wb wr)
  case atStart => exact ⟨D, P, HW.out, rfl, HX.out, hP, Fr.refl _ _ _⟩
  case round =>
    obtain ⟨D1, P1, ⟨dv, pv, dn, pn, hw⟩, he, hx1, hl1, hf⟩ := hrel
    obtain ⟨da, dc, rfl, -, -, -⟩ := hw.2.1.shape
    obtain ⟨pa, pc, rfl, hpc, hpnil, hpm⟩ := hw.2.2.1.shape
    obtain ⟨hc0, hc1, hf0, hf1⟩ := raw_cells hw.1
    have hpl : P1.length = pn := hw.2.2.1.1
    have hdl : D1.length = dn := hw.2.1.1
    have HR : Hid (Raw wr s0 Wb Mb (.slice da dn dc) dn D1 (.slice pa pn pc) pn P1) := hw
    have HE := Lib.hid he
    have HX1 := Lib.hid hx1
    have HF := Lib.hid hf
    have HPN := Lib.hid hpnil
    have hsr : s0 ≤ wr.heap.size := Nat.le_trans hs hf.below.size
    have hbnd : dn + 2 * pn ≤ 1000000000 := by omega
    clear hw he hx1 hl1 hf HW HX hP hpnil
    by_cases h0 : pn = 0
    · subst h0
      obtain rfl : P1 = [] := List.eq_nil_of_length_eq_zero hpl
      have sl : ∀ W : World, (Instr.sliceAt 22 (.slice pa 0 pc) none (some (.int .i64 0)) none).run Try.prog W = .ok (.slice pa 0 pc) W := fun W => slice_to pa 0 pc 0 (Nat.zero_le _) W
      have HL := Lib.hid (raw_less HR.out hsr HR.out.2.2.1 rfl)
      have HE1 : Hid (D1 = D ++ flushOf P) := by
        have := HE.out; rw [flushOf_nil, List.append_nil] at this; exact this
      go_wp2_with fail
      go_end0
      exact ⟨rfl, by rw [← HE1.out]; exact HL.out.1.wr, HF.out.trans HL.out.2⟩
    · have hpos : (0 : Int) < pn := by omega
      obtain ⟨k, hk⟩ : ∃ k, min pn 127 = k := ⟨_, rfl⟩
      have hmn : ∀ (ts : Array TypeId) (t : TypeId) (W : World), (Builtin.min_ ts t #[.int .i64 (pn : Int), .int .i64 127]).run Try.prog W = .ok (.int .i64 (k : Int)) W := fun ts t W => by
        rw [show (k : Int) = min (pn : Int) 127 by omega]; exact min2_run ts t .i64 .i64 pn 127 W
      have hk8 : k ≤ 127 := by omega
      have hkp : k ≤ pn := by omega
      have hk0 : 0 < k := by omega
      have HST : Hid (flushOf P1 = ((k : Nat) : Int) :: P1.take k ++ flushOf (P1.drop k)) := by
        show _ = _
        rw [flushOf_step P1 (by intro e; rw [e] at hpl; simp at hpl; omega), hpl, hk]
        have e1 : P1.take 127 = P1.take k := by
          rw [← hk]
          rcases Nat.lt_or_ge pn 127 with h | h
          · rw [Nat.min_eq_left (by omega), List.take_of_length_le (by omega), List.take_of_length_le (by omega)]
          · rw [Nat.min_eq_right h]
        have e2 : P1.drop 127 = P1.drop k := by
          rw [← hk]
          rcases Nat.lt_or_ge pn 127 with h | h
          · rw [Nat.min_eq_left (by omega), List.drop_of_length_le (by omega), List.drop_of_length_le (by omega)]
          · rw [Nat.min_eq_right h]
        rw [e1, e2]
      have hkc : k ≤ pc := by omega
      have s1 := fun W => slice_to pa pn pc k hkc W
      have s2 := fun W => slice_from pa pn pc k hkp hpc W
      have HBB := Lib.hid (show Below wr.heap.size wr (wr.alloc (.cells #[.int .u8 (k : Int)] 5)) from (Below.refl _ _).alloc (Nat.le_refl _) _)
      clear hk
      have tok : True := trivial
      go_wp2_with (
        have _t := tok
        at_builtin
        refine wpList_append_mid rfl _ _ 22 rfl s0 (.slice da dn dc) dn D1 rfl (HR.out.2.1.below HBB.out) _ 1 [(k : Int)] rfl (src_bytes (Bytes.lit wr wr.heap.size rfl [(k : Int)] 5 (0, 0) 1 rfl (by omega) (by intro y hy; simp at hy; omega))) (by omega) (by simp; omega) ?_
        intro v2 w2 hm2 hg2 ho2
        obtain ⟨d2, c2, e2, -⟩ := hm2.shape
        subst e2
        have HM2 := Lib.hid hm2
        have HG2 := Lib.hid hg2
        have HO2 := Lib.hid ho2
        clear tok hm2 hg2 ho2
        refine Hid.out ?_)
      refine unhid ?_
      have hrow := raw_row HR.out hsr HBB.out HM2.out HG2.out HO2.out
      obtain ⟨hc0', hc1', hf0', hf1'⟩ := raw_cells hrow.1
      have HR2 := Lib.hid hrow.2.1
      have HF2 := Lib.hid (HF.out.trans hrow.2.2)
      clear hrow HM2 HG2 HO2 hc0 hc1 hf0 hf1 HBB
      obtain ⟨w3, hw3⟩ : ∃ w3, w2.setCell ⟨Wb, 0, none⟩ (.slice d2 (dn + 1) c2) = w3 := ⟨_, rfl⟩
      rw [hw3] at HR2 HF2
      obtain ⟨kc0, kc1, kf0, kf1⟩ := raw_cells HR2.out.1
      have HMF := Lib.hid (HR2.out.2.2.1.front k hkp)
      have HY : Hid (Bytes w3 pa k (P1.take k)) := HMF.out.bytes (range_of_mem0 (fun x hx => HX1.out x (List.mem_of_mem_take hx)))
      have hs3 : s0 ≤ w3.heap.size := Nat.le_trans hs HF2.out.below.size
      have HDR := Lib.hid (show Below w3.heap.size w3 w3.drew from (Below.refl _ _).drew)
      clear HMF
      go_wp2_with fail
      clear hc0' hc1' hf0' hf1'
      go_region_law (refine step_append_mid rfl _ _ 22 rfl s0 (.slice d2 (dn + 1) c2) (dn + 1) (D1 ++ [(k : Int)]) rfl HR2.out.drew.2.1 _ k (P1.take k) rfl (src_bytes (HY.out.below HDR.out)) (by omega) hs3 ?_; intro v4 w4 hm4 hg4 ho4; obtain ⟨d4, c4, e4, -⟩ := hm4.shape; subst e4; have hrow := raw_row HR2.out hs3 HDR.out hm4 hg4 ho4; obtain ⟨mc0, mc1, mf0, mf1⟩ := raw_cells hrow.1; clear hm4 hg4 ho4)
      all_goals
        have HR5 := Lib.hid hrow.2.1
        have HF5 := Lib.hid (HF2.out.trans hrow.2.2)
        clear hrow mc0 mc1 mf0 mf1 kc0 kc1 kf0 kf1
        obtain ⟨w5, hw5⟩ : ∃ w5, w4.setCell ⟨Wb, 0, none⟩ (.slice d4 (dn + 1 + k) c4) = w5 := ⟨_, rfl⟩
        rw [hw5] at HR5 HF5
        rw [hw5]
        clear hw5 HDR HY hw3
        obtain ⟨mc0, mc1, mf0, mf1⟩ := raw_cells HR5.out.1
        have hs5 : s0 ≤ w5.heap.size := Nat.le_trans hs HF5.out.below.size
        have hless := raw_less HR5.out hs5 (HR5.out.2.2.1.cut k pn hkp (Nat.le_refl _)) (own_subA pa (pn - k) pc k (pc - k) pn)
        have HW6 := Lib.hid hless.1.wr
        have HC6 := Lib.hid (raw_cells hless.1.1).2.1
        have HF6 := Lib.hid (HF5.out.trans hless.2)
        have HC0 : Hid (pendLen Wb wr = pn) := by
          show _ = _
          unfold pendLen
          rw [(raw_cells HR.out.1).2.1]
        clear hless
        go_wp2_with fail
        refine ⟨⟨_, _, HW6.out, ?_, fun x hx => HX1.out x (List.mem_of_mem_drop (List.mem_of_mem_take hx)), ?_, HF6.out⟩, ?_⟩
        · have ht : (P1.drop k).take (pn - k) = P1.drop k := List.take_of_length_le (by rw [List.length_drop]; omega)
          rw [ht, ← HE.out, HST.out]
          simp [List.append_assoc]
        · simp only [List.length_append, List.length_take, List.length_drop, List.length_singleton]
          omega
        · rw [HC0.out]
          unfold pendLen
          rw [HC6.out]
          show pn - k < pn
          omega
end Go.Proofs.Ytkpnmagcmpljoaa
