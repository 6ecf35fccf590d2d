/- A part absorbed: the walk of the closure. -/
import Derived.Test.YtlnfgebonmfokaaDoorAbs
namespace Go.Proofs.YtlnfgebonmfokaaDoor
open Go.RowKit Plain
set_option linter.unusedVariables false
theorem Bytes.kept {B : Nat} {w w' : World} {a : Option Addr} {len : Nat} {xs : List Int} (h : Bytes w a len xs) (hk : Kept B w w') (ho : 0 < len → ∀ b o, a = some ⟨b, o, none⟩ → b < B + 1 ∨ B + 4 < b) : Bytes w' a len xs := by
  obtain ⟨h1, h2, h3, h4 | ⟨b, off, rfl, hc⟩⟩ := h
  · exact ⟨h1, h2, h3, .inl h4⟩
  · refine ⟨h1, h2, h3, .inr ⟨b, off, rfl, fun j hj => ?_⟩⟩
    have hlt : b < w.heap.size := by
      rcases Nat.lt_or_ge b w.heap.size with h | h
      · exact h
      · have := hc j hj
        simp [World.cell?, Array.getElem?_eq_none h] at this
    rw [← hc j hj]
    exact World.cell?_of_block (hk.block b hlt (ho (by omega) b off rfl))
set_option maxRecDepth 100000 in
theorem slice_64_from (B f : Nat) (hf : f < 64) (w : World) : (Instr.sliceAt 50 (.pointer (some ⟨B, 0, none⟩)) (some (.int .i64 (f : Int))) none none).run Tryd.prog w = .ok (.slice (some ⟨B, f, none⟩) (64 - f) (64 - f)) w := by
  have hal : Tryd.prog.arrayLen 50 = 64 := by kernel_rfl
  have hsz : ∀ W : World, (sizeOf (Tryd.prog.elem 50)).run Tryd.prog W = .ok 1 W := fun W => by kernel_rfl
  rw [run_sliceAt_array_l (P := Tryd.prog) w 50 ⟨B, 0, none⟩ (by kernel_rfl) .i64 (f : Int) (by omega) (by rw [hal]; omega), hsz, hal]
  have e1 : (f : Int).toNat = f := by omega
  simp only [Result.andThen_ok, slicedAt, e1, Nat.mul_one]
  rw [if_neg (by omega)]
  congr 3
  unfold Addr.add
  split <;> simp_all
set_option maxRecDepth 100000 in
theorem slice_rest (b o len cap n : Nat) (hn : n ≤ len) (hc : len ≤ cap) (w : World) : (Instr.sliceAt 22 (.slice (some ⟨b, o, none⟩) len cap) (some (.int .i64 (n : Int))) none none).run Tryd.prog w = .ok (.slice (if cap = n then some ⟨b, o, none⟩ else some ⟨b, o + n, none⟩) (len - n) (cap - n)) w := by
  have hsz : ∀ W : World, (sizeOf (Tryd.prog.elem 22)).run Tryd.prog W = .ok 1 W := fun W => by kernel_rfl
  rw [run_sliceAt_slice w 22 _ _ _ _ (by kernel_rfl), run_slice_l w 22 (some ⟨b, o, none⟩) len cap (by kernel_rfl) .i64 (n : Int) (by omega) (by omega), hsz]
  have e1 : (n : Int).toNat = n := by omega
  simp only [Result.andThen_ok, sliced, e1, Nat.mul_one, Option.map_some]
  congr 2
  split
  · rfl
  · unfold Addr.add; split <;> simp_all
theorem St.size {w : World} {B : Nat} {s : State} {z : Int} (h : St w B s z) (z' : Int) : St (w.setCell ⟨B + 4, 0, none⟩ (.int .u64 z')) B s z' := by
  have k : ∀ g, g ≠ B + 4 → (w.setCell ⟨B + 4, 0, none⟩ (.int .u64 z')).heap[g]? = w.heap[g]? := fun g hg => Below.heap_setCell w _ _ g hg
  obtain ⟨bs, b1, b2, b3, b4⟩ := h.blk
  exact ⟨(k _ (by omega)).trans h.h, ⟨bs, b1, b2, b3, (k _ (by omega)).trans b4⟩, (k _ (by omega)).trans h.fl, heap_setCell_same w (B + 4) 0 _ _ _ h.sz, (k _ (by omega)).trans h.wk, h.lt⟩
structure ShaMem (w : World) (B : Nat) (h : Five) (bs : List Int) (v : Value) (z : Int) : Prop where
  h : w.heap[B + 1]? = some (.cells (cells5V h) 49 (0, 0))
  blk : w.heap[B + 2]? = some (.cells (V8 bs) 50 (0, 0))
  fl : w.heap[B + 3]? = some (.cells #[v] 3 (0, 0))
  sz : w.heap[B + 4]? = some (.cells #[.int .u64 z] 36 (0, 0))
  wk : w.heap[B + 5]? = some (.cells #[workV B] 1 (0, 0))
theorem ShaMem.worked {W2 W : World} {B : Nat} {h r : Five} {bs : List Int} {v : Value} {z : Int} (H : ShaMem W2 B h bs v z) (hl : bs.length = 64) (hby : ∀ j : Nat, 0 ≤ bs[j]?.getD 0 ∧ bs[j]?.getD 0 ≤ 255) (hb : Below W2.heap.size W2 W) :
    St ((W.setRow (B + 1) (cells5V r)).setCell ⟨B + 3, 0, none⟩ (.int .i64 0)) B { h := r, buf := [] } z := by
  have lt : ∀ {g : Nat} {o : Obj}, W2.heap[g]? = some o → W.heap[g]? = some o := fun {g o} hg => (hb.block g (Array.getElem?_eq_some_iff.1 hg).1).trans hg
  have c : ∀ g, g ≠ B + 3 → ((W.setRow (B + 1) (cells5V r)).setCell ⟨B + 3, 0, none⟩ (.int .i64 0)).heap[g]? = (W.setRow (B + 1) (cells5V r)).heap[g]? := fun g hg => Below.heap_setCell _ _ _ g hg
  have d : ∀ g, g ≠ B + 1 → (W.setRow (B + 1) (cells5V r)).heap[g]? = W.heap[g]? := fun g hg => setRow_other W (B + 1) g _ hg
  exact ⟨(c _ (by omega)).trans (setRow_heap W (B + 1) _ _ _ _ (lt H.h)), ⟨bs, hl, hby, by simp, (c _ (by omega)).trans ((d _ (by omega)).trans (lt H.blk))⟩,
    heap_setCell_same _ (B + 3) 0 _ _ _ ((d _ (by omega)).trans (lt H.fl)), (c _ (by omega)).trans ((d _ (by omega)).trans (lt H.sz)), (c _ (by omega)).trans ((d _ (by omega)).trans (lt H.wk)), by simp⟩
theorem splice_bytes (bs cs : List Int) (f : Nat) (hf : f + cs.length ≤ bs.length) (hb : ∀ j : Nat, 0 ≤ bs[j]?.getD 0 ∧ bs[j]?.getD 0 ≤ 255) (hc : ∀ j : Nat, 0 ≤ cs[j]?.getD 0 ∧ cs[j]?.getD 0 ≤ 255) :
    ∀ j : Nat, 0 ≤ (bs.take f ++ (cs ++ bs.drop (f + cs.length)))[j]?.getD 0 ∧ (bs.take f ++ (cs ++ bs.drop (f + cs.length)))[j]?.getD 0 ≤ 255 := fun j => by
  have hl : (bs.take f).length = f := by rw [List.length_take]; omega
  by_cases h1 : j < f
  · rw [List.getElem?_append_left (by omega), List.getElem?_take_of_lt h1]; exact hb j
  · rw [List.getElem?_append_right (by omega), hl]
    by_cases h2 : j - f < cs.length
    · rw [List.getElem?_append_left h2]; exact hc _
    · rw [List.getElem?_append_right (by omega), List.getElem?_drop]; exact hb _
def sizeV : Value → Nat
  | .slice _ n _ => n
  | _ => 0
set_option maxRecDepth 100000 in
set_option maxHeartbeats 8000000 in
theorem take_any (B : Nat) (s : State) (z : Nat) (a : Option Addr) (cap : Nat) (xs : List Int) (w : World) (hz : z + xs.length < 18446744073709551616) (hcap : xs.length ≤ cap) (hin : B + 5 < w.heap.size)
    (H : Bytes w a xs.length xs) (ho : 0 < xs.length → ∀ b o, a = some ⟨b, o, none⟩ → b < B + 1 ∨ B + 4 < b) (hst : St w B s z) :
    Calls Tryd.prog 28 #[.slice a xs.length cap, .pointer (some ⟨B + 4, 0, none⟩), .pointer (some ⟨B + 2, 0, none⟩), .pointer (some ⟨B + 3, 0, none⟩), .pointer (some ⟨B + 5, 0, none⟩)] w fun e w' =>
      e = .returned (.tuple #[]) ∧ St w' B (absorb s xs) ((z + xs.length : Nat) : Int) ∧ Kept B w w' := by
  have c4 := cell_of_row w (B + 4) 0 _ _ _ hst.sz
  have f4 := free5 hst.sz 0
  have hlen := H.2.1
  have hwz : (z : Int) + (xs.length : Int) < 18446744073709551616 := by omega
  have HO : Hid (0 < xs.length → ∀ b o, a = some ⟨b, o, none⟩ → b < B + 1 ∨ B + 4 < b) := ho
  have HH : Hid (Bytes w a xs.length xs) := H
  have HS : Hid (St w B s z) := hst
  clear ho H hst
  go_enter Tryd.func28, Tryd.ntmps28
  go_wp2_with fail
  have HS0 : Hid (St (w.setCell ⟨B + 4, 0, none⟩ (.int .u64 ((z : Int) + (xs.length : Int)))) B s ((z : Int) + (xs.length : Int))) := HS.out.size _
  have HK0 : Hid (Kept B w (w.setCell ⟨B + 4, 0, none⟩ (.int .u64 ((z : Int) + (xs.length : Int))))) := (Kept.refl B w).setCell (B + 4) 0 (by omega) (by omega) _
  have HI0 : Hid (B + 5 < (w.setCell ⟨B + 4, 0, none⟩ (.int .u64 ((z : Int) + (xs.length : Int)))).heap.size) := Nat.lt_of_lt_of_le hin HK0.out.size
  generalize (w.setCell ⟨B + 4, 0, none⟩ (.int .u64 ((z : Int) + (xs.length : Int)))) = w0 at *
  clear c4 f4
  go_loopw [0] (fun v wr => ∃ (pre ys : List Int) (A' : Option Addr) (C' : Nat), xs = pre ++ ys ∧ v = .slice A' ys.length C' ∧ ys.length ≤ C' ∧ Bytes wr A' ys.length ys ∧ (0 < ys.length → ∀ b o, A' = some ⟨b, o, none⟩ → b < B + 1 ∨ B + 4 < b) ∧ St wr B (absorb s pre) ((z : Int) + (xs.length : Int)) ∧ Kept B w wr) (fun v _ => sizeV v)
  case atStart => exact ⟨[], xs, a, cap, rfl, rfl, hcap, HH.out.kept HK0.out HO.out, HO.out, HS0.out, HK0.out⟩
  case round =>
    clear HS0 HK0 HI0 HH HO HS
    obtain ⟨pre, ys, A', C', hxs, rfl, hC, hB, hA, hst, hkept⟩ := hrel
    have hys : ys.length ≤ 9223372036854775807 := hB.2.1
    by_cases hne : ys.length = 0
    · have hne' : ¬ (0 : Int) < ys.length := by omega
      have HF : Hid (ys = []) := List.eq_nil_of_length_eq_zero hne
      have HST : Hid (St wr B (absorb s pre) ((z : Int) + (xs.length : Int))) := hst
      have HXS : Hid (xs = pre ++ ys) := hxs
      clear hst hB hA hxs
      go_wp2_with fail
      go_end0
      refine ⟨rfl, ?_, hkept⟩
      have e : xs = pre := by rw [HXS.out, HF.out, List.append_nil]
      rw [e] at HST ⊢
      simpa using HST.out
    · have hpos : (0 : Int) < ys.length := by omega
      obtain ⟨st, hstE⟩ : ∃ st, absorb s pre = st := ⟨_, rfl⟩
      rw [hstE] at hst
      obtain ⟨bs, b1, b2, b3, b4⟩ := hst.blk
      obtain ⟨f, hf⟩ : ∃ f, st.buf.length = f := ⟨_, rfl⟩
      have hfl := hst.fl
      rw [hf] at hfl b3
      have hf64 : f < 64 := by rw [← hf]; exact hst.lt
      obtain ⟨n, hn⟩ : ∃ n, Nat.min ys.length (64 - f) = n := ⟨_, rfl⟩
      have hn1 : n ≤ ys.length := by rw [← hn]; exact Nat.min_le_left _ _
      have hn2 : n ≤ 64 - f := by rw [← hn]; exact Nat.min_le_right _ _
      have hn0 : 0 < n := by rw [← hn]; exact Nat.lt_min.2 ⟨by omega, by omega⟩
      have HN0 : Hid (0 < n) := hn0
      clear hn0
      have hcn : ((ys.take n).map (Value.int .u8)).length = n := by rw [List.length_map, List.length_take]; omega
      obtain ⟨b, o, rfl, hsrc⟩ : ∃ b o, A' = some ⟨b, o, none⟩ ∧ ∀ j, j < ys.length → wr.cell? ⟨b, o + j, none⟩ = some (.int .u8 (ys[j]?.getD 0)) := by
        obtain ⟨_, _, _, h4 | h4⟩ := hB
        · omega
        · exact h4
      have HSRC : Hid (∀ j v, ((ys.take n).map (Value.int .u8))[j]? = some v → wr.cell? ((⟨b, o, none⟩ : Addr).add j) = some v) := fun j v hv => by
        have hj : j < n := by have := (List.getElem?_eq_some_iff.1 hv).1; rw [hcn] at this; exact this
        rw [Addr.add_mid, hsrc j (by omega), ← hv]
        simp [hj, show j < ys.length by omega]
      have HB2 : Hid (wr.heap[B + 2]? = some (.cells (V8 bs) 50 (0, 0))) := b4
      have HCN : Hid (((ys.take n).map (Value.int .u8)).length = Nat.min ys.length (64 - f)) := by show _ = _; rw [hcn, hn]
      have HFIT : Hid (f + ((ys.take n).map (Value.int .u8)).length ≤ (V8 bs).size) := by show _ ≤ _; rw [hcn, V8_size, b1]; omega
      have HONE : Hid (∀ v ∈ ((ys.take n).map (Value.int .u8)), v.oneCell' = true) := fun v hv => by
        rw [List.mem_map] at hv; obtain ⟨x, _, rfl⟩ := hv; rfl
      have HST : Hid (St wr B st ((z : Int) + (xs.length : Int))) := hst
      have HBY : Hid (Bytes wr (some ⟨b, o, none⟩) ys.length ys) := hB
      have HA : Hid (∀ b' o', (some ⟨b, o, none⟩ : Option Addr) = some ⟨b', o', none⟩ → b' < B + 1 ∨ B + 4 < b') := hA (by omega)
      have HXS : Hid (xs = pre ++ ys) := hxs
      have HBS : Hid (bs.length = 64 ∧ (∀ j : Nat, 0 ≤ bs[j]?.getD 0 ∧ bs[j]?.getD 0 ≤ 255) ∧ bs.take f = st.buf) := ⟨b1, b2, b3⟩
      have e3 : wr.cell? ⟨B + 3, 0, none⟩ = some (.int .i64 (f : Int)) := by rw [cell_of_row wr (B + 3) 0 _ _ _ hfl]; rfl
      have hs64 := slice_64_from (B + 2) f hf64
      have HFF : Hid (st.buf.length = f ∧ absorb s pre = st) := ⟨hf, hstE⟩
      have HM : Hid (Nat.min ys.length (64 - f) = n) := hn
      have HKK : Hid (Kept B w wr) := hkept
      clear hst hB hA hxs b1 b2 b3 b4 hsrc hn hkept hfl
      have HYN : Hid (((ys.take n).map (Value.int .u8)).length = n) := hcn
      obtain ⟨cs, hcs⟩ : ∃ cs, (ys.take n).map (Value.int .u8) = cs := ⟨_, rfl⟩
      rw [hcs] at HSRC HCN HFIT HONE HYN
      have HCS : Hid ((ys.take n).map (Value.int .u8) = cs) := hcs
      clear hcs
      have hcl : cs.length = n := HYN.out
      generalize hm : ys.length = m at *
      have HMM : Hid (ys.length = m) := hm
      clear hm hne hcn hf hstE
      have hpos' : 0 < m := by omega
      have tok1 : True := trivial
      go_wp2_with (have _t := tok1; refine wpList_copy_own rfl (.tmp 16) (.tmp 17) 22 22 rfl 5 Tryd.underlying22 (by kernel_rfl) (B + 2) f (64 - f) (64 - f) ⟨b, o, none⟩ m C' rfl rfl (V8 bs) 50 HB2.out cs HCN.out HSRC.out HFIT.out HONE.out ?_; clear tok1)
      generalize hRow : (List.take f (V8 bs).toList ++ (cs ++ List.drop (f + n) (V8 bs).toList)).toArray = C
      have HRow : Hid ((List.take f (V8 bs).toList ++ (cs ++ List.drop (f + n) (V8 bs).toList)).toArray = C) := hRow
      have HR2 : Hid ((wr.setRow (B + 2) C).heap[B + 2]? = some (.cells C 50 (0, 0))) := setRow_heap wr (B + 2) _ C _ _ HB2.out
      have HRO : Hid (∀ k, k ≠ B + 2 → (wr.setRow (B + 2) C).heap[k]? = wr.heap[k]?) := fun k hk => setRow_other wr (B + 2) k C hk
      have HK1 : Hid (Kept B w (wr.setRow (B + 2) C)) := HKK.out.setRow (B + 2) (by omega) (by omega) C
      have HKW1 : Hid (Kept B wr (wr.setRow (B + 2) C)) := (Kept.refl B wr).setRow (B + 2) (by omega) (by omega) C
      clear hRow e3 hs64
      generalize wr.setRow (B + 2) C = W1 at *
      have hf1 : W1.heap[B + 3]? = some (.cells #[.int .i64 (f : Int)] 3 (0, 0)) := by rw [HRO.out _ (by omega), ← HFF.out.1]; exact HST.out.fl
      have e3 : W1.cell? ⟨B + 3, 0, none⟩ = some (.int .i64 (f : Int)) := by rw [cell_of_row W1 (B + 3) 0 _ _ _ hf1]; rfl
      have f3 := free5 hf1 0
      have HF1 : Hid (W1.heap[B + 3]? = some (.cells #[.int .i64 (f : Int)] 3 (0, 0))) := hf1
      have hsl := slice_rest b o m C' n hn1 hC
      obtain ⟨A2, hA2⟩ : ∃ A2, (if C' = n then some (⟨b, o, none⟩ : Addr) else some ⟨b, o + n, none⟩) = A2 := ⟨_, rfl⟩
      rw [hA2] at hsl
      have HA2 : Hid ((if C' = n then some (⟨b, o, none⟩ : Addr) else some ⟨b, o + n, none⟩) = A2) := hA2
      have hfn : (f : Int) + (n : Int) ≤ 64 := by omega
      clear hf1 hA2 hcl
      go_region
      generalize hE : ys.take n = cs2 at *
      have hCV : C = V8 (bs.take f ++ (cs2 ++ bs.drop (f + cs2.length))) := by
        have e1 : cs2.length = n := by rw [← hE, List.length_take, HMM.out]; omega
        rw [← HRow.out, ← HCS.out, e1]
        unfold V8
        simp [List.map_take, List.map_drop]
      have HLEN2 : Hid (cs2.length = n) := by show cs2.length = n; rw [← hE, List.length_take, HMM.out]; omega
      have HLB : Hid ((bs.take f ++ (cs2 ++ bs.drop (f + cs2.length))).length = 64) := by
        show (bs.take f ++ (cs2 ++ bs.drop (f + cs2.length))).length = 64
        have := HBS.out.1
        have := HLEN2.out
        simp; omega
      have HBB : Hid (∀ j : Nat, 0 ≤ (bs.take f ++ (cs2 ++ bs.drop (f + cs2.length)))[j]?.getD 0 ∧ (bs.take f ++ (cs2 ++ bs.drop (f + cs2.length)))[j]?.getD 0 ≤ 255) := by
        refine splice_bytes bs cs2 f (by have := HBS.out.1; have := HLEN2.out; omega) HBS.out.2.1 ?_
        have := (HBY.out.first n).2.2.1
        rw [hE] at this
        exact this
      have HTK : Hid ((bs.take f ++ (cs2 ++ bs.drop (f + cs2.length))).take (f + n) = st.buf ++ cs2) := by
        show (bs.take f ++ (cs2 ++ bs.drop (f + cs2.length))).take (f + n) = st.buf ++ cs2
        have h1 : (bs.take f).length = f := by have := HBS.out.1; simp; omega
        rw [← HBS.out.2.2, ← List.append_assoc, List.take_append_of_le_length (by have := HLEN2.out; have := HBS.out.1; simp; omega), List.take_of_length_le (by have := HLEN2.out; have := HBS.out.1; simp; omega)]
      have HM2 : Hid (ShaMem (W1.setCell ⟨B + 3, 0, none⟩ (.int .i64 ((f : Int) + (n : Int)))).drew B st.h (bs.take f ++ (cs2 ++ bs.drop (f + cs2.length))) (.int .i64 ((f : Int) + (n : Int))) ((z : Int) + (xs.length : Int))) := by
        have k : ∀ g, g ≠ B + 3 → (W1.setCell ⟨B + 3, 0, none⟩ (.int .i64 ((f : Int) + (n : Int)))).drew.heap[g]? = W1.heap[g]? := fun g hg => Below.heap_setCell W1 _ _ g hg
        refine ⟨(k _ (by omega)).trans ((HRO.out _ (by omega)).trans HST.out.h), ?_, heap_setCell_same W1 (B + 3) 0 _ _ _ HF1.out, (k _ (by omega)).trans ((HRO.out _ (by omega)).trans HST.out.sz), (k _ (by omega)).trans ((HRO.out _ (by omega)).trans HST.out.wk)⟩
        rw [← hCV]
        exact (k _ (by omega)).trans HR2.out
      have HK2 : Hid (Kept B w (W1.setCell ⟨B + 3, 0, none⟩ (.int .i64 ((f : Int) + (n : Int)))).drew) := by
        have := HK1.out.setCell (B + 3) 0 (by omega) (by omega) (.int .i64 ((f : Int) + (n : Int)))
        exact ⟨this.os, this.tape, this.output, this.size, this.block⟩
      have HKW : Hid (Kept B wr (W1.setCell ⟨B + 3, 0, none⟩ (.int .i64 ((f : Int) + (n : Int)))).drew) := by
        have := HKW1.out.setCell (B + 3) 0 (by omega) (by omega) (.int .i64 ((f : Int) + (n : Int)))
        exact ⟨this.os, this.tape, this.output, this.size, this.block⟩
      have HE : Hid (ys.take n = cs2) := hE
      have HA3 : Hid (0 < m - n → ∀ b' o', A2 = some ⟨b', o', none⟩ → b' < B + 1 ∨ B + 4 < b')   := fun _ b' o' h => by
        have h0 := HA.out b o rfl
        rw [← HA2.out] at h
        split at h
        · obtain ⟨rfl, -⟩ : b = b' ∧ o = o' := by
            injection h with h; injection h with h1 h2; exact ⟨h1, h2⟩
          exact h0
        · obtain ⟨rfl, -⟩ : b = b' ∧ o + n = o' := by
            injection h with h; injection h with h1 h2; exact ⟨h1, h2⟩
          exact h0
      have HBR : Hid (Bytes wr A2 (m - n) (ys.drop n)) := by
        have hs := HBY.out.sub n (m - n) (by omega)
        rw [List.take_of_length_le (by rw [List.length_drop, HMM.out]; omega)] at hs
        show Bytes wr A2 (m - n) (ys.drop n)
        rw [← HA2.out]
        split
        · exact ⟨hs.1, hs.2.1, hs.2.2.1, .inl (by omega)⟩
        · exact hs
      have HCV : Hid (C = V8 (bs.take f ++ (cs2 ++ bs.drop (f + cs2.length)))) := hCV
      clear hCV e3 f3 hsl
      generalize (W1.setCell ⟨B + 3, 0, none⟩ (.int .i64 ((f : Int) + (n : Int)))).drew = W2 at *
      generalize hNB : bs.take f ++ (cs2 ++ bs.drop (f + cs2.length)) = nb at *
      have HNB : Hid (bs.take f ++ (cs2 ++ bs.drop (f + cs2.length)) = nb) := hNB
      clear hNB
      obtain ⟨q, hq⟩ : ∃ q : Nat, f + n = q := ⟨_, rfl⟩
      have e3 : W2.cell? ⟨B + 3, 0, none⟩ = some (.int .i64 (q : Int)) := by rw [cell_of_row W2 (B + 3) 0 _ _ _ HM2.out.fl, ← hq]; simp
      have HQ : Hid (f + n = q) := hq
      clear hq hfn
      have e5 : W2.cell? ⟨B + 5, 0, none⟩ = some (.func (.func 25) #[] #[.pointer (some ⟨B + 1, 0, none⟩), .pointer (some ⟨B + 2, 0, none⟩), .pointer (some ⟨B + 3, 0, none⟩)]) := by rw [cell_of_row W2 (B + 5) 0 _ _ _ HM2.out.wk]; rfl
      by_cases h64 : q = 64
      · have h64' : (q : Int) = 64 := by omega
        go_wp2_with (go_at_call 25; refine (work_any (B + 1) (B + 2) (B + 3) st.h _ nb _ rfl rfl _ W2 HLB.out HBB.out HM2.out.h HM2.out.blk HM2.out.fl (by omega) (by omega)).mono ?_; rintro e w' ⟨rfl, W, hbW, rfl⟩)
        have HKF : Hid (Kept B W2 ((W.setRow (B + 1) (cells5V (mix st.h (wordsTo nb 80)))).setCell ⟨B + 3, 0, none⟩ (.int .i64 0))) := ((Kept.of_below hbW).setRow (B + 1) (by omega) (by omega) _).setCell (B + 3) 0 (by omega) (by omega) _
        have HSB : Hid (st.buf ++ cs2 = nb) := by
          show st.buf ++ cs2 = nb
          rw [← HTK.out, HQ.out, h64, List.take_of_length_le (by rw [HLB.out]; omega)]
        refine ⟨⟨pre ++ cs2, ys.drop n, A2, C' - n, ?_, ?_, ?_, ?_, ?_, ?_, ?_⟩, ?_⟩
        · rw [List.append_assoc, ← HE.out, List.take_append_drop]; exact HXS.out
        · rw [List.length_drop, HMM.out]
        · rw [List.length_drop, HMM.out]; omega
        · rw [List.length_drop, HMM.out]; exact (HBR.out.kept HKW.out HA3.out).kept HKF.out HA3.out
        · rw [List.length_drop, HMM.out]; exact HA3.out
        · rw [absorb_append, HFF.out.2, absorb_full _ _ (by rw [HFF.out.1, HLEN2.out, HQ.out, h64]) (by rw [HFF.out.1]; exact hf64), HSB.out]
          exact HM2.out.worked HLB.out HBB.out hbW
        · exact HK2.out.trans HKF.out
        · have := HN0.out; simp only [sizeV]; omega
      · have h64' : ¬ (q : Int) = 64 := by omega
        have hb1 : ((q : Int) == 64) = false := by simpa using h64'
        have hb2 : decide ((q : Int) = 64) = false := by simpa using h64'
        have H64 : Hid (¬ q = 64) := h64
        clear h64 h64'
        go_wp2_with fail
        refine ⟨⟨pre ++ cs2, ys.drop n, A2, C' - n, ?_, ?_, ?_, ?_, ?_, ?_, ?_⟩, ?_⟩
        · rw [List.append_assoc, ← HE.out, List.take_append_drop]; exact HXS.out
        · rw [List.length_drop, HMM.out]
        · rw [List.length_drop, HMM.out]; omega
        · rw [List.length_drop, HMM.out]; exact HBR.out.kept HKW.out HA3.out
        · rw [List.length_drop, HMM.out]; exact HA3.out
        · rw [absorb_append, HFF.out.2, absorb_lt _ _ (by rw [HFF.out.1, HLEN2.out]; have := HQ.out; have := H64.out; omega)]
          exact ⟨HM2.out.h, ⟨nb, HLB.out, HBB.out, by rw [show (st.buf ++ cs2).length = f + n by rw [List.length_append, HFF.out.1, HLEN2.out]]; exact HTK.out, HM2.out.blk⟩, by
            have := HM2.out.fl
            rw [show (((st.buf ++ cs2).length : Nat) : Int) = (f : Int) + (n : Int) by rw [List.length_append, HFF.out.1, HLEN2.out]; omega]
            exact this, HM2.out.sz, HM2.out.wk, by rw [List.length_append, HFF.out.1, HLEN2.out]; have := HQ.out; have := H64.out; omega⟩
        · exact HK2.out
        · have := HN0.out; simp only [sizeV]; omega
end Go.Proofs.YtlnfgebonmfokaaDoor
