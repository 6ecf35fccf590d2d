/- The sum of parts: the walk. -/
import Derived.Test.YtglgchjkonjpiaaGreatDoorShaB
import Derived.Test.YtglgchjkonjpiaaGreatDoorShaA
namespace Go.Proofs.YtglgchjkonjpiaaGreatDoor
open Go.RowKit Plain
set_option linter.unusedVariables false
/-- A part in memory: address, capacity, bytes. -/
structure Part where
  a : Option Addr
  cap : Nat
  xs : List Int
def allBytes (ps : List Part) : List Int := ps.flatMap (·.xs)
def PartsAt (w : World) (b o : Nat) (ps : List Part) : Prop :=
  ∀ j (p : Part), ps[j]? = some p → w.cell? ⟨b, o + j, none⟩ = some (.slice p.a p.xs.length p.cap) ∧ p.xs.length ≤ p.cap ∧ Bytes w p.a p.xs.length p.xs
theorem zero_64 (w : World) : (zeroValue 93).run Tryz.prog w = .ok (.agg (V8 (List.replicate 64 0))) w := by
  show _ = Result.ok (Value.agg (V8 (List.replicate 64 0))) w
  kernel_rfl
theorem six_blocks (w : World) (A B C D E F : Obj) : let W := (((((w.alloc A).alloc B).alloc C).alloc D).alloc E).alloc F
    W.heap[w.heap.size]? = some A ∧ W.heap[w.heap.size + 1]? = some B ∧ W.heap[w.heap.size + 1 + 1]? = some C ∧ W.heap[w.heap.size + 1 + 1 + 1]? = some D ∧ W.heap[w.heap.size + 1 + 1 + 1 + 1]? = some E ∧ W.heap[w.heap.size + 1 + 1 + 1 + 1 + 1]? = some F ∧ Below w.heap.size w W ∧ w.heap.size + 5 < W.heap.size := by
  refine ⟨?_, ?_, ?_, ?_, ?_, ?_, ((((((Below.refl _ _).alloc (Nat.le_refl _) _).alloc (by simp) _).alloc (by simp <;> omega) _).alloc (by simp <;> omega) _).alloc (by simp <;> omega) _).alloc (by simp <;> omega) _, by simp⟩
  · rw [Below.heap_alloc _ _ _ (by simp <;> omega), Below.heap_alloc _ _ _ (by simp <;> omega), Below.heap_alloc _ _ _ (by simp <;> omega), Below.heap_alloc _ _ _ (by simp <;> omega), Below.heap_alloc _ _ _ (by simp), heap_alloc_new]
  · rw [Below.heap_alloc _ _ _ (by simp <;> omega), Below.heap_alloc _ _ _ (by simp <;> omega), Below.heap_alloc _ _ _ (by simp <;> omega), Below.heap_alloc _ _ _ (by simp)]
    simpa using heap_alloc_new (w.alloc A) B
  · rw [Below.heap_alloc _ _ _ (by simp <;> omega), Below.heap_alloc _ _ _ (by simp <;> omega), Below.heap_alloc _ _ _ (by simp)]
    simpa using heap_alloc_new ((w.alloc A).alloc B) C
  · rw [Below.heap_alloc _ _ _ (by simp <;> omega), Below.heap_alloc _ _ _ (by simp)]
    simpa using heap_alloc_new (((w.alloc A).alloc B).alloc C) D
  · rw [Below.heap_alloc _ _ _ (by simp)]
    simpa using heap_alloc_new ((((w.alloc A).alloc B).alloc C).alloc D) E
  · simpa using heap_alloc_new (((((w.alloc A).alloc B).alloc C).alloc D).alloc E) F
theorem Below.kept {B : Nat} {w a b : World} (h : Below B w a) (k : Kept B a b) (hB : B ≤ a.heap.size) : Below B w b :=
  ⟨k.os.trans h.os, k.tape.trans h.tape, k.output.trans h.output, Nat.le_trans h.size k.size, fun i hi => (k.block i (by omega) (.inl (by omega))).trans (h.block i hi)⟩
theorem allBytes_take (ps : List Part) (k : Nat) (h : k < ps.length) : allBytes (ps.take (k + 1)) = allBytes (ps.take k) ++ ps[k].xs := by
  unfold allBytes; rw [List.take_succ_eq_append_getElem h]; simp only [List.flatMap_append, List.flatMap_cons, List.flatMap_nil, List.append_nil]
theorem allBytes_le (ps : List Part) (k : Nat) : (allBytes (ps.take k)).length ≤ (allBytes ps).length := by
  have h : allBytes ps = allBytes (ps.take k) ++ allBytes (ps.drop k) := by unfold allBytes; rw [← List.flatMap_append, List.take_append_drop]
  rw [h]; simp
theorem getD_bytes (xs : List Int) (h : ∀ x ∈ xs, 0 ≤ x ∧ x ≤ 255) (j : Nat) : 0 ≤ xs[j]?.getD 0 ∧ xs[j]?.getD 0 ≤ 255 := by
  rcases hx : xs[j]? with _ | x
  · simp
  · exact h x (List.mem_of_getElem? hx)
theorem endOf_bytes (n : Nat) : ∀ x ∈ endOf n, 0 ≤ x ∧ x ≤ 255 := fun x hx => by
  unfold endOf endTo at hx
  rw [List.mem_cons, List.mem_append, List.mem_replicate, List.mem_map] at hx
  rcases hx with rfl | ⟨_, rfl⟩ | ⟨i, _, rfl⟩
  · omega
  · omega
  · split
    · unfold eb; omega
    · omega
theorem endOf_length (n : Nat) : (endOf n).length ≤ 72 := by unfold endOf; rw [endTo_length]; omega
theorem bytes_row {w : World} {B : Nat} {xs : List Int} {t : TypeId} (h : w.heap[B]? = some (.cells (V8 xs) t (0, 0))) (hx : ∀ x ∈ xs, 0 ≤ x ∧ x ≤ 255) (hl : xs.length ≤ 9223372036854775807) : Bytes w (some ⟨B, 0, none⟩) xs.length xs :=
  ⟨rfl, hl, getD_bytes xs hx, .inr ⟨B, 0, rfl, fun j hj => by rw [cell_of_row w B (0 + j) _ _ _ h, Nat.zero_add, V8_get xs j hj]⟩⟩
theorem St.below {w w' : World} {B : Nat} {s : State} {z : Int} (h : St w B s z) (hb : Below w.heap.size w w') : St w' B s z := by
  have k : ∀ {g : Nat} {o : Obj}, w.heap[g]? = some o → w'.heap[g]? = some o := fun {g o} hg => (hb.block g (Array.getElem?_eq_some_iff.1 hg).1).trans hg
  obtain ⟨bs, b1, b2, b3, b4⟩ := h.blk
  exact ⟨k h.h, ⟨bs, b1, b2, b3, k b4⟩, k h.fl, k h.sz, k h.wk, h.lt⟩
def sumOf (xs : List Int) : Five := (absorb (absorb Plain.start xs) (endOf xs.length)).h
set_option maxRecDepth 100000 in
set_option maxHeartbeats 8000000 in
theorem sum_gen (a : Option Addr) (cap : Nat) (ps : List Part) (w : World) (hpl : ps.length ≤ 9223372036854775807) (hl : (allBytes ps).length + 100 < 18446744073709551616) (H : 0 < ps.length → ∃ b o, a = some ⟨b, o, none⟩ ∧ PartsAt w b o ps) :
    Calls Tryz.prog 38 #[.slice a ps.length cap] w fun e w' => e = .returned (.agg (idTo (sumOf (allBytes ps)) 20)) ∧ Below w.heap.size w w' := by
  have HQ : Hid (0 < ps.length → ∃ b o, a = some ⟨b, o, none⟩ ∧ PartsAt w b o ps) := H
  have hz20 := zero_20 (sumOf (allBytes ps))
  obtain ⟨Z, hZ⟩ : ∃ Z, V8 (List.replicate 64 0) = Z := ⟨_, rfl⟩
  have hz64 := zero_64
  rw [hZ] at hz64
  have HZ : Hid (V8 (List.replicate 64 0) = Z) := hZ
  have hstf := fun (W : World) (p : Addr) (fn : Fn) (x y : Array Value) => run_store Tryz.prog W p (.func fn x y) .plain rfl
  clear H hZ
  go_enter Tryz.func38, Tryz.ntmps38
  go_wp2_with fail
  obtain ⟨h0, h1, h2, h3, h4, h5, hb, hs⟩ := six_blocks w (.cells (idTo (sumOf (allBytes ps)) 0) 43) (.cells #[.int .u32 1732584193, .int .u32 4023233417, .int .u32 2562383102, .int .u32 271733878, .int .u32 3285377520] 92) (.cells Z 93) (.cells #[.int .i64 0] 3) (.cells #[.int .u64 0] 39) (.cells #[(.func (.func 58) #[] #[.pointer (some ⟨w.heap.size + 1, 0, none⟩), .pointer (some ⟨w.heap.size + 1 + 1, 0, none⟩), .pointer (some ⟨w.heap.size + 1 + 1 + 1, 0, none⟩)])] 1)
  generalize (((((w.alloc (.cells (idTo (sumOf (allBytes ps)) 0) 43)).alloc (.cells #[.int .u32 1732584193, .int .u32 4023233417, .int .u32 2562383102, .int .u32 271733878, .int .u32 3285377520] 92)).alloc (.cells Z 93)).alloc (.cells #[.int .i64 0] 3)).alloc (.cells #[.int .u64 0] 39)).alloc (.cells #[(.func (.func 58) #[] #[.pointer (some ⟨w.heap.size + 1, 0, none⟩), .pointer (some ⟨w.heap.size + 1 + 1, 0, none⟩), .pointer (some ⟨w.heap.size + 1 + 1 + 1, 0, none⟩)])] 1) = w1 at *
  have HI0 : Hid (w1.heap[w.heap.size]? = some (.cells (idTo (sumOf (allBytes ps)) 0) 43 (0, 0))) := h0
  have HS0 : Hid (St w1 w.heap.size Plain.start ((0 : Nat) : Int)) := ⟨h1, ⟨List.replicate 64 0, by simp, by intro j; rw [List.getElem?_replicate]; split <;> simp, rfl, by rw [HZ.out]; exact h2⟩, h3, h4, h5, by decide⟩
  have HB0 : Hid (Below w.heap.size w w1) := hb
  have HSZ : Hid (w.heap.size + 5 < w1.heap.size) := hs
  clear h0 h1 h2 h3 h4 h5 hb hs hz20 hz64 hstf
  go_loopw [16] (fun i wr => ∃ k : Nat, k ≤ ps.length ∧ i = .int .i64 k ∧ St wr w.heap.size (absorb Plain.start (allBytes (ps.take k))) (((allBytes (ps.take k)).length : Nat) : Int) ∧ Kept w.heap.size w1 wr) (fun i _ => ps.length - (intOf i).toNat)
  case atStart => exact ⟨0, by omega, rfl, by simpa [allBytes, absorb] using HS0.out, Kept.refl _ _⟩
  case round =>
    obtain ⟨k, hk, rfl, hst, hkp⟩ := hrel
    have HST : Hid (St wr w.heap.size (absorb Plain.start (allBytes (ps.take k))) (((allBytes (ps.take k)).length : Nat) : Int)) := hst
    have HKP : Hid (Kept w.heap.size w1 wr) := hkp
    have HBW : Hid (Below w.heap.size w wr) := Below.kept HB0.out hkp (by have := HSZ.out; omega)
    clear hst hkp HS0
    by_cases hlt : k < ps.length
    · have hlt' : (k : Int) < ps.length := by omega
      obtain ⟨b, o, rfl, HP0⟩ := HQ.out (by omega)
      have HP : Hid (PartsAt w b o ps) := HP0
      clear HP0 HQ
      obtain ⟨p, hp⟩ : ∃ p, ps[k] = p := ⟨_, rfl⟩
      have hpk : ps[k]? = some p := by rw [List.getElem?_eq_getElem hlt, hp]
      obtain ⟨hc, hcap, hby⟩ := HP.out k p hpk
      have hbw : b < w.heap.size := by
        rcases Nat.lt_or_ge b w.heap.size with h | h
        · exact h
        · simp [World.cell?, Array.getElem?_eq_none h] at hc
      have e1 : wr.cell? ⟨b, o + k, none⟩ = some (.slice p.a p.xs.length p.cap) := (HBW.out.cell (p := ⟨b, o + k, none⟩) hbw).trans hc
      have HE : Hid (allBytes (ps.take (k + 1)) = allBytes (ps.take k) ++ p.xs) := by rw [← hp]; exact allBytes_take ps k hlt
      have HCAP : Hid (p.xs.length ≤ p.cap) := hcap
      have HBY : Hid (Bytes w p.a p.xs.length p.xs) := hby
      clear hc hcap hby hp hpk
      have HL1 : Hid ((allBytes (ps.take k)).length + p.xs.length < 18446744073709551616) := by
        have h1 := allBytes_le ps (k + 1)
        rw [HE.out, List.length_append] at h1
        show _ < _
        omega
      have HO : Hid (0 < p.xs.length → ∀ b' o', p.a = some ⟨b', o', none⟩ → b' < w.heap.size + 1 ∨ w.heap.size + 4 < b') := fun h0 b' o' he => by
        have := HBY.out
        rw [he] at this
        have := this.lt h0
        omega
      have HIN : Hid (w.heap.size + 5 < wr.heap.size) := Nat.lt_of_lt_of_le HSZ.out HKP.out.size
      go_wp2_with (go_at_call 61; refine (take_any w.heap.size _ _ p.a p.cap p.xs wr HL1.out HCAP.out HIN.out (HBY.out.below HBW.out) HO.out HST.out).mono ?_; rintro e w' ⟨rfl, hst', hkp'⟩)
      refine ⟨⟨k + 1, by omega, by go_num, ?_, HKP.out.trans hkp'⟩, by simp [intOf]; omega⟩
      rw [HE.out, absorb_append, List.length_append]
      exact hst'
    · obtain rfl : k = ps.length := by omega
      have hlt' : ¬ (ps.length : Int) < ps.length := by omega
      have hall : ps.take ps.length = ps := List.take_length
      rw [hall] at HST
      have HIN : Hid (w.heap.size + 5 < wr.heap.size) := Nat.lt_of_lt_of_le HSZ.out HKP.out.size
      have e4 : wr.cell? ⟨w.heap.size + 1 + 1 + 1 + 1, 0, none⟩ = some (.int .u64 ((allBytes ps).length : Nat)) := by rw [cell_of_row wr (w.heap.size + 1 + 1 + 1 + 1) 0 _ _ _ HST.out.sz]; rfl
      clear hall hlt hk
      go_wp2_with (go_at_call 62; refine (ending_any (allBytes ps).length wr (by omega)).mono ?_; rintro e w2 ⟨B2, rfl, hB2, hrow2, hb2⟩)
      have HB2 : Hid (Below wr.heap.size wr w2) := hb2
      have HST2 : Hid (St w2 w.heap.size (absorb Plain.start (allBytes ps)) (((allBytes ps).length : Nat) : Int)) := HST.out.below hb2
      have HBY : Hid (Bytes w2 (some ⟨B2, 0, none⟩) (endOf (allBytes ps).length).length (endOf (allBytes ps).length)) := bytes_row hrow2 (endOf_bytes _) (by have := endOf_length (allBytes ps).length; omega)
      have HIN2 : Hid (w.heap.size + 5 < w2.heap.size) := Nat.lt_of_lt_of_le HIN.out hb2.size
      have HL2 : Hid ((allBytes ps).length + (endOf (allBytes ps).length).length < 18446744073709551616) := by
        have := endOf_length (allBytes ps).length
        show _ < _
        omega
      have HO2 : Hid (0 < (endOf (allBytes ps).length).length → ∀ b' o', (some ⟨B2, 0, none⟩ : Option Addr) = some ⟨b', o', none⟩ → b' < w.heap.size + 1 ∨ w.heap.size + 4 < b') := fun _ b' o' he => by
        have h5 := HIN.out
        injection he with he
        injection he with h1 h2
        omega
      have HEN : Hid ((endOf (allBytes ps).length).length ≤ (endOf (allBytes ps).length).length) := Nat.le_refl _
      have HSU : Hid (sumOf (allBytes ps) = (absorb (absorb Plain.start (allBytes ps)) (endOf (allBytes ps).length)).h) := rfl
      clear hB2 hrow2 hb2 e4
      generalize hen : endOf (allBytes ps).length = en at *
      clear hen
      go_wp2_with (go_at_call 61; refine (take_any w.heap.size _ _ (some ⟨B2, 0, none⟩) en.length en w2 HL2.out HEN.out HIN2.out HBY.out HO2.out HST2.out).mono ?_; rintro e w3 ⟨rfl, hst3, hkp3⟩; obtain ⟨c0, c1, c2, c3, c4⟩ := cells5 hst3.h)
      have HS3 : Hid (w3.heap[w.heap.size]? = some (.cells (idTo (sumOf (allBytes ps)) 0) 43 (0, 0))) := by
        have hk := (HKP.out.trans (Kept.of_below HB2.out)).trans hkp3
        exact (hk.block w.heap.size (by have := HSZ.out; omega) (.inl (by omega))).trans HI0.out
      have HKF : Hid (Kept w.heap.size w1 w3) := (HKP.out.trans (Kept.of_below HB2.out)).trans hkp3
      have HL3 : Hid (w.heap.size < w3.heap.size) := Nat.lt_of_lt_of_le (by have := HSZ.out; omega) HKF.out.size
      clear c0 c1 c2 c3 c4 hst3 hkp3
      obtain ⟨su, hsu⟩ : ∃ su, sumOf (allBytes ps) = su := ⟨_, rfl⟩
      rw [hsu] at HS3 HSU
      have HSS : Hid (sumOf (allBytes ps) = su) := hsu
      rw [← HSU.out]
      clear hsu
      have HI : Hid ((Tryz.prog.info? 43).map (·.size) = some (idTo su 20).size) := by
        show (Tryz.prog.info? 43).map (·.size) = some (idTo su 20).size
        rw [idTo_size]; kernel_rfl
      have HLL : Hid ((idTo su 0).size = (idTo su 20).size) := by show (idTo su 0).size = (idTo su 20).size; rw [idTo_size, idTo_size]
      have HOO : Hid ((idTo su 20).all (·.oneCell') = true) := by
        show (idTo su 20).all (·.oneCell') = true
        rw [Array.all_eq_true_iff_forall_mem]; intro v hv; unfold idTo at hv; simp at hv; obtain ⟨x, _, rfl⟩ := hv; rfl
      have HG : Hid (∀ w4, Below w3.heap.size w3 w4 → w4.heap[w.heap.size]? = some (.cells (idTo su 0) 43 (0, 0))) := fun w4 hb4 => (hb4.block w.heap.size HL3.out).trans HS3.out
      have tok2 : True := trivial
      go_wp2_with (first
        | (go_at_call 63; refine (told_any su w3).mono ?_; rintro e w4 ⟨rfl, hb4⟩)
        | (have _t := tok2; refine wpList_store_row rfl 43 (.tmp 2) (.tmp 29) rfl w.heap.size (idTo su 20) rfl rfl 43 (idTo su 0) (HG.out _ hb4) HI.out HLL.out HOO.out ?_; clear tok2))
      refine bodyPost_ret (results_cell_row Tryz.results38 _ _ w.heap.size 43 _ (0, 0) (.array 20 5) rfl (setRow_heap w4 _ _ _ _ _ (HG.out _ hb4)) Tryz.underlying43 rfl HI.out) rfl ⟨by rw [HSS.out], ?_⟩
      exact below_setRow (Below.kept HB0.out (HKF.out.trans (Kept.of_below hb4)) (by have := HSZ.out; omega)) (Nat.le_refl _) _
theorem sum_any (b o cap : Nat) (ps : List Part) (w : World) (hps : 0 < ps.length) (hpl : ps.length ≤ 9223372036854775807) (hl : (allBytes ps).length + 100 < 18446744073709551616) (H : PartsAt w b o ps) :
    Calls Tryz.prog 38 #[.slice (some ⟨b, o, none⟩) ps.length cap] w fun e w' => e = .returned (.agg (idTo (sumOf (allBytes ps)) 20)) ∧ Below w.heap.size w w' :=
  sum_gen _ cap ps w hpl hl fun _ => ⟨b, o, rfl, H⟩
theorem sum_nil (w : World) :
    Calls Tryz.prog 38 #[.slice none 0 0] w fun e w' => e = .returned (.agg (idTo (sumOf []) 20)) ∧ Below w.heap.size w w' :=
  sum_gen none 0 [] w (by simp) (by simp [allBytes]) (fun h => absurd h (by simp))
/-- A sum's bytes. -/
def tbs (s : Five) : List Int := (List.range 20).map (tb s)
theorem tbs_length (s : Five) : (tbs s).length = 20 := by simp [tbs]
theorem tbs_bytes (s : Five) : ∀ x ∈ tbs s, 0 ≤ x ∧ x ≤ 255 := fun x hx => by
  obtain ⟨i, -, rfl⟩ := List.mem_map.1 hx
  unfold tb; omega
theorem idTo_tbs (s : Five) : idTo s 20 = V8 (tbs s) := by
  unfold idTo V8 tbs
  rw [List.map_map]
  congr 1
end Go.Proofs.YtglgchjkonjpiaaGreatDoor
