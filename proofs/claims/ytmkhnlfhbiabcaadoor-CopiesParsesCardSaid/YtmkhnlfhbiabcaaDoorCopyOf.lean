/- Lines cut off; copies.copyOf: the walks. -/
import Derived.Test.YtmkhnlfhbiabcaaDoorEnds
import Derived.Lib.IndexMore
namespace Go.Proofs.YtmkhnlfhbiabcaaDoor
open Go.RowKit Plain Go.ChangeShapes Go.WideShapes Go.ChangeAt
set_option linter.unusedVariables false
set_option linter.unusedSimpArgs false
/-- Where a line ends; below 0: nowhere. -/
def nlAt (xs : List Int) : Int := Lib.index (Lib.bytesOf xs) [10]
def cutA (xs : List Int) : List Int := if 0 ≤ nlAt xs then xs.take (nlAt xs).toNat else xs
def cutB (xs : List Int) : List Int := if 0 ≤ nlAt xs then xs.drop ((nlAt xs).toNat + 1) else []
def cutP (xs : List Int) (p : ByteArray) : List Int := if pre xs p then xs.drop p.size else xs
theorem RowB.front {w : World} {a : Option Addr} {n c : Nat} {xs : List Int} (h : RowB w a n c xs) (hi : Nat) (hh : hi ≤ n) : RowB w a hi c (xs.take hi) := by
  have hp := h.bytes.part c 0 hi (Nat.zero_le _) hh h.le
  have e : subA a c 0 = a := by
    unfold subA
    split
    · rfl
    · cases a with
      | none => rfl
      | some x => simp [Addr.add]
  rw [List.drop_zero, Nat.sub_zero, e] at hp
  exact ⟨by have := h.le; omega, h.cap, h.nil, hp⟩
theorem RowB.none (w : World) : RowB w none 0 0 [] := ⟨Nat.le_refl _, by omega, fun _ => rfl, (Mid.nil w 0).row (range_of_mem (by decide)) |>.bytes⟩
theorem RowB.mem {w : World} {a : Option Addr} {n c : Nat} {xs : List Int} (h : RowB w a n c xs) : ∀ x ∈ xs, 0 ≤ x ∧ x < 256 := fun x hx => by
  obtain ⟨j, hj, e⟩ := List.mem_iff_getElem.1 hx
  have := h.range j
  rw [List.getElem?_eq_getElem hj, e] at this
  simp only [Option.getD_some] at this
  omega
theorem below_drewN' {B : Nat} {a w : World} (h : Below B a w) (n : Nat) : Below B a (w.drewN n) := h.trans ⟨rfl, rfl, rfl, Nat.le_refl _, fun _ _ => rfl⟩
theorem nl_cut (a : Option Addr) (n c : Nat) (xs : List Int) (g k : Nat) (w0 w : World) (R0 : RowB w0 a n c xs) (hb0 : Below w0.heap.size w0 w) (hs : Bytes w (some ⟨g, 0, none⟩) 1 [10]) (hE : Env w) (hn : n ≤ 20000000) :
    Calls Tryd.prog 34 #[.slice a n c, .slice (some ⟨g, 0, none⟩) 1 k] w fun e w' => (∃ x1 n1 c1 x2 n2 c2 b, e = .returned (.tuple #[.slice x1 n1 c1, .slice x2 n2 c2, .bool b]) ∧ n1 ≤ n ∧ n2 ≤ n ∧ RowB w0 x1 n1 c1 (cutA xs) ∧ RowB w0 x2 n2 c2 (cutB xs)) ∧ Below w.heap.size w w' := by
  have R := R0.below hb0
  obtain ⟨m, hm⟩ := hE.most
  refine (Tryd.bytes_Cut_all a (some ⟨g, 0, none⟩) n c 1 k xs [10] m w R.len rfl R.mem (by decide) (in_of R.bytes) (in_of hs) R.nil R.le (by omega) (by omega) hm).mono ?_
  rintro e w' ⟨rfl, q, rfl⟩
  have hb : Below w.heap.size w (w.drewN q) := below_drewN' (Below.refl _ _) q
  refine ⟨?_, hb⟩
  have e10 : Lib.bytesOf [10] = [10] := by decide
  rw [e10]
  have hlt : Lib.index (Lib.bytesOf xs) [10] < (n : Int) ∨ Lib.index (Lib.bytesOf xs) [10] < 0  := by
    rcases Int.lt_or_le (Lib.index (Lib.bytesOf xs) [10]) 0 with h | h
    · exact .inr h
    · have := Lib.index_room _ _ h
      rw [bytesOf_len, R.len] at this
      simp only [List.length_cons, List.length_nil] at this
      exact .inl (by omega)
  unfold cutA cutB nlAt
  generalize Lib.index (Lib.bytesOf xs) [10] = i at *
  unfold Lib.cutV
  by_cases h0 : 0 ≤ i
  · obtain ⟨j, rfl⟩ := Int.eq_ofNat_of_zero_le h0
    have hj : j < n := by omega
    rw [if_pos h0, if_pos h0, if_pos h0]
    refine ⟨a, j, c, subA a c (j + 1), n - (j + 1), c - (j + 1), true, ?_, by omega, by omega, ?_, ?_⟩
    · rfl
    · exact R0.front j (by omega)
    · exact R0.part (j + 1) (by omega)
  · rw [if_neg h0, if_neg h0, if_neg h0]
    exact ⟨a, n, c, none, 0, 0, false, rfl, Nat.le_refl _, by omega, R0, RowB.none _⟩
theorem front_cut (a : Option Addr) (n c : Nat) (xs : List Int) (g : Nat) (p : ByteArray) (w0 w : World) (R : RowB w0 a n c xs) (hb0 : Below w0.heap.size w0 w) (hp : w.cell? ⟨g, 0, none⟩ = some (.string p)) (hn : n ≤ 20000000) (hps : p.size ≤ 1000) :
    Calls Tryd.prog 15 #[.slice a n c, .slice (some ⟨g, 0, none⟩) 1 1] w fun e w' => (∃ x1 n1 c1, e = .returned (.tuple #[.slice x1 n1 c1, .bool (pre xs p)]) ∧ n1 ≤ n ∧ RowB w0 x1 n1 c1 (cutP xs p)) ∧ Below w.heap.size w w' := by
  refine (cutp_any a n c xs g p w (R.below hb0) hp hn hps).mono ?_
  rintro e w' ⟨⟨h, rfl⟩ | ⟨h, rfl⟩, hb⟩
  · refine ⟨⟨subA a c p.size, n - p.size, c - p.size, by rw [h], by omega, ?_⟩, hb⟩
    unfold cutP
    rw [if_pos h]
    exact R.part p.size (by have := pre_le h; rw [R.len] at this; exact this)
  · refine ⟨⟨a, n, c, by rw [h], Nat.le_refl _, ?_⟩, hb⟩
    unfold cutP
    rw [if_neg (by rw [h]; decide)]
    exact R
theorem row_stay {w w' : World} {g : Nat} {C : Array Value} {t : TypeId} {fr : Nat × Nat} (h : w.heap[g]? = some (.cells C t fr)) (hb : Below w.heap.size w w') : w'.heap[g]? = some (.cells C t fr) :=
  (hb.block g (Array.getElem?_eq_some_iff.1 h).1).trans h
theorem parsed_len (s : ByteArray) : (parsed s).length = 20 := by
  unfold parsed
  split
  · exact valsTo_length s 20
  · rfl
/-- A copy read off, and what stands behind it. -/
def copyOk (xs : List Int) : Bool := pre (cutA xs) ⟨#[99, 111, 112, 121, 58, 32]⟩
def copyP (xs : List Int) : ByteArray := if copyOk xs then strOfNums (cutP (cutA xs) ⟨#[99, 111, 112, 121, 58, 32]⟩) else ⟨#[]⟩
def copyI (xs : List Int) : List Int := if copyOk xs then parsed (strOfNums (cutP (cutA (cutB xs)) ⟨#[99, 111, 112, 121, 114, 101, 118, 58, 32]⟩)) else zeros20
def copyR (xs : List Int) : List Int := if copyOk xs then cutB (cutB xs) else xs
theorem lit1 (w : World) (t : TypeId) (fr : Nat × Nat) : Bytes (w.alloc (.cells #[.int .u8 10] t fr)) (some ⟨w.heap.size, 0, none⟩) 1 [10] := by
  have h := heap_alloc_new w (.cells #[.int .u8 10] t fr)
  refine ⟨rfl, by simp, ?_, .inr ⟨w.heap.size, 0, rfl, ?_⟩⟩
  · exact range_of_mem (by decide)
  · intro i hi
    rw [cell_of_row _ _ _ _ _ _ h]
    match i, hi with
    | 0, _ => rfl
set_option maxRecDepth 100000 in
set_option maxHeartbeats 16000000 in
theorem copyOf_any (a : Option Addr) (n c : Nat) (xs : List Int) (w : World) (R : RowB w a n c xs) (hE : Env w) (hn : n ≤ 20000000) :
    Calls Tryd.prog 23 #[.slice a n c] w fun e w' => (∃ ra rn rc, e = .returned (.tuple #[.agg (fromA (copyP xs) (copyI xs)), .slice ra rn rc]) ∧ rn ≤ n ∧ RowB w' ra rn rc (copyR xs)) ∧ Below w.heap.size w w' := by
  have hcs := conv_same
  have hzf := zero_from
  have hzi := zero_id
  have HR := Lib.hid R
  have HE := Lib.hid hE
  have HN := Lib.hid hn
  clear R hE hn
  have HF0 : Hid ((w.alloc (.cells (fromA ⟨#[]⟩ zeros20) 28)).heap[w.heap.size]? = some (.cells (fromA ⟨#[]⟩ zeros20) 28 (0, 0))) := heap_alloc_new _ _
  have HB0 : Hid (Below w.heap.size w (w.alloc (.cells (fromA ⟨#[]⟩ zeros20) 28))) := (Below.refl _ _).alloc (Nat.le_refl _) _
  have HS0 : Hid ((w.alloc (.cells (fromA ⟨#[]⟩ zeros20) 28)).heap.size = w.heap.size + 1) := by show _ = _; simp
  have hcs1 := conv_same (w.alloc (.cells (fromA ⟨#[]⟩ zeros20) 28)) #[.int .u8 10] 1 1
  rw [HS0.out] at hcs1
  go_enter Tryd.func23, Tryd.ntmps23
  go_wp2_with fail
  have HL := Lib.hid (lit1 (w.alloc (.cells (fromA ⟨#[]⟩ zeros20) 28)) 5 (1, 2))
  rw [HS0.out] at HL
  have HB1 : Hid (Below w.heap.size w ((w.alloc (.cells (fromA ⟨#[]⟩ zeros20) 28)).alloc (.cells #[.int .u8 10] 5 (1, 2)))) := HB0.out.alloc HB0.out.size _
  have HF1 : Hid (((w.alloc (.cells (fromA ⟨#[]⟩ zeros20) 28)).alloc (.cells #[.int .u8 10] 5 (1, 2))).heap[w.heap.size]? = some (.cells (fromA ⟨#[]⟩ zeros20) 28 (0, 0))) := by
    show _ = _
    rw [Below.heap_alloc _ _ _ (by rw [HS0.out]; omega)]
    exact HF0.out
  generalize (w.alloc (.cells (fromA ⟨#[]⟩ zeros20) 28)).alloc (.cells #[.int .u8 10] 5 (1, 2)) = w1 at *
  clear HF0 HB0 HS0 hcs1
  refine (nl_cut a n c xs (w.heap.size + 1) _ w w1 HR.out HB1.out HL.out (HE.out.below HB1.out) HN.out).mono ?_
  rintro e w2 ⟨⟨x1, n1, c1, x2, n2, c2, b2, rfl, hn1, hn2, r1, r2⟩, hb⟩
  have HR1 := Lib.hid r1
  have HR2 := Lib.hid r2
  have HN1 := Lib.hid hn1
  have HN2 := Lib.hid hn2
  have HB2 : Hid (Below w.heap.size w w2) := HB1.out.trans (hb.mono HB1.out.size)
  have HF2 := Lib.hid (row_stay HF1.out hb)
  clear r1 r2 hn1 hn2 hb HB1 HF1 HL
  go_wp2_with fail
  have HC := Lib.hid (lit_val w2 (.string ⟨#[99, 111, 112, 121, 58, 32]⟩) 9)
  have hb3 : Below w2.heap.size w2 (w2.alloc (.cells #[.string ⟨#[99, 111, 112, 121, 58, 32]⟩] 9)) := (Below.refl _ _).alloc (Nat.le_refl _) _
  have HB3 : Hid (Below w.heap.size w (w2.alloc (.cells #[.string ⟨#[99, 111, 112, 121, 58, 32]⟩] 9))) := HB2.out.trans (hb3.mono HB2.out.size)
  have HF3 := Lib.hid (row_stay HF2.out hb3)
  clear hb3
  generalize w2.alloc (.cells #[.string ⟨#[99, 111, 112, 121, 58, 32]⟩] 9) = w3 at *
  refine (front_cut x1 n1 c1 (cutA xs) w2.heap.size ⟨#[99, 111, 112, 121, 58, 32]⟩ w w3 HR1.out HB3.out HC.out (by have := HN.out; have := HN1.out; omega) (by decide)).mono ?_
  clear HB2 HF2
  rintro e w4 ⟨⟨x4, n4, c4, rfl, hn4, r4⟩, hb⟩
  have HR4 := Lib.hid r4
  have HN4 := Lib.hid hn4
  have HB4 : Hid (Below w.heap.size w w4) := HB3.out.trans (hb.mono HB3.out.size)
  have HF4 := Lib.hid (row_stay HF3.out hb)
  clear r4 hn4 hb HB3 HF3 HC
  cases hok : copyOk xs
  · have HP : Hid (copyP xs = ⟨#[]⟩ ∧ copyI xs = zeros20 ∧ copyR xs = xs) := by
      show _ ∧ _
      unfold copyP copyI copyR
      rw [hok]
      exact ⟨rfl, rfl, rfl⟩
    rw [show pre (cutA xs) ⟨#[99, 111, 112, 121, 58, 32]⟩ = false from hok]
    clear hok
    have HI : Hid ((Tryd.prog.info? 28).map (·.size) = some (fromA ⟨#[]⟩ zeros20).size) := from_info _ _ rfl
    go_wp2_with (first
      | refine wpList_build_0 rfl 28 rfl (.agg (fromA ⟨#[]⟩ zeros20)) build_none ?_
      | refine wpList_store_row rfl 28 _ _ rfl w.heap.size (fromA ⟨#[]⟩ zeros20) rfl rfl 28 (fromA ⟨#[]⟩ zeros20) HF4.out HI.out rfl (fromA_one _ _) ?_)
    refine bodyPost_ret (results_row_tmp Tryd.results23 _ _ w.heap.size 28 (fromA ⟨#[]⟩ zeros20) (0, 0) _ rfl (setRow_heap _ _ _ _ _ _ HF4.out) Tryd.underlying28 rfl HI.out) rfl ⟨⟨a, n, c, ?_, Nat.le_refl _, ?_⟩, ?_⟩
    · rw [HP.out.1, HP.out.2.1]; rfl
    · rw [HP.out.2.2]
      exact HR.out.below (below_setRow HB4.out (Nat.le_refl _) _)
    · exact below_setRow HB4.out (Nat.le_refl _) _
  · rw [show pre (cutA xs) ⟨#[99, 111, 112, 121, 58, 32]⟩ = true from hok]
    have HP : Hid (copyP xs = strOfNums (cutP (cutA xs) ⟨#[99, 111, 112, 121, 58, 32]⟩) ∧ copyI xs = parsed (strOfNums (cutP (cutA (cutB xs)) ⟨#[99, 111, 112, 121, 114, 101, 118, 58, 32]⟩)) ∧ copyR xs = cutB (cutB xs)) := by
      show _ ∧ _
      unfold copyP copyI copyR
      rw [hok]
      exact ⟨rfl, rfl, rfl⟩
    clear hok
    go_wp2_with fail
    have HL := Lib.hid (lit1 w4 5 (1, 2))
    have hb5 : Below w4.heap.size w4 (w4.alloc (.cells #[.int .u8 10] 5 (1, 2))) := (Below.refl _ _).alloc (Nat.le_refl _) _
    have HB5 : Hid (Below w.heap.size w (w4.alloc (.cells #[.int .u8 10] 5 (1, 2)))) := HB4.out.trans (hb5.mono HB4.out.size)
    have HF5 := Lib.hid (row_stay HF4.out hb5)
    clear hb5 HF4
    generalize w4.alloc (.cells #[.int .u8 10] 5 (1, 2)) = w5 at *
    refine (nl_cut x2 n2 c2 (cutB xs) w4.heap.size _ w w5 HR2.out HB5.out HL.out (HE.out.below HB5.out) (by have := HN.out; have := HN2.out; omega)).mono ?_
    rintro e w6 ⟨⟨x6, n6, c6, x7, n7, c7, b7, rfl, hn6, hn7, r6, r7⟩, hb⟩
    have HR6 := Lib.hid r6
    have HR7 := Lib.hid r7
    have HN6 := Lib.hid hn6
    have HN7 := Lib.hid hn7
    have HB6 : Hid (Below w.heap.size w w6) := HB5.out.trans (hb.mono HB5.out.size)
    have HF6 := Lib.hid (row_stay HF5.out hb)
    clear r6 r7 hn6 hn7 hb HB5 HF5 HL HB4
    go_wp2_with fail
    have HC := Lib.hid (lit_val w6 (.string ⟨#[99, 111, 112, 121, 114, 101, 118, 58, 32]⟩) 9)
    have hb7 : Below w6.heap.size w6 (w6.alloc (.cells #[.string ⟨#[99, 111, 112, 121, 114, 101, 118, 58, 32]⟩] 9)) := (Below.refl _ _).alloc (Nat.le_refl _) _
    have HB7 : Hid (Below w.heap.size w (w6.alloc (.cells #[.string ⟨#[99, 111, 112, 121, 114, 101, 118, 58, 32]⟩] 9))) := HB6.out.trans (hb7.mono HB6.out.size)
    have HF7 := Lib.hid (row_stay HF6.out hb7)
    clear hb7 HF6
    generalize w6.alloc (.cells #[.string ⟨#[99, 111, 112, 121, 114, 101, 118, 58, 32]⟩] 9) = w7 at *
    refine (front_cut x6 n6 c6 (cutA (cutB xs)) w6.heap.size ⟨#[99, 111, 112, 121, 114, 101, 118, 58, 32]⟩ w w7 HR6.out HB7.out HC.out (by have := HN.out; have := HN2.out; have := HN6.out; omega) (by decide)).mono ?_
    rintro e w8 ⟨⟨x8, n8, c8, rfl, hn8, r8⟩, hb⟩
    have HR8 := Lib.hid r8
    have HB8 : Hid (Below w.heap.size w w8) := HB7.out.trans (hb.mono HB7.out.size)
    have HF8 := Lib.hid (row_stay HF7.out hb)
    have htx := text_run w8 x8 n8 c8 _ (r8.below HB8.out).bytes
    have HSZ : Hid ((strOfNums (cutP (cutA (cutB xs)) ⟨#[99, 111, 112, 121, 114, 101, 118, 58, 32]⟩)).size ≤ 9223372036854775807) := by
      show _ ≤ _
      have h1 := r8.len
      have h2 := HN.out
      have h3 := HN2.out
      have h4 := HN6.out
      rw [Lib.size_eq, strOfNums_data]
      simp only [List.length_map]
      omega
    clear r8 hn8 hb HB7 HF7 HC
    generalize strOfNums (cutP (cutA (cutB xs)) ⟨#[99, 111, 112, 121, 114, 101, 118, 58, 32]⟩) = tx at *
    go_wp2_with fail
    refine (parse_any tx w8 HSZ.out).mono ?_
    rintro e w9 ⟨rfl, hb⟩
    have HB9 : Hid (Below w.heap.size w w9) := HB8.out.trans (hb.mono HB8.out.size)
    have HF9 := Lib.hid (row_stay HF8.out hb)
    have HL9 : Hid (w.heap.size < w9.heap.size) := (Array.getElem?_eq_some_iff.1 HF9.out).1
    clear hb HB8 HF8 htx
    have HPL : Hid ((parsed tx).length = 20) := parsed_len tx
    have HPI := Lib.hid (id_info _ HPL.out)
    have HZN : Hid ((w9.alloc (.cells (V8 zeros20) 26)).heap[w9.heap.size]? = some (.cells (V8 zeros20) 26 (0, 0))) := heap_alloc_new _ _
    have hb10 : Below w9.heap.size w9 ((w9.alloc (.cells (V8 zeros20) 26)).setRow w9.heap.size (V8 (parsed tx))) := below_setRow ((Below.refl _ _).alloc (Nat.le_refl _) _) (Nat.le_refl _) _
    have HB10 := Lib.hid (HB9.out.trans (hb10.mono HB9.out.size))
    have HF10 := Lib.hid (row_stay HF9.out hb10)
    have HN10 := Lib.hid (setRow_heap _ _ _ (V8 (parsed tx)) _ _ HZN.out)
    have htx3 := text_run _ x4 n4 c4 _ (HR4.out.below HB10.out).bytes
    clear hb10
    obtain ⟨pp, hpp⟩ : ∃ p, strOfNums (cutP (cutA xs) ⟨#[99, 111, 112, 121, 58, 32]⟩) = p := ⟨_, rfl⟩
    rw [hpp] at HP htx3
    clear hpp
    have HI : Hid ((Tryd.prog.info? 28).map (·.size) = some (fromA pp (parsed tx)).size) := from_info _ _ HPL.out
    have HIS : Hid ((fromA ⟨#[]⟩ zeros20).size = (fromA pp (parsed tx)).size) := by show _ = _; rw [fromA_size, fromA_size, HPL.out]; rfl
    have HVS : Hid ((V8 zeros20).size = (V8 (parsed tx)).size) := by show _ = _; rw [V8_size, V8_size, HPL.out]; rfl
    go_wp2_with (first
      | refine wpList_store_row rfl 26 _ _ rfl w9.heap.size (V8 (parsed tx)) rfl rfl 26 (V8 zeros20) HZN.out HPI.out HVS.out (V8_one _) ?_
      | refine wpList_load_row rfl 26 _ rfl w9.heap.size rfl 26 (V8 (parsed tx)) (0, 0) (.array 20 5) HN10.out Tryd.underlying26 rfl HPI.out ?_
      | refine wpList_build_2 rfl 28 _ _ rfl (.string pp) (.agg (V8 (parsed tx))) rfl rfl (.agg (fromA pp (parsed tx))) (build_from pp (parsed tx) HPL.out) ?_
      | refine wpList_store_row rfl 28 _ _ rfl w.heap.size (fromA pp (parsed tx)) rfl rfl 28 (fromA ⟨#[]⟩ zeros20) HF10.out HI.out HIS.out (fromA_one _ _) ?_)
    refine bodyPost_ret (results_row_tmp Tryd.results23 _ _ w.heap.size 28 (fromA pp (parsed tx)) (0, 0) _ rfl (setRow_heap _ _ _ _ _ _ HF10.out) Tryd.underlying28 rfl HI.out) rfl ⟨⟨x7, n7, c7, ?_, by have := HN2.out; have := HN7.out; omega, ?_⟩, ?_⟩
    · rw [HP.out.1, HP.out.2.1]; rfl
    · rw [HP.out.2.2]
      exact HR7.out.below (below_setRow HB10.out (Nat.le_refl _) _)
    · exact below_setRow HB10.out (Nat.le_refl _) _
end Go.Proofs.YtmkhnlfhbiabcaaDoor
