/- The document's unpacking: codes of lengths. -/
import Derived.Test.YtglgchjkonjpiaaGreatDoorRefA
namespace Go.Proofs.YtglgchjkonjpiaaGreatDoor
open Go.RowKit Plain
set_option linter.unusedVariables false
/-- Codes as far as they are given: the last one's bits, its number, all codes. -/
structure CSt where
  n0 : Nat
  v : Nat
  out : List (Nat × Nat)
def nextC (n : Nat) (st : CSt) : Nat := (if st.n0 = 0 then 0 else nextN st.n0 st.v) * 2 ^ (n - st.n0)
def stepC (ls : List Nat) (n : Nat) (st : CSt) (i : Nat) : CSt := if ls.getD i 0 = n then ⟨n, nextC n st, st.out.set i (n, nextC n st)⟩ else st
def roundC (ls : List Nat) (n : Nat) : Nat → CSt → CSt
  | 0, st => st
  | i + 1, st => stepC ls n (roundC ls n i st) i
def codesTo (ls : List Nat) : Nat → CSt
  | 0 => ⟨0, 0, List.replicate ls.length (0, 0)⟩
  | k + 1 => roundC ls (k + 1) ls.length (codesTo ls k)
def codesT (ls : List Nat) : List (Nat × Nat) := (codesTo ls 15).out
structure OkC (k len : Nat) (st : CSt) : Prop where
  le : st.n0 ≤ k
  lt : st.v < 2 ^ st.n0
  len : st.out.length = len
  all : ∀ x ∈ st.out, x.1 ≤ k ∧ x.2 < 2 ^ x.1
theorem nextC_lt {k len n : Nat} {st : CSt} (h : OkC k len st) (hk : k ≤ n) : nextC n st < 2 ^ n := by
  unfold nextC
  have h1 := h.le
  obtain ⟨d, hd⟩ : ∃ d, n = st.n0 + d := ⟨n - st.n0, by omega⟩
  have h2 : (if st.n0 = 0 then 0 else nextN st.n0 st.v) < 2 ^ st.n0 := by
    split
    · exact Nat.two_pow_pos _
    · exact nextN_lt h.lt
  rw [hd, Nat.add_sub_cancel_left, Nat.pow_add]
  exact Nat.mul_lt_mul_of_lt_of_le h2 (Nat.le_refl _) (Nat.two_pow_pos _)
theorem OkC.up {k m len : Nat} {st : CSt} (h : OkC k len st) (hk : k ≤ m) : OkC m len st := ⟨Nat.le_trans h.le hk, h.lt, h.len, fun x hx => ⟨Nat.le_trans (h.all x hx).1 hk, (h.all x hx).2⟩⟩
theorem stepC_ok {ls : List Nat} {n len : Nat} {st : CSt} (h : OkC n len st) (i : Nat) : OkC n len (stepC ls n st i) := by
  unfold stepC
  split
  · have hl := nextC_lt h (Nat.le_refl _)
    refine ⟨Nat.le_refl _, hl, by rw [List.length_set]; exact h.len, fun x hx => ?_⟩
    rcases List.mem_or_eq_of_mem_set hx with hx | rfl
    · exact h.all x hx
    · exact ⟨Nat.le_refl _, hl⟩
  · exact h
theorem roundC_ok {ls : List Nat} {n len : Nat} {st : CSt} (h : OkC n len st) : ∀ i, OkC n len (roundC ls n i st)
  | 0 => h
  | i + 1 => stepC_ok (roundC_ok h i) i
theorem codesTo_ok (ls : List Nat) : ∀ k, OkC k ls.length (codesTo ls k)
  | 0 => ⟨Nat.le_refl _, by simp [codesTo], by simp [codesTo], fun x hx => by rw [codesTo] at hx; rw [(List.mem_replicate.1 hx).2]; simp⟩
  | k + 1 => roundC_ok ((codesTo_ok ls k).up (by omega)) _
theorem codesT_len (ls : List Nat) : (codesT ls).length = ls.length := (codesTo_ok ls 15).len
theorem codesT_mem (ls : List Nat) : ∀ x ∈ codesT ls, x.1 ≤ 15 ∧ x.2 < 2 ^ x.1 := (codesTo_ok ls 15).all
/-- A row of codes as strings. -/
def strs (cs : List (Nat × Nat)) : List Value := cs.map fun c => .string (Sx c.1 c.2)
theorem strs_len (cs : List (Nat × Nat)) : (strs cs).length = cs.length := by simp [strs]
theorem strs_get (cs : List (Nat × Nat)) (i : Nat) (h : i < cs.length) : (strs cs)[i]? = some (.string (Sx (cs.getD i (0, 0)).1 (cs.getD i (0, 0)).2)) := by
  unfold strs
  rw [List.getElem?_map, List.getD_eq_getElem?_getD, List.getElem?_eq_getElem h]; rfl
theorem strs_set (cs : List (Nat × Nat)) (i : Nat) (c : Nat × Nat) : (strs cs).toArray.setIfInBounds i (.string (Sx c.1 c.2)) = (strs (cs.set i c)).toArray := by
  unfold strs
  rw [List.setIfInBounds_toArray, List.map_set]
theorem strinfo : (Tryz.prog.info? 9).map (fun i => (i.zero, i.size, i.bytes)) = some (some (.string ⟨#[]⟩), 1, 16) := by kernel_rfl
theorem make_ss (k : Nat) (hk : k ≤ 1000000) (w : World) : (Instr.makeSlice 64 (.int .i64 (k : Int)) (.int .i64 (k : Int))).run Tryz.prog w = .ok (.slice (some ⟨w.heap.size, 0, none⟩) k k) (w.alloc (.cells (strs (List.replicate k (0, 0))).toArray 9)) := by
  obtain ⟨i, hi, hz0, hz1, hz2⟩ := info_parts strinfo
  rw [run_make (P := Tryz.prog) w 64 9 i (.string ⟨#[]⟩) Tryz.underlying64 hi hz0 .i64 .i64 k k (by omega) (Int.le_refl _) (by rw [hz2]; omega) (by omega), hz1]
  have e : madeCells (Value.string ⟨#[]⟩).cells ((k : Int).toNat * 1) = (strs (List.replicate k (0, 0))).toArray := by
    apply Array.toList_inj.1
    rw [show (Value.string ⟨#[]⟩).cells = #[Value.string ⟨#[]⟩] from rfl, toList_madeCells_one]
    simp only [strs, List.map_replicate, Nat.mul_one, Int.toNat_natCast]
    rfl
  rw [e]
  rfl
theorem sx_empty : Sx 0 0 = ⟨#[]⟩ := rfl
set_option maxRecDepth 100000 in
set_option maxHeartbeats 8000000 in
theorem codes_any (w : World) (a : Option Addr) (n c : Nat) (ls : List Nat) (hnc : n ≤ c) (hn : n ≤ 1000) (H : NumsAt w a n ls) :
    Calls Tryz.prog 33 #[.slice a n c] w fun e w' => e = .returned (.slice (some ⟨w.heap.size, 0, none⟩) n n) ∧ w'.heap[w.heap.size]? = some (.cells (strs (codesT ls)).toArray 9 (0, 0)) ∧ Below w.heap.size w w' := by
  have HN := Lib.hid H
  have HL : Hid (ls.length = n) := H.1
  have hmk := make_ss n (by omega) w
  have HC0 : Hid ((w.alloc (.cells (strs (List.replicate n (0, 0))).toArray 9)).heap[w.heap.size]? = some (.cells (strs (codesTo ls 0).out).toArray 9 (0, 0))) := by
    show _ = _
    rw [heap_alloc_new, codesTo, HL.out]
  have HB0 : Hid (Below w.heap.size w (w.alloc (.cells (strs (List.replicate n (0, 0))).toArray 9))) := (Below.refl _ _).alloc (Nat.le_refl _) _
  clear H
  go_enter Tryz.func33, Tryz.ntmps33
  go_wp2_with fail
  clear hmk
  generalize w.alloc (.cells (strs (List.replicate n (0, 0))).toArray 9) = w0 at *
  generalize hg : w.heap.size = g at *
  have HG := Lib.hid hg
  clear hg
  go_loopw [4, 5] (fun vl vn wr => ∃ (k : Nat) (st : CSt), vn = .int .i64 ((k + 1 : Nat) : Int) ∧ k ≤ 15 ∧ codesTo ls k = st ∧ vl = .string (Sx st.n0 st.v) ∧ wr.heap[g]? = some (.cells (strs st.out).toArray 9 (0, 0)) ∧ Below g w wr) (fun _ vn _ => 16 - (intOf vn).toNat)
  case atStart => exact ⟨0, _, rfl, by omega, rfl, rfl, HC0.out, HB0.out⟩
  case round =>
    obtain ⟨k, st, rfl, hk, hst, rfl, hc, hb⟩ := hrel
    have HST := Lib.hid hst
    have HC := Lib.hid hc
    have HB := Lib.hid hb
    clear hst hc hb HC0 HB0
    by_cases hk15 : k < 15
    · have hki : ((k + 1 : Nat) : Int) < 16 := by omega
      obtain ⟨K, hK⟩ : ∃ K, k + 1 = K := ⟨_, rfl⟩
      have HK := Lib.hid hK
      have hK15 : K ≤ 15 := by omega
      have hK1 : 1 ≤ K := by omega
      have hOK : OkC K n st := by
        have := (codesTo_ok ls k).up (show k ≤ K by omega)
        rwa [HST.out, HL.out] at this
      have HOK := Lib.hid hOK
      rw [hK] at hki ⊢
      obtain ⟨S, eS⟩ : ∃ S, Sx st.n0 st.v = S := ⟨_, rfl⟩
      have HES := Lib.hid eS
      rw [eS]
      clear hOK hK hk hk15 eS
      go_wp2_with fail
      go_loopw [4, 6] (fun vl vi wr => ∃ (i : Nat) (st2 : CSt), vi = .int .i64 (i : Int) ∧ i ≤ n ∧ roundC ls K i st = st2 ∧ vl = .string (Sx st2.n0 st2.v) ∧ wr.heap[g]? = some (.cells (strs st2.out).toArray 9 (0, 0)) ∧ Below g w wr) (fun _ vi _ => n - (intOf vi).toNat)
      case atStart => exact ⟨0, st, rfl, Nat.zero_le _, rfl, by rw [HES.out], HC.out, HB.out⟩
      case round =>
        obtain ⟨i, st2, rfl, hi, hst2, rfl, hc2, hb2⟩ := hrel
        have HST2 := Lib.hid hst2
        have HC2 := Lib.hid hc2
        have HB2 := Lib.hid hb2
        have hOK2 : OkC K n st2 := by rw [← hst2]; exact roundC_ok HOK.out i
        have HOK2 := Lib.hid hOK2
        obtain ⟨m0, hm0⟩ : ∃ m0, st2.n0 = m0 := ⟨_, rfl⟩
        obtain ⟨u0, hu0⟩ : ∃ u0, st2.v = u0 := ⟨_, rfl⟩
        have hm0K : m0 ≤ K := by rw [← hm0]; exact hOK2.le
        have HU0 : Hid (u0 < 2 ^ m0) := by show _ < _; rw [← hm0, ← hu0]; exact hOK2.lt
        have HM := Lib.hid hm0
        have HU := Lib.hid hu0
        rw [hm0, hu0]
        clear hst2 hc2 hb2 hOK2 hm0 hu0 HES HC HB
        by_cases hlt : i < n
        · have hli : (i : Int) < (n : Int) := by omega
          obtain ⟨ga, go, rfl, hcell⟩ := HN.out.2 i hlt
          have c1 := (HB2.out.cell (p := ⟨ga, go + i, none⟩) (by rw [← HG.out]; exact World.block_lt_of_cell? w _ hcell)).trans hcell
          obtain ⟨y, ey⟩ : ∃ y, ls.getD i 0 = y := ⟨_, rfl⟩
          rw [ey] at c1
          have HY := Lib.hid ey
          clear hcell ey
          by_cases hy : y = K
          · rw [hy] at c1 HY
            have hyb : ((K : Int) != (K : Int)) = false := by simp
            clear hy
            have hil : i < st2.out.length := by rw [HOK2.out.len]; exact hlt
            have c2 : wr.cell? ⟨g, i, none⟩ = some (.string (Sx (st2.out.getD i (0, 0)).1 (st2.out.getD i (0, 0)).2)) := by
              refine cell_row0 wr g i _ _ _ HC2.out |>.trans ?_
              rw [← strs_get st2.out i hil]
              simp
            generalize Sx (st2.out.getD i (0, 0)).1 (st2.out.getD i (0, 0)).2 = old at *
            have f2 : wr.frozen? ⟨g, i, none⟩ = false := free_row0 wr g i _ _ HC2.out
            have HSTEP : Hid (roundC ls K (i + 1) st = ⟨K, (if m0 = 0 then 0 else nextN m0 u0) * 2 ^ (K - m0), st2.out.set i (K, (if m0 = 0 then 0 else nextN m0 u0) * 2 ^ (K - m0))⟩) := by
              show _ = _
              rw [roundC, HST2.out, stepC, if_pos HY.out]
              unfold nextC
              rw [HM.out, HU.out]
            clear hil
            by_cases hm : m0 = 0
            · have hu00 : u0 = 0 := by have := HU0.out; rw [hm] at this; simp at this; omega
              have hsx0 : Sx m0 u0 = ⟨#[]⟩ := by rw [hm, hu00]; exact sx_empty
              obtain ⟨v1, hv1⟩ : ∃ v1, v1 = 0 := ⟨_, rfl⟩
              have HSX0 : Hid ((⟨#[]⟩ : ByteArray) = Sx m0 v1) := by show _ = _; rw [hm, hv1]; exact sx_empty.symm
              have HV1 : Hid ((if m0 = 0 then 0 else nextN m0 u0) = v1) := by show _ = _; rw [if_pos hm, hv1]
              clear hv1
              have HM0 := Lib.hid hm
              rw [hsx0]
              clear hsx0 hm hu00
              go_wp2_with fail
              rw [HSX0.out]
              obtain ⟨w3, ew3⟩ : ∃ w3, w3 = wr := ⟨_, rfl⟩
              have HB3 : Hid (Below g w w3) := by rw [ew3]; exact HB2
              have HC3 : Hid (w3.heap[g]? = some (.cells (strs st2.out).toArray 9 (0, 0))) := by rw [ew3]; exact HC2
              have c3 : w3.cell? ⟨g, i, none⟩ = some (.string old) := by rw [ew3]; exact c2
              have f3 : w3.frozen? ⟨g, i, none⟩ = false := by rw [ew3]; exact f2
              rw [← ew3]
              clear ew3 c1 c2 f2 HB2 HC2
              go_loopw [4] (fun vl wz => ∃ (m : Nat) (v : Nat), vl = .string (Sx m v) ∧ m0 ≤ m ∧ m ≤ K ∧ v = v1 * 2 ^ (m - m0) ∧ wz = w3) (fun vl _ => match vl with | .string s => K - s.size | _ => 0)
              case atStart => exact ⟨m0, v1, rfl, Nat.le_refl _, hm0K, by rw [Nat.sub_self, Nat.pow_zero, Nat.mul_one], rfl⟩
              case round =>
                obtain ⟨m, v, rfl, hm0m, hmK, hv, rfl⟩ := hrel
                have HVV := Lib.hid hv
                have hsz := sx_size m v
                have hadd := sx_zero m v
                obtain ⟨T, eT⟩ : ∃ T, Sx m v = T := ⟨_, rfl⟩
                obtain ⟨T2, eT2⟩ : ∃ T2, Sx (m + 1) (2 * v) = T2 := ⟨_, rfl⟩
                have HT := Lib.hid eT
                have HT2 := Lib.hid eT2
                rw [eT, eT2] at hadd
                rw [eT] at hsz
                rw [eT]
                clear eT eT2 hv
                by_cases hmk : m < K
                · have hmi : (m : Int) < (K : Int) := by omega
                  go_wp2_with fail
                  go_roundw
                  case rel => exact ⟨m + 1, 2 * v, by rw [HT2.out], by omega, by omega, by rw [HVV.out, show m + 1 - m0 = (m - m0) + 1 by omega, Nat.pow_succ]; simp only [Nat.mul_comm, Nat.mul_left_comm], trivial⟩
                  case measure =>
                    have h1 : T2.size = m + 1 := by rw [← HT2.out]; exact sx_size _ _
                    simp only [hsz, h1]
                    omega
                · have hmi : ¬ (m : Int) < (K : Int) := by omega
                  have HMK : Hid (m = K) := by show _ = _; omega
                  go_wp2_with fail
                  go_roundw
                  case rel =>
                    have hvK : T = Sx K ((if m0 = 0 then 0 else nextN m0 u0) * 2 ^ (K - m0)) := by rw [HV1.out, ← HT.out, HVV.out, HMK.out]
                    refine ⟨i + 1, _, by go_num, by omega, HSTEP.out, by rw [hvK], ?_, ?_⟩
                    · rw [hvK]
                      have := heap_setCell_same wr g i _ _ (.string (Sx K ((if m0 = 0 then 0 else nextN m0 u0) * 2 ^ (K - m0)))) HC3.out
                      rw [strs_set st2.out i (K, (if m0 = 0 then 0 else nextN m0 u0) * 2 ^ (K - m0))] at this
                      exact this
                    · exact HB3.out.setCell (Nat.le_refl _) _
                  case measure => simp [intOf]; go_num
            · have hsx : (Sx m0 u0).size = m0 := sx_size _ _
              have hne : (Sx m0 u0).toList.isEmpty = false := by
                cases h : (Sx m0 u0).toList.isEmpty with
                | false => rfl
                | true =>
                  have h1 : (Sx m0 u0).toList = [] := List.isEmpty_iff.1 h
                  have h2 : (⟨#[]⟩ : ByteArray).toList = [] := by unfold ByteArray.toList; rw [loopN' _ _ 0 [] rfl]; rfl
                  have := toList_inj' _ _ (h1.trans h2.symm)
                  rw [this] at hsx
                  exact absurd hsx.symm hm
              have hcall := next_any wr (txt m0 u0) (txt_mem m0 u0) (by rw [txt_len]; omega)
              rw [nextT_txt _ _ HU0.out] at hcall
              have hcall2 : Calls Tryz.prog 54 #[.string (Sx m0 u0)] wr fun e w' => e = .returned (.string (Sx m0 (nextN m0 u0))) ∧ Below wr.heap.size wr w' := hcall
              obtain ⟨S, eS⟩ : ∃ S, Sx m0 u0 = S := ⟨_, rfl⟩
              rw [eS] at hcall2 hne hsx ⊢
              have HM0 := Lib.hid hm
              clear hcall hm eS
              go_wp2_with fail
              refine hcall2.mono ?_
              rintro e w3 ⟨rfl, hb3⟩
              have hgw : g < wr.heap.size := (Array.getElem?_eq_some_iff.1 HC2.out).1
              have HB3 : Hid (Below g w w3) := HB2.out.trans (hb3.mono (by omega))
              have HC3 : Hid (w3.heap[g]? = some (.cells (strs st2.out).toArray 9 (0, 0))) := by show _ = _; rw [hb3.block g hgw]; exact HC2.out
              have c3 : w3.cell? ⟨g, i, none⟩ = some (.string old) := (hb3.cell (p := ⟨g, i, none⟩) hgw).trans c2
              have f3 : w3.frozen? ⟨g, i, none⟩ = false := free_row0 w3 g i _ _ HC3.out
              clear hcall2 hb3 hgw c1 c2 f2 HB2 HC2 hne hsx
              go_wp2_with fail
              obtain ⟨v1, hv1⟩ : ∃ v1, nextN m0 u0 = v1 := ⟨_, rfl⟩
              have HV1 : Hid ((if m0 = 0 then 0 else nextN m0 u0) = v1) := by show _ = _; rw [if_neg HM0.out, hv1]
              rw [hv1]
              clear hv1
              go_loopw [4] (fun vl wz => ∃ (m : Nat) (v : Nat), vl = .string (Sx m v) ∧ m0 ≤ m ∧ m ≤ K ∧ v = v1 * 2 ^ (m - m0) ∧ wz = w3) (fun vl _ => match vl with | .string s => K - s.size | _ => 0)
              case atStart => exact ⟨m0, v1, rfl, Nat.le_refl _, hm0K, by rw [Nat.sub_self, Nat.pow_zero, Nat.mul_one], rfl⟩
              case round =>
                obtain ⟨m, v, rfl, hm0m, hmK, hv, rfl⟩ := hrel
                have HVV := Lib.hid hv
                have hsz := sx_size m v
                have hadd := sx_zero m v
                obtain ⟨T, eT⟩ : ∃ T, Sx m v = T := ⟨_, rfl⟩
                obtain ⟨T2, eT2⟩ : ∃ T2, Sx (m + 1) (2 * v) = T2 := ⟨_, rfl⟩
                have HT := Lib.hid eT
                have HT2 := Lib.hid eT2
                rw [eT, eT2] at hadd
                rw [eT] at hsz
                rw [eT]
                clear eT eT2 hv
                by_cases hmk : m < K
                · have hmi : (m : Int) < (K : Int) := by omega
                  go_wp2_with fail
                  go_roundw
                  case rel => exact ⟨m + 1, 2 * v, by rw [HT2.out], by omega, by omega, by rw [HVV.out, show m + 1 - m0 = (m - m0) + 1 by omega, Nat.pow_succ]; simp only [Nat.mul_comm, Nat.mul_left_comm], trivial⟩
                  case measure =>
                    have h1 : T2.size = m + 1 := by rw [← HT2.out]; exact sx_size _ _
                    simp only [hsz, h1]
                    omega
                · have hmi : ¬ (m : Int) < (K : Int) := by omega
                  have HMK : Hid (m = K) := by show _ = _; omega
                  go_wp2_with fail
                  go_roundw
                  case rel =>
                    have hvK : T = Sx K ((if m0 = 0 then 0 else nextN m0 u0) * 2 ^ (K - m0)) := by rw [HV1.out, ← HT.out, HVV.out, HMK.out]
                    refine ⟨i + 1, _, by go_num, by omega, HSTEP.out, by rw [hvK], ?_, ?_⟩
                    · rw [hvK]
                      have := heap_setCell_same wr g i _ _ (.string (Sx K ((if m0 = 0 then 0 else nextN m0 u0) * 2 ^ (K - m0)))) HC3.out
                      rw [strs_set st2.out i (K, (if m0 = 0 then 0 else nextN m0 u0) * 2 ^ (K - m0))] at this
                      exact this
                    · exact HB3.out.setCell (Nat.le_refl _) _
                  case measure => simp [intOf]; go_num
          · have hyi : ¬ (y : Int) = (K : Int) := by omega
            have hyb : ((y : Int) == (K : Int)) = false := by simp; omega
            go_wp2_with fail
            go_roundw
            case rel => exact ⟨i + 1, st2, by go_num, by omega, by rw [roundC, HST2.out, stepC, if_neg (by rw [HY.out]; exact hy)], by rw [HM.out, HU.out], HC2.out, HB2.out⟩
            case measure => simp [intOf]; go_num
        · have hli : ¬ (i : Int) < (n : Int) := by omega
          have HIN : Hid (i = n) := by show _ = _; omega
          go_wp2_with fail
          go_roundw
          case rel => exact ⟨k + 1, st2, by rw [HK.out]; go_num, by have := HK.out; omega, by rw [codesTo, HK.out, HST.out, HL.out, ← HIN.out, HST2.out], by rw [HM.out, HU.out], HC2.out, HB2.out⟩
          case measure => simp [intOf]; go_num
    · have hki : ¬ ((k + 1 : Nat) : Int) < 16 := by omega
      have HK : Hid (k = 15) := by show _ = _; omega
      go_wp2_with fail
      go_ret
      rw [HG.out]
      refine ⟨rfl, ?_, HB.out⟩
      unfold codesT
      rw [← HK.out, HST.out]
      exact HC.out
end Go.Proofs.YtglgchjkonjpiaaGreatDoor
