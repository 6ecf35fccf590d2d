/- The program's statement SumsShow holds: for every input it returns true and leaves its arguments as they were. No further condition. -/
import Derived.Test.YtlmjnpgcokjiaaaRows
import Derived.WalkKit
import Derived.ProofKit
import Derived.OpenShut
import Derived.ShutString
import Derived.ChangeOld
import Derived.Below
import Derived.StillTailTactics
import Derived.Deep.RegionHeld3
import Derived.Deep.AppendLies
import Derived.StillTactics
import Derived.Deep.RegionWith
import Derived.WalkSpells
import Derived.Outline
import Derived.Test.YtlmjnpgcokjiaaaWalks
import Derived.Test.YtlmjnpgcokjiaaaShow
namespace Go.Proofs.Ytlmjnpgcokjiaaa.sumsShow
open Go.ChangeShapes Go.WideShapes Go.ChangeAt Go.RowKit
open Go.ChangeMaps (open_string shut_string)
set_option linter.unusedVariables false

theorem own : ownKnob Try.prog.godebug = none := by kernel_rfl
theorem laidOut : laidOutB Try.prog = true := by kernel_rfl

/-- A slice of integers that came in: nil, or a row of cells. -/
def IsRow (k : IntKind) (w : World) (a : Option Addr) (len cap : Nat) (zs : List Int) : Prop :=
  (a = none ∧ len = 0 ∧ cap = 0 ∧ zs = []) ∨
  ∃ x, a = some x ∧ len ≤ cap ∧ cap ≤ maxLen ∧ zs.length = cap ∧ (∀ i, i < zs.length → w.cell? (x.add i) = some (.int k (zs.getD i 0))) ∧ ∀ n ∈ zs, (Lit.int k n).wf = true

/-! ### The walk -/
set_option maxHeartbeats 4000000 in
theorem walk {H : Type} {enc : TypeId × Value → H} (base : Nat) (a0 : Option Addr) (len0 cap0 : Nat) (z0 : List Int) (a1 : Int) (v2 : Value) (d2 : DataW H) (p2 : List MemPlace) (w : World) (w0 : IsRow .u8 w a0 len0 cap0 z0) (w1 : (Lit.int .i64 a1).wf = true) (ok2 : Value.okWide Try.prog w .any base 31 v2) (rd2 : DataW.Trod enc Try.prog w 0 (fun _ => true) true 31 v2 d2 p2) :
    Calls Try.prog 6 #[.slice a0 len0 cap0, .int .i64 a1, v2] w fun e w' => e = .returned (.bool true) ∧ Below w.heap.size w w' := by
  obtain ⟨ts, rfl, hts4, htb⟩ := open_array_u8 Try.underlying31 (by kernel_rfl) ok2 rd2
  clear ok2 rd2
  obtain ⟨m, xs, hm5, hmc, hn, HB, HF⟩ := few_row w0
  clear w0
  have h0 : -9223372036854775808 ≤ a1 ∧ a1 ≤ 9223372036854775807 := by simpa [Lit.wf, IntKind.min, IntKind.max, IntKind.signed, IntKind.bits] using w1
  clear w1
  obtain ⟨t0, t1, t2, t3, rfl⟩ : ∃ t0 t1 t2 t3 : Int, ts = [t0, t1, t2, t3] := by
    match ts, hts4 with
    | [t0, t1, t2, t3], _ => exact ⟨t0, t1, t2, t3, rfl⟩
  clear hts4
  have HT : Hid (∀ z ∈ [t0, t1, t2, t3], Plain.Byte z) := htb
  clear htb
  have HX : Hid (xs.length = m) := HB.out.1
  have hs0 : w.heap.size < w.heap.size + 1 := by omega
  go_enter Try.func6, Try.ntmps6
  go_wp2_with fail
  refine (HF.out _ ((Below.refl _ _).alloc (Nat.le_refl _) _)).mono ?_
  rintro e w' ⟨rfl, rfl⟩
  by_cases hm0 : m = 0
  · subst hm0
    go_wp2_with fail
    refine (known_any _).mono ?_
    rintro e w2 ⟨rfl, hbel⟩
    go_wp2_with fail
    go_ret
    exact ⟨rfl, ((Below.refl _ _).alloc (Nat.le_refl _) _).trans (hbel.mono (by simp))⟩
  · have hmp : 0 < m := by omega
    have hne : ((m : Int) == 0) = false := by simp; omega
    have HBX : Hid (∀ j, j < 4 → (w.alloc (.cells #[.int .u8 t0, .int .u8 t1, .int .u8 t2, .int .u8 t3] 31)).cell? ⟨w.heap.size, j, none⟩ = some (.int .u8 ([t0, t1, t2, t3][j]?.getD 0))) := by
      intro j hj
      have := cell_new w _ rfl #[.int .u8 t0, .int .u8 t1, .int .u8 t2, .int .u8 t3] 31 (0, 0) j (.int .u8 ([t0, t1, t2, t3][j]?.getD 0)) (by
        rcases j with _ | _ | _ | _ | j <;> first | rfl | omega)
      rwa [Nat.zero_add] at this
    have hb0 : Below w.heap.size w (w.alloc (.cells #[.int .u8 t0, .int .u8 t1, .int .u8 t2, .int .u8 t3] 31)) := (Below.refl _ _).alloc (Nat.le_refl _) _
    have hz0 : (w.alloc (.cells #[.int .u8 t0, .int .u8 t1, .int .u8 t2, .int .u8 t3] 31)).heap.size = w.heap.size + 1 := by simp
    generalize w.alloc (.cells #[.int .u8 t0, .int .u8 t1, .int .u8 t2, .int .u8 t3] 31) = wb at *
    have HB1 : Hid (Bytes wb a0 m xs) := HB.out.below hb0
    have HZ0 : Hid (wb.heap.size = w.heap.size + 1) := hz0
    clear hz0
    have tok1 : True := trivial
    go_wp2_with (first
      | (at_builtin; have _t := tok1; refine wpList_append_bytes rfl _ _ rfl wb.heap.size _ 0 [] rfl (Own.empty wb) a0 m cap0 xs rfl (HB1.out.below ((Below.refl _ _).alloc (Nat.le_refl _) _)) hn.out (by omega) (by simp) ?_; intro v1 w1 hown1 hg1; clear tok1)
      | (at_builtin; go_loud (refine wpList_append_bytes rfl _ _ rfl w1.heap.size _ 0 [] rfl (Own.empty w1) a0 m cap0 xs rfl ((HB1.out.below (((Below.refl _ _).alloc (Nat.le_refl _) _).trans ((Own.empty wb).kept (by simp) hg1))).below ((Below.refl _ _).alloc (Nat.le_refl _) _)) hn.out (by omega) (by simp) ?_); intro v2 w2 hown2 hg2))
    have hk1 : Below wb.heap.size wb w1 := ((Below.refl _ _).alloc (Nat.le_refl _) _).trans ((Own.empty wb).kept (by simp) hg1)
    have hk2 : Below w1.heap.size w1 w2 := ((Below.refl _ _).alloc (Nat.le_refl _) _).trans ((Own.empty w1).kept (by simp) hg2)
    have hown3 : Own w2 wb.heap.size v1 (0 + m) ([] ++ xs) := hown1.below hk2
    obtain ⟨g1, c1, rfl, hc1, hcm1, hgb1, hgl1⟩ := hown1.form (by omega)
    obtain ⟨g2, c2, rfl, hc2, hcm2, hgb2, hgl2⟩ := hown2.form (by omega)
    rw [Nat.zero_add, List.nil_append] at hown2 hown3
    rw [Nat.zero_add] at hc1 hc2 ⊢
    have OC : Hid (Own w2 wb.heap.size (.slice (some ⟨g1, 0, none⟩) m c1) m xs) := hown3
    have OD : Hid (Own w2 w1.heap.size (.slice (some ⟨g2, 0, none⟩) m c2) m xs) := hown2
    have hb2 : Below w.heap.size w w2 := (hb0.trans (hk1.mono (by have := HZ0.out; omega))).trans (hk2.mono (by have := HZ0.out; have := hk1.size; omega))
    have HB2 : Hid (∀ j, j < 4 → w2.cell? ⟨w.heap.size, j, none⟩ = some (.int .u8 ([t0, t1, t2, t3][j]?.getD 0))) := fun j hj => by
      rw [hk2.cell (by show w.heap.size < _; have := HZ0.out; have := hk1.size; omega), hk1.cell (by show w.heap.size < _; have := HZ0.out; omega)]; exact HBX.out j hj
    clear hown1 hown2 hown3 hg1 hg2
    obtain ⟨k, hk, ek⟩ : ∃ k : Nat, k < m ∧ wrap64 ((IntKind.u64.wrap a1).tmod (m : Int)) = (k : Int) := by
      have h1 : 0 ≤ IntKind.u64.wrap a1 := by rw [IntKind.wrap_u64]; omega
      have h2 := Int.emod_nonneg (IntKind.u64.wrap a1) (by omega : (m : Int) ≠ 0)
      have h3 := Int.emod_lt_of_pos (IntKind.u64.wrap a1) (by omega : (0 : Int) < (m : Int))
      rw [Int.tmod_eq_emod_of_nonneg h1, IntWalk.wrap64_in _ (by omega)]
      exact ⟨(IntKind.u64.wrap a1 % (m : Int)).toNat, by omega, by omega⟩
    rw [ek]
    have EK : Hid (wrap64 ((IntKind.u64.wrap a1).tmod (m : Int)) = (k : Int)) := ek
    clear ek
    have hgg : g1 ≠ g2 := by omega
    have hg1w : w.heap.size < g1 := by have := HZ0.out; omega
    have hg2w : w.heap.size < g2 := by have := HZ0.out; have := hk1.size; omega
    have HGG : Hid (g1 ≠ g2) := hgg
    clear hgg
    obtain ⟨ts, hl4, HTS, HB3⟩ : ∃ ts : List Int, Hid (ts.length = 4) ∧ Hid (∀ z ∈ ts, Plain.Byte z) ∧ Hid (∀ j, j < 4 → w2.cell? ⟨w.heap.size, j, none⟩ = some (.int .u8 (ts[j]?.getD 0))) := ⟨[t0, t1, t2, t3], rfl, HT, HB2⟩
    clear HT HB2 HBX
    go_loopw [10, 11] (fun s i wr => ∃ n : Nat, n ≤ 4 ∧ k + n ≤ m ∧ i = .int .i64 n ∧ s = .bool (Plain.allNought (ts.take n)) ∧ Own wr wb.heap.size (.slice (some ⟨g1, 0, none⟩) m c1) m (Plain.csOf xs k ts n) ∧ Own wr w1.heap.size (.slice (some ⟨g2, 0, none⟩) m c2) m xs ∧
      (∀ j, j < 4 → wr.cell? ⟨w.heap.size, j, none⟩ = some (.int .u8 (ts[j]?.getD 0))) ∧ Below w.heap.size w wr) (fun _ i _ => 4 - (intOf i).toNat)
    case atStart => exact ⟨0, by omega, by omega, rfl, rfl, OC.out, OD.out, HB3.out, hb2⟩
    case round =>
      obtain ⟨n, hn4, hkn, rfl, rfl, oc, od, hbx, hbel⟩ := hrel
      have O1 : Hid (Own wr wb.heap.size (.slice (some ⟨g1, 0, none⟩) m c1) m (Plain.csOf xs k ts n)) := oc
      have O2 : Hid (Own wr w1.heap.size (.slice (some ⟨g2, 0, none⟩) m c2) m xs) := od
      have BX : Hid (∀ j, j < 4 → wr.cell? ⟨w.heap.size, j, none⟩ = some (.int .u8 (ts[j]?.getD 0))) := hbx
      clear oc od hbx
      by_cases hc : n < 4 ∧ k + n < m
      · obtain ⟨hn, hkm⟩ := hc
        have f1 : (n : Int) < 4 := by omega
        have f2 : (k : Int) + (n : Int) < (m : Int) := by omega
        have cc := O1.out.cell (k + n) hkm
        have cf := O1.out.free (k + n)
        have ct := BX.out n hn
        go_wp2_with fail
        go_region
        have P1 : Hid (Own (wr.setCell ⟨g1, k + n, none⟩ (.int .u8 (bits .xor .u8 ((Plain.csOf xs k ts n)[k + n]?.getD 0) (ts[n]?.getD 0)))).drew wb.heap.size (.slice (some ⟨g1, 0, none⟩) m c1) m (Plain.csOf xs k ts (n + 1))) := (O1.out.stored (k + n) _).drew
        have P2 : Hid (Own (wr.setCell ⟨g1, k + n, none⟩ (.int .u8 (bits .xor .u8 ((Plain.csOf xs k ts n)[k + n]?.getD 0) (ts[n]?.getD 0)))).drew w1.heap.size (.slice (some ⟨g2, 0, none⟩) m c2) m xs) := (O2.out.other ⟨g1, k + n, none⟩ (fun e => HGG.out e) _).drew
        have hst : Below w.heap.size w (wr.setCell ⟨g1, k + n, none⟩ (.int .u8 (bits .xor .u8 ((Plain.csOf xs k ts n)[k + n]?.getD 0) (ts[n]?.getD 0)))).drew := (hbel.setCell (by show w.heap.size ≤ g1; omega) _).drew
        have P3 : Hid (∀ j, j < 4 → (wr.setCell ⟨g1, k + n, none⟩ (.int .u8 (bits .xor .u8 ((Plain.csOf xs k ts n)[k + n]?.getD 0) (ts[n]?.getD 0)))).drew.cell? ⟨w.heap.size, j, none⟩ = some (.int .u8 (ts[j]?.getD 0))) := fun j hj => by
          rw [← BX.out j hj]
          exact World.cell?_of_block (w := wr) (a := ⟨w.heap.size, j, none⟩) (Below.heap_setCell wr _ _ _ (by show w.heap.size ≠ g1; omega))
        clear cc cf ct
        generalize (wr.setCell ⟨g1, k + n, none⟩ (.int .u8 (bits .xor .u8 ((Plain.csOf xs k ts n)[k + n]?.getD 0) (ts[n]?.getD 0)))).drew = w3 at *
        have ct := P3.out n hn
        have HA : Hid (Plain.allNought (ts.take (n + 1)) = (Plain.allNought (ts.take n) && (ts[n]?.getD 0 == 0))) := Plain.allNought_snoc ts n (by rw [hl4.out]; exact hn)
        generalize Plain.allNought (ts.take n) = A at *
        cases A
        · go_wp2_with fail
          go_roundw
          case rel => exact ⟨n + 1, by omega, by omega, by go_num, by rw [HA.out]; rfl, P1.out, P2.out, P3.out, hst⟩
          case measure => simp [intOf]; omega
        · go_wp2_with fail
          go_roundw
          case rel => exact ⟨n + 1, by omega, by omega, by go_num, by rw [HA.out]; rfl, P1.out, P2.out, P3.out, hst⟩
          case measure => simp [intOf]; omega
      · have hex : n = 4 ∨ (n < 4 ∧ k + n = m) := by omega
        have FC := Plain.fact_crc xs ts k n (by rw [hl4.out]; exact hn4) (by rw [hl4.out]; omega) (by rw [HX.out]; exact hkn) (fun x hx => by
          obtain ⟨j, hj, rfl⟩ := List.mem_iff_getElem.1 hx
          have := HB.out.2.2.1 j
          rw [List.getElem?_eq_getElem hj] at this; exact this) HTS.out
        have FA := Plain.fact_ad xs k (ts[0]?.getD 0) (by rw [HX.out]; exact hk) (HB.out.2.2.1 k) (HTS.out _ (by rw [List.getElem?_eq_getElem (by rw [hl4.out]; omega)]; exact List.getElem_mem _))
        have GC : Hid (_ = true) := FC
        have GA : Hid (_ = true) := FA
        clear FC FA
        have cd := O2.out.cell k hk
        have cdf := O2.out.free k
        have cb := BX.out 0 (by omega)
        rcases hex with h4 | ⟨h4, hkm⟩
        · have f1 : ¬ (n : Int) < 4 := by omega
          clear h4 hc
          go_wp2_with fail
          go_region
          have Q1 := (O1.out.other ⟨g2, k, none⟩ (fun e => HGG.out e.symm) (.int .u8 (bits .xor .u8 (xs[k]?.getD 0) (ts[0]?.getD 0)))).drew.bytes (Plain.csOf_range xs k ts n HB.out.2.2.1)
          have Q2 := (O2.out.stored k (bits .xor .u8 (xs[k]?.getD 0) (ts[0]?.getD 0))).drew.bytes (Plain.set_range xs k _ _ HB.out.2.2.1)
          have hst : Below w.heap.size w (wr.setCell ⟨g2, k, none⟩ (.int .u8 (bits .xor .u8 (xs[k]?.getD 0) (ts[0]?.getD 0)))).drew := (hbel.setCell (by show w.heap.size ≤ g2; omega) _).drew
          have hbx : (wr.setCell ⟨g2, k, none⟩ (.int .u8 (bits .xor .u8 (xs[k]?.getD 0) (ts[0]?.getD 0)))).drew.cell? ⟨w.heap.size, 0, none⟩ = some (.int .u8 (ts[0]?.getD 0)) := by
            rw [← BX.out 0 (by omega)]
            exact World.cell?_of_block (w := wr) (a := ⟨w.heap.size, 0, none⟩) (Below.heap_setCell wr _ _ _ (by show w.heap.size ≠ g2; omega))
          have hsz : w.heap.size < (wr.setCell ⟨g2, k, none⟩ (.int .u8 (bits .xor .u8 (xs[k]?.getD 0) (ts[0]?.getD 0)))).drew.heap.size := by
            have h1 := World.block_lt_of_cell? wr _ cb
            show w.heap.size < (wr.setCell _ _).heap.size
            simpa using h1
          clear cd cdf cb O1 O2
          generalize (wr.setCell ⟨g2, k, none⟩ (.int .u8 (bits .xor .u8 (xs[k]?.getD 0) (ts[0]?.getD 0)))).drew = w3 at *
          have R1 : Hid (Bytes w3 (some ⟨g1, 0, none⟩) m (Plain.csOf xs k ts n)) := Q1
          have R2 : Hid (Bytes w3 (some ⟨g2, 0, none⟩) m (xs.set k (bits .xor .u8 (xs[k]?.getD 0) (ts[0]?.getD 0)))) := Q2
          have R0 : Hid (Bytes w3 a0 m xs) := HB.out.below hst
          have FC : ((((Plain.crc 0#32 (Plain.csOf xs k ts n)).toNat : Int) == ((Plain.crc 0#32 xs).toNat : Int)) == Plain.allNought (ts.take n)) = true := GC.out
          have FA := GA.out
          clear Q1 Q2 GC GA
          generalize Plain.csOf xs k ts n = cs at *
          generalize xs.set k (bits .xor .u8 (xs[k]?.getD 0) (ts[0]?.getD 0)) = ds at *
          generalize Plain.allNought (ts.take n) = A at *
          go_wp2_with fail
          go_region_held3 (fun w' => w'.cell? ⟨w.heap.size, 0, none⟩ = some (.int .u8 (ts[0]?.getD 0)) ∧ Below w3.heap.size w3 w')
            (first
              | (go_split_ands
                 refine ⟨?_, ?_⟩
                 · (first | exact hbx | (simpa using hbx) | exact (hbj.cell (p := ⟨w.heap.size, 0, none⟩) hsz).trans hbx)
                 · (first | exact (Below.refl _ _).drew | exact hbj))
              | assumption
              | go_keep)
            (first
              | (go_at_call 10; refine (known_any _).mono ?_; rintro e wk ⟨rfl, hbk⟩; have hbj := (Below.refl w3.heap.size w3).drew.trans hbk)
              | (go_at_call_of 13 g1; refine (crc_any _ m c1 cs _ (R1.out.below hbj)).mono ?_; rintro e w' ⟨rfl, rfl⟩)
              | (go_at_call_of 13 a0; refine (crc_any a0 m cap0 xs _ (R0.out.below hbj)).mono ?_; rintro e w' ⟨rfl, rfl⟩)
              | (go_at_call_of 11 g2; refine (adler_any _ m c2 ds _ (R2.out.below hbj)).mono ?_; rintro e w' ⟨rfl, rfl⟩)
              | (go_at_call_of 11 a0; refine (adler_any a0 m cap0 xs _ (R0.out.below hbj)).mono ?_; rintro e w' ⟨rfl, rfl⟩))
          go_wp2_with fail
          go_ret
          exact ⟨rfl, hst.trans (hbj.mono hst.size)⟩
        · have f1 : (n : Int) < 4 := by omega
          have f2 : ¬ (k : Int) + (n : Int) < (m : Int) := by omega
          clear h4 hkm hc
          go_wp2_with fail
          go_region
          have Q1 := (O1.out.other ⟨g2, k, none⟩ (fun e => HGG.out e.symm) (.int .u8 (bits .xor .u8 (xs[k]?.getD 0) (ts[0]?.getD 0)))).drew.bytes (Plain.csOf_range xs k ts n HB.out.2.2.1)
          have Q2 := (O2.out.stored k (bits .xor .u8 (xs[k]?.getD 0) (ts[0]?.getD 0))).drew.bytes (Plain.set_range xs k _ _ HB.out.2.2.1)
          have hst : Below w.heap.size w (wr.setCell ⟨g2, k, none⟩ (.int .u8 (bits .xor .u8 (xs[k]?.getD 0) (ts[0]?.getD 0)))).drew := (hbel.setCell (by show w.heap.size ≤ g2; omega) _).drew
          have hbx : (wr.setCell ⟨g2, k, none⟩ (.int .u8 (bits .xor .u8 (xs[k]?.getD 0) (ts[0]?.getD 0)))).drew.cell? ⟨w.heap.size, 0, none⟩ = some (.int .u8 (ts[0]?.getD 0)) := by
            rw [← BX.out 0 (by omega)]
            exact World.cell?_of_block (w := wr) (a := ⟨w.heap.size, 0, none⟩) (Below.heap_setCell wr _ _ _ (by show w.heap.size ≠ g2; omega))
          have hsz : w.heap.size < (wr.setCell ⟨g2, k, none⟩ (.int .u8 (bits .xor .u8 (xs[k]?.getD 0) (ts[0]?.getD 0)))).drew.heap.size := by
            have h1 := World.block_lt_of_cell? wr _ cb
            show w.heap.size < (wr.setCell _ _).heap.size
            simpa using h1
          clear cd cdf cb O1 O2
          generalize (wr.setCell ⟨g2, k, none⟩ (.int .u8 (bits .xor .u8 (xs[k]?.getD 0) (ts[0]?.getD 0)))).drew = w3 at *
          have R1 : Hid (Bytes w3 (some ⟨g1, 0, none⟩) m (Plain.csOf xs k ts n)) := Q1
          have R2 : Hid (Bytes w3 (some ⟨g2, 0, none⟩) m (xs.set k (bits .xor .u8 (xs[k]?.getD 0) (ts[0]?.getD 0)))) := Q2
          have R0 : Hid (Bytes w3 a0 m xs) := HB.out.below hst
          have FC : ((((Plain.crc 0#32 (Plain.csOf xs k ts n)).toNat : Int) == ((Plain.crc 0#32 xs).toNat : Int)) == Plain.allNought (ts.take n)) = true := GC.out
          have FA := GA.out
          clear Q1 Q2 GC GA
          generalize Plain.csOf xs k ts n = cs at *
          generalize xs.set k (bits .xor .u8 (xs[k]?.getD 0) (ts[0]?.getD 0)) = ds at *
          generalize Plain.allNought (ts.take n) = A at *
          go_wp2_with fail
          go_region_held3 (fun w' => w'.cell? ⟨w.heap.size, 0, none⟩ = some (.int .u8 (ts[0]?.getD 0)) ∧ Below w3.heap.size w3 w')
            (first
              | (go_split_ands
                 refine ⟨?_, ?_⟩
                 · (first | exact hbx | (simpa using hbx) | exact (hbj.cell (p := ⟨w.heap.size, 0, none⟩) hsz).trans hbx)
                 · (first | exact (Below.refl _ _).drew | exact hbj))
              | assumption
              | go_keep)
            (first
              | (go_at_call 10; refine (known_any _).mono ?_; rintro e wk ⟨rfl, hbk⟩; have hbj := (Below.refl w3.heap.size w3).drew.trans hbk)
              | (go_at_call_of 13 g1; refine (crc_any _ m c1 cs _ (R1.out.below hbj)).mono ?_; rintro e w' ⟨rfl, rfl⟩)
              | (go_at_call_of 13 a0; refine (crc_any a0 m cap0 xs _ (R0.out.below hbj)).mono ?_; rintro e w' ⟨rfl, rfl⟩)
              | (go_at_call_of 11 g2; refine (adler_any _ m c2 ds _ (R2.out.below hbj)).mono ?_; rintro e w' ⟨rfl, rfl⟩)
              | (go_at_call_of 11 a0; refine (adler_any a0 m cap0 xs _ (R0.out.below hbj)).mono ?_; rintro e w' ⟨rfl, rfl⟩))
          go_wp2_with fail
          go_ret
          exact ⟨rfl, hst.trans (hbj.mono hst.size)⟩

/-! ### The row's step -/
set_option maxRecDepth 100000 in
theorem lifted (os : Os) (started : os.Started) (H : Type) (enc : TypeId × Value → H) :
    ReturnsInHanded {} Try.checked os 6 .any (Rows.sumsShowSpec.pre6 enc Try.prog Try.f6 Rows.sumsShowRow.domain false) (Rows.sumsShowSpec.post enc Try.prog Try.f6 false true false false) := by
  refine returnsInHanded_of_change (C := Try.checked) own started (by kernel_rfl) Try.func6
    (ChangeSpec.witness6 (enc := enc) (C := Try.checked) false ⟨#[], #[.slice none 0 0, .int .i64 0, .agg #[.int .u8 0, .int .u8 0, .int .u8 0, .int .u8 0]], []⟩ 8 (by kernel_rfl) (by kernel_rfl) (by kernel_rfl) (by kernel_rfl)) ?_
  intro W base args ds gs before hval0 hW hcnd _
  have hval : ∀ (j : Nat) t v, Try.f6.params[j]? = some t → args[j]? = some v → Value.okWide Try.prog W .any base t v := hval0
  have hW' := hW
  obtain ⟨p, q, hA0, hV, rfl, hfz, hnd⟩ := hW
  have hA : DataW.TrodAll enc Try.prog W 0 (fun _ => true) true Try.f6.params.toList args.toList ds p := hA0
  rw [Try.params6] at hA hval
  obtain ⟨v0, vs0, d0, ds0, p0, q0, hargs, rfl, rfl, h0, r0⟩ := trodAll_cons hA
  obtain ⟨v1, vs1, d1, ds1, p1, q1, rfl, rfl, rfl, h1, r1⟩ := trodAll_cons r0
  obtain ⟨v2, vs2, d2, ds2, p2, q2, rfl, rfl, rfl, h2, r2⟩ := trodAll_cons r1
  obtain ⟨rfl, rfl, rfl⟩ := trodAll_nil r2
  obtain rfl : args = #[v0, v1, v2] := by cases args; simp_all
  obtain ⟨rfl, rfl⟩ := trodVars_none hV
  obtain ⟨a0, len0, cap0, rfl⟩ := okWide_slice Try.underlying22 (hval 0 22 v0 rfl rfl)
  have k0 := h0
  have lt0 : ∀ x ∈ p0, x.block < W.heap.size := by obtain ⟨m, hm⟩ := k0; exact DataW.trod_lt m _ _ _ hm
  obtain ⟨z0, w0⟩ : ∃ zs, IsRow .u8 W a0 len0 cap0 zs := by
    obtain ⟨fuel, hf⟩ := h0
    rcases open_ints Try.underlying22 Try.underlying5 (by kernel_rfl) hf with ⟨hcs, _⟩ | ⟨x, l, c, zs, hcs, _, hl, hm, hz, _, hcell, hwz⟩
    · simp [Value.cells] at hcs
      obtain ⟨rfl, rfl, rfl⟩ := hcs
      exact ⟨[], .inl ⟨rfl, rfl, rfl, rfl⟩⟩
    · simp [Value.cells] at hcs
      obtain ⟨rfl, rfl, rfl⟩ := hcs
      exact ⟨zs, .inr ⟨_, rfl, hl, hm, by simpa using hz, hcell, hwz⟩⟩
  obtain ⟨a1, rfl, rfl, rfl, w1⟩ := open_int Try.underlying3 (hval 1 3 v1 rfl rfl) h1
  have lt2 : ∀ x ∈ p2, x.block < W.heap.size := by obtain ⟨m, hm⟩ := h2; exact DataW.trod_lt m _ _ _ hm
  refine (walk base a0 len0 cap0 z0 a1 v2 d2 p2 W w0 w1 (hval 2 31 v2 rfl rfl) h2).mono fun e W' ⟨he, bel⟩ => ?_
  subst he
  exact ⟨_, rfl, _, _, _, [], _, [], hW', trodAll_mk1 (shut_bool Try.underlying4 _), (trodAll_cons_mk (Below.trod laidOut (by kernel_rfl) (of_decide_eq_true (by kernel_rfl)) k0 bel lt0) (trodAll_cons_mk (shut_int Try.underlying3 w1) (trodAll_cons_mk (Below.trod laidOut (by kernel_rfl) (of_decide_eq_true (by kernel_rfl)) h2 bel lt2) trodAll_mk0))), rfl, bel.frame _, fun h => by cases h⟩

theorem over : Rows.sumsShowRow.holds Try.pinned (OpenSpec.ofChange Rows.sumsShowSpec) :=
  OpenClaim.holds_of_wide 6 Try.f6 rfl rfl rfl rfl rfl rfl rfl ⟨rfl, rfl, rfl, rfl, rfl⟩ rfl rfl rfl rfl rfl (by kernel_rfl) Try.func6 (by kernel_rfl)
    (of_decide_eq_true (by kernel_rfl)) (by unfold Func.isWrapper; first | (rw [if_pos (by decide +kernel)]; kernel_rfl) | (rw [if_neg (by decide +kernel)]; exact ⟨rfl, rfl⟩))
    (fun os started H enc _ => lifted os started H enc)

/-- The statement. -/
theorem proved : Rows.SumsShowSaid := over
#print axioms proved
end Go.Proofs.Ytlmjnpgcokjiaaa.sumsShow
