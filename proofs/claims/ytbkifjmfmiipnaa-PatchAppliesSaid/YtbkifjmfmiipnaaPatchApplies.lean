/- The program's statement PatchApplies holds: for every input it returns true and leaves its arguments as they were. No further condition. -/
import Derived.Test.YtbkifjmfmiipnaaRows
import Derived.WalkKit
import Derived.ProofKit
import Derived.OpenShut
import Derived.ShutString
import Derived.ChangeOld
import Derived.Below
import Derived.StillTailTactics
import Derived.Deep.RegionHeld3
import Derived.Deep.AppendLies
import Derived.StillTactics
import Derived.Deep.RegionWith
import Derived.WalkSpells
import Derived.Outline
import Derived.Test.YtbkifjmfmiipnaaRefApply
namespace Go.Proofs.Ytbkifjmfmiipnaa.patchApplies
open Go.ChangeShapes Go.WideShapes Go.ChangeAt Go.RowKit
open Go.ChangeMaps (open_string shut_string)
set_option linter.unusedVariables false

theorem own : ownKnob Try.prog.godebug = none := by kernel_rfl
theorem laidOut : laidOutB Try.prog = true := by kernel_rfl

/-- A slice of integers that came in: nil, or a row of cells. -/
def IsRow (k : IntKind) (w : World) (a : Option Addr) (len cap : Nat) (zs : List Int) : Prop :=
  (a = none ∧ len = 0 ∧ cap = 0 ∧ zs = []) ∨
  ∃ x, a = some x ∧ len ≤ cap ∧ cap ≤ maxLen ∧ zs.length = cap ∧ (∀ i, i < zs.length → w.cell? (x.add i) = some (.int k (zs.getD i 0))) ∧ ∀ n ∈ zs, (Lit.int k n).wf = true
open Plain
theorem str_append (xs ys : List Int) : strOfNums xs ++ strOfNums ys = strOfNums (xs ++ ys) := by
  apply ByteArray.ext
  rw [ByteArray.data_append]
  apply Array.toList_inj.1
  rw [Array.toList_append, strOfNums_data, strOfNums_data, strOfNums_data, List.map_append]
theorem nil_row {k : IntKind} {w : World} {a : Option Addr} {len cap : Nat} {zs : List Int} (h : IsRow k w a len cap zs) : a = none → cap = 0 := by
  rcases h with ⟨-, -, h, -⟩ | ⟨x, rfl, -⟩
  · exact fun _ => h
  · exact fun e => by cases e
theorem run_min2 {P : Program} (ts : Array TypeId) (t : TypeId) (k k1 : IntKind) (x y : Int) (w : World) : (Builtin.min_ ts t #[.int k x, .int k1 y]).run P w = .ok (.int k (min x y)) w := by
  have e : ∀ p q : Int, (if q < p then q else p) = min p q := fun p q => by split <;> omega
  simp [Builtin.min_, Builtin.min2, e]
theorem wp_via {P : Program} {c : Code} {Q : Exit → Act → World → Prop} {a : Act} {w : World} (A : Act) (W : World) (h1 : c.wp P (fun e a' w' => e = .normal ∧ a' = A ∧ w' = W) a w) (h2 : Q .normal A W) : c.wp P Q a w := by
  refine wp_mono h1 fun e a' w' ⟨he, ha, hw⟩ => ?_
  subst he ha hw
  exact h2
theorem below_drewN {b : Nat} {w W : World} (h : Below b w W) (n : Nat) : Below b w (W.drewN n) := ⟨h.os, h.tape, h.output, h.size, h.block⟩
theorem step_append_hunk {W : World} {ops : Array Oper} {o : Oper} {ac : Act} {K : Act → World → Prop} {Q : Exit → Act → World → Prop} {E : Prop} (hgd : o.guard = none) (s x : Operand)
    (ho : o.op = .call { callee := .builtin .append, args := #[s, x], argTypes := #[23, 23] })
    (base : Nat) (v : Value) (n : Nat) (l : List HkM) (fr to : Int) (a : Option Addr) (m c : Nat) (ys : List Int) (hm : ys.length = m) (hs : ac.eval s = v) (hown : OwnH W base v n l) (g : Nat) (hx : ac.eval x = .slice (some ⟨g, 0, none⟩) 1 1)
    (hbox : W.cell? ⟨g, 0, none⟩ = some (.int .i64 fr) ∧ W.cell? ⟨g, 1, none⟩ = some (.int .i64 to) ∧ W.cell? ⟨g, 2, none⟩ = some (.slice a m c)) (hsum : n + 1 ≤ 1000000) (hbase : base ≤ W.heap.size)
    (h : ∀ v' w', OwnH w' base v' (n + 1) (l ++ [⟨fr, to, a, c, ys⟩]) → Below base W w' → (∃ a' c', v' = .slice a' (n + 1) c') → K (ac.put o.dst v') w') : if Region.wanted o (yielded ops ac.tmps) = true then Oper.wp Try.prog o ac W K Q else E := by
  have hw : Region.wanted o (yielded ops ac.tmps) = true := by simp [Region.wanted, hgd]
  rw [if_pos hw]
  subst hm
  obtain ⟨i0, hi, hz0, hz1, hz2⟩ := info_parts hkinfo
  obtain ⟨b0, b1, b2⟩ := hbox
  have hp : ∀ i, (⟨g, 0, none⟩ : Addr).add i = ⟨g, i, none⟩ := fun i => by unfold Addr.add; split <;> simp_all
  obtain ⟨v', w', hr, r1, r2, r3, r4⟩ := run_append_own_at (P := Try.prog) W base 23 o.type 26 i0 (.agg #[.int .i64 0, .int .i64 0, .slice none 0 0]) 3 40 Try.underlying23 hi hz0 hz1 hz2 rfl (by decide) v n _ hown ⟨g, 0, none⟩ 1 1 [.int .i64 fr, .int .i64 to, .slice a ys.length c] rfl
    (fun j u hj => by
      rw [hp]
      match j, hj with
      | 0, hj => simp at hj; rw [← hj]; exact b0
      | 1, hj => simp at hj; rw [← hj]; exact b1
      | 2, hj => simp at hj; rw [← hj]; exact b2
      | j + 3, hj => simp at hj)
    (fun u hu => by
      simp at hu
      rcases hu with rfl | rfl | rfl <;> rfl) (by unfold maxLen; omega) (by omega) hbase
  unfold Oper.wp execOp
  simp only [ho, resolve, invoke, builtin, Sem.run_bind, Sem.run_pure, Result.andThen_ok, List.map_toArray, List.map_cons, List.map_nil, hs, hx, hr]
  have e1 : hksFlat (l ++ [⟨fr, to, a, c, ys⟩]) = hksFlat l ++ [.int .i64 fr, .int .i64 to, .slice a ys.length c] := by simp [hksFlat, hkCells]
  refine h v' w' (by unfold OwnH; rw [e1]; exact r1) ((Below.refl base W).grown r2 hbase fun k ek => (hown.lt ek).1) ?_
  rcases r1.2 with ⟨_, h0⟩ | ⟨g', cap, cur, rfl, _⟩
  · omega
  · exact ⟨_, _, rfl⟩
def AppFine (w : World) (l : List HkM) : Prop := ∀ h ∈ l, h.ys.length ≤ 100 ∧ h.ys.length ≤ h.c ∧ (h.a = none → h.c = 0) ∧ Bytes w h.a h.ys.length h.ys
theorem hunksF_range : ∀ (f : Nat) (xs : List Int), (∀ x ∈ xs, 0 ≤ x ∧ x ≤ 255) → ∀ h, some h ∈ hunksF f xs → ∀ x ∈ h.ys, 0 ≤ x ∧ x ≤ 255
  | 0, xs, hx, h, hh, x, hm => by simp [hunksF] at hh
  | f + 1, xs, hx, h, hh, x, hm => by
    simp only [hunksF] at hh
    split at hh
    · simp at hh
    · split at hh
      · simp at hh
      · split at hh
        · simp at hh
        · rcases List.mem_cons.1 hh with e | hh
          · cases e
            exact hx x (sub_mem hm)
          · exact hunksF_range f _ (fun z hz => hx z (List.mem_of_mem_drop hz)) h hh x hm
theorem applyOf_rangeA (base p : List Int) (most : Int) (hb : ∀ x ∈ base, 0 ≤ x ∧ x ≤ 255) (hp : ∀ x ∈ p, 0 ≤ x ∧ x ≤ 255) : ∀ x ∈ (applyOf base p most).2, 0 ≤ x ∧ x ≤ 255 := by
  have h1 := applyGo_range base hb (hunksOf p) 0 [] (hunksF_range _ p hp) (by simp)
  intro x hx
  unfold applyOf at hx
  split at hx
  · split at hx
    · simp at hx
    · exact h1 x hx
  · exact h1 x hx
theorem applyGo_err (base : List Int) : ∀ (l : List (Option Hk)) (p : Nat) (out : List Int), (applyGo base l p out).1 ≤ 4
  | [], p, out => by simp [applyGo]
  | none :: t, p, out => by simp [applyGo]
  | some k :: t, p, out => by
    rw [applyGo]
    split
    · simp
    · exact applyGo_err base t _ _
theorem applyOf_err (base p : List Int) (most : Int) : (applyOf base p most).1 ≤ 4 := by
  have h1 := applyGo_err base (hunksOf p) 0 []
  unfold applyOf
  split
  · split
    · simp
    · exact h1
  · exact h1
/-! ### The walk -/
set_option maxRecDepth 100000 in
set_option maxHeartbeats 16000000 in
theorem walk {H : Type} {enc : TypeId × Value → H} (base : Nat) (a0 : Option Addr) (len0 cap0 : Nat) (z0 : List Int) (a1 : Option Addr) (len1 cap1 : Nat) (z1 : List Int) (v2 : Value) (d2 : DataW H) (p2 : List MemPlace) (a3 : Int) (w : World) (w0 : IsRow .u8 w a0 len0 cap0 z0) (w1 : IsRow .u8 w a1 len1 cap1 z1) (ok2 : Value.okWide Try.prog w .any base 23 v2) (rd2 : DataW.Trod enc Try.prog w 0 (fun _ => true) true 23 v2 d2 p2) (w3 : (Lit.int .i64 a3).wf = true) :
    Calls Try.prog 3 #[.slice a0 len0 cap0, .slice a1 len1 cap1, v2, .int .i64 a3] w fun e w' => e = .returned (.bool true) ∧ Below w.heap.size w w' := by
  have HN0 : Hid (a0 = none → cap0 = 0) := nil_row w0
  have HN1 : Hid (a1 = none → cap1 = 0) := nil_row w1
  obtain ⟨hb0, hlc0, hcm0⟩ := bytes_of w0
  obtain ⟨hb1, hlc1, hcm1⟩ := bytes_of w1
  have HB0 : Hid (Bytes w a0 (min len0 1000) ((z0.take len0).take 1000)) := hb0.first 1000
  have HB1 : Hid (Bytes w a1 (min len1 1000) ((z1.take len1).take 1000)) := hb1.first 1000
  obtain ⟨a2, len2, cap2, rfl, hl2, hin⟩ := open_hunks ok2 rd2
  have HIN : Hid (len2 = 0 ∨ ∃ b o, a2 = some ⟨b, o, none⟩ ∧ b < w.heap.size ∧ ∀ j, j < len2 → ∃ hk : HkM, HunkIn w b o j hk) := hin
  clear w0 w1 ok2 rd2 hb0 hb1 hin
  generalize (z0.take len0).take 1000 = bas at *
  generalize (z1.take len1).take 1000 = pat at *
  obtain ⟨m, hm⟩ : ∃ m, min len0 1000 = m := ⟨_, rfl⟩
  obtain ⟨q, hq⟩ : ∃ q, min len1 1000 = q := ⟨_, rfl⟩
  have hm5 : m ≤ 1000 := by omega
  have hmc : m ≤ cap0 := by omega
  have hq5 : q ≤ 1000 := by omega
  have hqc : q ≤ cap1 := by omega
  rw [hm] at HB0
  rw [hq] at HB1
  have HF : Hid (∀ W, Calls Try.prog 8 #[.slice a0 len0 cap0] W fun e w' => e = .returned (.slice a0 m cap0) ∧ w' = W) := fun W => by
    rw [← hm]; exact few_any a0 len0 cap0 [] W hlc0 hcm0
  have HG : Hid (∀ W, Calls Try.prog 8 #[.slice a1 len1 cap1] W fun e w' => e = .returned (.slice a1 q cap1) ∧ w' = W) := fun W => by
    rw [← hq]; exact few_any a1 len1 cap1 [] W hlc1 hcm1
  clear hm hq
  have hmn : ∀ (ts : Array TypeId) (t : TypeId) (x y : Int) (W : World), (Builtin.min_ ts t #[.int .i64 x, .int .i64 y]).run Try.prog W = .ok (.int .i64 (min x y)) W := fun ts t x y W => run_min2 ts t .i64 .i64 x y W
  go_enter Try.func3, Try.ntmps3
  go_wp2_with fail
  refine (HF.out w).mono ?_
  rintro e wq ⟨rfl, hwq⟩
  have hwq2 := hwq.symm
  subst hwq2
  clear hwq
  go_wp2_with fail
  refine (HG.out w).mono ?_
  rintro e wq ⟨rfl, hwq⟩
  have hwq2 := hwq.symm
  subst hwq2
  clear hwq HF HG
  go_wp2_with fail
  go_loopw [9, 10] (fun vm i wr => ∃ (k : Nat) (am : Option Addr) (cm : Nat) (ms : List HkM), k ≤ 20 ∧ i = .int .i64 (k : Int) ∧ vm = .slice am k cm ∧ OwnH wr w.heap.size (.slice am k cm) k ms ∧ AppFine w ms ∧ Below w.heap.size w wr) (fun _ i _ => 20 - (intOf i).toNat)
  case atStart => exact ⟨0, none, 0, [], by omega, rfl, rfl, ⟨rfl, .inl ⟨rfl, rfl⟩⟩, fun h hh => by simp at hh, Below.refl _ _⟩
  case round =>
    obtain ⟨k, am, cm, ms, hk, rfl, rfl, hom, hfi, hbel⟩ := hrel
    have HOM : Hid (OwnH wr w.heap.size (.slice am k cm) k ms) := hom
    have HFI : Hid (AppFine w ms) := hfi
    have HBE : Hid (Below w.heap.size w wr) := hbel
    clear hom hfi hbel
    by_cases hc : k < len2 ∧ k < 20
    · obtain ⟨hc1, hc2⟩ := hc
      obtain ⟨b, o, fr, to, ya, yc, ys, rfl, hblt, q1, q2, q3, q4, q5, q6, q7, q8, q9⟩ : ∃ b o fr to ya yc ys, a2 = some ⟨b, o, none⟩ ∧ b < w.heap.size ∧ HunkIn w b o k ⟨fr, to, ya, yc, ys⟩ := by
        rcases HIN.out with h | ⟨b, o, h1, h2, h3⟩
        · omega
        · obtain ⟨⟨fr, to, ya, yc, ys⟩, h⟩ := h3 k hc1
          exact ⟨b, o, fr, to, ya, yc, ys, h1, h2, h⟩
      dsimp only at q1 q2 q3 q4 q5 q6 q7 q8 q9
      have HYN : Hid (ya = none → yc = 0) := q5
      have HYB : Hid (Bytes w ya (min ys.length 100) (ys.take 100)) := q9.first 100
      have HCW : Hid (∀ W, Below w.heap.size w W → W.cell? ⟨b, o + k * 3, none⟩ = some (.int .i64 fr) ∧ W.cell? ⟨b, o + k * 3 + 1, none⟩ = some (.int .i64 to) ∧ W.cell? ⟨b, o + k * 3 + 2, none⟩ = some (.slice ya ys.length yc)) := fun W hW => ⟨(hW.cell (p := ⟨b, _, none⟩) hblt).trans q1, (hW.cell (p := ⟨b, _, none⟩) hblt).trans q2, (hW.cell (p := ⟨b, _, none⟩) hblt).trans q3⟩
      obtain ⟨c0, c1, c2⟩ := HCW.out wr HBE.out
      have n0 := World.new_ne wr ⟨b, o + k * 3, none⟩ c0
      have n1 := World.new_ne wr ⟨b, o + k * 3 + 1, none⟩ c1
      have n2 := World.new_ne wr ⟨b, o + k * 3 + 2, none⟩ c2
      have hi1 : (k : Int) < len2 := by omega
      have hi2 : (k : Int) < 20 := by omega
      generalize ys.take 100 = y1 at *
      obtain ⟨yl, hyl⟩ : ∃ yl, ys.length = yl := ⟨_, rfl⟩
      rw [hyl] at q3 q4 HYB c2 HCW
      have s3 : ∀ W, (Instr.sliceAt 22 (.slice ya yl yc) none (some (.int .i64 (min (yl : Int) 100))) none).run Try.prog W = .ok (.slice ya (min yl 100) yc) W := fun W => by
        have := slice_to ya yl yc (min yl 100) (by omega) W
        rwa [show ((min yl 100 : Nat) : Int) = min (yl : Int) 100 by omega] at this
      have hy1 : y1.length = min yl 100 := HYB.out.1
      have hmy : min yl 100 ≤ yc := by omega
      have hmy2 : min yl 100 ≤ 100 := by omega
      clear q1 q2 q3 q5 q9 hyl hc1 hc2
      have HBW : Hid (Below wr.heap.size wr (wr.drew.alloc (.cells #[.int .i64 fr, .int .i64 to, .slice ya (min yl 100) yc] 26))) := (Below.refl _ _).drew.alloc (Nat.le_refl _) _
      have HBX : Hid ((wr.drew.alloc (.cells #[.int .i64 fr, .int .i64 to, .slice ya (min yl 100) yc] 26)).cell? ⟨wr.heap.size, 0, none⟩ = some (.int .i64 fr) ∧ (wr.drew.alloc (.cells #[.int .i64 fr, .int .i64 to, .slice ya (min yl 100) yc] 26)).cell? ⟨wr.heap.size, 1, none⟩ = some (.int .i64 to) ∧ (wr.drew.alloc (.cells #[.int .i64 fr, .int .i64 to, .slice ya (min yl 100) yc] 26)).cell? ⟨wr.heap.size, 2, none⟩ = some (.slice ya (min yl 100) yc)) :=
        box_cells hy1 (own_box wr.drew w.heap.size HBE.out.size fr to ya (min yl 100) yc y1 hy1)
      have HO6 : Hid (OwnH (wr.drew.alloc (.cells #[.int .i64 fr, .int .i64 to, .slice ya (min yl 100) yc] 26)) w.heap.size (.slice am k cm) k ms) := HOM.out.below HBW.out
      have HSZ : Hid (w.heap.size ≤ (wr.drew.alloc (.cells #[.int .i64 fr, .int .i64 to, .slice ya (min yl 100) yc] 26)).heap.size) := Nat.le_trans HBE.out.size HBW.out.size
      go_wp2_with fail
      go_region_held3 (fun W => W.cell? ⟨b, o + k * 3, none⟩ = some (.int .i64 fr) ∧ W.cell? ⟨b, o + k * 3 + 1, none⟩ = some (.int .i64 to) ∧ W.cell? ⟨b, o + k * 3 + 2, none⟩ = some (.slice ya yl yc))
          (first | go_keep | (exact ⟨c0, c1, c2⟩) | assumption | (exact HCW.out _ ((HBE.out.trans (HBW.out.mono HBE.out.size)).trans (by assumption))))
          ((refine step_append_hunk rfl _ _ rfl w.heap.size (.slice am k cm) k ms fr to ya (min yl 100) yc y1 hy1 rfl HO6.out wr.heap.size rfl HBX.out (by omega) HSZ.out ?_; rintro v9 w7 ho9 hbe9 ⟨a9, c9, rfl⟩))
      have HO9 : Hid (OwnH w7 w.heap.size (.slice a9 (k + 1) c9) (k + 1) (ms ++ [⟨fr, to, ya, yc, y1⟩])) := ho9
      have HE9 : Hid (Below w.heap.size w w7) := (HBE.out.trans (HBW.out.mono HBE.out.size)).trans hbe9
      clear ho9 hbe9
      go_wp2_with fail
      refine ⟨⟨k + 1, a9, c9, ms ++ [⟨fr, to, ya, yc, y1⟩], by omega, by go_num, rfl, HO9.out, ?_, HE9.out⟩, by simp [intOf]; omega⟩
      intro h hh
      rcases List.mem_append.1 hh with h1 | h1
      · exact HFI.out h h1
      · rw [List.mem_singleton.1 h1]
        exact ⟨by show y1.length ≤ 100; omega, by show y1.length ≤ yc; omega, HYN.out, by show Bytes w ya y1.length y1; rw [hy1]; exact HYB.out⟩
    · have hex : ¬ (k : Int) < len2 ∨ ((k : Int) < len2 ∧ ¬ (k : Int) < 20) := by omega
      clear hc hmn
      have HMSL : Hid (ms.length = k) := by
        have := HOM.out.1
        rw [hksFlat_length] at this
        show _ = _
        omega
      obtain ⟨hs, hhs⟩ : ∃ hs, ms.map hkM = hs := ⟨_, rfl⟩
      have HHL : Hid (hs.length ≤ 20) := by rw [← hhs, List.length_map]; have := HMSL.out; show _ ≤ _; omega
      have HHF : Hid (∀ h ∈ hs, h.ys.length ≤ 100) := by
        rw [← hhs]
        intro h hh
        obtain ⟨x, hx, rfl⟩ := List.mem_map.1 hh
        exact (HFI.out x hx).1
      have HHR : Hid (∀ h ∈ hs, ∀ x ∈ h.ys, 0 ≤ x ∧ x ≤ 255) := by
        rw [← hhs]
        intro h hh
        obtain ⟨x, hx, rfl⟩ := List.mem_map.1 hh
        exact getD_bytes4 (HFI.out x hx).2.2.2
      have HHS : Hid (ms.map hkM = hs) := hhs
      clear hhs
      have rb : ∀ x ∈ bas, 0 ≤ x ∧ x ≤ 255 := getD_bytes4 HB0.out
      have rp : ∀ x ∈ pat, 0 ≤ x ∧ x ≤ 255 := getD_bytes4 HB1.out
      have rh : ∀ x ∈ printOf hs, 0 ≤ x ∧ x ≤ 255 := by
        intro x hx
        obtain ⟨j, hj, rfl⟩ := List.mem_iff_getElem.1 hx
        have := print_range hs HHR.out j
        rwa [List.getElem?_eq_getElem hj] at this
      have HPM : Hid (∀ j : Nat, 0 ≤ (printOf hs)[j]?.getD 0 ∧ (printOf hs)[j]?.getD 0 ≤ 255) := print_range _ HHR.out
      have HLM : Hid ((printOf hs).length ≤ 2240) := by have h1 := print_len hs HHF.out; have h2 := HHL.out; show _ ≤ _; omega
      have HFINE : Hid (∀ W, Below w.heap.size w W → HkFine W ms) := fun W hW h hh => by
        obtain ⟨g1, g2, g3, g4⟩ := HFI.out h hh
        exact ⟨g2, g3, by omega, g4.below hW⟩
      obtain ⟨e1, x1, hr1⟩ : ∃ e x, applyOf bas pat a3 = (e, x) := ⟨_, _, rfl⟩
      obtain ⟨e2, x2, hr2⟩ : ∃ e x, applyOf bas (printOf hs) a3 = (e, x) := ⟨_, _, rfl⟩
      have he1 : e1 ≤ 4 := by have := applyOf_err bas pat a3; rw [hr1] at this; exact this
      have he2 : e2 ≤ 4 := by have := applyOf_err bas (printOf hs) a3; rw [hr2] at this; exact this
      have HX1R : Hid (∀ j : Nat, 0 ≤ x1[j]?.getD 0 ∧ x1[j]?.getD 0 ≤ 255) := range_of_mem (by have := applyOf_rangeA bas pat a3 rb rp; rwa [hr1] at this)
      have HX2R : Hid (∀ j : Nat, 0 ≤ x2[j]?.getD 0 ∧ x2[j]?.getD 0 ≤ 255) := range_of_mem (by have := applyOf_rangeA bas (printOf hs) a3 rb rh; rwa [hr2] at this)
      have HR1 : Hid (applyOf bas pat a3 = (e1, x1)) := hr1
      have HR2 : Hid (applyOf bas (printOf hs) a3 = (e2, x2)) := hr2
      have wr1 : IntKind.i64.wrap (e1 : Int) = (e1 : Int) := by rw [IntKind.wrap_i64]; omega
      have wr2 : IntKind.i64.wrap (e2 : Int) = (e2 : Int) := by rw [IntKind.wrap_i64]; omega
      obtain ⟨n1, hn1⟩ : ∃ n, x1.length = n := ⟨_, rfl⟩
      obtain ⟨n2, hn2⟩ : ∃ n, x2.length = n := ⟨_, rfl⟩
      have HN1L : Hid (x1.length = n1) := hn1
      have HN2L : Hid (x2.length = n2) := hn2
      clear hr1 hr2 rb rp rh hn1 hn2
      rcases hex with h1 | ⟨h1, h2⟩
      all_goals
        go_wp2_with fail
        refine (print_own (.slice am k cm) k w.heap.size ms wr (by omega) HOM.out (HFINE.out wr HBE.out)).mono ?_
        rw [HHS.out]
        rintro e w1 ⟨⟨pa, pk, pc, rfl, ho1⟩, hb1⟩
        have HW1 : Hid (Below w.heap.size w w1) := HBE.out.trans (hb1.mono HBE.out.size)
        have HP1 : Hid (Bytes w1 pa pk (printOf hs)) := ho1.bytes HPM.out
        have hpc : pk ≤ pc := own_cap ho1
        have HNP : Hid (pa = none → pc = 0) := nil_of_own ho1
        have hpk : pk ≤ 2240 := by have h5 := HP1.out.1; have h6 := HLM.out; omega
        clear ho1 hb1
        have HWD : Hid (Below w.heap.size w w1.drew) := HW1.out.drew
        have HPD : Hid (Bytes w1.drew pa pk (printOf hs)) := HP1.out.below ((Below.refl _ _).drew)
        have t1 := text_run w1.drew a0 m cap0 bas (HB0.out.below HWD.out)
        have t2 := text_run w1.drew a1 q cap1 pat (HB1.out.below HWD.out)
        clear HW1 HP1
        go_wp2_with fail
        apply wp_via
        · go_region_held3 (fun W => (convert 22 9 (.slice a0 m cap0)).run Try.prog W = .ok (.string (strOfNums bas)) W ∧ (convert 22 9 (.slice a1 q cap1)).run Try.prog W = .ok (.string (strOfNums pat)) W)
              (first | (exact ⟨t1, t2⟩) | assumption) (fail)
          all_goals exact ⟨rfl, rfl, rfl⟩
        generalize w1.drew = w1 at *
        have HW1 : Hid (Below w.heap.size w w1) := HWD.out
        have HP1 : Hid (Bytes w1 pa pk (printOf hs)) := HPD.out
        clear HWD HPD
        go_wp2_with fail
        refine (apply_any a0 m cap0 bas a1 q cap1 pat a3 w1 hmc HN0.out (by omega) (HB0.out.below HW1.out) hqc HN1.out (by omega) (HB1.out.below HW1.out)).mono ?_
        rw [HR1.out]
        rintro e w2 ⟨⟨v1, rfl, hv1⟩, hb2⟩
        dsimp only at hv1 ⊢
        rw [HN1L.out] at hv1
        obtain ⟨va1, vc1, rfl, -, -, -⟩ := hv1.shape
        have HW2 : Hid (Below w.heap.size w w2) := HW1.out.trans (hb2.mono HW1.out.size)
        have HP2 : Hid (Bytes w2 pa pk (printOf hs)) := HP1.out.below hb2
        have HA2 : Hid (Bytes w2 va1 n1 x1) := hv1.bytes HX1R.out
        clear hv1 hb2 t1 t2
        go_wp2_with fail
        refine (ref_apply a0 m cap0 bas a1 q cap1 pat a3 w2 hmc HN0.out (by omega) (HB0.out.below HW2.out) hqc HN1.out (by omega) (HB1.out.below HW2.out)).mono ?_
        rw [HR1.out]
        rintro e w3 ⟨⟨v2, rfl, hv2⟩, hb3⟩
        dsimp only at hv2 ⊢
        rw [HN1L.out] at hv2
        obtain ⟨va2, vc2, rfl, -, -, -⟩ := hv2.shape
        have HW3 : Hid (Below w.heap.size w w3) := HW2.out.trans (hb3.mono HW2.out.size)
        have HP3 : Hid (Bytes w3 pa pk (printOf hs)) := HP2.out.below hb3
        have HA3 : Hid (Bytes w3 va1 n1 x1) := HA2.out.below hb3
        have HC3 : Hid (Bytes w3 va2 n1 x1) := hv2.bytes HX1R.out
        clear hv2 hb3
        go_wp2_with fail
        refine (apply_any a0 m cap0 bas pa pk pc (printOf hs) a3 w3 hmc HN0.out (by omega) (HB0.out.below HW3.out) hpc HNP.out (by omega) HP3.out).mono ?_
        rw [HR2.out]
        rintro e w4 ⟨⟨v3, rfl, hv3⟩, hb4⟩
        dsimp only at hv3 ⊢
        rw [HN2L.out] at hv3
        obtain ⟨va3, vc3, rfl, -, -, -⟩ := hv3.shape
        have HW4 : Hid (Below w.heap.size w w4) := HW3.out.trans (hb4.mono HW3.out.size)
        have HP4 : Hid (Bytes w4 pa pk (printOf hs)) := HP3.out.below hb4
        have HA4 : Hid (Bytes w4 va1 n1 x1) := HA3.out.below hb4
        have HC4 : Hid (Bytes w4 va2 n1 x1) := HC3.out.below hb4
        have HD4 : Hid (Bytes w4 va3 n2 x2) := hv3.bytes HX2R.out
        clear hv3 hb4
        go_wp2_with fail
        refine (ref_apply a0 m cap0 bas pa pk pc (printOf hs) a3 w4 hmc HN0.out (by omega) (HB0.out.below HW4.out) hpc HNP.out (by omega) HP4.out).mono ?_
        rw [HR2.out]
        rintro e w5 ⟨⟨v4, rfl, hv4⟩, hb5⟩
        dsimp only at hv4 ⊢
        rw [HN2L.out] at hv4
        obtain ⟨va4, vc4, rfl, -, -, -⟩ := hv4.shape
        have HW5 : Hid (Below w.heap.size w w5) := HW4.out.trans (hb5.mono HW4.out.size)
        have HA5 : Hid (Bytes w5 va1 n1 x1) := HA4.out.below hb5
        have HC5 : Hid (Bytes w5 va2 n1 x1) := HC4.out.below hb5
        have HD5 : Hid (Bytes w5 va3 n2 x2) := HD4.out.below hb5
        have HE5 : Hid (Bytes w5 va4 n2 x2) := hv4.bytes HX2R.out
        clear hv4 hb5
        go_wp2_with fail
        refine (known_any w5).mono ?_
        rintro e w6 ⟨rfl, hb6⟩
        have HW6 : Hid (Below w.heap.size w w6) := HW5.out.trans (hb6.mono HW5.out.size)
        have t1 := text_run w6 a0 m cap0 bas (HB0.out.below HW6.out)
        have t2 := text_run w6 a1 q cap1 pat (HB1.out.below HW6.out)
        have t3 := text_run w6 va1 n1 vc1 x1 (HA5.out.below hb6)
        have t4 := text_run w6 va2 n1 vc2 x1 (HC5.out.below hb6)
        have t5 := text_run w6 va3 n2 vc3 x2 (HD5.out.below hb6)
        have t6 := text_run w6 va4 n2 vc4 x2 (HE5.out.below hb6)
        clear hb6
        generalize strOfNums bas = S1 at *
        generalize strOfNums pat = S2 at *
        generalize strOfNums x1 = S3 at *
        generalize strOfNums x2 = S4 at *
        go_wp2_with fail
        go_ret
        exact ⟨rfl, HW6.out⟩

/-! ### The row's step -/
set_option maxRecDepth 100000 in
theorem lifted (os : Os) (started : os.Started) (H : Type) (enc : TypeId × Value → H) :
    ReturnsInHanded {} Try.checked os 3 .any (Rows.patchAppliesSpec.pre6 enc Try.prog Try.f3 Rows.patchAppliesRow.domain false) (Rows.patchAppliesSpec.post enc Try.prog Try.f3 false true false false) := by
  refine returnsInHanded_of_change (C := Try.checked) own started (by kernel_rfl) Try.func3
    (ChangeSpec.witness6 (enc := enc) (C := Try.checked) false ⟨#[], #[.slice none 0 0, .slice none 0 0, .slice none 0 0, .int .i64 0], []⟩ 8 (by kernel_rfl) (by kernel_rfl) (by kernel_rfl) (by kernel_rfl)) ?_
  intro W base args ds gs before hval0 hW hcnd _
  have hval : ∀ (j : Nat) t v, Try.f3.params[j]? = some t → args[j]? = some v → Value.okWide Try.prog W .any base t v := hval0
  have hW' := hW
  obtain ⟨p, q, hA0, hV, rfl, hfz, hnd⟩ := hW
  have hA : DataW.TrodAll enc Try.prog W 0 (fun _ => true) true Try.f3.params.toList args.toList ds p := hA0
  rw [Try.params3] at hA hval
  obtain ⟨v0, vs0, d0, ds0, p0, q0, hargs, rfl, rfl, h0, r0⟩ := trodAll_cons hA
  obtain ⟨v1, vs1, d1, ds1, p1, q1, rfl, rfl, rfl, h1, r1⟩ := trodAll_cons r0
  obtain ⟨v2, vs2, d2, ds2, p2, q2, rfl, rfl, rfl, h2, r2⟩ := trodAll_cons r1
  obtain ⟨v3, vs3, d3, ds3, p3, q3, rfl, rfl, rfl, h3, r3⟩ := trodAll_cons r2
  obtain ⟨rfl, rfl, rfl⟩ := trodAll_nil r3
  obtain rfl : args = #[v0, v1, v2, v3] := by cases args; simp_all
  obtain ⟨rfl, rfl⟩ := trodVars_none hV
  obtain ⟨a0, len0, cap0, rfl⟩ := okWide_slice Try.underlying22 (hval 0 22 v0 rfl rfl)
  have k0 := h0
  have lt0 : ∀ x ∈ p0, x.block < W.heap.size := by obtain ⟨m, hm⟩ := k0; exact DataW.trod_lt m _ _ _ hm
  obtain ⟨z0, w0⟩ : ∃ zs, IsRow .u8 W a0 len0 cap0 zs := by
    obtain ⟨fuel, hf⟩ := h0
    rcases open_ints Try.underlying22 Try.underlying5 (by kernel_rfl) hf with ⟨hcs, _⟩ | ⟨x, l, c, zs, hcs, _, hl, hm, hz, _, hcell, hwz⟩
    · simp [Value.cells] at hcs
      obtain ⟨rfl, rfl, rfl⟩ := hcs
      exact ⟨[], .inl ⟨rfl, rfl, rfl, rfl⟩⟩
    · simp [Value.cells] at hcs
      obtain ⟨rfl, rfl, rfl⟩ := hcs
      exact ⟨zs, .inr ⟨_, rfl, hl, hm, by simpa using hz, hcell, hwz⟩⟩
  obtain ⟨a1, len1, cap1, rfl⟩ := okWide_slice Try.underlying22 (hval 1 22 v1 rfl rfl)
  have k1 := h1
  have lt1 : ∀ x ∈ p1, x.block < W.heap.size := by obtain ⟨m, hm⟩ := k1; exact DataW.trod_lt m _ _ _ hm
  obtain ⟨z1, w1⟩ : ∃ zs, IsRow .u8 W a1 len1 cap1 zs := by
    obtain ⟨fuel, hf⟩ := h1
    rcases open_ints Try.underlying22 Try.underlying5 (by kernel_rfl) hf with ⟨hcs, _⟩ | ⟨x, l, c, zs, hcs, _, hl, hm, hz, _, hcell, hwz⟩
    · simp [Value.cells] at hcs
      obtain ⟨rfl, rfl, rfl⟩ := hcs
      exact ⟨[], .inl ⟨rfl, rfl, rfl, rfl⟩⟩
    · simp [Value.cells] at hcs
      obtain ⟨rfl, rfl, rfl⟩ := hcs
      exact ⟨zs, .inr ⟨_, rfl, hl, hm, by simpa using hz, hcell, hwz⟩⟩
  have lt2 : ∀ x ∈ p2, x.block < W.heap.size := by obtain ⟨m, hm⟩ := h2; exact DataW.trod_lt m _ _ _ hm
  obtain ⟨a3, rfl, rfl, rfl, w3⟩ := open_int Try.underlying3 (hval 3 3 v3 rfl rfl) h3
  refine (walk base a0 len0 cap0 z0 a1 len1 cap1 z1 v2 d2 p2 a3 W w0 w1 (hval 2 23 v2 rfl rfl) h2 w3).mono fun e W' ⟨he, bel⟩ => ?_
  subst he
  exact ⟨_, rfl, _, _, _, [], _, [], hW', trodAll_mk1 (shut_bool Try.underlying4 _), (trodAll_cons_mk (Below.trod laidOut (by kernel_rfl) (of_decide_eq_true (by kernel_rfl)) k0 bel lt0) (trodAll_cons_mk (Below.trod laidOut (by kernel_rfl) (of_decide_eq_true (by kernel_rfl)) k1 bel lt1) (trodAll_cons_mk (Below.trod laidOut (by kernel_rfl) (of_decide_eq_true (by kernel_rfl)) h2 bel lt2) (trodAll_cons_mk (shut_int Try.underlying3 w3) trodAll_mk0)))), rfl, bel.frame _, fun h => by cases h⟩

theorem over : Rows.patchAppliesRow.holds Try.pinned (OpenSpec.ofChange Rows.patchAppliesSpec) :=
  OpenClaim.holds_of_wide 3 Try.f3 rfl rfl rfl rfl rfl rfl rfl ⟨rfl, rfl, rfl, rfl, rfl⟩ rfl rfl rfl rfl rfl (by kernel_rfl) Try.func3 (by kernel_rfl)
    (of_decide_eq_true (by kernel_rfl)) (by unfold Func.isWrapper; first | (rw [if_pos (by decide +kernel)]; kernel_rfl) | (rw [if_neg (by decide +kernel)]; exact ⟨rfl, rfl⟩))
    (fun os started H enc _ => lifted os started H enc)

/-- The statement. -/
theorem proved : Rows.PatchAppliesSaid := over
#print axioms proved
end Go.Proofs.Ytbkifjmfmiipnaa.patchApplies
