/- The program's statement PatchEnds holds: for every input it returns true and leaves its arguments as they were. No further condition. -/
import Derived.Test.YtbkifjmfmiipnaaRows
import Derived.WalkKit
import Derived.ProofKit
import Derived.OpenShut
import Derived.ShutString
import Derived.ChangeOld
import Derived.Below
import Derived.StillTailTactics
import Derived.Deep.RegionHeld3
import Derived.Deep.AppendLies
import Derived.StillTactics
import Derived.Deep.RegionWith
import Derived.WalkSpells
import Derived.Outline
import Derived.Test.YtbkifjmfmiipnaaEndsRun
namespace Go.Proofs.Ytbkifjmfmiipnaa.patchEnds
open Go.ChangeShapes Go.WideShapes Go.ChangeAt Go.RowKit
open Go.ChangeMaps (open_string shut_string)
set_option linter.unusedVariables false

theorem own : ownKnob Try.prog.godebug = none := by kernel_rfl
theorem laidOut : laidOutB Try.prog = true := by kernel_rfl

/-- A slice of integers that came in: nil, or a row of cells. -/
def IsRow (k : IntKind) (w : World) (a : Option Addr) (len cap : Nat) (zs : List Int) : Prop :=
  (a = none ∧ len = 0 ∧ cap = 0 ∧ zs = []) ∨
  ∃ x, a = some x ∧ len ≤ cap ∧ cap ≤ maxLen ∧ zs.length = cap ∧ (∀ i, i < zs.length → w.cell? (x.add i) = some (.int k (zs.getD i 0))) ∧ ∀ n ∈ zs, (Lit.int k n).wf = true
open Plain
theorem str_append (xs ys : List Int) : strOfNums xs ++ strOfNums ys = strOfNums (xs ++ ys) := by
  apply ByteArray.ext
  rw [ByteArray.data_append]
  apply Array.toList_inj.1
  rw [Array.toList_append, strOfNums_data, strOfNums_data, strOfNums_data, List.map_append]
theorem nil_row {k : IntKind} {w : World} {a : Option Addr} {len cap : Nat} {zs : List Int} (h : IsRow k w a len cap zs) : a = none → cap = 0 := by
  rcases h with ⟨-, -, h, -⟩ | ⟨x, rfl, -⟩
  · exact fun _ => h
  · exact fun e => by cases e
theorem run_min2 {P : Program} (ts : Array TypeId) (t : TypeId) (k k1 : IntKind) (x y : Int) (w : World) : (Builtin.min_ ts t #[.int k x, .int k1 y]).run P w = .ok (.int k (min x y)) w := by
  have e : ∀ p q : Int, (if q < p then q else p) = min p q := fun p q => by split <;> omega
  simp [Builtin.min_, Builtin.min2, e]
theorem wp_via {P : Program} {c : Code} {Q : Exit → Act → World → Prop} {a : Act} {w : World} (A : Act) (W : World) (h1 : c.wp P (fun e a' w' => e = .normal ∧ a' = A ∧ w' = W) a w) (h2 : Q .normal A W) : c.wp P Q a w := by
  refine wp_mono h1 fun e a' w' ⟨he, ha, hw⟩ => ?_
  subst he ha hw
  exact h2
theorem below_drewN {b : Nat} {w W : World} (h : Below b w W) (n : Nat) : Below b w (W.drewN n) := ⟨h.os, h.tape, h.output, h.size, h.block⟩
/-! ### The walk -/
set_option maxRecDepth 100000 in
set_option maxHeartbeats 8000000 in
theorem walk {H : Type} {enc : TypeId × Value → H} (base : Nat) (a0 : Option Addr) (len0 cap0 : Nat) (z0 : List Int) (a1 : Option Addr) (len1 cap1 : Nat) (z1 : List Int) (a2 : Option Addr) (len2 cap2 : Nat) (z2 : List Int) (v3 : Value) (d3 : DataW H) (p3 : List MemPlace) (w : World) (w0 : IsRow .u8 w a0 len0 cap0 z0) (w1 : IsRow .u8 w a1 len1 cap1 z1) (w2 : IsRow .u8 w a2 len2 cap2 z2) (ok3 : Value.okWide Try.prog w .any base 23 v3) (rd3 : DataW.Trod enc Try.prog w 0 (fun _ => true) true 23 v3 d3 p3) :
    Calls Try.prog 7 #[.slice a0 len0 cap0, .slice a1 len1 cap1, .slice a2 len2 cap2, v3] w fun e w' => e = .returned (.bool true) ∧ Below w.heap.size w w' := by
  have HN0 : Hid (a0 = none → cap0 = 0) := nil_row w0
  have HN1 : Hid (a1 = none → cap1 = 0) := nil_row w1
  have HN2 : Hid (a2 = none → cap2 = 0) := nil_row w2
  obtain ⟨hb0, hlc0, hcm0⟩ := bytes_of w0
  obtain ⟨hb1, hlc1, hcm1⟩ := bytes_of w1
  obtain ⟨hb2, hlc2, hcm2⟩ := bytes_of w2
  have HB0 : Hid (Bytes w a0 (min len0 1000) ((z0.take len0).take 1000)) := hb0.first 1000
  have HB1 : Hid (Bytes w a1 (min len1 100) ((z1.take len1).take 100)) := hb1.first 100
  have HB2 : Hid (Bytes w a2 (min len2 100) ((z2.take len2).take 100)) := hb2.first 100
  obtain ⟨a3, len3, cap3, rfl, hl3, hin⟩ := open_hunks ok3 rd3
  have HIN : Hid (len3 = 0 ∨ ∃ b o, a3 = some ⟨b, o, none⟩ ∧ b < w.heap.size ∧ ∀ j, j < len3 → ∃ hk : HkM, HunkIn w b o j hk) := hin
  clear w0 w1 w2 ok3 rd3 hb0 hb1 hb2 hin
  generalize (z0.take len0).take 1000 = bas at *
  generalize (z1.take len1).take 100 = front at *
  generalize (z2.take len2).take 100 = back at *
  obtain ⟨m, hm⟩ : ∃ m, min len0 1000 = m := ⟨_, rfl⟩
  have hm5 : m ≤ 1000 := by omega
  have hmc : m ≤ cap0 := by omega
  have hmin1 : min len1 100 ≤ len1 := Nat.min_le_left _ _
  have hmin2 : min len2 100 ≤ len2 := Nat.min_le_left _ _
  have hm1c : min len1 100 ≤ cap1 := by omega
  have hm2c : min len2 100 ≤ cap2 := by omega
  have hm1l : min len1 100 ≤ 100 := by omega
  have hm2l : min len2 100 ≤ 100 := by omega
  rw [hm] at HB0
  have HF : Hid (∀ W, Calls Try.prog 8 #[.slice a0 len0 cap0] W fun e w' => e = .returned (.slice a0 m cap0) ∧ w' = W) := fun W => by
    rw [← hm]; exact few_any a0 len0 cap0 [] W hlc0 hcm0
  clear hm
  have hmn : ∀ (ts : Array TypeId) (t : TypeId) (x y : Int) (W : World), (Builtin.min_ ts t #[.int .i64 x, .int .i64 y]).run Try.prog W = .ok (.int .i64 (min x y)) W := fun ts t x y W => run_min2 ts t .i64 .i64 x y W
  have s1 : ∀ W, (Instr.sliceAt 22 (.slice a1 len1 cap1) none (some (.int .i64 (min (len1 : Int) 100))) none).run Try.prog W = .ok (.slice a1 (min len1 100) cap1) W := fun W => by
    have := slice_to a1 len1 cap1 (min len1 100) (by omega) W
    rwa [show ((min len1 100 : Nat) : Int) = min (len1 : Int) 100 by omega] at this
  have s2 : ∀ W, (Instr.sliceAt 22 (.slice a2 len2 cap2) none (some (.int .i64 (min (len2 : Int) 100))) none).run Try.prog W = .ok (.slice a2 (min len2 100) cap2) W := fun W => by
    have := slice_to a2 len2 cap2 (min len2 100) (by omega) W
    rwa [show ((min len2 100 : Nat) : Int) = min (len2 : Int) 100 by omega] at this
  go_enter Try.func7, Try.ntmps7
  go_wp2_with fail
  apply wp_via
  · go_region_held3 (fun _ => True) (trivial) (first | (go_at_call 8; refine (HF.out _).mono ?_; rintro e w' ⟨rfl, rfl⟩))
    all_goals exact ⟨rfl, rfl, rfl⟩
  generalize (min (len1 : Int) 100) = mi1 at *
  generalize (min (len2 : Int) 100) = mi2 at *
  clear hmin1 hmin2 hlc1 hlc2 s1 s2 HF
  generalize min len1 100 = m1 at *
  generalize min len2 100 = m2 at *
  have HFL : Hid (front.length = m1) := HB1.out.1
  go_wp2_with fail
  go_loopw [9, 10, 11] (fun vm vn i wr => ∃ (k : Nat) (am an : Option Addr) (cm cn : Nat) (ms : List HkM), k ≤ 20 ∧ i = .int .i64 (k : Int) ∧ vm = .slice am k cm ∧ vn = .slice an k cn ∧ OwnH wr w.heap.size (.slice am k cm) k ms ∧ OwnH wr w.heap.size (.slice an k cn) k (ms.map (shM m1)) ∧ Apart (.slice an k cn) (.slice am k cm) ∧ EndFine w ms ∧ Below w.heap.size w wr) (fun _ _ i _ => 20 - (intOf i).toNat)
  case atStart => exact ⟨0, none, none, 0, 0, [], by omega, rfl, rfl, rfl, ⟨rfl, .inl ⟨rfl, rfl⟩⟩, ⟨rfl, .inl ⟨rfl, rfl⟩⟩, fun b e => by simp [Value.ownBlock] at e, fun h hh => by simp at hh, (Below.refl _ _).drew⟩
  case round =>
    obtain ⟨k, am, an, cm, cn, ms, hk, rfl, rfl, rfl, hom, hon, hap, hfi, hbel⟩ := hrel
    have HOM : Hid (OwnH wr w.heap.size (.slice am k cm) k ms) := hom
    have HON : Hid (OwnH wr w.heap.size (.slice an k cn) k (ms.map (shM m1))) := hon
    have HAP : Hid (Apart (.slice an k cn) (.slice am k cm)) := hap
    have HFI : Hid (EndFine w ms) := hfi
    have HBE : Hid (Below w.heap.size w wr) := hbel
    clear hom hon hap hfi hbel
    by_cases hc : k < len3 ∧ k < 20
    · obtain ⟨hc1, hc2⟩ := hc
      obtain ⟨b, o, fr, to, ya, yc, ys, rfl, hblt, q1, q2, q3, q4, q5, q6, q7, q8, q9⟩ : ∃ b o fr to ya yc ys, a3 = some ⟨b, o, none⟩ ∧ b < w.heap.size ∧ HunkIn w b o k ⟨fr, to, ya, yc, ys⟩ := by
        rcases HIN.out with h | ⟨b, o, h1, h2, h3⟩
        · omega
        · obtain ⟨⟨fr, to, ya, yc, ys⟩, h⟩ := h3 k hc1
          exact ⟨b, o, fr, to, ya, yc, ys, h1, h2, h⟩
      dsimp only at q1 q2 q3 q4 q5 q6 q7 q8 q9
      have HYN : Hid (ya = none → yc = 0) := q5
      have HYB : Hid (Bytes w ya (min ys.length 100) (ys.take 100)) := q9.first 100
      have c0 : wr.cell? ⟨b, o + k * 3, none⟩ = some (.int .i64 fr) := (HBE.out.cell (p := ⟨b, _, none⟩) hblt).trans q1
      have c1 : wr.cell? ⟨b, o + k * 3 + 1, none⟩ = some (.int .i64 to) := (HBE.out.cell (p := ⟨b, _, none⟩) hblt).trans q2
      have c2 : wr.cell? ⟨b, o + k * 3 + 2, none⟩ = some (.slice ya ys.length yc) := (HBE.out.cell (p := ⟨b, _, none⟩) hblt).trans q3
      have n0 := World.new_ne wr ⟨b, o + k * 3, none⟩ c0
      have n1 := World.new_ne wr ⟨b, o + k * 3 + 1, none⟩ c1
      have n2 := World.new_ne wr ⟨b, o + k * 3 + 2, none⟩ c2
      have hi1 : (k : Int) < len3 := by omega
      have hi2 : (k : Int) < 20 := by omega
      generalize ys.take 100 = y1 at *
      obtain ⟨yl, hyl⟩ : ∃ yl, ys.length = yl := ⟨_, rfl⟩
      rw [hyl] at q3 q4 HYB c2
      have s3 : ∀ W, (Instr.sliceAt 22 (.slice ya yl yc) none (some (.int .i64 (min (yl : Int) 100))) none).run Try.prog W = .ok (.slice ya (min yl 100) yc) W := fun W => by
        have := slice_to ya yl yc (min yl 100) (by omega) W
        rwa [show ((min yl 100 : Nat) : Int) = min (yl : Int) 100 by omega] at this
      clear q1 q2 q3 q5 q9 hyl hc1 hc2
      go_wp2_with fail
      apply wp_via
      · go_region_held3 (fun W => W.cell? ⟨b, o + k * 3, none⟩ = some (.int .i64 fr) ∧ W.cell? ⟨b, o + k * 3 + 1, none⟩ = some (.int .i64 to) ∧ W.cell? ⟨b, o + k * 3 + 2, none⟩ = some (.slice ya yl yc))
          (first | go_keep | (exact ⟨c0, c1, c2⟩) | assumption) (fail)
        all_goals exact ⟨rfl, rfl, rfl⟩
      clear c0 c1 c2 n0 n1 n2 s3 hmn
      have hm3 : min yl 100 ≤ 100 := by omega
      have hm3c : min yl 100 ≤ yc := by omega
      generalize (min (yl : Int) 100) = mi3 at *
      generalize min yl 100 = m3 at *
      have hy1 : y1.length = m3 := HYB.out.1
      have hba : Below wr.heap.size wr (wr.alloc (.cells #[.int .i64 fr, .int .i64 to, .slice ya m3 yc] 26)).drew := ((Below.refl _ _).alloc (Nat.le_refl _) _).drew
      have HBX : Hid (OwnH (wr.alloc (.cells #[.int .i64 fr, .int .i64 to, .slice ya m3 yc] 26)).drew w.heap.size (.slice (some ⟨wr.heap.size, 0, none⟩) 1 1) 1 [⟨fr, to, ya, yc, y1⟩]) := (own_box wr w.heap.size HBE.out.size fr to ya m3 yc y1 hy1).drew
      have HOM6 : Hid (OwnH (wr.alloc (.cells #[.int .i64 fr, .int .i64 to, .slice ya m3 yc] 26)).drew w.heap.size (.slice am k cm) k ms) := HOM.out.below hba
      have HON6 : Hid (OwnH (wr.alloc (.cells #[.int .i64 fr, .int .i64 to, .slice ya m3 yc] 26)).drew w.heap.size (.slice an k cn) k (ms.map (shM m1))) := HON.out.below hba
      have HBE6 : Hid (Below w.heap.size w (wr.alloc (.cells #[.int .i64 fr, .int .i64 to, .slice ya m3 yc] 26)).drew) := HBE.out.trans (hba.mono HBE.out.size)
      have HAXM : Hid (Apart (.slice (some ⟨wr.heap.size, 0, none⟩) 1 1) (.slice am k cm)) := fun c ec ec' => by
        have h1 := (HOM.out.lt ec').2
        simp [Value.ownBlock] at ec
        omega
      have HAXN : Hid (Apart (.slice (some ⟨wr.heap.size, 0, none⟩) 1 1) (.slice an k cn)) := fun c ec ec' => by
        have h1 := (HON.out.lt ec').2
        simp [Value.ownBlock] at ec
        omega
      clear hba HOM HON HBE
      generalize (wr.alloc (.cells #[.int .i64 fr, .int .i64 to, .slice ya m3 yc] 26)).drew = w6 at *
      generalize wr.heap.size = bx at *
      obtain ⟨d0, d1, d2⟩ := box_cells hy1 HBX.out
      by_cases hgood : 0 ≤ fr ∧ 0 ≤ to ∧ fr ≤ 5000 ∧ to ≤ 5000
      · obtain ⟨g1, g2, g3, g4⟩ := hgood
        have i1 : ¬ fr < 0 := by omega
        have i2 : ¬ to < 0 := by omega
        have i3 : ¬ 5000 < fr := by omega
        have i4 : ¬ 5000 < to := by omega
        have HSZ6 : Hid (w.heap.size ≤ w6.heap.size) := HBE6.out.size
        have tok1 : True := trivial
        have tok2 : True := trivial
        go_wp2_with (first
          | (have _t := tok1
             at_builtin
             refine wpList_append_hunk rfl _ _ rfl w.heap.size (.slice am k cm) k ms fr to ya m3 yc y1 hy1 rfl HOM6.out rfl (by omega) HSZ6.out ?_
             intro v9 w7 ho9 hoth9 hbe9 hsh9
             obtain ⟨a9, c9, hv9⟩ := hsh9
             subst hv9
             clear tok1
             have HO9 : Hid (OwnH w7 w.heap.size (.slice a9 (k + 1) c9) (k + 1) (ms ++ [⟨fr, to, ya, yc, y1⟩])) := ho9
             have HN7 : Hid (OwnH w7 w.heap.size (.slice an k cn) k (ms.map (shM m1))) := (hoth9 _ _ _ HON6.out HAP.out).1
             have HA7 : Hid (Apart (.slice an k cn) (.slice a9 (k + 1) c9)) := (hoth9 _ _ _ HON6.out HAP.out).2
             have HX7 : Hid (OwnH w7 w.heap.size (.slice (some ⟨bx, 0, none⟩) 1 1) 1 [⟨fr, to, ya, yc, y1⟩]) := (hoth9 _ _ _ HBX.out HAXM.out).1
             have HBE7 : Hid (Below w.heap.size w w7) := HBE6.out.trans hbe9
             have HSZ7 : Hid (w.heap.size ≤ w7.heap.size) := HBE7.out.size
             clear ho9 hoth9 hbe9 d0 d1 d2
             obtain ⟨d0, d1, d2⟩ := box_cells hy1 HX7.out)
          | (have _t := tok2
             at_builtin
             refine wpList_append_hunk rfl _ _ rfl w.heap.size (.slice an k cn) k (ms.map (shM m1)) (fr + (m1 : Int)) (to + (m1 : Int)) ya m3 yc y1 hy1 rfl HN7.out rfl (by omega) HSZ7.out ?_
             intro v10 w8 ho10 hoth10 hbe10 hsh10
             obtain ⟨a10, c10, hv10⟩ := hsh10
             subst hv10
             clear tok2
             have HO10 : Hid (OwnH w8 w.heap.size (.slice a10 (k + 1) c10) (k + 1) (ms.map (shM m1) ++ [⟨fr + (m1 : Int), to + (m1 : Int), ya, yc, y1⟩])) := ho10
             have HM8 : Hid (OwnH w8 w.heap.size (.slice a9 (k + 1) c9) (k + 1) (ms ++ [⟨fr, to, ya, yc, y1⟩])) := (hoth10 _ _ _ HO9.out HA7.out.symm).1
             have HA8 : Hid (Apart (.slice a9 (k + 1) c9) (.slice a10 (k + 1) c10)) := (hoth10 _ _ _ HO9.out HA7.out.symm).2
             have HBE8 : Hid (Below w.heap.size w w8) := HBE7.out.trans hbe10
             clear ho10 hoth10 hbe10))
        refine ⟨⟨k + 1, a9, a10, c9, c10, ms ++ [⟨fr, to, ya, yc, y1⟩], by omega, by go_num, rfl, rfl, HM8.out, ?_, HA8.out.symm, ?_, HBE8.out⟩, by simp [intOf]; omega⟩
        · have e : (ms ++ [(⟨fr, to, ya, yc, y1⟩ : HkM)]).map (shM m1) = ms.map (shM m1) ++ [⟨fr + (m1 : Int), to + (m1 : Int), ya, yc, y1⟩] := by simp [shM]
          rw [e]; exact HO10.out
        · intro h hh
          rcases List.mem_append.1 hh with h1 | h1
          · exact HFI.out h h1
          · rw [List.mem_singleton.1 h1]
            exact ⟨⟨g1, g3⟩, ⟨g2, g4⟩, by show y1.length ≤ 100; omega, by show y1.length ≤ yc; omega, HYN.out, by show Bytes w ya y1.length y1; rw [hy1]; exact HYB.out⟩
      · have hbad : fr < 0 ∨ (0 ≤ fr ∧ to < 0) ∨ (0 ≤ fr ∧ 0 ≤ to ∧ 5000 < fr) ∨ (0 ≤ fr ∧ 0 ≤ to ∧ fr ≤ 5000 ∧ 5000 < to) := by omega
        clear hgood
        rcases hbad with h1 | ⟨h1, h2⟩ | ⟨h1, h2, h3⟩ | ⟨h1, h2, h3, h4⟩
        all_goals
          go_wp2_with fail
          refine (known_any w6).mono ?_
          rintro e w7 ⟨rfl, hb7⟩
          go_wp2_with fail
          go_ret
          exact ⟨rfl, HBE6.out.trans (hb7.mono HBE6.out.size)⟩
    · have hex : ¬ (k : Int) < len3 ∨ ((k : Int) < len3 ∧ ¬ (k : Int) < 20) := by omega
      clear hc hmn
      have HMSL : Hid (ms.length = k) := by
        have := HOM.out.1
        rw [hksFlat_length] at this
        show _ = _
        omega
      obtain ⟨hs, hhs⟩ : ∃ hs, ms.map hkM = hs := ⟨_, rfl⟩
      have HHL : Hid (hs.length ≤ 20) := by rw [← hhs, List.length_map]; have := HMSL.out; show _ ≤ _; omega
      have HHF : Hid (∀ h ∈ hs, h.fr ≤ 5000 ∧ h.to ≤ 5000 ∧ h.ys.length ≤ 100) := by rw [← hhs]; exact hkM_fine HFI.out
      have HHR : Hid (∀ h ∈ hs, ∀ x ∈ h.ys, 0 ≤ x ∧ x ≤ 255) := by rw [← hhs]; exact hkM_range HFI.out
      have HSH : Hid ((ms.map (shM m1)).map hkM = hs.map (shH m1)) := by show _ = _; rw [← hhs]; exact shM_hk m1 hm1l HFI.out
      have HHS : Hid (ms.map hkM = hs) := hhs
      clear hhs
      have rb : ∀ x ∈ bas, 0 ≤ x ∧ x ≤ 255 := getD_bytes4 HB0.out
      have r1 : ∀ x ∈ front, 0 ≤ x ∧ x ≤ 255 := getD_bytes4 HB1.out
      have r2 : ∀ x ∈ back, 0 ≤ x ∧ x ≤ 255 := getD_bytes4 HB2.out
      have HPM : Hid (∀ j : Nat, 0 ≤ (printOf hs)[j]?.getD 0 ∧ (printOf hs)[j]?.getD 0 ≤ 255) := print_range _ HHR.out
      have HPN : Hid (∀ j : Nat, 0 ≤ (printOf (hs.map (shH m1)))[j]?.getD 0 ∧ (printOf (hs.map (shH m1)))[j]?.getD 0 ≤ 255) := print_range _ (fun h hh => by
        obtain ⟨x, hx, rfl⟩ := List.mem_map.1 hh
        exact HHR.out x hx)
      have HLM : Hid ((printOf hs).length ≤ 2240) := by have h1 := print_len hs (fun k hk => (HHF.out k hk).2.2); have h2 := HHL.out; show _ ≤ _; omega
      have HLN : Hid ((printOf (hs.map (shH m1))).length ≤ 2240) := by
        have h1 := print_len (hs.map (shH m1)) (fun k hk => by
          obtain ⟨x, hx, rfl⟩ := List.mem_map.1 hk
          exact (HHF.out x hx).2.2)
        rw [List.length_map] at h1
        have h2 := HHL.out
        show _ ≤ _
        omega
      have HALL : Hid (∀ j : Nat, 0 ≤ (front ++ bas ++ back)[j]?.getD 0 ∧ (front ++ bas ++ back)[j]?.getD 0 ≤ 255) := range_of_mem (fun x hx => by
        simp only [List.mem_append] at hx
        rcases hx with (h | h) | h
        · exact r1 x h
        · exact rb x h
        · exact r2 x h)
      have HALLL : Hid ((front ++ bas ++ back).length = m1 + m + m2) := by
        have h0 := HB0.out.1; have h1 := HB1.out.1; have h2 := HB2.out.1
        show _ = _
        simp only [List.length_append]; omega
      have HENDS : Hid ((applyOf bas (printOf hs) 1099511627776).1 = 0 → applyOf (front ++ bas ++ back) (printOf (hs.map (shH m1))) 1099511627776 = (0, front ++ (applyOf bas (printOf hs) 1099511627776).2 ++ back)) := fun h0 => by
        have h1 := HB0.out.1; have h2 := HB1.out.1; have h3 := HB2.out.1
        have := ends_ok front bas back hs (by omega) (by omega) (by omega) HHL.out HHF.out h0
        rwa [h2] at this
      obtain ⟨e1, x, hres⟩ : ∃ e1 x, applyOf bas (printOf hs) 1099511627776 = (e1, x) := ⟨_, _, rfl⟩
      obtain ⟨e2, y, hres2⟩ : ∃ e2 y, applyOf (front ++ bas ++ back) (printOf (hs.map (shH m1))) 1099511627776 = (e2, y) := ⟨_, _, rfl⟩
      have HXL : Hid (x.length ≤ 3000) := by
        have h1 := applyOf_len bas hs 1099511627776 (fun h hh => (HHF.out h hh).2.2)
        rw [hres] at h1
        have h2 := HB0.out.1
        have h3 := HHL.out
        have h4 : x.length ≤ bas.length + 100 * hs.length := h1
        show _ ≤ _
        omega
      have HXR : Hid (∀ j : Nat, 0 ≤ x[j]?.getD 0 ∧ x[j]?.getD 0 ≤ 255) := range_of_mem (by
        have := applyOf_range bas hs 1099511627776 rb (fun h hh => (HHF.out h hh).2.2) HHR.out
        rwa [hres] at this)
      have HR1 : Hid (applyOf bas (printOf hs) 1099511627776 = (e1, x)) := hres
      have HR2 : Hid (applyOf (front ++ bas ++ back) (printOf (hs.map (shH m1))) 1099511627776 = (e2, y)) := hres2
      rw [hres, hres2] at HENDS
      clear hres hres2 rb r1 r2
      have HSW : Hid (w.heap.size ≤ wr.heap.size) := HBE.out.size
      rcases hex with h1 | ⟨h1, h2⟩
      all_goals
        go_wp2_with fail
        refine (print_own (.slice am k cm) k w.heap.size ms wr (by omega) HOM.out (HFI.out.fine HBE.out)).mono ?_
        rw [HHS.out]
        rintro e w1 ⟨⟨pa, pk, pc, rfl, ho1⟩, hb1⟩
        have HK1 : Hid (Below wr.heap.size wr w1) := hb1
        have HW1 : Hid (Below w.heap.size w w1) := HBE.out.trans (hb1.mono HBE.out.size)
        have HP1 : Hid (Bytes w1 pa pk (printOf hs)) := ho1.bytes HPM.out
        have HC1 : Hid (pk ≤ pc) := own_cap ho1
        have HN1' : Hid (pa = none → pc = 0) := nil_of_own ho1
        have hpk : pk ≤ 2240 := by have h5 := HP1.out.1; have h6 := HLM.out; omega
        clear ho1 hb1
        go_wp2_with fail
        refine (apply_any a0 m cap0 bas pa pk pc _ 1099511627776 w1 hmc HN0.out (by omega) (HB0.out.below HW1.out) HC1.out HN1'.out (by omega) HP1.out).mono ?_
        rw [HR1.out]
        rintro e w2 ⟨⟨v1, rfl, hv1⟩, hb2⟩
        have HK2 : Hid (Below wr.heap.size wr w2) := HK1.out.trans (hb2.mono HK1.out.size)
        have HW2 : Hid (Below w.heap.size w w2) := HW1.out.trans (hb2.mono HW1.out.size)
        dsimp only at hv1 ⊢
        obtain ⟨va, vc, rfl, -, -, -⟩ := hv1.shape
        obtain ⟨nx, hnx⟩ : ∃ k, x.length = k := ⟨_, rfl⟩
        rw [hnx] at hv1 ⊢
        have HX2 : Hid (Bytes w2 va nx x) := hv1.bytes HXR.out
        have HNXL : Hid (x.length = nx) := hnx
        clear hv1 hb2 hnx
        have HSZ2 : Hid (w.heap.size ≤ w2.heap.size) := HW2.out.size
        have tok1 : True := trivial
        have tok2 : True := trivial
        have tok3 : True := trivial
        go_wp2_with (first
          | (have _t := tok1
             at_builtin
             refine wpList_append_bytes rfl _ _ rfl w2.heap.size _ 0 [] rfl (Own.empty w2) a1 m1 cap1 front rfl ((HB1.out.below HW2.out).below ((Below.refl _ _).alloc (Nat.le_refl _) _)) HN1.out (by omega) (by simp) ?_
             intro u1 wa hu1 hga
             clear tok1
             rw [Nat.zero_add, List.nil_append] at hu1
             have HKA : Hid (Below w2.heap.size w2 wa) := ((Below.refl _ _).alloc (Nat.le_refl _) _).trans ((Own.empty w2).kept (by simp) hga)
             have HUA : Hid (Own wa w2.heap.size u1 m1 front) := hu1
             obtain ⟨ua1, uc1, eu1, -, -, -⟩ := hu1.shape
             subst eu1
             clear hu1 hga)
          | (have _t := tok2
             at_builtin
             refine wpList_append_bytes rfl _ _ rfl w2.heap.size _ m1 front rfl HUA.out a0 m cap0 bas rfl (HB0.out.below (HW2.out.trans (HKA.out.mono HW2.out.size))) HN0.out (by omega) HKA.out.size ?_
             intro u2 wb hu2 hgb
             clear tok2
             have HKB : Hid (Below w2.heap.size w2 wb) := HKA.out.trans (HUA.out.kept HKA.out.size hgb)
             have HUB : Hid (Own wb w2.heap.size u2 (m1 + m) (front ++ bas)) := hu2
             obtain ⟨ua2, uc2, eu2, -, -, -⟩ := hu2.shape
             subst eu2
             clear hu2 hgb)
          | (have _t := tok3
             at_builtin
             refine wpList_append_bytes rfl _ _ rfl w2.heap.size _ (m1 + m) (front ++ bas) rfl HUB.out a2 m2 cap2 back rfl (HB2.out.below (HW2.out.trans (HKB.out.mono HW2.out.size))) HN2.out (by omega) HKB.out.size ?_
             intro u3 w5 hu3 hgc
             clear tok3
             have HKC : Hid (Below w2.heap.size w2 w5) := HKB.out.trans (HUB.out.kept HKB.out.size hgc)
             have HUC : Hid (Own w5 w2.heap.size u3 (m1 + m + m2) (front ++ bas ++ back)) := hu3
             obtain ⟨ua3, uc3, eu3, hcu3, hnu3, -⟩ := hu3.shape
             subst eu3
             have HCU3 : Hid (ua3 = none → uc3 = 0) := hnu3
             clear hu3 hgc hnu3))
        have HK5 : Hid (Below wr.heap.size wr w5) := HK2.out.trans (HKC.out.mono HK2.out.size)
        have HW5 : Hid (Below w.heap.size w w5) := HW2.out.trans (HKC.out.mono HW2.out.size)
        refine (print_own (.slice an k cn) k w.heap.size (ms.map (shM m1)) w5 (by omega) (HON.out.below HK5.out) (HFI.out.fineS m1 HW5.out)).mono ?_
        rw [HSH.out]
        rintro e w6 ⟨⟨qa, qk, qc, rfl, ho6⟩, hb6⟩
        have HW6 : Hid (Below w.heap.size w w6) := HW5.out.trans (hb6.mono HW5.out.size)
        have HP6 : Hid (Bytes w6 qa qk (printOf (hs.map (shH m1)))) := ho6.bytes HPN.out
        have HC6 : Hid (qk ≤ qc) := own_cap ho6
        have HN6 : Hid (qa = none → qc = 0) := nil_of_own ho6
        have hqk : qk ≤ 2240 := by have h5 := HP6.out.1; have h6 := HLN.out; omega
        have HU6 : Hid (Bytes w6 ua3 (m1 + m + m2) (front ++ bas ++ back)) := (HUC.out.bytes HALL.out).below hb6
        have HX6 : Hid (Bytes w6 va nx x) := (HX2.out.below HKC.out).below hb6
        clear ho6 hb6
        obtain ⟨na, hna⟩ : ∃ k, m1 + m + m2 = k := ⟨_, rfl⟩
        have hnal : na ≤ 1200 := by omega
        rw [hna] at HU6 hcu3 ⊢
        clear hna
        go_wp2_with fail
        refine (apply_any ua3 na uc3 (front ++ bas ++ back) qa qk qc _ 1099511627776 w6 hcu3 HCU3.out (by omega) HU6.out HC6.out HN6.out (by omega) HP6.out).mono ?_
        rw [HR2.out]
        rintro e w7 ⟨⟨v2, rfl, hv2⟩, hb7⟩
        dsimp only at hv2 ⊢
        have HW7 : Hid (Below w.heap.size w w7) := HW6.out.trans (hb7.mono HW6.out.size)
        have HX7 : Hid (Bytes w7 va nx x) := HX6.out.below hb7
        obtain ⟨za, zc, rfl, -, -, -⟩ := hv2.shape
        by_cases he : e1 = 0
        · subst he
          have hE := HENDS.out rfl
          simp only [Prod.mk.injEq] at hE
          obtain ⟨rfl, rfl⟩ := hE
          obtain ⟨ny, hny⟩ : ∃ k, (front ++ x ++ back).length = k := ⟨_, rfl⟩
          rw [hny] at hv2 ⊢
          have HXY : Hid (∀ j : Nat, 0 ≤ (front ++ x ++ back)[j]?.getD 0 ∧ (front ++ x ++ back)[j]?.getD 0 ≤ 255) := range_append (range_append HB1.out.2.2.1 HXR.out) HB2.out.2.2.1
          have HZ7 : Hid (Bytes w7 za ny (front ++ x ++ back)) := hv2.bytes HXY.out
          clear hv2 hb7 hny
          go_wp2_with fail
          refine (known_any w7).mono ?_
          rintro e w8 ⟨rfl, hb8⟩
          have HB8 : Hid (Below w7.heap.size w7 w8) := hb8
          have HW8 : Hid (Below w.heap.size w w8) := HW7.out.trans (hb8.mono HW7.out.size)
          have t1 := text_run w8 za ny zc (front ++ x ++ back) (HZ7.out.below HB8.out)
          have t2 := text_run w8 a1 m1 cap1 front (HB1.out.below HW8.out)
          have t3 := text_run w8 va nx vc x (HX7.out.below HB8.out)
          have t4 := text_run w8 a2 m2 cap2 back (HB2.out.below HW8.out)
          have hcat : strOfNums front ++ strOfNums x ++ strOfNums back = strOfNums (front ++ x ++ back) := by rw [str_append, str_append]
          have z1 : (strOfNums front).size ≤ 100 := by rw [strOfNums_size]; have := HFL.out; omega
          have z2 : (strOfNums x).size ≤ 3000 := by rw [strOfNums_size]; exact HXL.out
          have z3 : (strOfNums back).size ≤ 100 := by rw [strOfNums_size]; have := HB2.out.1; omega
          have e5 : (strOfNums front).size + (strOfNums x).size ≤ 9223372036854775807 := by omega
          have e6 : (strOfNums front).size + (strOfNums x).size + (strOfNums back).size ≤ 9223372036854775807 := by omega
          clear hb8
          generalize strOfNums (front ++ x ++ back) = SB at *
          generalize strOfNums front = S1 at *
          generalize strOfNums x = S2 at *
          generalize strOfNums back = S3 at *
          go_wp2_with fail
          go_ret
          exact ⟨rfl, HW8.out⟩
        · have he' : ¬ (e1 : Int) = 0 := by omega
          clear hv2 hb7
          go_wp2_with fail
          refine (known_any w7).mono ?_
          rintro e w8 ⟨rfl, hb8⟩
          go_wp2_with fail
          go_ret
          exact ⟨rfl, HW7.out.trans (hb8.mono HW7.out.size)⟩

/-! ### The row's step -/
set_option maxRecDepth 100000 in
theorem lifted (os : Os) (started : os.Started) (H : Type) (enc : TypeId × Value → H) :
    ReturnsInHanded {} Try.checked os 7 .any (Rows.patchEndsSpec.pre6 enc Try.prog Try.f7 Rows.patchEndsRow.domain false) (Rows.patchEndsSpec.post enc Try.prog Try.f7 false true false false) := by
  refine returnsInHanded_of_change (C := Try.checked) own started (by kernel_rfl) Try.func7
    (ChangeSpec.witness6 (enc := enc) (C := Try.checked) false ⟨#[], #[.slice none 0 0, .slice none 0 0, .slice none 0 0, .slice none 0 0], []⟩ 8 (by kernel_rfl) (by kernel_rfl) (by kernel_rfl) (by kernel_rfl)) ?_
  intro W base args ds gs before hval0 hW hcnd _
  have hval : ∀ (j : Nat) t v, Try.f7.params[j]? = some t → args[j]? = some v → Value.okWide Try.prog W .any base t v := hval0
  have hW' := hW
  obtain ⟨p, q, hA0, hV, rfl, hfz, hnd⟩ := hW
  have hA : DataW.TrodAll enc Try.prog W 0 (fun _ => true) true Try.f7.params.toList args.toList ds p := hA0
  rw [Try.params7] at hA hval
  obtain ⟨v0, vs0, d0, ds0, p0, q0, hargs, rfl, rfl, h0, r0⟩ := trodAll_cons hA
  obtain ⟨v1, vs1, d1, ds1, p1, q1, rfl, rfl, rfl, h1, r1⟩ := trodAll_cons r0
  obtain ⟨v2, vs2, d2, ds2, p2, q2, rfl, rfl, rfl, h2, r2⟩ := trodAll_cons r1
  obtain ⟨v3, vs3, d3, ds3, p3, q3, rfl, rfl, rfl, h3, r3⟩ := trodAll_cons r2
  obtain ⟨rfl, rfl, rfl⟩ := trodAll_nil r3
  obtain rfl : args = #[v0, v1, v2, v3] := by cases args; simp_all
  obtain ⟨rfl, rfl⟩ := trodVars_none hV
  obtain ⟨a0, len0, cap0, rfl⟩ := okWide_slice Try.underlying22 (hval 0 22 v0 rfl rfl)
  have k0 := h0
  have lt0 : ∀ x ∈ p0, x.block < W.heap.size := by obtain ⟨m, hm⟩ := k0; exact DataW.trod_lt m _ _ _ hm
  obtain ⟨z0, w0⟩ : ∃ zs, IsRow .u8 W a0 len0 cap0 zs := by
    obtain ⟨fuel, hf⟩ := h0
    rcases open_ints Try.underlying22 Try.underlying5 (by kernel_rfl) hf with ⟨hcs, _⟩ | ⟨x, l, c, zs, hcs, _, hl, hm, hz, _, hcell, hwz⟩
    · simp [Value.cells] at hcs
      obtain ⟨rfl, rfl, rfl⟩ := hcs
      exact ⟨[], .inl ⟨rfl, rfl, rfl, rfl⟩⟩
    · simp [Value.cells] at hcs
      obtain ⟨rfl, rfl, rfl⟩ := hcs
      exact ⟨zs, .inr ⟨_, rfl, hl, hm, by simpa using hz, hcell, hwz⟩⟩
  obtain ⟨a1, len1, cap1, rfl⟩ := okWide_slice Try.underlying22 (hval 1 22 v1 rfl rfl)
  have k1 := h1
  have lt1 : ∀ x ∈ p1, x.block < W.heap.size := by obtain ⟨m, hm⟩ := k1; exact DataW.trod_lt m _ _ _ hm
  obtain ⟨z1, w1⟩ : ∃ zs, IsRow .u8 W a1 len1 cap1 zs := by
    obtain ⟨fuel, hf⟩ := h1
    rcases open_ints Try.underlying22 Try.underlying5 (by kernel_rfl) hf with ⟨hcs, _⟩ | ⟨x, l, c, zs, hcs, _, hl, hm, hz, _, hcell, hwz⟩
    · simp [Value.cells] at hcs
      obtain ⟨rfl, rfl, rfl⟩ := hcs
      exact ⟨[], .inl ⟨rfl, rfl, rfl, rfl⟩⟩
    · simp [Value.cells] at hcs
      obtain ⟨rfl, rfl, rfl⟩ := hcs
      exact ⟨zs, .inr ⟨_, rfl, hl, hm, by simpa using hz, hcell, hwz⟩⟩
  obtain ⟨a2, len2, cap2, rfl⟩ := okWide_slice Try.underlying22 (hval 2 22 v2 rfl rfl)
  have k2 := h2
  have lt2 : ∀ x ∈ p2, x.block < W.heap.size := by obtain ⟨m, hm⟩ := k2; exact DataW.trod_lt m _ _ _ hm
  obtain ⟨z2, w2⟩ : ∃ zs, IsRow .u8 W a2 len2 cap2 zs := by
    obtain ⟨fuel, hf⟩ := h2
    rcases open_ints Try.underlying22 Try.underlying5 (by kernel_rfl) hf with ⟨hcs, _⟩ | ⟨x, l, c, zs, hcs, _, hl, hm, hz, _, hcell, hwz⟩
    · simp [Value.cells] at hcs
      obtain ⟨rfl, rfl, rfl⟩ := hcs
      exact ⟨[], .inl ⟨rfl, rfl, rfl, rfl⟩⟩
    · simp [Value.cells] at hcs
      obtain ⟨rfl, rfl, rfl⟩ := hcs
      exact ⟨zs, .inr ⟨_, rfl, hl, hm, by simpa using hz, hcell, hwz⟩⟩
  have lt3 : ∀ x ∈ p3, x.block < W.heap.size := by obtain ⟨m, hm⟩ := h3; exact DataW.trod_lt m _ _ _ hm
  refine (walk base a0 len0 cap0 z0 a1 len1 cap1 z1 a2 len2 cap2 z2 v3 d3 p3 W w0 w1 w2 (hval 3 23 v3 rfl rfl) h3).mono fun e W' ⟨he, bel⟩ => ?_
  subst he
  exact ⟨_, rfl, _, _, _, [], _, [], hW', trodAll_mk1 (shut_bool Try.underlying4 _), (trodAll_cons_mk (Below.trod laidOut (by kernel_rfl) (of_decide_eq_true (by kernel_rfl)) k0 bel lt0) (trodAll_cons_mk (Below.trod laidOut (by kernel_rfl) (of_decide_eq_true (by kernel_rfl)) k1 bel lt1) (trodAll_cons_mk (Below.trod laidOut (by kernel_rfl) (of_decide_eq_true (by kernel_rfl)) k2 bel lt2) (trodAll_cons_mk (Below.trod laidOut (by kernel_rfl) (of_decide_eq_true (by kernel_rfl)) h3 bel lt3) trodAll_mk0)))), rfl, bel.frame _, fun h => by cases h⟩

theorem over : Rows.patchEndsRow.holds Try.pinned (OpenSpec.ofChange Rows.patchEndsSpec) :=
  OpenClaim.holds_of_wide 7 Try.f7 rfl rfl rfl rfl rfl rfl rfl ⟨rfl, rfl, rfl, rfl, rfl⟩ rfl rfl rfl rfl rfl (by kernel_rfl) Try.func7 (by kernel_rfl)
    (of_decide_eq_true (by kernel_rfl)) (by unfold Func.isWrapper; first | (rw [if_pos (by decide +kernel)]; kernel_rfl) | (rw [if_neg (by decide +kernel)]; exact ⟨rfl, rfl⟩))
    (fun os started H enc _ => lifted os started H enc)

/-- The statement. -/
theorem proved : Rows.PatchEndsSaid := over
#print axioms proved
end Go.Proofs.Ytbkifjmfmiipnaa.patchEnds
