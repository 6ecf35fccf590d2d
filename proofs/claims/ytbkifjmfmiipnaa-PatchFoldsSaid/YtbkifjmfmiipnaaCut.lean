/- The law's cut of hunks that came in: the walk. -/
import Derived.Test.YtbkifjmfmiipnaaEndsRun
import Derived.Deep.RegionHeld3
namespace Go.Proofs.Ytbkifjmfmiipnaa
open Go.RowKit Plain
set_option linter.unusedVariables false
namespace Cut
theorem run_min2 {P : Program} (ts : Array TypeId) (t : TypeId) (k k1 : IntKind) (x y : Int) (w : World) : (Builtin.min_ ts t #[.int k x, .int k1 y]).run P w = .ok (.int k (min x y)) w := by
  have e : ∀ p q : Int, (if q < p then q else p) = min p q := fun p q => by split <;> omega
  simp [Builtin.min_, Builtin.min2, e]
theorem step_append_hunk {W : World} {ops : Array Oper} {o : Oper} {ac : Act} {K : Act → World → Prop} {Q : Exit → Act → World → Prop} {E : Prop} (hgd : o.guard = none) (s x : Operand)
    (ho : o.op = .call { callee := .builtin .append, args := #[s, x], argTypes := #[23, 23] })
    (base : Nat) (v : Value) (n : Nat) (l : List HkM) (fr to : Int) (a : Option Addr) (m c : Nat) (ys : List Int) (hm : ys.length = m) (hs : ac.eval s = v) (hown : OwnH W base v n l) (g : Nat) (hx : ac.eval x = .slice (some ⟨g, 0, none⟩) 1 1)
    (hbox : W.cell? ⟨g, 0, none⟩ = some (.int .i64 fr) ∧ W.cell? ⟨g, 1, none⟩ = some (.int .i64 to) ∧ W.cell? ⟨g, 2, none⟩ = some (.slice a m c)) (hsum : n + 1 ≤ 1000000) (hbase : base ≤ W.heap.size)
    (h : ∀ v' w', OwnH w' base v' (n + 1) (l ++ [⟨fr, to, a, c, ys⟩]) → Below base W w' → (∃ a' c', v' = .slice a' (n + 1) c') → K (ac.put o.dst v') w') : if Region.wanted o (yielded ops ac.tmps) = true then Oper.wp Try.prog o ac W K Q else E := by
  have hw : Region.wanted o (yielded ops ac.tmps) = true := by simp [Region.wanted, hgd]
  rw [if_pos hw]
  subst hm
  obtain ⟨i0, hi, hz0, hz1, hz2⟩ := info_parts hkinfo
  obtain ⟨b0, b1, b2⟩ := hbox
  have hp : ∀ i, (⟨g, 0, none⟩ : Addr).add i = ⟨g, i, none⟩ := fun i => by unfold Addr.add; split <;> simp_all
  obtain ⟨v', w', hr, r1, r2, r3, r4⟩ := run_append_own_at (P := Try.prog) W base 23 o.type 26 i0 (.agg #[.int .i64 0, .int .i64 0, .slice none 0 0]) 3 40 Try.underlying23 hi hz0 hz1 hz2 rfl (by decide) v n _ hown ⟨g, 0, none⟩ 1 1 [.int .i64 fr, .int .i64 to, .slice a ys.length c] rfl
    (fun j u hj => by
      rw [hp]
      match j, hj with
      | 0, hj => simp at hj; rw [← hj]; exact b0
      | 1, hj => simp at hj; rw [← hj]; exact b1
      | 2, hj => simp at hj; rw [← hj]; exact b2
      | j + 3, hj => simp at hj)
    (fun u hu => by
      simp at hu
      rcases hu with rfl | rfl | rfl <;> rfl) (by unfold maxLen; omega) (by omega) hbase
  unfold Oper.wp execOp
  simp only [ho, resolve, invoke, builtin, Sem.run_bind, Sem.run_pure, Result.andThen_ok, List.map_toArray, List.map_cons, List.map_nil, hs, hx, hr]
  have e1 : hksFlat (l ++ [⟨fr, to, a, c, ys⟩]) = hksFlat l ++ [.int .i64 fr, .int .i64 to, .slice a ys.length c] := by simp [hksFlat, hkCells]
  refine h v' w' (by unfold OwnH; rw [e1]; exact r1) ((Below.refl base W).grown r2 hbase fun k ek => (hown.lt ek).1) ?_
  rcases r1.2 with ⟨_, h0⟩ | ⟨g', cap, cur, rfl, _⟩
  · omega
  · exact ⟨_, _, rfl⟩
def AppFine (w : World) (l : List HkM) : Prop := ∀ h ∈ l, h.ys.length ≤ 100 ∧ h.ys.length ≤ h.c ∧ (h.a = none → h.c = 0) ∧ Bytes w h.a h.ys.length h.ys
set_option maxRecDepth 100000 in
set_option maxHeartbeats 16000000 in
theorem cut_any (a2 : Option Addr) (len2 cap2 : Nat) (w : World) (hl2 : len2 ≤ 9223372036854775807) (hin : len2 = 0 ∨ ∃ b o, a2 = some ⟨b, o, none⟩ ∧ b < w.heap.size ∧ ∀ j, j < len2 → ∃ hk : HkM, HunkIn w b o j hk) :
    Calls Try.prog 14 #[.slice a2 len2 cap2] w fun e w' => (∃ (hs : List Hk) (a : Option Addr) (n c : Nat), hs.length ≤ 20 ∧ (∀ h ∈ hs, h.ys.length ≤ 100) ∧ (∀ h ∈ hs, ∀ x ∈ h.ys, 0 ≤ x ∧ x ≤ 255) ∧ e = .returned (.slice a n c) ∧ Own w' w.heap.size (.slice a n c) n (printOf hs)) ∧ Below w.heap.size w w' := by
  have HIN : Hid (len2 = 0 ∨ ∃ b o, a2 = some ⟨b, o, none⟩ ∧ b < w.heap.size ∧ ∀ j, j < len2 → ∃ hk : HkM, HunkIn w b o j hk) := hin
  clear hin
  have hmn : ∀ (ts : Array TypeId) (t : TypeId) (x y : Int) (W : World), (Builtin.min_ ts t #[.int .i64 x, .int .i64 y]).run Try.prog W = .ok (.int .i64 (min x y)) W := fun ts t x y W => run_min2 ts t .i64 .i64 x y W
  go_enter Try.func14, Try.ntmps14
  go_wp2_with fail
  go_loopw [3, 4] (fun vm i wr => ∃ (k : Nat) (am : Option Addr) (cm : Nat) (ms : List HkM), k ≤ 20 ∧ i = .int .i64 (k : Int) ∧ vm = .slice am k cm ∧ OwnH wr w.heap.size (.slice am k cm) k ms ∧ AppFine w ms ∧ Below w.heap.size w wr) (fun _ i _ => 20 - (intOf i).toNat)
  case atStart => exact ⟨0, none, 0, [], by omega, rfl, rfl, ⟨rfl, .inl ⟨rfl, rfl⟩⟩, fun h hh => by simp at hh, Below.refl _ _⟩
  case round =>
    obtain ⟨k, am, cm, ms, hk, rfl, rfl, hom, hfi, hbel⟩ := hrel
    have HOM : Hid (OwnH wr w.heap.size (.slice am k cm) k ms) := hom
    have HFI : Hid (AppFine w ms) := hfi
    have HBE : Hid (Below w.heap.size w wr) := hbel
    clear hom hfi hbel
    by_cases hc : k < len2 ∧ k < 20
    · obtain ⟨hc1, hc2⟩ := hc
      obtain ⟨b, o, fr, to, ya, yc, ys, rfl, hblt, q1, q2, q3, q4, q5, q6, q7, q8, q9⟩ : ∃ b o fr to ya yc ys, a2 = some ⟨b, o, none⟩ ∧ b < w.heap.size ∧ HunkIn w b o k ⟨fr, to, ya, yc, ys⟩ := by
        rcases HIN.out with h | ⟨b, o, h1, h2, h3⟩
        · omega
        · obtain ⟨⟨fr, to, ya, yc, ys⟩, h⟩ := h3 k hc1
          exact ⟨b, o, fr, to, ya, yc, ys, h1, h2, h⟩
      dsimp only at q1 q2 q3 q4 q5 q6 q7 q8 q9
      have HYN : Hid (ya = none → yc = 0) := q5
      have HYB : Hid (Bytes w ya (min ys.length 100) (ys.take 100)) := q9.first 100
      have HCW : Hid (∀ W, Below w.heap.size w W → W.cell? ⟨b, o + k * 3, none⟩ = some (.int .i64 fr) ∧ W.cell? ⟨b, o + k * 3 + 1, none⟩ = some (.int .i64 to) ∧ W.cell? ⟨b, o + k * 3 + 2, none⟩ = some (.slice ya ys.length yc)) := fun W hW => ⟨(hW.cell (p := ⟨b, _, none⟩) hblt).trans q1, (hW.cell (p := ⟨b, _, none⟩) hblt).trans q2, (hW.cell (p := ⟨b, _, none⟩) hblt).trans q3⟩
      obtain ⟨c0, c1, c2⟩ := HCW.out wr HBE.out
      have n0 := World.new_ne wr ⟨b, o + k * 3, none⟩ c0
      have n1 := World.new_ne wr ⟨b, o + k * 3 + 1, none⟩ c1
      have n2 := World.new_ne wr ⟨b, o + k * 3 + 2, none⟩ c2
      have hi1 : (k : Int) < len2 := by omega
      have hi2 : (k : Int) < 20 := by omega
      generalize ys.take 100 = y1 at *
      obtain ⟨yl, hyl⟩ : ∃ yl, ys.length = yl := ⟨_, rfl⟩
      rw [hyl] at q3 q4 HYB c2 HCW
      have s3 : ∀ W, (Instr.sliceAt 22 (.slice ya yl yc) none (some (.int .i64 (min (yl : Int) 100))) none).run Try.prog W = .ok (.slice ya (min yl 100) yc) W := fun W => by
        have := slice_to ya yl yc (min yl 100) (by omega) W
        rwa [show ((min yl 100 : Nat) : Int) = min (yl : Int) 100 by omega] at this
      have hy1 : y1.length = min yl 100 := HYB.out.1
      have hmy : min yl 100 ≤ yc := by omega
      have hmy2 : min yl 100 ≤ 100 := by omega
      clear q1 q2 q3 q5 q9 hyl hc1 hc2
      have HBW : Hid (Below wr.heap.size wr (wr.drew.alloc (.cells #[.int .i64 fr, .int .i64 to, .slice ya (min yl 100) yc] 26))) := (Below.refl _ _).drew.alloc (Nat.le_refl _) _
      have HBX : Hid ((wr.drew.alloc (.cells #[.int .i64 fr, .int .i64 to, .slice ya (min yl 100) yc] 26)).cell? ⟨wr.heap.size, 0, none⟩ = some (.int .i64 fr) ∧ (wr.drew.alloc (.cells #[.int .i64 fr, .int .i64 to, .slice ya (min yl 100) yc] 26)).cell? ⟨wr.heap.size, 1, none⟩ = some (.int .i64 to) ∧ (wr.drew.alloc (.cells #[.int .i64 fr, .int .i64 to, .slice ya (min yl 100) yc] 26)).cell? ⟨wr.heap.size, 2, none⟩ = some (.slice ya (min yl 100) yc)) :=
        box_cells hy1 (own_box wr.drew w.heap.size HBE.out.size fr to ya (min yl 100) yc y1 hy1)
      have HO6 : Hid (OwnH (wr.drew.alloc (.cells #[.int .i64 fr, .int .i64 to, .slice ya (min yl 100) yc] 26)) w.heap.size (.slice am k cm) k ms) := HOM.out.below HBW.out
      have HSZ : Hid (w.heap.size ≤ (wr.drew.alloc (.cells #[.int .i64 fr, .int .i64 to, .slice ya (min yl 100) yc] 26)).heap.size) := Nat.le_trans HBE.out.size HBW.out.size
      go_wp2_with fail
      go_region_held3 (fun W => W.cell? ⟨b, o + k * 3, none⟩ = some (.int .i64 fr) ∧ W.cell? ⟨b, o + k * 3 + 1, none⟩ = some (.int .i64 to) ∧ W.cell? ⟨b, o + k * 3 + 2, none⟩ = some (.slice ya yl yc))
          (first | go_keep | (exact ⟨c0, c1, c2⟩) | assumption | (exact HCW.out _ ((HBE.out.trans (HBW.out.mono HBE.out.size)).trans (by assumption))))
          ((refine step_append_hunk rfl _ _ rfl w.heap.size (.slice am k cm) k ms fr to ya (min yl 100) yc y1 hy1 rfl HO6.out wr.heap.size rfl HBX.out (by omega) HSZ.out ?_; rintro v9 w7 ho9 hbe9 ⟨a9, c9, rfl⟩))
      have HO9 : Hid (OwnH w7 w.heap.size (.slice a9 (k + 1) c9) (k + 1) (ms ++ [⟨fr, to, ya, yc, y1⟩])) := ho9
      have HE9 : Hid (Below w.heap.size w w7) := (HBE.out.trans (HBW.out.mono HBE.out.size)).trans hbe9
      clear ho9 hbe9
      go_wp2_with fail
      refine ⟨⟨k + 1, a9, c9, ms ++ [⟨fr, to, ya, yc, y1⟩], by omega, by go_num, rfl, HO9.out, ?_, HE9.out⟩, by simp [intOf]; omega⟩
      intro h hh
      rcases List.mem_append.1 hh with h1 | h1
      · exact HFI.out h h1
      · rw [List.mem_singleton.1 h1]
        exact ⟨by show y1.length ≤ 100; omega, by show y1.length ≤ yc; omega, HYN.out, by show Bytes w ya y1.length y1; rw [hy1]; exact HYB.out⟩
    · have hex : ¬ (k : Int) < len2 ∨ ((k : Int) < len2 ∧ ¬ (k : Int) < 20) := by omega
      clear hc hmn
      have HMSL : Hid (ms.length = k) := by
        have := HOM.out.1
        rw [hksFlat_length] at this
        show _ = _
        omega
      obtain ⟨hs, hhs⟩ : ∃ hs, ms.map hkM = hs := ⟨_, rfl⟩
      have HHL : Hid (hs.length ≤ 20) := by rw [← hhs, List.length_map]; have := HMSL.out; show _ ≤ _; omega
      have HHF : Hid (∀ h ∈ hs, h.ys.length ≤ 100) := by
        rw [← hhs]
        intro h hh
        obtain ⟨x, hx, rfl⟩ := List.mem_map.1 hh
        exact (HFI.out x hx).1
      have HHR : Hid (∀ h ∈ hs, ∀ x ∈ h.ys, 0 ≤ x ∧ x ≤ 255) := by
        rw [← hhs]
        intro h hh
        obtain ⟨x, hx, rfl⟩ := List.mem_map.1 hh
        exact getD_bytes4 (HFI.out x hx).2.2.2
      have HHS : Hid (ms.map hkM = hs) := hhs
      clear hhs
      have HPM : Hid (∀ j : Nat, 0 ≤ (printOf hs)[j]?.getD 0 ∧ (printOf hs)[j]?.getD 0 ≤ 255) := print_range _ HHR.out
      have HLM : Hid ((printOf hs).length ≤ 2240) := by have h1 := print_len hs HHF.out; have h2 := HHL.out; show _ ≤ _; omega
      have HFINE : Hid (∀ W, Below w.heap.size w W → HkFine W ms) := fun W hW h hh => by
        obtain ⟨g1, g2, g3, g4⟩ := HFI.out h hh
        exact ⟨g2, g3, by omega, g4.below hW⟩
      rcases hex with h1 | ⟨h1, h2⟩
      all_goals
        go_wp2_with fail
        refine (print_own (.slice am k cm) k w.heap.size ms wr (by omega) HOM.out (HFINE.out wr HBE.out)).mono ?_
        rw [HHS.out]
        rintro e w1 ⟨⟨pa, pk, pc, rfl, ho1⟩, hb1⟩
        have HO1 : Hid (Own w1 w.heap.size (.slice pa pk pc) pk (printOf hs)) := ho1.lower HBE.out.size
        have HW1 : Hid (Below w.heap.size w w1) := HBE.out.trans (hb1.mono HBE.out.size)
        clear ho1 hb1
        go_wp2_with fail
        go_ret
        exact ⟨⟨hs, pa, pk, pc, HHL.out, HHF.out, HHR.out, rfl, HO1.out⟩, HW1.out⟩
end Cut
end Go.Proofs.Ytbkifjmfmiipnaa
