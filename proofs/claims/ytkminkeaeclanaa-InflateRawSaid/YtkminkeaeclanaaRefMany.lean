/- The document's unpacking: rows of lengths. -/
import Derived.Test.YtkminkeaeclanaaRefNumber
import Derived.Test.YtkminkeaeclanaaLens
namespace Go.Proofs.Ytkminkeaeclanaa
open Go.RowKit Plain
set_option linter.unusedVariables false
theorem Row64.none (w : World) (base : Nat) : Row64 w base (.slice none 0 0) 0 [] := ⟨rfl, .inl ⟨rfl, rfl⟩⟩
set_option maxRecDepth 100000 in
set_option maxHeartbeats 4000000 in
theorem many_any (w : World) (base : Nat) (a : Option Addr) (n c : Nat) (xs : List Nat) (x t : Nat) (hx : x ≤ 100000) (ht : n + t ≤ 100000) (H : Row64 w base (.slice a n c) n xs) (hs : base ≤ w.heap.size) :
    Calls Try.prog 25 #[.slice a n c, .int .i64 (x : Int), .int .i64 (t : Int)] w fun e w' => (∃ a' c', e = .returned (.slice a' (n + t) c') ∧ Row64 w' base (.slice a' (n + t) c') (n + t) (xs ++ List.replicate t x)) ∧ Below base w w' := by
  have HH := Lib.hid H
  clear H
  go_enter Try.func25, Try.ntmps25
  go_wp2_with fail
  go_loopw [0, 7] (fun v vi wr => ∃ (i : Nat) (b : Option Addr) (k : Nat), vi = .int .i64 (i : Int) ∧ i ≤ t ∧ v = .slice b (n + i) k ∧ Row64 wr base (.slice b (n + i) k) (n + i) (xs ++ List.replicate i x) ∧ Below base w wr) (fun _ vi _ => t - (intOf vi).toNat)
  case atStart => exact ⟨0, a, c, rfl, Nat.zero_le _, rfl, by simpa using HH.out, Below.refl _ _⟩
  case round =>
    obtain ⟨i, b, k, rfl, hi, rfl, hr, hb⟩ := hrel
    have HR := Lib.hid hr
    have HB := Lib.hid hb
    have hsz : base ≤ wr.heap.size := Nat.le_trans hs hb.size
    obtain ⟨ni, eni⟩ : ∃ ni, n + i = ni := ⟨_, rfl⟩
    rw [eni] at HR
    have HNI := Lib.hid eni
    rw [eni]
    clear hr hb HH eni
    by_cases hlt : i < t
    · have hli : (i : Int) < (t : Int) := by omega
      have HN : Hid (Below wr.heap.size wr (wr.alloc (.cells #[.int .i64 (x : Int)] 3))) := (Below.refl _ _).alloc (Nat.le_refl _) _
      have hni5 : ni ≤ 100000 := by have := HNI.out; omega
      have hc1 : (wr.alloc (.cells #[.int .i64 (x : Int)] 3)).cell? ⟨wr.heap.size, 0, none⟩ = some (.int .i64 (x : Int)) := by
        have hh : (wr.alloc (.cells #[.int .i64 (x : Int)] 3)).heap[wr.heap.size]? = some (.cells #[.int .i64 (x : Int)] 3 (0, 0)) := by
          show (wr.heap.push _)[wr.heap.size]? = _
          simp
        exact cell_row0 _ _ 0 _ _ _ hh
      have HC1 := Lib.hid hc1
      clear hc1
      have tok : True := trivial
      go_wp2_with (
        have _t := tok
        at_builtin
        refine wpList_append_i1 rfl _ _ rfl base _ ni _ rfl (HR.out.below HN.out) ⟨wr.heap.size, 0, none⟩ x rfl HC1.out (by omega) (Nat.le_trans hsz HN.out.size) ?_
        intro pa pc p2 hr2 hg
        have HR2 := Lib.hid hr2
        have HB2 : Hid (Below base w p2) := (HB.out.trans (HN.out.mono hsz)).trans (ownsRow_kept (HR.out.below HN.out) (Nat.le_trans hsz HN.out.size) hg)
        clear tok hr2 hg
        refine Hid.out ?_)
      refine unhid ?_
      clear HR HB HC1
      go_wp2_with fail
      go_roundw
      case rel =>
        have hni := HNI.out
        refine ⟨i + 1, pa, pc, by go_num, by omega, ?_, ?_, HB2.out⟩
        · rw [show n + (i + 1) = ni + 1 by omega]
        · have := HR2.out
          rw [show n + (i + 1) = ni + 1 by omega, List.replicate_succ', ← List.append_assoc]
          exact this
      case measure => simp [intOf]; go_num
    · have hli : ¬ (i : Int) < (t : Int) := by omega
      have hit : i = t := by omega
      have hnt : n + t = ni := by have := HNI.out; omega
      have HNT := Lib.hid hnt
      have HIT := Lib.hid hit
      clear hit hnt
      go_wp2_with fail
      go_ret
      rw [HNT.out]
      have h2 := HR.out
      rw [HIT.out] at h2
      exact ⟨⟨b, k, rfl, h2⟩, HB.out⟩
/-- Fixed's two rows. -/
def fixedLs : List Nat := List.replicate 144 8 ++ List.replicate 112 9 ++ List.replicate 24 7 ++ List.replicate 8 8
set_option maxRecDepth 100000 in
set_option maxHeartbeats 4000000 in
theorem fixed_ls (w : World) : Calls Try.prog 12 #[] w fun e w' => (∃ a c b d, e = .returned (.tuple #[.slice a 288 c, .slice b 32 d]) ∧ Row64 w' w.heap.size (.slice a 288 c) 288 fixedLs ∧ Row64 w' w.heap.size (.slice b 32 d) 32 (List.replicate 32 5)) ∧ Below w.heap.size w w' := by
  go_enter Try.func12, Try.ntmps12
  go_wp2_with fail
  refine (many_any w w.heap.size none 0 0 [] 8 144 (by omega) (by omega) (Row64.none _ _) (Nat.le_refl _)).mono ?_
  rintro e w1 ⟨⟨a1, c1, rfl, hr1⟩, hb1⟩
  have H1 := Lib.hid hr1
  have B1 := Lib.hid hb1
  clear hr1 hb1
  go_wp2_with fail
  refine (many_any w1 w.heap.size a1 144 c1 _ 9 112 (by omega) (by omega) H1.out B1.out.size).mono ?_
  rintro e w2 ⟨⟨a2, c2, rfl, hr2⟩, hb2⟩
  have H2 := Lib.hid hr2
  have B2 := Lib.hid (B1.out.trans hb2)
  clear hr2 hb2 H1 B1
  go_wp2_with fail
  refine (many_any w2 w.heap.size a2 256 c2 _ 7 24 (by omega) (by omega) H2.out B2.out.size).mono ?_
  rintro e w3 ⟨⟨a3, c3, rfl, hr3⟩, hb3⟩
  have H3 := Lib.hid hr3
  have B3 := Lib.hid (B2.out.trans hb3)
  clear hr3 hb3 H2 B2
  go_wp2_with fail
  refine (many_any w3 w.heap.size a3 280 c3 _ 8 8 (by omega) (by omega) H3.out B3.out.size).mono ?_
  rintro e w4 ⟨⟨a4, c4, rfl, hr4⟩, hb4⟩
  have H4 := Lib.hid hr4
  have B4 := Lib.hid (B3.out.trans hb4)
  clear hr4 hb4 H3 B3
  go_wp2_with fail
  refine (many_any w4 w4.heap.size none 0 0 [] 5 32 (by omega) (by omega) (Row64.none _ _) (Nat.le_refl _)).mono ?_
  rintro e w5 ⟨⟨a5, c5, rfl, hr5⟩, hb5⟩
  have H5 := Lib.hid hr5
  have H6 := Lib.hid (H4.out.below hb5)
  have B5 := Lib.hid (B4.out.trans (hb5.mono B4.out.size))
  have S5 := Lib.hid B4.out.size
  clear hr5 hb5 H4 B4
  go_wp2_with fail
  go_ret2
  refine ⟨⟨a4, c4, a5, c5, rfl, ?_, ?_⟩, B5.out⟩
  · exact H6.out
  · obtain ⟨h1, h2 | ⟨g, cap, cur, e1, e2, e3⟩⟩ := H5.out
    · exact ⟨h1, .inl h2⟩
    · exact ⟨h1, .inr ⟨g, cap, cur, e1, Nat.le_trans S5.out e2, e3⟩⟩
end Go.Proofs.Ytkminkeaeclanaa
