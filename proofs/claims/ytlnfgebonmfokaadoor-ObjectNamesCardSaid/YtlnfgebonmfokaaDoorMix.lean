/- SHA-1's eighty steps: the walk. -/
import Derived.Test.YtlnfgebonmfokaaDoorMix1
import Derived.BigQuiet
import Derived.Deep.QuietTactic
import Derived.WalkSmall
namespace Go.Proofs.YtlnfgebonmfokaaDoor
open Go.RowKit Plain
set_option linter.unusedVariables false

set_option maxRecDepth 100000 in
set_option maxHeartbeats 4000000 in
theorem mixed_any (s : Five) (ws : List (BitVec 32)) (w : World) (hl : ws.length = 80) :
    Calls Tryd.prog 26 #[.agg #[.int .u32 s.a.toNat, .int .u32 s.b.toNat, .int .u32 s.c.toNat, .int .u32 s.d.toNat, .int .u32 s.e.toNat], .agg (V32 ws)] w fun r w' =>
      r = .returned (.agg #[.int .u32 (mix s ws).a.toNat, .int .u32 (mix s ws).b.toNat, .int .u32 (mix s ws).c.toNat, .int .u32 (mix s ws).d.toNat, .int .u32 (mix s ws).e.toNat]) ∧ Below w.heap.size w w' := by
  have HI : Hid ((Tryd.prog.info? 52).map (·.size) = some (V32 ws).size) := by
    show (Tryd.prog.info? 52).map (·.size) = some (V32 ws).size
    rw [V32_size, hl]; kernel_rfl
  have HLEN : Hid (ws.length = 80) := hl
  clear hl
  go_enter Tryd.func26, Tryd.ntmps26
  go_wp2_with fail
  obtain ⟨h0, h1, h2, hb, hs⟩ := three_blocks w (.cells #[.int .u32 s.a.toNat, .int .u32 s.b.toNat, .int .u32 s.c.toNat, .int .u32 s.d.toNat, .int .u32 s.e.toNat] 49) (.cells (V32 ws) 52) (.cells #[.int .u32 0, .int .u32 0, .int .u32 0, .int .u32 0, .int .u32 0] 49)
  generalize ((w.alloc (.cells #[.int .u32 s.a.toNat, .int .u32 s.b.toNat, .int .u32 s.c.toNat, .int .u32 s.d.toNat, .int .u32 s.e.toNat] 49)).alloc (.cells (V32 ws) 52)).alloc (.cells #[.int .u32 0, .int .u32 0, .int .u32 0, .int .u32 0, .int .u32 0] 49) = w0 at *
  obtain ⟨c0, c1, c2, c3, c4⟩ := cells5 h0
  have H0 : Hid (w0.heap[w.heap.size]? = some (.cells #[.int .u32 s.a.toNat, .int .u32 s.b.toNat, .int .u32 s.c.toNat, .int .u32 s.d.toNat, .int .u32 s.e.toNat] 49)) := h0
  have H1 : Hid (w0.heap[w.heap.size + 1]? = some (.cells (V32 ws) 52)) := h1
  have H2 : Hid (w0.heap[w.heap.size + 1 + 1]? = some (.cells #[.int .u32 0, .int .u32 0, .int .u32 0, .int .u32 0, .int .u32 0] 49)) := h2
  clear h0 h1 h2
  go_quiet (fail)
  clear c0 c1 c2 c3 c4
  have tok1 : True := trivial
  go_wp2_with (have _t := tok1; refine wpList_load_row rfl 52 _ rfl (w.heap.size + 1) rfl 52 (V32 ws) (0, 0) (.array 80 48) H1.out Tryd.underlying52 rfl HI.out ?_; clear tok1)
  have G0 : Hid ((w0.drewN nq).heap[w.heap.size]? = some (.cells #[.int .u32 s.a.toNat, .int .u32 s.b.toNat, .int .u32 s.c.toNat, .int .u32 s.d.toNat, .int .u32 s.e.toNat] 49)) := H0.out
  have G2 : Hid ((w0.drewN nq).heap[w.heap.size + 1 + 1]? = some (.cells #[.int .u32 0, .int .u32 0, .int .u32 0, .int .u32 0, .int .u32 0] 49)) := H2.out
  have GB : Hid (Below w.heap.size w (w0.drewN nq)) := below_drewN hb nq
  clear H0 H1 H2 hb hs
  generalize w0.drewN nq = w1 at *
  go_loop [5, 6, 7, 8, 9, 26] (fun s5 s6 s7 s8 s9 i => ∃ (k : Nat) (t : Five), k ≤ 80 ∧ i = .int .i64 k ∧ s5 = .int .u32 t.a.toNat ∧ s6 = .int .u32 t.b.toNat ∧ s7 = .int .u32 t.c.toNat ∧ s8 = .int .u32 t.d.toNat ∧ s9 = .int .u32 t.e.toNat ∧ t = rounds ws s k) (fun _ _ _ _ _ i => 80 - (intOf i).toNat)
  case atStart => exact ⟨0, s, by omega, rfl, rfl, rfl, rfl, rfl, rfl, rfl⟩
  case round =>
    obtain ⟨k, t, hk, rfl, rfl, rfl, rfl, rfl, rfl, ht⟩ := hrel
    have HT : Hid (t = rounds ws s k) := ht
    clear ht
    obtain ⟨a, b, c, d, e⟩ := t
    simp only
    by_cases h80 : k < 80
    · have hidx := index_80 ws k h80 HLEN.out
      generalize hx : ws[k]?.getD 0 = x at *
      have HX : Hid (ws[k]?.getD 0 = x) := hx
      clear hx
      by_cases h20 : k < 20
      · have f1 : (k : Int) < 20 := by omega
        go_wp2_with fail
        refine (rot_5 a _).mono ?_
        rintro r w' ⟨rfl, rfl⟩
        go_wp2_with fail
        refine (rot_30 b _).mono ?_
        rintro r w' ⟨rfl, rfl⟩
        go_wp2_with fail
        go_round
        case rel => exact ⟨k + 1, round k x ⟨a, b, c, d, e⟩, by omega, by go_num, by rw [round_1 k h20], rfl, rfl, rfl, rfl, by rw [rounds, ← HT.out, HX.out]⟩
        case measure => simp [intOf]; omega
      · have f1 : ¬ (k : Int) < 20 := by omega
        by_cases h40 : k < 40
        · have f2 : (k : Int) < 40 := by omega
          go_wp2_with fail
          refine (rot_5 a _).mono ?_
          rintro r w' ⟨rfl, rfl⟩
          go_wp2_with fail
          refine (rot_30 b _).mono ?_
          rintro r w' ⟨rfl, rfl⟩
          go_wp2_with fail
          go_round
          case rel => exact ⟨k + 1, round k x ⟨a, b, c, d, e⟩, by omega, by go_num, by rw [round_2 k h20 h40], rfl, rfl, rfl, rfl, by rw [rounds, ← HT.out, HX.out]⟩
          case measure => simp [intOf]; omega
        · have f2 : ¬ (k : Int) < 40 := by omega
          by_cases h60 : k < 60
          · have f3 : (k : Int) < 60 := by omega
            go_wp2_with fail
            refine (rot_5 a _).mono ?_
            rintro r w' ⟨rfl, rfl⟩
            go_wp2_with fail
            refine (rot_30 b _).mono ?_
            rintro r w' ⟨rfl, rfl⟩
            go_wp2_with fail
            go_round
            case rel => exact ⟨k + 1, round k x ⟨a, b, c, d, e⟩, by omega, by go_num, by rw [round_3 k h20 h40 h60], rfl, rfl, rfl, rfl, by rw [rounds, ← HT.out, HX.out]⟩
            case measure => simp [intOf]; omega
          · have f3 : ¬ (k : Int) < 60 := by omega
            go_wp2_with fail
            refine (rot_5 a _).mono ?_
            rintro r w' ⟨rfl, rfl⟩
            go_wp2_with fail
            refine (rot_30 b _).mono ?_
            rintro r w' ⟨rfl, rfl⟩
            go_wp2_with fail
            go_round
            case rel => exact ⟨k + 1, round k x ⟨a, b, c, d, e⟩, by omega, by go_num, by rw [round_4 k h20 h40 h60], rfl, rfl, rfl, rfl, by rw [rounds, ← HT.out, HX.out]⟩
            case measure => simp [intOf]; omega
    · obtain rfl : k = 80 := by omega
      obtain ⟨c0, c1, c2, c3, c4⟩ := cells5 G0.out
      obtain ⟨d0, d1, d2, d3, d4⟩ := cells5 G2.out
      have f0 := free5 G2.out 0
      have f1 := free5 G2.out 1
      have f2 := free5 G2.out 2
      have f3 := free5 G2.out 3
      have f4 := free5 G2.out 4
      go_wp2_with fail
      have hM : ∀ x y : BitVec 32, ((x.toNat : Int) + (y.toNat : Int)) % 4294967296 = ((x + y).toNat : Int) := x_add
      refine bodyPost_ret (results_cell_row Tryd.results26 _ _ (w.heap.size + 1 + 1) 49 _ (0, 0) (.array 5 48) rfl (set5 G2.out) Tryd.underlying49 rfl (by kernel_rfl)) rfl ⟨?_, ?_⟩
      · simp only [x_add]
        unfold mix Five.add
        rw [← HT.out]
      · have hsz : w.heap.size ≤ w.heap.size + 1 + 1 := by omega
        exact ((((GB.out.setCell hsz _).setCell hsz _).setCell hsz _).setCell hsz _).setCell hsz _
end Go.Proofs.YtlnfgebonmfokaaDoor
