/- Packing, plainly; the writer's first calls, its last one. -/
import Derived.Test.YtglgchjkonjpiaaGreatDoorPackMap
import Derived.Test.YtglgchjkonjpiaaGreatDoorPck
/-! Packing, plainly; the writer's first calls, its last one. -/
namespace Go.Proofs.YtglgchjkonjpiaaGreatDoor
open Go.RowKit Go.WideMaps Go.Maps Plain
set_option linter.unusedVariables false
/-- What one step at place k puts, and how many bytes it tells. -/
def stepL (bs : List Int) (k : Nat) : Nat := if (findN bs k).1 = 0 then 1 else (findN bs k).1
def stepV (bs : List Int) (k : Nat) (v : Nat × Nat) : Nat × Nat := if (findN bs k).1 = 0 then putS (bs[k]?.getD 0).toNat v else putDist (findN bs k).2 (putLen (findN bs k).1 v)
def packGo (bs : List Int) : Nat → Nat → Nat × Nat → Nat × Nat
  | 0, _, v => v
  | f + 1, k, v => if bs.length ≤ k then v else packGo bs f (k + stepL bs k) (stepV bs k v)
def packV (bs : List Int) : Nat × Nat := putS 256 (packGo bs bs.length 0 (3, 3))
/-- The bytes of one block of the fixed codes. -/
def packedN (bs : List Int) : List Int := bytesN (packV bs).1 (((packV bs).2 + 7) / 8)
theorem stepL_pos (bs : List Int) (k : Nat) (hk : k < bs.length) : 1 ≤ stepL bs k ∧ k + stepL bs k ≤ bs.length := by
  unfold stepL
  split
  · exact ⟨Nat.le_refl _, hk⟩
  · rename_i h
    have := findN_ok (bs := bs) (k := k) (l := (findN bs k).1) (d := (findN bs k).2) rfl h
    exact ⟨by omega, this.2.2.1⟩
theorem packGo_same (bs : List Int) : ∀ f g k v, bs.length - k ≤ f → bs.length - k ≤ g → packGo bs f k v = packGo bs g k v
  | 0, 0, k, v, _, _ => rfl
  | 0, g + 1, k, v, h, _ => by rw [packGo, packGo, if_pos (by omega)]
  | f + 1, 0, k, v, _, h => by rw [packGo, packGo, if_pos (by omega)]
  | f + 1, g + 1, k, v, h, h' => by
    rw [packGo, packGo]
    split
    · rfl
    · rename_i hk
      have := stepL_pos bs k (by omega)
      exact packGo_same bs f g _ _ (by omega) (by omega)
theorem packGo_step (bs : List Int) (k : Nat) (v : Nat × Nat) (hk : k < bs.length) : packGo bs (bs.length - k) k v = packGo bs (bs.length - (k + stepL bs k)) (k + stepL bs k) (stepV bs k v) := by
  have := stepL_pos bs k hk
  rw [show bs.length - k = (bs.length - k - 1) + 1 by omega, packGo, if_neg (by omega)]
  exact packGo_same bs _ _ _ _ (by omega) (by omega)
theorem findN_two (bs : List Int) (k : Nat) : (findN bs k).2 ≤ k := by
  unfold findN
  split
  · exact Nat.zero_le _
  · cases lastGo bs k k with
    | none => exact Nat.zero_le _
    | some p => exact Nat.sub_le _ _
theorem fixC_le (s : Nat) : (fixC s).2 ≤ 9 := by unfold fixC; repeat (first | split | omega)
theorem putS_two (s : Nat) (v : Nat × Nat) : (putS s v).2 ≤ v.2 + 9 := by have := fixC_le s; show v.2 + (fixC s).2 ≤ _; omega
theorem putLen_two (n : Nat) (v : Nat × Nat) (hn : n ≤ 258) : (putLen n v).2 ≤ v.2 + 14 := by
  unfold putLen
  split
  · have := putS_two 285 v; omega
  · split
    · have := putS_two (254 + n) v; omega
    · have h1 : bl (n - 3) ≤ 8 := by
        unfold bl
        split
        · omega
        · rename_i h0
          have := (Nat.log2_lt h0 (k := 8)).2 (by omega)
          omega
      have h2 := putS_two (261 + 4 * (bl (n - 3) - 3) + (n - 3) / 2 ^ (bl (n - 3) - 3) % 4) v
      show (putS _ v).2 + (bl (n - 3) - 3) ≤ _
      omega
theorem putDist_two (d : Nat) (v : Nat × Nat) (hd : d ≤ 32768) : (putDist d v).2 ≤ v.2 + 19 := by
  unfold putDist
  split
  · show v.2 + 5 ≤ _; omega
  · have h1 : bl (d - 1) ≤ 16 := bl_le (d - 1) (by omega)
    show v.2 + 5 + (bl (d - 1) - 2) ≤ _
    omega
theorem stepV_two (bs : List Int) (k : Nat) (v : Nat × Nat) (hd : (findN bs k).2 ≤ 32768) : (stepV bs k v).2 ≤ v.2 + 11 * stepL bs k := by
  unfold stepV stepL
  by_cases h : (findN bs k).1 = 0
  · rw [if_pos h, if_pos h]
    have := putS_two (bs[k]?.getD 0).toNat v
    omega
  · rw [if_neg h, if_neg h]
    have hf := findN_ok (bs := bs) (k := k) (l := (findN bs k).1) (d := (findN bs k).2) rfl h
    have h1 := putLen_two (findN bs k).1 v hf.2.1
    have h2 := putDist_two (findN bs k).2 (putLen (findN bs k).1 v) hd
    have h3 := hf.1
    omega
/-! ### The writer's first calls -/
def WAt0 (w : World) (B : Nat) (h n : Int) : Prop := w.heap[B]? = some (.cells #[.slice none 0 0, .int .u64 h, .int .i64 n] 110 (0, 0))
theorem WAt0.set12 {w : World} {B : Nat} {h n : Int} (H : WAt0 w B h n) (h' n' : Int) : WAt0 (((w.setCell ⟨B, 1, none⟩ (.int .u64 h')).setCell ⟨B, 2, none⟩ (.int .i64 n')).drew) B h' n' := by
  show ((w.setCell ⟨B, 1, none⟩ (.int .u64 h')).setCell ⟨B, 2, none⟩ (.int .i64 n')).heap[B]? = _
  rw [heap_setCell_same _ B 2 _ 110 _ (heap_setCell_same w B 1 _ 110 _ H)]
  rfl
theorem WAt0.below {w w' : World} {B : Nat} {h n : Int} (H : WAt0 w B h n) (hb : Below w.heap.size w w') : WAt0 w' B h n := (hb.block B (Array.getElem?_eq_some_iff.1 H).1).trans H
set_option maxHeartbeats 1000000 in
theorem number_1a (B : Nat) (w : World) (H : WAt0 w B 0 0) :
    Calls Tryz.prog 72 #[.pointer (some ⟨B, 0, none⟩), .int .i64 1, .int .i64 1] w fun e w' => e = .returned (.tuple #[]) ∧ WAt0 w' B 1 1 ∧ Below B w w' := by
  have HW : Hid (WAt0 w B 0 0) := H
  obtain ⟨c0, c1, c2, f0, f1, f2⟩ := cells3 H
  clear H
  go_enter Tryz.func72, Tryz.ntmps72
  go_wp2_with fail
  go_region
  go_wp2_with fail
  refine wp_loop_rounds 1 ?_
  rw [rounds_succ]
  go_wp2_with fail
  go_end0
  exact ⟨rfl, HW.out.set12 _ _, (((Below.refl B w).setCell (Nat.le_refl _) _).setCell (Nat.le_refl _) _).drew⟩
set_option maxHeartbeats 1000000 in
theorem number_2a (B : Nat) (w : World) (H : WAt0 w B 1 1) :
    Calls Tryz.prog 72 #[.pointer (some ⟨B, 0, none⟩), .int .i64 1, .int .i64 2] w fun e w' => e = .returned (.tuple #[]) ∧ WAt0 w' B 3 3 ∧ Below B w w' := by
  have HW : Hid (WAt0 w B 1 1) := H
  obtain ⟨c0, c1, c2, f0, f1, f2⟩ := cells3 H
  clear H
  go_enter Tryz.func72, Tryz.ntmps72
  go_wp2_with fail
  go_region
  go_wp2_with fail
  refine wp_loop_rounds 1 ?_
  rw [rounds_succ]
  go_wp2_with fail
  go_end0
  exact ⟨rfl, HW.out.set12 _ _, (((Below.refl B w).setCell (Nat.le_refl _) _).setCell (Nat.le_refl _) _).drew⟩
theorem WP.start {w : World} {B base : Nat} (H : WAt0 w B 3 3) (hB : B < base) (hs : base ≤ w.heap.size) : WP w base B (3, 3) :=
  ⟨by decide, .slice none 0 0, H, ⟨rfl, .inl ⟨rfl, rfl⟩⟩, hB, hs⟩
theorem memory_new (w : World) (bs : List Int) : Calls Tryz.prog 73 #[] w fun e w' => (∃ b, e = .returned (.agg #[.map (some b)]) ∧ MetAt w' b bs 0 ∧ w.heap.size ≤ b) ∧ Below w.heap.size w w' := by
  have hmm := @run_makeMap Tryz.prog
  go_enter Tryz.func73, Tryz.ntmps73
  go_wp2_with fail
  refine bodyPost_ret (v := .agg #[.map (some (w.heap.size + 1))]) (by simp [results, Tryz.results73, go_sem]) rfl ⟨⟨w.heap.size + 1, rfl, ?_, by omega⟩, ((Below.refl _ _).alloc (Nat.le_refl _) _).alloc (by simp) _⟩
  have h1 := MetAt.made (w.alloc (.cells #[.map (some (w.heap.size + 1))] 114)) bs
  have h2 : (w.alloc (.cells #[.map (some (w.heap.size + 1))] 114)).heap.size = w.heap.size + 1 := by simp
  rw [h2] at h1
  exact h1
/-! ### The writer's last call -/
set_option maxHeartbeats 2000000 in
theorem wbytes_any (base B : Nat) (v : Nat × Nat) (w : World) (H : WP w base B v) (hT : v.2 ≤ 900000) :
    Calls Tryz.prog 79 #[.pointer (some ⟨B, 0, none⟩)] w fun e w' => (∃ va vc, e = .returned (.slice va ((v.2 + 7) / 8) vc) ∧ RowB w' va ((v.2 + 7) / 8) vc (bytesN v.1 ((v.2 + 7) / 8))) ∧ FrW B base w w' := by
  obtain ⟨V, T⟩ := v
  simp only at hT ⊢
  have HW : Hid (Wrt w base B V T) := H
  obtain ⟨hV, vv, hb, hown, h1, h2⟩ := H
  obtain ⟨c0, c1, c2, f0, f1, f2⟩ := cells3 hb
  obtain ⟨r, hr⟩ : ∃ r, T % 8 = r := ⟨_, rfl⟩
  rw [hr] at c2
  by_cases h0 : r = 0
  · subst h0
    have hk : (T + 7) / 8 = T / 8 := by omega
    rw [hk]
    have hl := bytesN_len V (T / 8)
    have hx := range_of_mem0 (bytesN_range V (T / 8))
    rw [hl] at hown
    obtain ⟨va, vc, rfl, s1, s2, s3⟩ := hown.shape
    have HR : Hid (RowB w va (T / 8) vc (bytesN V (T / 8))) := ⟨s1, s3, s2, hown.bytes hx⟩
    clear hb hown hx hl
    go_enter Tryz.func79, Tryz.ntmps79
    go_wp2_with fail
    go_ret
    exact ⟨⟨va, vc, rfl, HR.out⟩, FrW.refl _ _ _⟩
  · have h0i : (0 : Int) < (r : Int) := by omega
    have h0n : 0 < r := by omega
    obtain ⟨s, hs⟩ : ∃ s, 8 - r = s := ⟨_, rfl⟩
    have hsi : 8 - (r : Int) = (s : Int) := by omega
    have HC := Lib.hid (wnumber_any base B V T 0 s w HW.out (Nat.two_pow_pos _) (by omega) (by omega))
    have hk : (T + 7) / 8 = (T + s) / 8 := by omega
    have hTs : (T + s) % 8 = 0 := by omega
    rw [hk]
    clear hb hown
    go_enter Tryz.func79, Tryz.ntmps79
    go_wp2_with fail
    refine HC.out.mono ?_
    rintro e w2 ⟨rfl, hw2, hf2⟩
    rw [Nat.zero_mul, Nat.add_zero] at hw2
    obtain ⟨-, v2, hb2, hown2, -, -⟩ := hw2
    obtain ⟨d0, d1, d2, e0, e1, e2⟩ := cells3 hb2
    have hl := bytesN_len V ((T + s) / 8)
    have hx := range_of_mem0 (bytesN_range V ((T + s) / 8))
    rw [hl] at hown2
    obtain ⟨va, vc, rfl, s1, s2, s3⟩ := hown2.shape
    have HR : Hid (RowB w2 va ((T + s) / 8) vc (bytesN V ((T + s) / 8))) := ⟨s1, s3, s2, hown2.bytes hx⟩
    have HF := Lib.hid hf2
    clear hb2 hown2 hx hl hf2 c0 c1 c2 f0 f1 f2 HC HW
    go_wp2_with fail
    go_ret
    exact ⟨⟨va, vc, rfl, HR.out⟩, HF.out⟩
end Go.Proofs.YtglgchjkonjpiaaGreatDoor
/-! One block of the fixed codes: the walk. -/
namespace Go.Proofs.YtglgchjkonjpiaaGreatDoor
open Go.RowKit Go.WideMaps Go.Maps Plain
set_option linter.unusedVariables false
theorem Own.stay {w w' : World} {base : Nat} {v : Value} {n : Nat} {xs : List Int} (h : Own w base v n xs) (hb : ∀ g, g < w.heap.size → base ≤ g → w'.heap[g]? = w.heap[g]?) : Own w' base v n xs := by
  obtain ⟨h1, h2 | ⟨g, cap, cur, h3, h4, h5, h6⟩⟩ := h
  · exact ⟨h1, .inl h2⟩
  · exact ⟨h1, .inr ⟨g, cap, cur, h3, h4, by rw [hb g (Array.getElem?_eq_some_iff.1 h5).1 h4]; exact h5, h6⟩⟩
theorem WP.stay {w w' : World} {base B mb : Nat} {v : Nat × Nat} (H : WP w base B v) (hm1 : mb ≠ B) (hm2 : mb < base) (hs : w.heap.size ≤ w'.heap.size) (hk : ∀ g, g < w.heap.size → g ≠ mb → w'.heap[g]? = w.heap[g]?) : WP w' base B v := by
  obtain ⟨h1, vv, hb, hown, h3, h4⟩ := H
  exact ⟨h1, vv, (hk B (by omega) (fun e => hm1 e.symm)).trans hb, hown.stay (fun g hg hbg => hk g hg (by omega)), h3, Nat.le_trans h4 hs⟩
/-- What lies ready within the loop: the writer, the map, the variable that holds the map. -/
def Ready (w : World) (base W mb M4 : Nat) (bs : List Int) (k : Nat) (v : Nat × Nat) : Prop :=
  WP w base W v ∧ MetAt w mb bs k ∧ w.heap[M4]? = some (.cells #[.map (some mb)] 114 (0, 0)) ∧ W < mb ∧ mb < M4 ∧ M4 < base
theorem Ready.below {w w' : World} {base W mb M4 : Nat} {bs : List Int} {k : Nat} {v : Nat × Nat} (h : Ready w base W mb M4 bs k v) (hb : Below w.heap.size w w') : Ready w' base W mb M4 bs k v := by
  obtain ⟨h1, h2, h3, h4, h5, h6⟩ := h
  exact ⟨h1.below hb, h2.below hb, (hb.block M4 (Array.getElem?_eq_some_iff.1 h3).1).trans h3, h4, h5, h6⟩
theorem Ready.wrote {w w' : World} {base W mb M4 : Nat} {bs : List Int} {k : Nat} {v v' : Nat × Nat} (h : Ready w base W mb M4 bs k v) (hw : WP w' base W v') (hf : FrW W base w w') : Ready w' base W mb M4 bs k v' := by
  obtain ⟨h1, h2, h3, h4, h5, h6⟩ := h
  exact ⟨hw, h2.block (hf.keep mb (by omega) (by omega)), (hf.keep M4 (by omega) h6).trans h3, h4, h5, h6⟩
theorem Ready.kept {w w' : World} {base W mb M4 : Nat} {bs : List Int} {k : Nat} {v : Nat × Nat} (h : Ready w base W mb M4 bs k v) (hm : MetAt w' mb bs (k + 1)) (hs : w.heap.size ≤ w'.heap.size) (hk : ∀ g, g < w.heap.size → g ≠ mb → w'.heap[g]? = w.heap[g]?) : Ready w' base W mb M4 bs (k + 1) v := by
  obtain ⟨h1, h2, h3, h4, h5, h6⟩ := h
  exact ⟨h1.stay (by omega) (by omega) hs hk, hm, (hk M4 (Array.getElem?_eq_some_iff.1 h3).1 (by omega)).trans h3, h4, h5, h6⟩
theorem Ready.cell {w : World} {base W mb M4 : Nat} {bs : List Int} {k : Nat} {v : Nat × Nat} (h : Ready w base W mb M4 bs k v) : w.cell? ⟨M4, 0, none⟩ = some (.map (some mb)) ∧ w.frozen? ⟨M4, 0, none⟩ = false := by
  have := h.2.2.1
  constructor <;> simp [World.cell?, World.frozen?, this]
set_option maxRecDepth 100000 in
set_option maxHeartbeats 16000000 in
theorem fixed_any (a : Option Addr) (m c : Nat) (bs : List Int) (w : World) (H : RowB w a m c bs) (hm : m ≤ 30000) :
    Calls Tryz.prog 47 #[.slice a m c] w fun e w' => (∃ va vc, e = .returned (.slice va (packedN bs).length vc) ∧ RowB w' va (packedN bs).length vc (packedN bs)) ∧ Below w.heap.size w w' := by
  have HY := Lib.hid H
  have HL : Hid (bs.length = m) := H.len
  have hmc := H.le
  have hcm := H.cap
  clear H
  go_enter Tryz.func47, Tryz.ntmps47
  go_wp2_with fail
  have hb0 : Below w.heap.size w (w.alloc (.cells #[.slice none 0 0, .int .u64 0, .int .i64 0] 110)) := (Below.refl _ _).alloc (Nat.le_refl _) _
  have K0 : WAt0 (w.alloc (.cells #[.slice none 0 0, .int .u64 0, .int .i64 0] 110)) w.heap.size 0 0 := by show (w.heap.push _)[w.heap.size]? = _; simp
  refine (number_1a w.heap.size _ K0).mono ?_
  rintro e w1 ⟨rfl, k1, hb1⟩
  have K1 := Lib.hid k1
  have HB1 : Hid (Below w.heap.size w w1) := hb0.trans hb1
  clear k1 hb1 hb0 K0
  go_wp2_with fail
  refine (number_2a w.heap.size w1 K1.out).mono ?_
  rintro e w2 ⟨rfl, k2, hb2⟩
  have K2 := Lib.hid k2
  have HB2 : Hid (Below w.heap.size w w2) := HB1.out.trans hb2
  clear k2 hb2 K1 HB1
  go_wp2_with fail
  refine (memory_new w2 bs).mono ?_
  rintro e w3 ⟨⟨mb, rfl, hmet, hmb⟩, hb3⟩
  have K3 := Lib.hid (K2.out.below hb3)
  have HM3 := Lib.hid hmet
  have HB3 : Hid (Below w.heap.size w w3) := HB2.out.trans (hb3.mono HB2.out.size)
  have hW2 : w.heap.size < w2.heap.size := (Array.getElem?_eq_some_iff.1 K2.out).1
  clear hmet hb3 K2 HB2
  go_wp2_with fail
  have hal : Below w3.heap.size w3 (w3.alloc (.cells #[.map (some mb)] 114)) := (Below.refl _ _).alloc (Nat.le_refl _) _
  have HB4 : Hid (Below w.heap.size w (w3.alloc (.cells #[.map (some mb)] 114))) := HB3.out.trans (hal.mono HB3.out.size)
  have HR0 : Hid (Ready (w3.alloc (.cells #[.map (some mb)] 114)) (w3.heap.size + 1) w.heap.size mb w3.heap.size bs 0 (3, 3)) := by
    have hmlt := HM3.out.lt
    refine ⟨WP.start (K3.out.below hal) (by have := HB3.out.size; omega) (by simp), HM3.out.below hal, ?_, by omega, hmlt, by omega⟩
    show (w3.heap.push _)[w3.heap.size]? = _
    simp
  obtain ⟨M4, eM4⟩ : ∃ M4, w3.heap.size = M4 := ⟨_, rfl⟩
  obtain ⟨W, eW⟩ : ∃ W, w.heap.size = W := ⟨_, rfl⟩
  generalize w3.alloc (.cells #[.map (some mb)] 114) = w4 at *
  clear K3 HM3 HB3 hal hmb hW2
  rw [eM4, eW] at HR0
  rw [eM4, eW]
  rw [eW] at HB4
  have HWS := Lib.hid eW
  clear eM4
  go_loopw [5] (fun vk wr => ∃ (k : Nat) (v : Nat × Nat), vk = .int .i64 (k : Int) ∧ k ≤ m ∧ Ready wr (M4 + 1) W mb M4 bs k v ∧ packGo bs bs.length 0 (3, 3) = packGo bs (bs.length - k) k v ∧ v.2 ≤ 3 + 11 * k ∧ Below W w wr) (fun vk _ => m - (intOf vk).toNat)
  case atStart => exact ⟨0, (3, 3), rfl, Nat.zero_le _, HR0.out, rfl, by omega, HB4.out⟩
  case round =>
    obtain ⟨k, v, rfl, hk, hr, hp, hv, hb⟩ := hrel
    have HR := Lib.hid hr
    have HP := Lib.hid hp
    have HB := Lib.hid hb
    obtain ⟨cm, cf⟩ := hr.cell
    clear hr hp hb HR0 HB4
    have hWs : W ≤ wr.heap.size := by have := HB.out.size; have := HWS.out; omega
    by_cases hlt : k < m
    · have hki : (k : Int) < (m : Int) := by omega
      have HYr : Hid (Bytes wr a m bs) := HY.out.bytes.below (by rw [HWS.out]; exact HB.out)
      have hfind := find_any mb bs a m c k hmc hcm hm hlt wr HYr.out HR.out.2.1
      have HSV := Lib.hid (stepV_two bs k v)
      have HST := Lib.hid (packGo_step bs k v (by rw [HL.out]; exact hlt))
      have HSL := Lib.hid (stepL_pos bs k (by rw [HL.out]; exact hlt))
      have HFO := Lib.hid (fun h => findN_ok (bs := bs) (k := k) (l := (findN bs k).1) (d := (findN bs k).2) rfl h)
      have HSLd : Hid (stepL bs k = if (findN bs k).1 = 0 then 1 else (findN bs k).1) := rfl
      have HSVd : Hid (stepV bs k v = if (findN bs k).1 = 0 then putS (bs[k]?.getD 0).toNat v else putDist (findN bs k).2 (putLen (findN bs k).1 v)) := rfl
      have HYc := HYr.out.2.2.1 k
      have hd5 : (findN bs k).2 ≤ 32768 := by have := findN_two bs k; omega
      generalize (findN bs k).1 = l at *
      generalize (findN bs k).2 = d at *
      go_wp2_with fail
      refine hfind.mono ?_
      rintro e w5 ⟨rfl, hb5⟩
      have HR5 := Lib.hid (HR.out.below hb5)
      have HB5 : Hid (Below W w w5) := HB.out.trans (hb5.mono hWs)
      have HY5 : Hid (Bytes w5 a m bs) := HYr.out.below hb5
      have hWs5 : W ≤ w5.heap.size := by have := hb5.size; omega
      clear hfind hb5 cm cf HR HB HYr
      by_cases hl0 : l = 0
      · subst hl0
        obtain ⟨x, hx⟩ : ∃ x : Nat, bs[k]?.getD 0 = (x : Int) := Int.eq_ofNat_of_zero_le HYc.1
        have hx5 : x ≤ 255 := by have := HYc.2; omega
        have hSL : stepL bs k = 1 := by rw [HSLd.out, if_pos rfl]
        have hSV : stepV bs k v = putS x v := by rw [HSVd.out, if_pos rfl, hx]; rfl
        obtain ⟨b, off, rfl⟩ : ∃ b off, a = some ⟨b, off, none⟩ := by
          rcases HY5.out.2.2.2 with h | ⟨b, off, rfl, -⟩
          · omega
          · exact ⟨b, off, rfl⟩
        have q1 := HY5.out.cellOf k hlt
        rw [hx] at q1
        have HSLx := Lib.hid hSL
        have HSVx := Lib.hid hSV
        have HC := Lib.hid (wsign_any (M4 + 1) W v x w5 HR5.out.1 (by omega) (by omega))
        clear hx hSL hSV HSLd HSVd HFO HYc
        go_wp2_with fail
        refine HC.out.mono ?_
        rintro e w6 ⟨rfl, hw6, hf6⟩
        have HR6 := Lib.hid (HR5.out.wrote hw6 hf6)
        have HB6 : Hid (Below W w w6) := HB5.out.trans hf6.below
        clear hw6 hf6 HC q1 HY5
        go_wp2_with fail
        go_loopw [5, 35] (fun vk vj wr => ∃ j : Nat, vj = .int .i64 (j : Int) ∧ vk = .int .i64 ((k + j : Nat) : Int) ∧ j ≤ 1 ∧ Ready wr (M4 + 1) W mb M4 bs (k + j) (putS x v) ∧ Below W w wr) (fun _ vj _ => 1 - (intOf vj).toNat)
        case atStart => exact ⟨0, rfl, rfl, Nat.zero_le _, HR6.out, HB6.out⟩
        case round =>
          obtain ⟨j, rfl, rfl, hj, hr, hb⟩ := hrel
          have HR := Lib.hid hr
          have HB := Lib.hid hb
          obtain ⟨cm, cf⟩ := hr.cell
          have hWr : W ≤ wr.heap.size := by have := hb.size; have := HWS.out; omega
          clear hr hb HR6 HB6
          by_cases hjl : j < 1
          · have hji : (j : Int) < 1 := by omega
            obtain ⟨kj, ekj⟩ : ∃ kj, k + j = kj := ⟨_, rfl⟩
            rw [ekj] at HR ⊢
            have HKJ := Lib.hid ekj
            have hkm : kj < m := by omega
            have hkeep := keep_any mb bs (some ⟨b, off, none⟩) m c kj hm hkm wr (HY.out.bytes.below (by rw [HWS.out]; exact HB.out)) HR.out.2.1
            clear ekj
            go_wp2_with fail
            refine hkeep.mono ?_
            rintro e w7 ⟨rfl, hm7, hbl7, hkp7⟩
            have HR7 := Lib.hid (HR.out.kept hm7 (hbl7 mb (Nat.le_refl _) (Nat.le_of_lt HR.out.2.1.lt)).size hkp7)
            have HB7 : Hid (Below W w w7) := HB.out.trans (hbl7 W (by have := HR.out.2.2.2.1; omega) hWr)
            clear hm7 hbl7 hkp7 hkeep HR HB cm cf
            go_wp2_with fail
            go_roundw
            case rel => exact ⟨j + 1, by go_num, by have := HKJ.out; go_num, by omega, by rw [show k + (j + 1) = kj + 1 by have := HKJ.out; omega]; exact HR7.out, HB7.out⟩
            case measure => simp [intOf]; go_num
          · have hji : ¬ (j : Int) < 1 := by omega
            have hjL : j = 1 := by omega
            rw [hjL] at HR
            go_wp2_with fail
            go_roundw
            case rel =>
              refine ⟨k + 1, (putS x v), by go_num, ?_, HR.out, ?_, ?_, HB.out⟩
              · have := HSL.out.2; rw [HSLx.out, HL.out] at this; exact this
              · rw [HP.out, HST.out, HSLx.out, HSVx.out]
              · have := HSV.out; rw [HSLx.out, HSVx.out] at this; omega
            case measure => simp [intOf]; go_num
      · skip
        have hl0i : ¬ (l : Int) = 0 := by omega
        have hl0b : ((l : Int) == 0) = false := by simp; omega
        obtain ⟨f3, f258, fkl, fd1, -, -⟩ := HFO.out hl0
        have hSL : stepL bs k = l := by rw [HSLd.out, if_neg hl0]
        have hSV : stepV bs k v = putDist d (putLen l v) := by rw [HSVd.out, if_neg hl0]
        have HSLx := Lib.hid hSL
        have HSVx := Lib.hid hSV
        rw [HL.out] at fkl
        have HC := Lib.hid (wlength_any (M4 + 1) W v l w5 HR5.out.1 f3 f258 (by omega))
        have hT2 := putLen_two l v f258
        clear hSL hSV HSLd HSVd HFO HYc
        go_wp2_with fail
        refine HC.out.mono ?_
        rintro e w8 ⟨rfl, hw8, hf8⟩
        have HR8 := Lib.hid (HR5.out.wrote hw8 hf8)
        have HB8 : Hid (Below W w w8) := HB5.out.trans hf8.below
        clear hw8 hf8 HC HY5
        have HC := Lib.hid (wdistance_any (M4 + 1) W (putLen l v) d w8 HR8.out.1 fd1 hd5 (by omega))
        go_wp2_with fail
        refine HC.out.mono ?_
        rintro e w6 ⟨rfl, hw6, hf6⟩
        have HR6 := Lib.hid (HR8.out.wrote hw6 hf6)
        have HB6 : Hid (Below W w w6) := HB8.out.trans hf6.below
        clear hw6 hf6 HC HR8 HB8
        go_wp2_with fail
        go_loopw [5, 35] (fun vk vj wr => ∃ j : Nat, vj = .int .i64 (j : Int) ∧ vk = .int .i64 ((k + j : Nat) : Int) ∧ j ≤ l ∧ Ready wr (M4 + 1) W mb M4 bs (k + j) (putDist d (putLen l v)) ∧ Below W w wr) (fun _ vj _ => l - (intOf vj).toNat)
        case atStart => exact ⟨0, rfl, rfl, Nat.zero_le _, HR6.out, HB6.out⟩
        case round =>
          obtain ⟨j, rfl, rfl, hj, hr, hb⟩ := hrel
          have HR := Lib.hid hr
          have HB := Lib.hid hb
          obtain ⟨cm, cf⟩ := hr.cell
          have hWr : W ≤ wr.heap.size := by have := hb.size; have := HWS.out; omega
          clear hr hb HR6 HB6
          by_cases hjl : j < l
          · have hji : (j : Int) < (l : Int) := by omega
            obtain ⟨kj, ekj⟩ : ∃ kj, k + j = kj := ⟨_, rfl⟩
            rw [ekj] at HR ⊢
            have HKJ := Lib.hid ekj
            have hkm : kj < m := by omega
            have hkeep := keep_any mb bs a m c kj hm hkm wr (HY.out.bytes.below (by rw [HWS.out]; exact HB.out)) HR.out.2.1
            clear ekj
            go_wp2_with fail
            refine hkeep.mono ?_
            rintro e w7 ⟨rfl, hm7, hbl7, hkp7⟩
            have HR7 := Lib.hid (HR.out.kept hm7 (hbl7 mb (Nat.le_refl _) (Nat.le_of_lt HR.out.2.1.lt)).size hkp7)
            have HB7 : Hid (Below W w w7) := HB.out.trans (hbl7 W (by have := HR.out.2.2.2.1; omega) hWr)
            clear hm7 hbl7 hkp7 hkeep HR HB cm cf
            go_wp2_with fail
            go_roundw
            case rel => exact ⟨j + 1, by go_num, by have := HKJ.out; go_num, by omega, by rw [show k + (j + 1) = kj + 1 by have := HKJ.out; omega]; exact HR7.out, HB7.out⟩
            case measure => simp [intOf]; go_num
          · have hji : ¬ (j : Int) < (l : Int) := by omega
            have hjL : j = l := by omega
            rw [hjL] at HR
            go_wp2_with fail
            go_roundw
            case rel =>
              refine ⟨k + l, (putDist d (putLen l v)), by go_num, ?_, HR.out, ?_, ?_, HB.out⟩
              · have := HSL.out.2; rw [HSLx.out, HL.out] at this; exact this
              · rw [HP.out, HST.out, HSLx.out, HSVx.out]
              · have := HSV.out; rw [HSLx.out, HSVx.out] at this; omega
            case measure => simp [intOf]; go_num
    · have hki : ¬ (k : Int) < (m : Int) := by omega
      have hkm : k = m := by omega
      have HPV : Hid (packV bs = putS 256 v) := by
        show _ = _
        unfold packV
        rw [HP.out, HL.out, hkm, Nat.sub_self]; rfl
      have HLEN : Hid ((packedN bs).length = ((putS 256 v).2 + 7) / 8) := by show _ = _; unfold packedN; rw [bytesN_len, HPV.out]
      have HPK : Hid (packedN bs = bytesN (putS 256 v).1 (((putS 256 v).2 + 7) / 8)) := by show _ = _; unfold packedN; rw [HPV.out]
      have HC := Lib.hid (wsign_any (M4 + 1) W v 256 wr HR.out.1 (by omega) (by omega))
      have hT2 := putS_two 256 v
      go_wp2_with fail
      refine HC.out.mono ?_
      rintro e w6 ⟨rfl, hw6, hf6⟩
      have HB6 : Hid (Below W w w6) := HB.out.trans hf6.below
      have HC2 := Lib.hid (wbytes_any (M4 + 1) W (putS 256 v) w6 hw6 (by omega))
      clear hw6 hf6 HC HR HB
      go_wp2_with fail
      refine HC2.out.mono ?_
      rintro e w7 ⟨⟨va, vc, rfl, hrow⟩, hf7⟩
      have HROW := Lib.hid hrow
      have HB7 : Hid (Below W w w7) := HB6.out.trans hf7.below
      clear hrow hf7 HC2 HB6
      go_wp2_with fail
      go_ret
      rw [HLEN.out, HPK.out]
      exact ⟨⟨va, vc, rfl, HROW.out⟩, by rw [HWS.out]; exact HB7.out⟩
end Go.Proofs.YtglgchjkonjpiaaGreatDoor
