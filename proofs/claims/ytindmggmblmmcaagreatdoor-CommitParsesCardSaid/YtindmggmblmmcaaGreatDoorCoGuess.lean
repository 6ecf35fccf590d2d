/- The document's guess of a person: the walk. -/
import Derived.Test.YtindmggmblmmcaaGreatDoorCoRPer
namespace Go.Proofs.YtindmggmblmmcaaGreatDoor
open Go.RowKit Plain
set_option linter.unusedVariables false
set_option linter.unusedSimpArgs false
def frontF (l : List UInt8) : List UInt8 := match l with
  | c :: r => if c = 32 then r else []
  | [] => []
def guessX (l : List UInt8) : WX :=
  ⟨txt ((Lib.cut l [60]).1.take ((Lib.cut l [60]).1.length - 1)), txt (Lib.cut (Lib.cut l [60]).2.1 [62]).1,
   ((decF (Lib.cut (frontF (Lib.cut (Lib.cut l [60]).2.1 [62]).2.1) [32]).1).1 : Nat), txt (Lib.cut (frontF (Lib.cut (Lib.cut l [60]).2.1 [62]).2.1) [32]).2.1⟩
theorem info_rwho (x : WX) : (Tryz.prog.info? 25).map (·.size) = some (whoA x).size := by show _ = some 4; kernel_rfl
theorem build_rwho (n m z : ByteArray) (t : Int) (W : World) : (Instr.build 25 #[(0, .string n), (1, .string m), (2, .int .i64 t), (3, .string z)]).run Tryz.prog W = .ok (.agg (whoA ⟨n, m, t, z⟩)) W := run_build W _ _ _ (by kernel_rfl)
theorem frontF_len (l : List UInt8) : (frontF l).length ≤ l.length := by
  cases l with
  | nil => exact Nat.le_refl _
  | cons c r =>
    show (if c = 32 then r else []).length ≤ _
    split
    · simp
    · simp
set_option maxRecDepth 100000 in
set_option maxHeartbeats 8000000 in
theorem front_any (l : List UInt8) (w : World) (hl : l.length ≤ 1000000) : Calls Tryz.prog 48 #[.string (txt l), .string ⟨#[32]⟩] w fun e w' => e = .returned (.string (txt (frontF l))) ∧ Below w.heap.size w w' := by
  cases l with
  | nil =>
    go_enter Tryz.func48, Tryz.ntmps48
    go_wp2_with fail
    go_ret
    exact ⟨rfl, Below.refl _ _⟩
  | cons c r =>
    have hsz : (txt (c :: r)).size = r.length + 1 := txt_size _
    have hge : (1 : Int) ≤ ((r.length + 1 : Nat) : Int) := by omega
    have hs1 := fun W => slice_fr (c :: r) 1 (by simp) W
    have hle1 : 1 ≤ (txt (c :: r)).size := by rw [hsz]; omega
    have hex1 : (txt (c :: r)).extract 0 1 = txt [c] := front_txt (c :: r) 1
    have hex2 : (txt (c :: r)).extract 1 (r.length + 1) = txt r := by have := tail_txt (c :: r) 1; rw [hsz] at this; exact this
    by_cases hc : c = 32
    · subst hc
      have HEQ : Hid (∀ W, (binOp .eql 9 (.string (txt [32])) (.string ⟨#[32]⟩)).run Tryz.prog W = .ok (.bool true) W) := fun W => eq_self (txt [32]) W
      have HF : Hid (frontF (32 :: r) = r) := rfl
      go_enter Tryz.func48, Tryz.ntmps48
      go_wp2_with (first
        | refine wpList_eql (by rfl) .eql 9 _ _ _ rfl (.string (txt [32])) (.string ⟨#[32]⟩) rfl rfl (.bool true) (guard_eq _ _ _ _) HEQ.out ?_)
      go_ret
      exact ⟨by rw [HF.out] <;> rfl, Below.refl _ _⟩
    · have HEQ : Hid (∀ W, (binOp .eql 9 (.string (txt [c])) (.string ⟨#[32]⟩)).run Tryz.prog W = .ok (.bool false) W) := fun W => by
        rw [str_eql, txt_list, show ([c] == (⟨#[32]⟩ : ByteArray).data.toList) = false from by
          rw [Bool.eq_false_iff]; intro h; have := eq_of_beq h; simp at this; exact hc this]
      have HF : Hid (frontF (c :: r) = []) := if_neg hc
      clear hc
      go_enter Tryz.func48, Tryz.ntmps48
      go_wp2_with (first
        | refine wpList_eql (by rfl) .eql 9 _ _ _ rfl (.string (txt [c])) (.string ⟨#[32]⟩) rfl rfl (.bool false) (guard_eq _ _ _ _) HEQ.out ?_)
      go_ret
      exact ⟨by rw [HF.out] <;> rfl, Below.refl _ _⟩
set_option maxRecDepth 100000 in
set_option maxHeartbeats 8000000 in
theorem guess_any (L : List UInt8) (w : World) (hL : L.length ≤ 40000) : Calls Tryz.prog 30 #[.string (txt L)] w fun e w' => e = .returned (.agg (whoA (guessX L))) ∧ Below w.heap.size w w' := by
  obtain ⟨N, R, d1, h1⟩ : ∃ N R b, Lib.cut L [60] = (N, R, b) := ⟨_, _, _, rfl⟩
  obtain ⟨M, R2, d2, h2⟩ : ∃ N R' b, Lib.cut R [62] = (N, R', b) := ⟨_, _, _, rfl⟩
  obtain ⟨D, Z, d3, h3⟩ : ∃ N R' b, Lib.cut (frontF R2) [32] = (N, R', b) := ⟨_, _, _, rfl⟩
  obtain ⟨t, ht⟩ : ∃ t, (decF D).1 = t := ⟨_, rfl⟩
  have HG : Hid (guessX L = ⟨txt (N.take (N.length - 1)), txt M, (t : Nat), txt Z⟩) := by
    show _ = _
    unfold guessX
    simp only [h1, h2, h3, ht]
  have l1 := cutS_len L [60]
  rw [h1] at l1
  have l2 := cutS_len R [62]
  rw [h2] at l2
  have l0 := frontF_len R2
  have l3 := cutS_len (frontF R2) [32]
  rw [h3] at l3
  dsimp only at l1 l2 l3
  have HC1 : Hid (∀ W, Calls Tryz.prog 49 #[.string (txt L), .int .u8 60] W fun e w' => e = .returned (.tuple #[.string (txt N), .string (txt R)]) ∧ Below W.heap.size W w') := fun W => by
    have := rcut_any L 60 W (by omega)
    rw [h1] at this; exact this
  have HC2 : Hid (∀ W, Calls Tryz.prog 49 #[.string (txt R), .int .u8 62] W fun e w' => e = .returned (.tuple #[.string (txt M), .string (txt R2)]) ∧ Below W.heap.size W w') := fun W => by
    have := rcut_any R 62 W (by omega)
    rw [h2] at this; exact this
  have HC3 : Hid (∀ W, Calls Tryz.prog 49 #[.string (txt (frontF R2)), .int .u8 32] W fun e w' => e = .returned (.tuple #[.string (txt D), .string (txt Z)]) ∧ Below W.heap.size W w') := fun W => by
    have := rcut_any (frontF R2) 32 W (by omega)
    rw [h3] at this; exact this
  have HC4 : Hid (∀ W, Calls Tryz.prog 59 #[.string (txt D)] W fun e w' => (∃ b, e = .returned (.tuple #[.int .i64 (t : Nat), .bool b])) ∧ Below W.heap.size W w') := fun W => by
    have := rfrom_any D (by omega) W
    rw [ht] at this; exact this
  have HCF : Hid (∀ W, Calls Tryz.prog 48 #[.string (txt R2), .string ⟨#[32]⟩] W fun e w' => e = .returned (.string (txt (frontF R2))) ∧ Below W.heap.size W w') := fun W => front_any R2 W (by omega)
  have HNL : Hid (N.length ≤ 40000) := by show _ ≤ _; omega
  have HBA0 : Hid (Below w.heap.size w (w.alloc (.cells #[.string ⟨#[]⟩, .string ⟨#[]⟩, .int .i64 0, .string ⟨#[]⟩] 25))) := (Below.refl _ _).alloc (Nat.le_refl _) _
  have HZ_w0 : Hid ((w.alloc (.cells #[.string ⟨#[]⟩, .string ⟨#[]⟩, .int .i64 0, .string ⟨#[]⟩] 25)).heap[w.heap.size]? = some (.cells #[.string ⟨#[]⟩, .string ⟨#[]⟩, .int .i64 0, .string ⟨#[]⟩] 25 (0, 0))) := heap_alloc_new _ _
  clear hL h1 h2 h3 ht l0 l1 l2 l3
  go_enter Tryz.func30, Tryz.ntmps30
  go_wp2_with fail
  generalize w.alloc (.cells #[.string ⟨#[]⟩, .string ⟨#[]⟩, .int .i64 0, .string ⟨#[]⟩] 25) = w0 at *
  obtain ⟨b0, hb0⟩ : ∃ p, w.heap.size = p := ⟨_, rfl⟩
  rw [hb0] at HZ_w0
  simp only [hb0]
  have HB_w0 : Hid (Below b0 w w0) := by rw [← hb0]; exact HBA0.out
  have HB0E : Hid (b0 ≤ b0) := Nat.le_refl _
  have HPE := Lib.hid hb0
  clear hb0 HBA0
  refine (HC1.out w0).mono ?_
  rintro e w1 ⟨rfl, hb⟩
  have HB_w1 := Lib.hid (HB_w0.out.trans (hb.mono (by have := (Array.getElem?_eq_some_iff.1 HZ_w0.out).1; omega)))
  have HZ_w1 := Lib.hid ((hb.block b0 (Array.getElem?_eq_some_iff.1 HZ_w0.out).1).trans HZ_w0.out)
  clear hb HC1 HB_w0 HZ_w0
  go_wp2_with fail
  refine (HC2.out w1).mono ?_
  rintro e w2 ⟨rfl, hb⟩
  have HB_w2 := Lib.hid (HB_w1.out.trans (hb.mono (by have := (Array.getElem?_eq_some_iff.1 HZ_w1.out).1; omega)))
  have HZ_w2 := Lib.hid ((hb.block b0 (Array.getElem?_eq_some_iff.1 HZ_w1.out).1).trans HZ_w1.out)
  clear hb HC2 HB_w1 HZ_w1
  have hsz : (txt N).size = N.length := txt_size N
  obtain ⟨n, hn⟩ : ∃ n, N.length = n := ⟨_, rfl⟩
  have HNN := Lib.hid hn
  rw [hn] at hsz HNL HG
  have HTK : Hid (n = 0 → N.take (n - 1) = N) := fun h => by rw [h] at HNN; rw [List.length_eq_zero_iff.1 HNN.out]; simp
  clear hn
  have fin : ∀ NM : List UInt8, N.take (n - 1) = NM → True := fun _ _ => trivial
  obtain ⟨NM, hNM⟩ : ∃ l, N.take (n - 1) = l := ⟨_, rfl⟩
  have HNM := Lib.hid hNM
  rw [hNM] at HG
  clear fin
  by_cases h0 : 0 < n
  rotate_left
  · have h0' : ¬ (0 : Int) < (n : Int) := by omega
    have HNE : Hid (NM = N) := by show _ = _; rw [← HNM.out]; exact HTK.out (by omega)
    rw [HNE.out] at HG
    clear h0 hNM HTK
    go_wp2_with fail
    refine (HCF.out w2).mono ?_
    rintro e w3 ⟨rfl, hb⟩
    have HB_w3 := Lib.hid (HB_w2.out.trans (hb.mono (by have := (Array.getElem?_eq_some_iff.1 HZ_w2.out).1; omega)))
    have HZ_w3 := Lib.hid ((hb.block b0 (Array.getElem?_eq_some_iff.1 HZ_w2.out).1).trans HZ_w2.out)
    clear hb HCF HB_w2 HZ_w2
    go_wp2_with fail
    refine (HC3.out w3).mono ?_
    rintro e w4 ⟨rfl, hb⟩
    have HB_w4 := Lib.hid (HB_w3.out.trans (hb.mono (by have := (Array.getElem?_eq_some_iff.1 HZ_w3.out).1; omega)))
    have HZ_w4 := Lib.hid ((hb.block b0 (Array.getElem?_eq_some_iff.1 HZ_w3.out).1).trans HZ_w3.out)
    clear hb HC3 HB_w3 HZ_w3
    go_wp2_with fail
    refine (HC4.out w4).mono ?_
    rintro e w5 ⟨⟨bb, rfl⟩, hb⟩
    have HB_w5 := Lib.hid (HB_w4.out.trans (hb.mono (by have := (Array.getElem?_eq_some_iff.1 HZ_w4.out).1; omega)))
    have HZ_w5 := Lib.hid ((hb.block b0 (Array.getElem?_eq_some_iff.1 HZ_w4.out).1).trans HZ_w4.out)
    clear hb HC4 HB_w4 HZ_w4
    go_wp2_with (first
      | refine wpList_buildQ rfl 25 _ rfl #[(0, .string (txt N)), (1, .string (txt M)), (2, .int .i64 (t : Nat)), (3, .string (txt Z))] (map_four _ _ _ _ _ _ _ _ _ rfl rfl rfl rfl) _ (build_rwho _ _ _ _) ?_
      | refine wpList_store_row rfl 25 _ _ rfl b0 (whoA ⟨txt N, txt M, (t : Nat), txt Z⟩) rfl rfl 25 #[.string ⟨#[]⟩, .string ⟨#[]⟩, .int .i64 0, .string ⟨#[]⟩] HZ_w5.out (info_rwho _) rfl (who_one _) ?_)
    refine bodyPost_ret (results_cell_row Tryz.results30 _ _ b0 25 (whoA ⟨txt N, txt M, (t : Nat), txt Z⟩) (0, 0) _ rfl (setRow_heap _ _ _ _ _ _ HZ_w5.out) Tryz.underlying25 rfl (info_rwho _)) rfl ⟨by rw [HG.out] <;> rfl, by rw [HPE.out]; exact below_setRow HB_w5.out HB0E.out _⟩
  · have h0' : (0 : Int) < (n : Int) := by omega
    have hw : wrap64 ((n : Int) - 1) = ((n - 1 : Nat) : Int) := by rw [show ((n : Int) - 1) = ((n - 1 : Nat) : Int) by omega]; exact IntWalk.wrap64_in _ (by have := HNL.out; omega)
    have hs1 := fun W => slice_fr N (n - 1) (by rw [HNN.out]; omega) W
    rw [hNM] at hs1
    have hle : n - 1 ≤ (txt N).size := by rw [hsz]; omega
    have hex : (txt N).extract 0 (n - 1) = txt NM := by rw [front_txt, hNM]
    clear h0 HTK
    go_wp2_with fail
    clear hs1 hle hex hw
    refine (HCF.out w2).mono ?_
    rintro e w3 ⟨rfl, hb⟩
    have HB_w3 := Lib.hid (HB_w2.out.trans (hb.mono (by have := (Array.getElem?_eq_some_iff.1 HZ_w2.out).1; omega)))
    have HZ_w3 := Lib.hid ((hb.block b0 (Array.getElem?_eq_some_iff.1 HZ_w2.out).1).trans HZ_w2.out)
    clear hb HCF HB_w2 HZ_w2
    go_wp2_with fail
    refine (HC3.out w3).mono ?_
    rintro e w4 ⟨rfl, hb⟩
    have HB_w4 := Lib.hid (HB_w3.out.trans (hb.mono (by have := (Array.getElem?_eq_some_iff.1 HZ_w3.out).1; omega)))
    have HZ_w4 := Lib.hid ((hb.block b0 (Array.getElem?_eq_some_iff.1 HZ_w3.out).1).trans HZ_w3.out)
    clear hb HC3 HB_w3 HZ_w3
    go_wp2_with fail
    refine (HC4.out w4).mono ?_
    rintro e w5 ⟨⟨bb, rfl⟩, hb⟩
    have HB_w5 := Lib.hid (HB_w4.out.trans (hb.mono (by have := (Array.getElem?_eq_some_iff.1 HZ_w4.out).1; omega)))
    have HZ_w5 := Lib.hid ((hb.block b0 (Array.getElem?_eq_some_iff.1 HZ_w4.out).1).trans HZ_w4.out)
    clear hb HC4 HB_w4 HZ_w4
    go_wp2_with (first
      | refine wpList_buildQ rfl 25 _ rfl #[(0, .string (txt NM)), (1, .string (txt M)), (2, .int .i64 (t : Nat)), (3, .string (txt Z))] (map_four _ _ _ _ _ _ _ _ _ rfl rfl rfl rfl) _ (build_rwho _ _ _ _) ?_
      | refine wpList_store_row rfl 25 _ _ rfl b0 (whoA ⟨txt NM, txt M, (t : Nat), txt Z⟩) rfl rfl 25 #[.string ⟨#[]⟩, .string ⟨#[]⟩, .int .i64 0, .string ⟨#[]⟩] HZ_w5.out (info_rwho _) rfl (who_one _) ?_)
    refine bodyPost_ret (results_cell_row Tryz.results30 _ _ b0 25 (whoA ⟨txt NM, txt M, (t : Nat), txt Z⟩) (0, 0) _ rfl (setRow_heap _ _ _ _ _ _ HZ_w5.out) Tryz.underlying25 rfl (info_rwho _)) rfl ⟨by rw [HG.out] <;> rfl, by rw [HPE.out]; exact below_setRow HB_w5.out HB0E.out _⟩
end Go.Proofs.YtindmggmblmmcaaGreatDoor
