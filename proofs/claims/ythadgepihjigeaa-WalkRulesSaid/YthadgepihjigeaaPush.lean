/- The heap: one more: the walk. -/
import Derived.Test.YthadgepihjigeaaPop
namespace Go.Proofs.Ythadgepihjigeaa
open Go.RowKit Plain
set_option linter.unusedVariables false
theorem unhid {p : Prop} (h : p) : Hid p := h
theorem intinfo : (Try.prog.info? 3).map (fun i => (i.zero, i.size, i.bytes)) = some (some (.int .i64 0), 1, 8) := by kernel_rfl
theorem int_parts : ∃ i, Try.prog.info? 3 = some i ∧ i.zero = some (.int .i64 0) ∧ i.size = 1 ∧ i.bytes = 8 := by
  have h := intinfo
  cases hi : Try.prog.info? 3 with
  | none => rw [hi] at h; cases h
  | some i =>
    rw [hi] at h
    simp only [Option.map_some, Option.some.injEq, Prod.mk.injEq] at h
    exact ⟨i, rfl, h.1, h.2.1, h.2.2⟩
/-- append(v, x): one number more, in a row of the call's own. -/
theorem wpList_append_one {w : World} {ops : Array Oper} {rest : List Oper} {o : Oper} {ac : Act} {Q : Exit → Act → World → Prop} (hgd : o.guard = none) (s x : Operand)
    (ho : o.op = .call { callee := .builtin .append, args := #[s, x], argTypes := #[24, 24] })
    (base : Nat) (v : Value) (n : Nat) (xs : List Int) (hs : ac.eval s = v) (hown : w.ownsRow base 3 1 v n (I64 xs)) (g0 : Nat) (y : Int) (hx : ac.eval x = .slice (some ⟨g0, 0, none⟩) 1 1) (hy : w.cell? ⟨g0, 0, none⟩ = some (.int .i64 y))
    (hsum : n + 1 ≤ 100000001) (hbase : base ≤ w.heap.size)
    (h : ∀ g c w', w'.ownsRow base 3 1 (.slice (some ⟨g, 0, none⟩) (n + 1) c) (n + 1) (I64 (xs ++ [y])) → w.grownBy w' v.ownBlock → (v.ownBlock = some g ∨ g = w.heap.size) → g < w'.heap.size → wpList Try.prog ops Q rest (ac.put o.dst (.slice (some ⟨g, 0, none⟩) (n + 1) c)) w') : wpList Try.prog ops Q (o :: rest) ac w := by
  obtain ⟨i, hi, hz, h1, h8⟩ := int_parts
  refine wpList_append_lies w hgd s x 24 ho base 3 i (.int .i64 0) 1 8 Try.underlying24 hi hz h1 h8 rfl (by omega) v n (I64 xs) hs hown ⟨g0, 0, none⟩ 1 1 [.int .i64 y] hx rfl ?_ ?_ (by omega) (by unfold maxLen; omega) (by omega) hbase _ rfl fun g c w' a1 a2 a3 a4 => ?_
  · intro j u hu
    match j, hu with
    | 0, hu =>
      have e : (⟨g0, 0, none⟩ : Addr).add 0 = ⟨g0, 0, none⟩ := by unfold Addr.add; simp
      rw [e, hy]
      exact hu
  · intro u hu
    rw [List.mem_singleton] at hu
    subst hu
    rfl
  · have e : I64 (xs ++ [y]) = I64 xs ++ [.int .i64 y] := by unfold I64; rw [List.map_append]; rfl
    exact h g c w' (by rw [e]; exact a1) a2 a3 a4
/-- A heap's row, of none or some. -/
structure HeapV (w : World) (H base : Nat) (v : Value) (xs : List Int) : Prop where
  cell : w.cell? ⟨H, 0, none⟩ = some v
  row : w.ownsRow base 3 1 v xs.length (I64 xs)
  ne : v.ownBlock ≠ some H
  fro : w.frozen? ⟨H, 0, none⟩ = false
theorem HeapAt.v {w : World} {H base g c : Nat} {xs : List Int} (h : HeapAt w H base g c xs) : HeapV w H base (.slice (some ⟨g, 0, none⟩) xs.length c) xs :=
  ⟨h.cell, h.row, fun e => h.ne (by injection e with e; exact e.symm), h.fro⟩
theorem lit_one (w : World) (x : Int) (t : TypeId) : (w.alloc (.cells #[.int .i64 x] t)).cell? ⟨w.heap.size, 0, none⟩ = some (.int .i64 x) := by
  have h := heap_alloc_new w (.cells #[.int .i64 x] t)
  show (match (w.alloc (.cells #[.int .i64 x] t)).heap[w.heap.size]? with | some (.cells cs _ _) => cs[0]? | _ => none) = _
  rw [h]
  rfl
theorem up_facts (i up : Nat) (h0 : ¬ i = 0) (hi : i ≤ 100000001) (hup : (i - 1) / 2 = up) : (∀ x : Int, x = (i : Int) - 1 → wrap64 x = (i : Int) - 1) ∧ (∀ x : Int, x = (i : Int) - 1 → x.tdiv 2 = (up : Int)) ∧ (∀ x : Int, x = (up : Int) → wrap64 x = (up : Int)) ∧ up < i ∧ (0 : Int) < (i : Int) := by
  refine ⟨fun x hx => by rw [hx]; exact IntWalk.wrap64_in _ (by omega), fun x hx => ?_, fun x hx => by rw [hx]; exact IntWalk.wrap64_in _ (by omega), by omega, by omega⟩
  subst hx
  rw [Int.tdiv_eq_ediv_of_nonneg (by omega), ← hup]
  omega
/-- What push may change: block H, the row's; and new ones. -/
structure FrP (w w' : World) (H : Nat) (v : Value) : Prop where
  os : w'.os = w.os
  tape : w'.tape = w.tape
  output : w'.output = w.output
  size : w.heap.size ≤ w'.heap.size
  block : ∀ k, k < w.heap.size → k ≠ H → v.ownBlock ≠ some k → w'.heap[k]? = w.heap[k]?
theorem FrP.grown {w w1 w2 : World} {H g : Nat} {v : Value} (h : FrP w w1 H v) (hg : w1.grownBy w2 (some g)) (hv : v.ownBlock = some g ∨ w.heap.size ≤ g) : FrP w w2 H v :=
  ⟨hg.os.trans h.os, hg.tape.trans h.tape, hg.output.trans h.output, Nat.le_trans h.size hg.size, fun k hk h1 h2 => (hg.block k (Nat.lt_of_lt_of_le hk h.size) (fun e => by
    injection e with e
    rcases hv with hv | hv
    · exact h2 (by rw [e]; exact hv)
    · omega)).trans (h.block k hk h1 h2)⟩
set_option maxRecDepth 100000 in
set_option maxHeartbeats 4000000 in
theorem push_any (H base : Nat) (v : Value) (xs : List Int) (x : Int) (w : World) (h : HeapV w H base v xs) (ho : HeapOk xs) (hn9 : xs.length ≤ 100000000) (hbase : base ≤ w.heap.size) :
    Calls Try.prog 21 #[.pointer (some ⟨H, 0, none⟩), .int .i64 x] w fun e w' => e = .returned (.tuple #[]) ∧ ∃ g c ys, HeapAt w' H base g c ys ∧ HeapOk ys ∧ ys.Perm (xs ++ [x]) ∧ (v.ownBlock = some g ∨ w.heap.size ≤ g) ∧ FrP w w' H v := by
  have HV := Lib.hid h
  have hc := h.cell
  have hHs : H < w.heap.size := World.block_lt_of_cell? w ⟨H, 0, none⟩ h.cell
  have HHS := Lib.hid hHs
  have HO := Lib.hid ho
  have B0 : Hid (∀ o, Below w.heap.size w (w.alloc o)) := fun o => (Below.refl _ _).alloc (Nat.le_refl _) o
  have hci : ∀ o, (w.alloc o).cell? ⟨H, 0, none⟩ = some v := fun o => ((B0.out o).cell (p := ⟨H, 0, none⟩) hHs).trans hc
  clear h ho
  go_enter Try.func21, Try.ntmps21
  have hfro : w.frozen? ⟨H, 0, none⟩ = false := HV.out.fro
  have hn1 : wrap64 (((xs.length + 1 : Nat) : Int) - 1) = (xs.length : Int) := by
    rw [show ((xs.length + 1 : Nat) : Int) - 1 = (xs.length : Int) by omega]; exact IntWalk.wrap64_in _ (by omega)
  have HLI : Hid (∀ t, (w.alloc (.cells #[.int .i64 x] t)).cell? ⟨w.heap.size, 0, none⟩ = some (.int .i64 x)) := lit_one w x
  have tok : True := trivial
  go_wp2_with (
    have _t := tok
    at_builtin
    refine wpList_append_one rfl _ _ rfl base v xs.length xs rfl (HV.out.row.alloc _) w.heap.size x rfl (HLI.out _) (by omega) (by simp; omega) (fun g c w1 ho1 hg1 hgg hgl => ?_)
    have HO1 := Lib.hid ho1
    have HG1 := Lib.hid hg1
    have HGG := Lib.hid hgg
    have hne1 : v.ownBlock ≠ some H := HV.out.ne
    have hcw := hg1.cell (hci _) (fun e => hne1 e.symm)
    have hfw : w1.frozen? ⟨H, 0, none⟩ = false := (hg1.frozen_far ⟨H, 0, none⟩ (by simp; omega) (fun e => hne1 e.symm)).trans (by first | exact hfro | (rw [← hfro]; exact World.frozen?_of_block (Below.heap_alloc _ _ _ (by simpa using hHs))))
    have hal : (w.alloc (.cells #[.int .i64 x] 3)).heap.size = w.heap.size + 1 := by simp
    have hHg : H ≠ g := fun e => by
      subst e
      rcases hgg with hgg | hgg
      · exact hne1 hgg
      · omega
    have hgr2 : w1.grownBy (w1.setCell ⟨H, 0, none⟩ (.slice (some ⟨g, 0, none⟩) (xs.length + 1) c)) (some H) := ⟨rfl, rfl, rfl, by simp, fun k _ hk => heap_setCell_other w1 ⟨H, 0, none⟩ k _ (fun e => hk (by simp [e]))⟩
    have HA : Hid (HeapAt (w1.setCell ⟨H, 0, none⟩ (.slice (some ⟨g, 0, none⟩) (xs.length + 1) c)) H base g c (xs ++ [x])) := by
      refine ⟨?_, ?_, hHg, (World.frozen?_setCell w1 ⟨H, 0, none⟩ ⟨H, 0, none⟩ _).trans hfw⟩
      · rw [List.length_append, List.length_singleton]
        exact World.cell?_setCell_same _ _ _ hcw
      · rw [List.length_append, List.length_singleton]
        exact ho1.kept hgr2 (.inr fun e => hHg (by injection e with e; exact e.symm))
    have HGV : Hid (v.ownBlock = some g ∨ w.heap.size ≤ g) := by
      rcases hgg with hgg | hgg
      · exact .inl hgg
      · exact .inr (by omega)
    have HF : Hid (FrP w (w1.setCell ⟨H, 0, none⟩ (.slice (some ⟨g, 0, none⟩) (xs.length + 1) c)) H v) :=
      ⟨hg1.os, hg1.tape, hg1.output, Nat.le_trans (by omega) (Nat.le_trans hg1.size hgr2.size), fun k hk h1 h2 => (hgr2.block k (Nat.lt_of_lt_of_le (by omega) hg1.size) (fun e => h1 (by injection e))).trans ((hg1.block k (by omega) (fun e => h2 e.symm)).trans ((B0.out _).block k hk))⟩
    have hci2 : ∀ u, (w1.setCell ⟨H, 0, none⟩ u).cell? ⟨H, 0, none⟩ = some u := fun u => World.cell?_setCell_same _ _ _ hcw
    clear tok ho1 hg1 hgg HO1 HG1 HGG hal hgr2 hci
    refine Hid.out ?_)
  refine unhid ?_
  clear hc hHs hfro HLI HHS B0
  go_wp2_with fail
  generalize w1.setCell ⟨H, 0, none⟩ (.slice (some ⟨g, 0, none⟩) (xs.length + 1) c) = w2 at *
  clear hcw hfw hci2 hn1
  have HX := Lib.hid (up_start (x := x) HO.out)
  have HL : Hid ((xs ++ [x]).length = xs.length + 1) := by show _ = _; simp
  obtain ⟨n, hn⟩ : ∃ n, xs.length = n := ⟨_, rfl⟩
  rw [hn] at HX HL hn9 ⊢
  have HPP : Hid (xs ++ [x] = xs ++ [x]) := rfl
  clear hn
  go_loopw [4] (fun u wr => ∃ (i : Nat) (ys : List Int), u = .int .i64 (i : Int) ∧ i < n + 1 ∧ ys.length = n + 1 ∧ UpOk ys i ∧ ys.Perm (xs ++ [x]) ∧ HeapAt wr H base g c ys ∧ FrP w wr H v) (fun u _ => (intOf u).toNat)
  case atStart => exact ⟨n, xs ++ [x], rfl, by omega, HL.out, HX.out, .refl _, HA.out, HF.out⟩
  case round =>
    clear HA HF HX HL
    obtain ⟨i, ys, rfl, hi, hyl, hu, hp, hh, hf⟩ := hrel
    have HU := Lib.hid hu
    have HP := Lib.hid hp
    have HA := Lib.hid hh
    have HF := Lib.hid hf
    have HYL := Lib.hid hyl
    clear hu hp hf
    by_cases h0 : i = 0
    · subst h0
      have HOK : Hid (HeapOk ys) := up_done HU.out (.inl rfl)
      clear hh hyl
      go_wp2_with fail
      go_end0
      exact ⟨rfl, g, c, ys, HA.out, HOK.out, HP.out, HGV.out, HF.out⟩
    · obtain ⟨up, hup⟩ : ∃ up, (i - 1) / 2 = up := ⟨_, rfl⟩
      obtain ⟨w1, w3, w4, hul, hpos⟩ := up_facts i up h0 (by omega) hup
      obtain ⟨ci, fi⟩ := hh.at_ i (by omega)
      obtain ⟨cu, fu⟩ := hh.at_ up (by omega)
      have hc := hh.cell
      rw [hyl] at hc
      have hil : (i : Int) < ((n + 1 : Nat) : Int) := by omega
      have huln : (up : Int) < ((n + 1 : Nat) : Int) := by omega
      by_cases hle : at0 ys up ≤ at0 ys i
      · have HOK : Hid (HeapOk ys) := up_done HU.out (.inr (by rw [hup]; exact hle))
        generalize at0 ys i = xi at *
        generalize at0 ys up = xu at *
        have hlb : decide (xu ≤ xi) = true := decide_eq_true hle
        clear hh hyl hup
        go_wp2_with fail
        go_quiet (fail)
        go_wp2_with fail
        (try simp only [Exit.inBlock, Exit.then])
        refine bodyPost_ret (results_none rfl _ _ _) rfl ?_
        exact ⟨rfl, g, c, ys, HA.out.drewN _, HOK.out, HP.out, HGV.out, HF.out.grown (grown_drewN (grown_refl _ _) _) HGV.out⟩
      · have hlt : at0 ys i < at0 ys up := by omega
        have hus := up_step HU.out (by omega) (by omega) (by rw [hup]; exact hlt)
        rw [hup] at hus
        have HU1 := Lib.hid hus
        have HP1 : Hid ((swapL ys i up).Perm (xs ++ [x])) := (swapL_perm ys i up (by omega) (by omega)).trans HP.out
        have HL1 : Hid ((swapL ys i up).length = n + 1) := by show _ = _; rw [swapL_len]; exact HYL.out
        have HSW := Lib.hid (fun W (h : HeapAt W H base g c ys) => swap_all H base g c ys i up W h (by omega) (by omega))
        generalize at0 ys i = xi at *
        generalize at0 ys up = xu at *
        have hlb : decide (xu ≤ xi) = false := decide_eq_false hle
        clear hh hyl hup hus
        go_wp2_with fail
        go_quiet (fail)
        go_wp2_with fail
        refine (HSW.out _ (HA.out.drewN _)).mono ?_
        rintro e w5 ⟨rfl, h5, g5⟩
        have H5 := Lib.hid h5
        have F5 : Hid (FrP w w5 H v) := HF.out.grown (grown_trans (grown_drewN (grown_refl _ _) _) g5) HGV.out
        clear h5 g5
        go_wp2_with fail
        exact ⟨⟨up, swapL ys i up, rfl, by omega, HL1.out, HU1.out, HP1.out, H5.out, F5.out⟩, by simpa [intOf] using hul⟩
end Go.Proofs.Ythadgepihjigeaa
