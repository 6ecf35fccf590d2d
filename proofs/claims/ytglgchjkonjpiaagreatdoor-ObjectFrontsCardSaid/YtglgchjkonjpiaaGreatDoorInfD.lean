/- Whether a code is good: the walks. -/
import Derived.Test.YtglgchjkonjpiaaGreatDoorCodeOf
import Derived.Laws.CopyOwn
/-! Whether a code is good: the walks. -/
namespace Go.Proofs.YtglgchjkonjpiaaGreatDoor
open Go.RowKit Plain
set_option linter.unusedVariables false
theorem CodeRes.at {Ob Cb : Nat} {w : World} {mv : Value} {ls : List Nat} (h : CodeRes Cb w ls) (h15 : ∀ x ∈ ls, x ≤ 15) (hl : ls.length ≤ 1000) (hO : Ob < Cb) (hm : ∀ k, mv.ownBlock = some k → k < Cb) : CodeAt Ob w mv Cb (codeOfN ls) := by
  obtain ⟨sb, sc, hh, hlt, hc⟩ := h
  obtain ⟨q1, q2, q3, -⟩ := row_cells hh (cntOf_len _)
  refine ⟨codeOk ls h15 hl, ⟨by omega, fun e => by have := hm _ e; omega⟩, q1, q3, some ⟨sb, 0, none⟩, sc, q2, fun j hj => ⟨sb, 0, rfl, by omega, fun e => by have := hm _ e; omega, ?_⟩⟩
  rw [Nat.zero_add]
  exact hc j hj
theorem roomGo_neg (cnt : List Nat) (f n : Nat) (r : Int) (h : 2 * r - (cnt.getD n 0 : Int) < 0) : roomGo cnt (f + 1) n r = -1 := by rw [roomGo, if_pos h]
theorem roomGo_pos (cnt : List Nat) (f n : Nat) (r : Int) (h : ¬ 2 * r - (cnt.getD n 0 : Int) < 0) : roomGo cnt (f + 1) n r = roomGo cnt f (n + 1) (2 * r - (cnt.getD n 0 : Int)) := by rw [roomGo, if_neg h]
theorem CodeOk.cnt_le {c : CodeS} (h : CodeOk c) (k : Nat) (hk : k < 16) : c.cnt.getD k 0 ≤ 100000 := by
  have h1 := sum_take_le c.cnt k (by rw [h.len]; exact hk)
  have h2 := h.few
  rw [← h.sum] at h2
  omega
set_option maxRecDepth 100000 in
set_option maxHeartbeats 8000000 in
theorem good_any {Ob : Nat} (w : World) (mv : Value) (Cb : Nat) (c : CodeS) (HC : CodeAt Ob w mv Cb c) : Calls Tryz.prog 116 #[.pointer (some ⟨Cb, 0, none⟩)] w fun e w' => e = .returned (.bool (goodN c)) ∧ w = w' := by
  have HCC := Lib.hid HC
  obtain ⟨sa, sc, h16, -⟩ := HC.row
  have h17 := HC.longest
  have hl15 := HC.ok.longest
  have hfew := HC.ok.few
  clear HC
  go_enter Tryz.func116, Tryz.ntmps116
  go_wp2_with fail
  go_loop [3, 4] (fun vr vn => ∃ (l r : Nat), vn = .int .i64 (l : Int) ∧ vr = .int .i64 (r : Int) ∧ 1 ≤ l ∧ l ≤ 16 ∧ r ≤ 2 ^ (l - 1) ∧ roomGo c.cnt 15 1 1 = roomGo c.cnt (16 - l) l (r : Int)) (fun _ vn => 17 - (intOf vn).toNat)
  case atStart => exact ⟨1, 1, rfl, rfl, by omega, by omega, by decide, rfl⟩
  case round =>
    obtain ⟨l, r, rfl, rfl, h1, h2, hr, hs⟩ := hrel
    have HR := Lib.hid hr
    have HS := Lib.hid hs
    have hr5 : r ≤ 32768 := by
      have := Nat.pow_le_pow_right (n := 2) (by omega) (show l - 1 ≤ 15 by omega)
      omega
    clear hr hs
    by_cases hl : l ≤ 15
    · have hli : (l : Int) ≤ 15 := by omega
      have hcell := HCC.out.cnt l (by omega)
      have hcl := HCC.out.ok.cnt_le l (by omega)
      obtain ⟨n, hn⟩ : ∃ n, c.cnt.getD l 0 = n := ⟨_, rfl⟩
      rw [hn] at hcell hcl
      have HN := Lib.hid hn
      have HF : Hid (16 - l = (16 - (l + 1)) + 1) := by show _ = _; omega
      clear hn
      by_cases hneg : 2 * r < n
      · have hni : 2 * (r : Int) - (n : Int) < 0 := by omega
        have HRES : Hid (goodN c = false) := by
          show _ = _
          unfold goodN
          rw [HS.out, HF.out, roomGo_neg _ _ _ _ (by rw [HN.out]; exact hni)]
          rfl
        go_wp2_with fail
        go_ret
        exact ⟨by rw [HRES.out]; rfl, rfl⟩
      · have hni : ¬ 2 * (r : Int) - (n : Int) < 0 := by omega
        obtain ⟨z, hz⟩ : ∃ z, 2 * r - n = z := ⟨_, rfl⟩
        have hzi : 2 * (r : Int) - (n : Int) = (z : Int) := by omega
        have HRES : Hid (roomGo c.cnt 15 1 1 = roomGo c.cnt (16 - (l + 1)) (l + 1) (z : Int)) := by
          show _ = _
          rw [HS.out, HF.out, roomGo_pos _ _ _ _ (by rw [HN.out]; exact hni), HN.out, hzi]
        have HZ : Hid (z ≤ 2 ^ (l + 1 - 1)) := by
          show _ ≤ _
          have h5 := HR.out
          rw [show l + 1 - 1 = (l - 1) + 1 by omega, Nat.pow_succ]
          omega
        have hz0 : ¬ (z : Int) < 0 := by omega
        clear hz
        go_wp2_with fail
        go_round
        case rel => exact ⟨l + 1, z, by go_num, rfl, by omega, by omega, HZ.out, HRES.out⟩
        case measure => simp [intOf]; omega
    · have hli : ¬ (l : Int) ≤ 15 := by omega
      obtain rfl : l = 16 := by omega
      have hro : roomGo c.cnt 15 1 1 = (r : Int) := by rw [HS.out]; rfl
      have HRO := Lib.hid hro
      clear hro
      by_cases h0 : r = 0
      · subst h0
        have HRES : Hid (goodN c = true) := by show _ = _; unfold goodN; rw [HRO.out]; rfl
        go_wp2_with fail
        go_ret
        exact ⟨by rw [HRES.out]; rfl, rfl⟩
      · have h0i : ((r : Int) == 0) = false := by simp; omega
        by_cases hs1 : c.sg.length = 1
        · have hs1i : ((c.sg.length : Int) == 1) = true := by simp; omega
          by_cases hg1 : c.longest = 1
          · have hg1i : ((c.longest : Int) == 1) = true := by simp; omega
            have HRES : Hid (goodN c = true) := by show _ = _; unfold goodN; rw [HRO.out]; simp [hs1, hg1]
            clear hs1 hg1
            go_wp2_with fail
            go_ret
            exact ⟨by rw [HRES.out]; rfl, rfl⟩
          · have hg1i : ((c.longest : Int) == 1) = false := by simp; omega
            have HRES : Hid (goodN c = false) := by show _ = _; unfold goodN; rw [HRO.out]; simp [hg1]; omega
            clear hs1
            go_wp2_with fail
            go_ret
            exact ⟨by rw [HRES.out]; rfl, rfl⟩
        · have hs1i : ((c.sg.length : Int) == 1) = false := by simp; omega
          have HRES : Hid (goodN c = false) := by show _ = _; unfold goodN; rw [HRO.out]; simp [hs1]; omega
          go_wp2_with fail
          go_ret
          exact ⟨by rw [HRES.out]; rfl, rfl⟩
set_option maxRecDepth 100000 in
set_option maxHeartbeats 8000000 in
theorem goodDist_any {Ob : Nat} (w : World) (mv : Value) (Cb : Nat) (c : CodeS) (HC : CodeAt Ob w mv Cb c) : Calls Tryz.prog 117 #[.pointer (some ⟨Cb, 0, none⟩)] w fun e w' => e = .returned (.bool (c.sg == [] || goodN c)) ∧ w = w' := by
  have hgood := good_any w mv Cb c HC
  obtain ⟨sa, sc, h16, -⟩ := HC.row
  have hfew := HC.ok.few
  clear HC
  obtain ⟨n, hn⟩ : ∃ n, c.sg.length = n := ⟨_, rfl⟩
  rw [hn] at h16 hfew
  have HN := Lib.hid hn
  clear hn
  go_enter Tryz.func117, Tryz.ntmps117
  by_cases h0 : n = 0
  · subst h0
    have HE : Hid ((c.sg == [] || goodN c) = true) := by show _ = _; rw [List.eq_nil_of_length_eq_zero HN.out]; rfl
    go_wp2_with fail
    go_ret
    exact ⟨by rw [HE.out]; rfl, rfl⟩
  · have h0i : ((n : Int) == 0) = false := by simp; omega
    have HE : Hid ((c.sg == [] || goodN c) = goodN c) := by
      show _ = _
      cases hc : c.sg with
      | nil => have := HN.out; rw [hc] at this; simp at this; omega
      | cons a b => rfl
    go_wp2_with fail
    refine hgood.mono ?_
    rintro e w2 ⟨rfl, rfl⟩
    clear hgood
    go_wp2_with fail
    go_ret
    exact ⟨by rw [HE.out]; rfl, rfl⟩
set_option maxRecDepth 100000 in
set_option maxHeartbeats 8000000 in
theorem howMany_any {w0 : World} {Ob : Nat} {ba : Option Addr} {bn bc N most : Nat} {bs : List Int} (HS : SrcB w0 ba bn bc N most bs) (w : World) (p : Nat) (mv : Value) (made : List Int) (H : OutL 8 w0 Ob ba bn bc N most w p mv made) (n least mo : Nat) (hn : n ≤ 16) (hl : least ≤ 1000) (hm : mo ≤ 1000) :
    Calls Tryz.prog 112 #[.pointer (some ⟨Ob, 0, none⟩), .int .i64 (n : Int), .int .i64 (least : Int), .int .i64 (mo : Int)] w (Got w0 Ob ba bn bc N most w mv made (howManyN N (8 * bn) p n least mo)) := by
  have hnum := number_any HS w p mv made H n hn
  clear HS H
  go_enter Tryz.func112, Tryz.ntmps112
  go_wp2_with fail
  refine hnum.mono ?_
  intro e w2 hgot
  obtain ⟨x, q, hr, rfl, ht, ho⟩ | ⟨k, hr, rfl, ht⟩ := hgot.lift
  · have hx : x ≤ 65536 := by
      have h1 := (num_ok hr).1
      have h2 := Nat.pow_le_pow_right (n := 2) (by omega) hn
      omega
    have HR := Lib.hid hr
    have HT := Lib.hid ht
    have HO := Lib.hid ho
    clear hnum hgot hr ht ho
    by_cases hbig : mo < x + least
    · have hbi : (mo : Int) < (x : Int) + (least : Int) := by omega
      go_wp2_with fail
      refine (with_any 4 w2).mono ?_
      rintro e w3 ⟨rfl, rfl⟩
      dsimp only [thrown]
      go_wp2_with fail
      exact ⟨rfl, HT.out, .inr ⟨4, by unfold howManyN; rw [HR.out]; simp only []; rw [if_pos hbig], rfl⟩⟩
    · have hbi : ¬ (mo : Int) < (x : Int) + (least : Int) := by omega
      go_wp2_with fail
      go_ret
      exact ⟨HT.out, .inl ⟨x + least, q, by unfold howManyN; rw [HR.out]; simp only []; rw [if_neg hbig], rfl, HO.out⟩⟩
  · have HR := Lib.hid hr
    have HT := Lib.hid ht
    clear hnum hgot hr ht
    go_wp2_with fail
    exact ⟨rfl, HT.out, .inr ⟨k, by unfold howManyN; rw [HR.out], rfl⟩⟩
end Go.Proofs.YtglgchjkonjpiaaGreatDoor
/-! The code of the lengths: the walk. -/
namespace Go.Proofs.YtglgchjkonjpiaaGreatDoor
open Go.RowKit Plain
set_option linter.unusedVariables false
theorem Turn.later {Ob : Nat} {m1 m2 : Value} {w wr w' : World} (h : Turn Ob m1 m2 w wr) (hb : Below w.heap.size wr w') : Turn Ob m1 m2 w w' :=
  ⟨hb.os.trans h.os, hb.tape.trans h.tape, hb.output.trans h.output, Nat.le_trans h.size hb.size, fun k hk a b => (hb.block k hk).trans (h.block k hk a b), h.row⟩
theorem OutL.store {lim : Nat} {w0 : World} {Ob : Nat} {ba : Option Addr} {bn bc N most : Nat} {w : World} {p : Nat} {mv : Value} {made : List Int} (h : OutL lim w0 Ob ba bn bc N most w p mv made) (Lb i : Nat) (v : Value) (h1 : Lb ≠ Ob) (h2 : mv.ownBlock ≠ some Lb) (h3 : w0.heap.size ≤ Lb) :
    OutL lim w0 Ob ba bn bc N most (w.setCell ⟨Lb, i, none⟩ v) p mv made := by
  obtain ⟨a, hd, l, hh, e1, e2, e3, e4, hm, hO, hbel, hge, h5⟩ := h
  have hg : w.grownBy (w.setCell ⟨Lb, i, none⟩ v) (some Lb) := grownBy_set1 w Lb i v
  exact ⟨a, hd, l, (Below.heap_setCell w _ v Ob (by show Ob ≠ Lb; exact fun e => h1 e.symm)).trans hh, e1, e2, e3, e4, hm.kept hg (.inr h2), hO, hbel.setCell h3 _, hge, h5⟩
theorem OutL.mid {lim : Nat} {w0 : World} {Ob : Nat} {ba : Option Addr} {bn bc N most : Nat} {w : World} {p : Nat} {mv : Value} {made : List Int} (h : OutL lim w0 Ob ba bn bc N most w p mv made) : ∀ k, mv.ownBlock = some k → k < w.heap.size := by
  obtain ⟨a, hd, l, hh, e1, e2, e3, e4, hm, -⟩ := h
  exact fun k hk => (hm.block_ge k hk).2
theorem OutL.base {lim : Nat} {w0 : World} {Ob : Nat} {ba : Option Addr} {bn bc N most : Nat} {w : World} {p : Nat} {mv : Value} {made : List Int} (h : OutL lim w0 Ob ba bn bc N most w p mv made) : w0.heap.size ≤ w.heap.size := by
  obtain ⟨a, hd, l, hh, e1, e2, e3, e4, hm, hO, hbel, -⟩ := h
  exact hbel.size
/-- What a call that makes a code tells. -/
def GotC (w0 : World) (Ob : Nat) (ba : Option Addr) (bn bc N most : Nat) (w : World) (mv : Value) (made : List Int) (r : Except Nat (Nat × CodeS)) (e : Ending) (w' : World) : Prop :=
  (∃ q c Cb, r = .ok (q, c) ∧ e = .returned (.pointer (some ⟨Cb, 0, none⟩)) ∧ Turn Ob mv mv w w' ∧ OutL 8 w0 Ob ba bn bc N most w' q mv made ∧ CodeAt Ob w' mv Cb c) ∨ ∃ n, r = .error n ∧ e = .panicked [{ v := .iface 126 (.agg #[.int .i64 (n : Int)]), recovered := false }] ∧ Turn Ob mv mv w w'
theorem toldGo_nil (N L p : Nat) (ls : List Nat) : toldGo N L [] p ls = .ok (p, ls) := rfl
theorem orderN_get (i : Nat) (h : i < 19) : orderN.getD i 0 < 19 := by
  have : ∀ i, i < 19 → orderN.getD i 0 < 19 := by decide
  exact this i h
theorem drop_get (l : List Nat) (i : Nat) (h : i < l.length) : l.drop i = l.getD i 0 :: l.drop (i + 1) := by
  rw [List.drop_eq_getElem_cons h, List.getD_eq_getElem?_getD, List.getElem?_eq_getElem h]; rfl
theorem getD_take0 (l : List Nat) (n i : Nat) (h : i < n) : (l.take n).getD i 0 = l.getD i 0 := by
  rw [List.getD_eq_getElem?_getD, List.getElem?_take_of_lt h, List.getD_eq_getElem?_getD]
theorem slice_order (B n : Nat) (h : n ≤ 19) (w : World) : (Instr.sliceAt 169 (.pointer (some ⟨B, 0, none⟩)) none (some (.int .i64 (n : Int))) none).run Tryz.prog w = .ok (.slice (some ⟨B, 0, none⟩) n 19) w := by
  have hal : Tryz.prog.arrayLen 169 = 19 := by kernel_rfl
  have hsz : ∀ W : World, (sizeOf (Tryz.prog.elem 169)).run Tryz.prog W = .ok 1 W := fun W => by kernel_rfl
  rw [run_sliceAt_array_h (P := Tryz.prog) w 169 ⟨B, 0, none⟩ (by kernel_rfl) .i64 (n : Int) (by omega) (by rw [hal]; omega), hsz, hal]
  have h0 : ∀ x : Addr, x.add 0 = x := fun x => by unfold Addr.add; simp
  simp [Result.andThen_ok, slicedAt, h0]
def ordV : Array Value := (I64s orderN).toArray
theorem ord_built : Tryz.prog.built 169 [(0, .int .i64 16), (1, .int .i64 17), (2, .int .i64 18), (3, .int .i64 0), (4, .int .i64 8), (5, .int .i64 7), (6, .int .i64 9), (7, .int .i64 6), (8, .int .i64 10), (9, .int .i64 5), (10, .int .i64 11), (11, .int .i64 4), (12, .int .i64 12), (13, .int .i64 3), (14, .int .i64 13), (15, .int .i64 2), (16, .int .i64 14), (17, .int .i64 1), (18, .int .i64 15)] = some ordV := by kernel_rfl
theorem ord_run (W : World) : (Instr.build 169 #[(0, .int .i64 16), (1, .int .i64 17), (2, .int .i64 18), (3, .int .i64 0), (4, .int .i64 8), (5, .int .i64 7), (6, .int .i64 9), (7, .int .i64 6), (8, .int .i64 10), (9, .int .i64 5), (10, .int .i64 11), (11, .int .i64 4), (12, .int .i64 12), (13, .int .i64 3), (14, .int .i64 13), (15, .int .i64 2), (16, .int .i64 14), (17, .int .i64 1), (18, .int .i64 15)]).run Tryz.prog W = .ok (.agg ordV) W := run_build W 169 _ _ ord_built
theorem ord_info : (Tryz.prog.info? 169).map (·.size) = some ordV.size := by kernel_rfl
set_option maxRecDepth 100000 in
set_option maxHeartbeats 8000000 in
theorem codeOfLengths_any {w0 : World} {Ob : Nat} {ba : Option Addr} {bn bc N most : Nat} {bs : List Int} (HS : SrcB w0 ba bn bc N most bs) (w : World) (p : Nat) (mv : Value) (made : List Int) (H : OutL 8 w0 Ob ba bn bc N most w p mv made) :
    Calls Tryz.prog 114 #[.pointer (some ⟨Ob, 0, none⟩)] w (GotC w0 Ob ba bn bc N most w mv made (codeOfLengthsN N (8 * bn) p)) := by
  have HSS := Lib.hid HS
  have HO := Lib.hid H
  clear HS H
  have hbuild := ord_run
  have HNEW : Hid ((w.alloc (.cells #[.int .i64 0, .int .i64 0, .int .i64 0, .int .i64 0, .int .i64 0, .int .i64 0, .int .i64 0, .int .i64 0, .int .i64 0, .int .i64 0, .int .i64 0, .int .i64 0, .int .i64 0, .int .i64 0, .int .i64 0, .int .i64 0, .int .i64 0, .int .i64 0, .int .i64 0] 169)).heap[w.heap.size]? = some (.cells #[.int .i64 0, .int .i64 0, .int .i64 0, .int .i64 0, .int .i64 0, .int .i64 0, .int .i64 0, .int .i64 0, .int .i64 0, .int .i64 0, .int .i64 0, .int .i64 0, .int .i64 0, .int .i64 0, .int .i64 0, .int .i64 0, .int .i64 0, .int .i64 0, .int .i64 0] 169 (0, 0))) := heap_alloc_new w _
  go_enter Tryz.func114, Tryz.ntmps114
  go_wp2_with (refine wpList_store_row rfl 169 (.tmp 3) (.tmp 9) rfl w.heap.size ordV rfl rfl 169 #[.int .i64 0, .int .i64 0, .int .i64 0, .int .i64 0, .int .i64 0, .int .i64 0, .int .i64 0, .int .i64 0, .int .i64 0, .int .i64 0, .int .i64 0, .int .i64 0, .int .i64 0, .int .i64 0, .int .i64 0, .int .i64 0, .int .i64 0, .int .i64 0, .int .i64 0] HNEW.out ord_info (by decide) (by decide +kernel) ?_; refine Hid.out ?_)
  refine unhid ?_
  have HORD : Hid (((w.alloc (.cells #[.int .i64 0, .int .i64 0, .int .i64 0, .int .i64 0, .int .i64 0, .int .i64 0, .int .i64 0, .int .i64 0, .int .i64 0, .int .i64 0, .int .i64 0, .int .i64 0, .int .i64 0, .int .i64 0, .int .i64 0, .int .i64 0, .int .i64 0, .int .i64 0, .int .i64 0] 169)).setRow w.heap.size ordV).heap[w.heap.size]? = some (.cells ordV 169 (0, 0))) := setRow_heap _ _ _ _ _ _ HNEW.out
  have HBA : Hid (Below w.heap.size w ((w.alloc (.cells #[.int .i64 0, .int .i64 0, .int .i64 0, .int .i64 0, .int .i64 0, .int .i64 0, .int .i64 0, .int .i64 0, .int .i64 0, .int .i64 0, .int .i64 0, .int .i64 0, .int .i64 0, .int .i64 0, .int .i64 0, .int .i64 0, .int .i64 0, .int .i64 0, .int .i64 0] 169)).setRow w.heap.size ordV)) := below_setRow ((Below.refl _ _).alloc (Nat.le_refl _) _) (Nat.le_refl _) _
  have hA : w.heap.size < ((w.alloc (.cells #[.int .i64 0, .int .i64 0, .int .i64 0, .int .i64 0, .int .i64 0, .int .i64 0, .int .i64 0, .int .i64 0, .int .i64 0, .int .i64 0, .int .i64 0, .int .i64 0, .int .i64 0, .int .i64 0, .int .i64 0, .int .i64 0, .int .i64 0, .int .i64 0, .int .i64 0] 169)).setRow w.heap.size ordV).heap.size := (Array.getElem?_eq_some_iff.1 HORD.out).1
  clear hbuild HNEW
  generalize (w.alloc (.cells #[.int .i64 0, .int .i64 0, .int .i64 0, .int .i64 0, .int .i64 0, .int .i64 0, .int .i64 0, .int .i64 0, .int .i64 0, .int .i64 0, .int .i64 0, .int .i64 0, .int .i64 0, .int .i64 0, .int .i64 0, .int .i64 0, .int .i64 0, .int .i64 0, .int .i64 0] 169)).setRow w.heap.size ordV = w1 at *
  have HO1 := Lib.hid (HO.out.below HBA.out)
  have HT1 : Hid (Turn Ob mv mv w w1) := Turn.of_below HBA.out
  have hOw := HO.out.lt
  have hbase := HO.out.base
  have hmvw := HO.out.mid
  have HMVW := Lib.hid hmvw
  clear hmvw
  generalize hAb : w.heap.size = Ab at *
  have hnum := number_any HSS.out w1 p mv made HO1.out 4 (by omega)
  go_wp2_with fail
  refine hnum.mono ?_
  intro e w2 hgot
  obtain ⟨x, q, hr, rfl, ht, ho⟩ | ⟨k, hr, rfl, ht⟩ := hgot.lift
  · have hx : x < 16 := (num_ok hr).1
    have HR := Lib.hid hr
    have HT2 := Lib.hid (HT1.out.trans ht)
    have HO2 := Lib.hid ho
    have HORD2 : Hid (w2.heap[Ab]? = some (.cells ordV 169 (0, 0))) := (ht.block Ab hA (by omega) (fun e => by have := HMVW.out _ e; omega)).trans HORD.out
    clear hnum hgot hr ht ho HORD
    have hmk := make_is 19 (by omega)
    obtain ⟨zs, hzs⟩ : ∃ zs, List.replicate 19 (0 : Nat) = zs := ⟨_, rfl⟩
    rw [hzs] at hmk
    have HZS := Lib.hid hzs
    clear hzs
    have hsl := fun W => slice_order Ab (x + 4) (by omega) W
    rw [show ((x + 4 : Nat) : Int) = (x : Int) + 4 by omega] at hsl
    rw [show ((19 : Nat) : Int) = 19 from rfl] at hmk
    have HL3 : Hid ((w2.alloc (.cells (I64s zs).toArray 3)).heap[w2.heap.size]? = some (.cells (I64s zs).toArray 3 (0, 0))) := heap_alloc_new w2 _
    have HB3 : Hid (Below w2.heap.size w2 (w2.alloc (.cells (I64s zs).toArray 3))) := (Below.refl _ _).alloc (Nat.le_refl _) _
    have hAlt : Ab < w2.heap.size := (Array.getElem?_eq_some_iff.1 HORD2.out).1
    have HORD3 : Hid ((w2.alloc (.cells (I64s zs).toArray 3)).heap[Ab]? = some (.cells ordV 169 (0, 0))) := (HB3.out.block Ab hAlt).trans HORD2.out
    have HO3 := Lib.hid (HO2.out.below HB3.out)
    have HT3 : Hid (Turn Ob mv mv w (w2.alloc (.cells (I64s zs).toArray 3))) := HT2.out.trans (Turn.of_below HB3.out)
    have hOL : Ob < w2.heap.size := HO2.out.lt
    have HML : Hid (∀ k, mv.ownBlock = some k → k < w2.heap.size) := HO2.out.mid
    have hbl : w0.heap.size ≤ w2.heap.size := HO2.out.base
    go_wp2_with fail
    clear hmk hsl
    generalize w2.alloc (.cells (I64s zs).toArray 3) = w3 at *
    generalize hLb : w2.heap.size = Lb at *
    go_loopw [19] (fun v wr => ∃ (i r : Nat) (ls : List Nat), v = .int .i64 (i : Int) ∧ i ≤ x + 4 ∧ ls.length = 19 ∧ (∀ y ∈ ls, y ≤ 15) ∧ wr.heap[Ab]? = some (.cells ordV 169 (0, 0)) ∧ wr.heap[Lb]? = some (.cells (I64s ls).toArray 3 (0, 0)) ∧ OutL 8 w0 Ob ba bn bc N most wr r mv made ∧ Turn Ob mv mv w wr ∧
      toldGo N (8 * bn) (orderN.take (x + 4)) q zs = toldGo N (8 * bn) ((orderN.take (x + 4)).drop i) r ls) (fun v _ => 19 - (intOf v).toNat)
    case atStart => exact ⟨0, q, zs, rfl, by omega, by rw [← HZS.out]; simp, fun y hy => by rw [← HZS.out] at hy; rw [(List.mem_replicate.1 hy).2]; omega, HORD3.out, HL3.out, HO3.out, HT3.out, rfl⟩
    case round =>
      obtain ⟨i, r, ls, rfl, hi, hll, hl15, hord, hl, ho, ht, hs⟩ := hrel
      have HLL := Lib.hid hll
      have HL15 := Lib.hid hl15
      have HORDr := Lib.hid hord
      have HLr := Lib.hid hl
      have HOr := Lib.hid ho
      have HTr := Lib.hid ht
      have HSr := Lib.hid hs
      have hLlt : Lb < wr.heap.size := (Array.getElem?_eq_some_iff.1 hl).1
      have hAlt2 : Ab < wr.heap.size := (Array.getElem?_eq_some_iff.1 hord).1
      clear hll hl15 hord hl ho ht hs HORD3 HL3 HO3 HT3
      by_cases hlt : i < x + 4
      · have hlti : (i : Int) < (x : Int) + 4 := by omega
        have hi19 : i < 19 := by omega
        have hcell := (cell_row0 wr Ab i _ _ _ HORDr.out).trans (i64s_get orderN i (by show i < 19; omega))
        have hs19 := orderN_get i hi19
        obtain ⟨s, hsv⟩ : ∃ s, orderN.getD i 0 = s := ⟨_, rfl⟩
        rw [hsv] at hcell hs19
        have hlen : (orderN.take (x + 4)).length = x + 4 := by rw [List.length_take]; show min (x + 4) 19 = x + 4; omega
        have HDR : Hid ((orderN.take (x + 4)).drop i = s :: (orderN.take (x + 4)).drop (i + 1)) := by
          show _ = _
          rw [drop_get _ _ (by omega), getD_take0 _ _ _ hlt, hsv]
        have hnum := number_any HSS.out wr r mv made HOr.out 3 (by omega)
        clear hsv hlen
        go_wp2_with fail
        refine hnum.mono ?_
        intro e w4 hgot
        obtain ⟨y, r2, hr, rfl, ht, ho⟩ | ⟨k, hr, rfl, ht⟩ := hgot.lift
        · have hy : y < 8 := (num_ok hr).1
          have HS4 : Hid (toldGo N (8 * bn) (orderN.take (x + 4)) q zs = toldGo N (8 * bn) ((orderN.take (x + 4)).drop (i + 1)) r2 (ls.set s y)) := by
            show _ = _
            rw [HSr.out, HDR.out, toldGo, hr]
          have hLO : Lb ≠ Ob := by omega
          have hLm : mv.ownBlock ≠ some Lb := fun e => by have := HML.out _ e; omega
          have hAm : mv.ownBlock ≠ some Ab := fun e => by have := HMVW.out _ e; omega
          have HL4 : Hid (w4.heap[Lb]? = some (.cells (I64s ls).toArray 3 (0, 0))) := (ht.block Lb hLlt hLO hLm).trans HLr.out
          have HA4 : Hid (w4.heap[Ab]? = some (.cells ordV 169 (0, 0))) := (ht.block Ab hAlt2 (by omega) hAm).trans HORDr.out
          have c4 := (cell_row0 w4 Lb s _ _ _ HL4.out).trans (i64s_get ls s (by rw [HLL.out]; exact hs19))
          have f4 := free_row0 w4 Lb s _ _ HL4.out
          have hset := heap_setCell_same w4 Lb s _ _ (.int .i64 (y : Int)) HL4.out
          rw [i64s_set] at hset
          have HSET := Lib.hid hset
          have HA5 : Hid ((w4.setCell ⟨Lb, s, none⟩ (.int .i64 (y : Int))).heap[Ab]? = some (.cells ordV 169 (0, 0))) := (Below.heap_setCell w4 _ _ _ (by show Ab ≠ Lb; omega)).trans HA4.out
          have HO5 := Lib.hid (ho.store Lb s (.int .i64 (y : Int)) hLO hLm hbl)
          have HT5 : Hid (Turn Ob mv mv w (w4.setCell ⟨Lb, s, none⟩ (.int .i64 (y : Int)))) := (HTr.out.trans ht).later ((Below.refl _ _).setCell (by show w.heap.size ≤ Lb; omega) _)
          have hs19i : (s : Int) < 19 := by omega
          clear hnum hgot hr ht ho hset
          go_wp2_with fail
          exact ⟨⟨i + 1, r2, ls.set s y, by go_num, by omega, by rw [List.length_set]; exact HLL.out, fun z hz => by
            rcases List.mem_or_eq_of_mem_set hz with h | h
            · exact HL15.out z h
            · omega, HA5.out, HSET.out, HO5.out, HT5.out, HS4.out⟩, by simp [intOf]; omega⟩
        · have HT4 := Lib.hid (HTr.out.trans ht)
          have HRES : Hid (codeOfLengthsN N (8 * bn) p = .error k) := by
            show _ = _
            unfold codeOfLengthsN
            rw [HR.out]
            simp only []
            rw [HZS.out]
            rw [HSr.out, HDR.out, toldGo, hr]
          clear hnum hgot hr ht
          go_wp2_with fail
          exact ⟨rfl, .inr ⟨k, HRES.out, rfl, HT4.out⟩⟩
      · have hlti : ¬ (i : Int) < (x : Int) + 4 := by omega
        obtain rfl : i = x + 4 := by omega
        have HDR : Hid (toldGo N (8 * bn) (orderN.take (x + 4)) q zs = .ok (r, ls)) := by
          show _ = _
          rw [HSr.out, List.drop_of_length_le (by rw [List.length_take]; exact Nat.min_le_left _ _), toldGo_nil]
        have hnums : NumsAt wr (some ⟨Lb, 0, none⟩) 19 ls := ⟨HLL.out, fun j hj => ⟨Lb, 0, rfl, by
          rw [Nat.zero_add]
          exact (cell_row0 wr Lb j _ _ _ HLr.out).trans (i64s_get ls j (by rw [HLL.out]; exact hj))⟩⟩
        have hco := codeOf_any wr (some ⟨Lb, 0, none⟩) 19 19 ls (by omega) (by omega) hnums HL15.out
        clear hnums
        go_wp2_with fail
        refine hco.mono ?_
        rintro e w5 ⟨rfl, hb5, hres⟩
        have hca := hres.at (Ob := Ob) (mv := mv) HL15.out (by rw [HLL.out]; omega) HOr.out.lt HOr.out.mid
        have HCA := Lib.hid hca
        have HO5 := Lib.hid (HOr.out.below hb5)
        have HT5 : Hid (Turn Ob mv mv w w5) := HTr.out.trans (Turn.of_below hb5)
        have hgo := good_any w5 mv wr.heap.size (codeOfN ls) hca
        clear hco hb5 hres hca
        generalize hCb : wr.heap.size = Cb at *
        cases hg : goodN (codeOfN ls) with
        | true =>
          rw [hg] at hgo
          have HRES : Hid (codeOfLengthsN N (8 * bn) p = .ok (r, codeOfN ls)) := by
            show _ = _
            unfold codeOfLengthsN
            rw [HR.out]
            simp only []
            rw [HZS.out]
            rw [HDR.out]
            simp only []
            rw [if_pos hg]
          clear hg
          go_wp2_with fail
          refine hgo.mono ?_
          rintro e w6 ⟨rfl, rfl⟩
          clear hgo
          go_wp2_with fail
          go_ret
          exact .inl ⟨r, codeOfN ls, Cb, HRES.out, rfl, HT5.out, HO5.out, HCA.out⟩
        | false =>
          rw [hg] at hgo
          have HRES : Hid (codeOfLengthsN N (8 * bn) p = .error 4) := by
            show _ = _
            unfold codeOfLengthsN
            rw [HR.out]
            simp only []
            rw [HZS.out]
            rw [HDR.out]
            simp only []
            rw [if_neg (by rw [hg]; simp)]
          clear hg
          go_wp2_with fail
          refine hgo.mono ?_
          rintro e w6 ⟨rfl, rfl⟩
          clear hgo
          go_wp2_with fail
          refine (with_any 4 w5).mono ?_
          rintro e w3 ⟨rfl, rfl⟩
          dsimp only [thrown]
          go_wp2_with fail
          exact ⟨rfl, .inr ⟨4, HRES.out, rfl, HT5.out⟩⟩
  · have HT2 := Lib.hid (HT1.out.trans ht)
    have HRES : Hid (codeOfLengthsN N (8 * bn) p = .error k) := by
      show _ = _
      unfold codeOfLengthsN
      rw [hr]
    clear hnum hgot hr ht
    go_wp2_with fail
    exact ⟨rfl, .inr ⟨k, HRES.out, rfl, HT2.out⟩⟩
end Go.Proofs.YtglgchjkonjpiaaGreatDoor
/-! The lengths of a block's own codes, plainly. -/
namespace Go.Proofs.YtglgchjkonjpiaaGreatDoor
set_option linter.unusedVariables false
open Plain
def lensAt (N L : Nat) (c : CodeS) (n p : Nat) (ls : List Nat) : Except Nat (Nat × List Nat) := lensGo N L c n (L + 1 - p) p ls
theorem adv_oneLen {N L : Nat} {c : CodeS} {p : Nat} {ls : List Nat} {len times q : Nat} (h : oneLen N L c p ls = .ok (len, times, q)) : p < q ∧ q ≤ L ∧ 1 ≤ times := by
  unfold oneLen at h
  cases hs : signN N L c p with
  | error e => rw [hs] at h; cases h
  | ok v =>
    obtain ⟨s, r⟩ := v
    have h1 := adv_sign N L c p s r hs
    rw [hs] at h
    simp only [] at h
    split at h
    · split at h
      · cases h
      · cases hn : num N L r 2 with
        | error e => rw [hn] at h; cases h
        | ok v =>
          obtain ⟨x, t⟩ := v
          have h2 := num_ok hn
          rw [hn] at h
          injection h with h; injection h with _ h; injection h with h3 h4; omega
    · split at h
      · cases hn : num N L r 3 with
        | error e => rw [hn] at h; cases h
        | ok v =>
          obtain ⟨x, t⟩ := v
          have h2 := num_ok hn
          rw [hn] at h
          injection h with h; injection h with _ h; injection h with h3 h4; omega
      · split at h
        · cases hn : num N L r 7 with
          | error e => rw [hn] at h; cases h
          | ok v =>
            obtain ⟨x, t⟩ := v
            have h2 := num_ok hn
            rw [hn] at h
            injection h with h; injection h with _ h; injection h with h3 h4; omega
        · injection h with h; injection h with _ h; injection h with h3 h4; omega
theorem lensGo_same {N L : Nat} {c : CodeS} {n : Nat} : ∀ (f g p : Nat) (ls : List Nat), p ≤ L → L + 1 - p ≤ f → L + 1 - p ≤ g → lensGo N L c n f p ls = lensGo N L c n g p ls
  | 0, g, p, ls, hp, h1, h2 => by omega
  | f + 1, 0, p, ls, hp, h1, h2 => by omega
  | f + 1, g + 1, p, ls, hp, h1, h2 => by
    rw [lensGo, lensGo]
    split
    · rfl
    · cases ho : oneLen N L c p ls with
      | error e => rfl
      | ok v =>
        obtain ⟨len, times, q⟩ := v
        have ha := adv_oneLen ho
        simp only []
        split
        · rfl
        · exact lensGo_same f g q _ ha.2.1 (by omega) (by omega)
theorem lensAt_end {N L : Nat} {c : CodeS} {n p : Nat} {ls : List Nat} (hp : p ≤ L) (h : n ≤ ls.length) : lensAt N L c n p ls = .ok (p, ls) := by
  unfold lensAt
  rw [show L + 1 - p = (L - p) + 1 by omega, lensGo, if_pos h]
theorem lensAt_err {N L : Nat} {c : CodeS} {n p k : Nat} {ls : List Nat} (hp : p ≤ L) (h : ¬ n ≤ ls.length) (ho : oneLen N L c p ls = .error k) : lensAt N L c n p ls = .error k := by
  unfold lensAt
  rw [show L + 1 - p = (L - p) + 1 by omega, lensGo, if_neg h, ho]
theorem lensAt_many {N L : Nat} {c : CodeS} {n p len times q : Nat} {ls : List Nat} (hp : p ≤ L) (h : ¬ n ≤ ls.length) (ho : oneLen N L c p ls = .ok (len, times, q)) (ht : n - ls.length < times) : lensAt N L c n p ls = .error 4 := by
  unfold lensAt
  rw [show L + 1 - p = (L - p) + 1 by omega, lensGo, if_neg h, ho]
  simp only []
  rw [if_pos ht]
theorem lensAt_on {N L : Nat} {c : CodeS} {n p len times q : Nat} {ls : List Nat} (hp : p ≤ L) (h : ¬ n ≤ ls.length) (ho : oneLen N L c p ls = .ok (len, times, q)) (ht : ¬ n - ls.length < times) : lensAt N L c n p ls = lensAt N L c n q (ls ++ List.replicate times len) := by
  have ha := adv_oneLen ho
  unfold lensAt
  rw [show L + 1 - p = (L - p) + 1 by omega, lensGo, if_neg h, ho]
  simp only []
  rw [if_neg ht]
  exact lensGo_same _ _ q _ ha.2.1 (by omega) (by omega)
theorem one_plain {N L : Nat} {c : CodeS} {p s q : Nat} {ls : List Nat} (h : signN N L c p = .ok (s, q)) (h1 : s ≠ 16) (h2 : s ≠ 17) (h3 : s ≠ 18) : oneLen N L c p ls = .ok (s, 1, q) := by
  unfold oneLen; rw [h]; simp only []; rw [if_neg h1, if_neg h2, if_neg h3]
theorem one_err {N L : Nat} {c : CodeS} {p k : Nat} {ls : List Nat} (h : signN N L c p = .error k) : oneLen N L c p ls = .error k := by unfold oneLen; rw [h]
theorem one_none {N L : Nat} {c : CodeS} {p q : Nat} {ls : List Nat} (h : signN N L c p = .ok (16, q)) (h1 : ls = []) : oneLen N L c p ls = .error 4 := by unfold oneLen; rw [h]; simp only []; rw [if_pos trivial, if_pos h1]
theorem one_16 {N L : Nat} {c : CodeS} {p q x r : Nat} {ls : List Nat} (h : signN N L c p = .ok (16, q)) (h1 : ls ≠ []) (h2 : num N L q 2 = .ok (x, r)) : oneLen N L c p ls = .ok (ls.getD (ls.length - 1) 0, 3 + x, r) := by unfold oneLen; rw [h]; simp only []; rw [if_pos trivial, if_neg h1, h2]
theorem one_16e {N L : Nat} {c : CodeS} {p q k : Nat} {ls : List Nat} (h : signN N L c p = .ok (16, q)) (h1 : ls ≠ []) (h2 : num N L q 2 = .error k) : oneLen N L c p ls = .error k := by unfold oneLen; rw [h]; simp only []; rw [if_pos trivial, if_neg h1, h2]
theorem one_17 {N L : Nat} {c : CodeS} {p q x r : Nat} {ls : List Nat} (h : signN N L c p = .ok (17, q)) (h2 : num N L q 3 = .ok (x, r)) : oneLen N L c p ls = .ok (0, 3 + x, r) := by unfold oneLen; rw [h]; simp only []; rw [if_neg (by omega), if_pos trivial, h2]
theorem one_17e {N L : Nat} {c : CodeS} {p q k : Nat} {ls : List Nat} (h : signN N L c p = .ok (17, q)) (h2 : num N L q 3 = .error k) : oneLen N L c p ls = .error k := by unfold oneLen; rw [h]; simp only []; rw [if_neg (by omega), if_pos trivial, h2]
theorem one_18 {N L : Nat} {c : CodeS} {p q x r : Nat} {ls : List Nat} (h : signN N L c p = .ok (18, q)) (h2 : num N L q 7 = .ok (x, r)) : oneLen N L c p ls = .ok (0, 11 + x, r) := by unfold oneLen; rw [h]; simp only []; rw [if_neg (by omega), if_neg (by omega), if_pos trivial, h2]
theorem one_18e {N L : Nat} {c : CodeS} {p q k : Nat} {ls : List Nat} (h : signN N L c p = .ok (18, q)) (h2 : num N L q 7 = .error k) : oneLen N L c p ls = .error k := by unfold oneLen; rw [h]; simp only []; rw [if_neg (by omega), if_neg (by omega), if_pos trivial, h2]
theorem sg_lt (ls : List Nat) (h0 : 0 < ls.length) (j : Nat) : (sgOf ls).getD j 0 < ls.length := by
  by_cases hj : j < (sgOf ls).length
  · rw [List.getD_eq_getElem?_getD, List.getElem?_eq_getElem hj]
    have hm : (sgOf ls)[j] ∈ sgOf ls := List.getElem_mem hj
    show (sgOf ls)[j] < _
    generalize (sgOf ls)[j] = x at *
    unfold sgOf at hm
    rw [List.mem_flatMap] at hm
    obtain ⟨n, -, hn⟩ := hm
    unfold idxOf at hn
    exact List.mem_range.1 (List.mem_filter.1 hn).1
  · rw [List.getD_eq_getElem?_getD, List.getElem?_eq_none (by omega)]; simpa using h0
theorem signGo_mem (N L : Nat) (c : CodeS) : ∀ (f l p x first ahead s q : Nat), signGo N L c f l p x first ahead = .ok (s, q) → ∃ j, s = c.sg.getD j 0
  | 0, l, p, x, first, ahead, s, q, h => by simp [signGo] at h
  | f + 1, l, p, x, first, ahead, s, q, h => by
    rw [signGo] at h
    cases hn : num N L p 1 with
    | error e => rw [hn] at h; cases h
    | ok v =>
      obtain ⟨b, r⟩ := v
      rw [hn] at h
      simp only [] at h
      split at h
      · injection h with h; injection h with h _; exact ⟨_, h.symm⟩
      · exact signGo_mem N L c f _ _ _ _ _ s q h
end Go.Proofs.YtglgchjkonjpiaaGreatDoor
