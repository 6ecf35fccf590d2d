/- A code in memory; its next sign: the walk. -/
import Derived.Test.YtkminkeaeclanaaSignsFix
namespace Go.Proofs.Ytkminkeaeclanaa
open Go.RowKit Plain
set_option linter.unusedVariables false
/-- A code's numbers fit together. -/
structure CodeOk (c : CodeS) : Prop where
  len : c.cnt.length = 16
  zero : c.cnt.getD 0 0 = 0
  sum : c.cnt.sum = c.sg.length
  longest : c.longest ≤ 15
  few : c.sg.length ≤ 100000
  small : ∀ j, c.sg.getD j 0 ≤ 100000
/-- A code in memory, apart from the reader's block and row. -/
structure CodeAt (Ob : Nat) (w : World) (mv : Value) (Cb : Nat) (c : CodeS) : Prop where
  ok : CodeOk c
  apart : Cb ≠ Ob ∧ mv.ownBlock ≠ some Cb
  cnt : ∀ k, k < 16 → w.cell? ⟨Cb, k, none⟩ = some (.int .i64 ((c.cnt.getD k 0 : Nat) : Int))
  longest : w.cell? ⟨Cb, 17, none⟩ = some (.int .i64 (c.longest : Int))
  row : ∃ sa sc, w.cell? ⟨Cb, 16, none⟩ = some (.slice sa c.sg.length sc) ∧ ∀ j, j < c.sg.length → ∃ g o, sa = some ⟨g, o, none⟩ ∧ g ≠ Ob ∧ mv.ownBlock ≠ some g ∧ w.cell? ⟨g, o + j, none⟩ = some (.int .i64 ((c.sg.getD j 0 : Nat) : Int))
theorem Turn.keeps {Ob : Nat} {mv mv' : Value} {w w' : World} (ht : Turn Ob mv mv' w w') {b i : Nat} {v : Value} (h : w.cell? ⟨b, i, none⟩ = some v) (h1 : b ≠ Ob) (h2 : mv.ownBlock ≠ some b) : w'.cell? ⟨b, i, none⟩ = some v := by
  have hlt : b < w.heap.size := World.block_lt_of_cell? w _ h
  rw [World.cell?_of_block (w := w) (w' := w') (a := ⟨b, i, none⟩) (ht.block b hlt h1 h2)]
  exact h
theorem Turn.apart {Ob : Nat} {mv mv' : Value} {w w' : World} (ht : Turn Ob mv mv' w w') {b i : Nat} {v : Value} (h : w.cell? ⟨b, i, none⟩ = some v) (h2 : mv.ownBlock ≠ some b) : mv'.ownBlock ≠ some b := fun e => by
  have hlt : b < w.heap.size := World.block_lt_of_cell? w _ h
  rcases ht.row b e with h | h
  · exact h2 h
  · omega
theorem CodeAt.turn {Ob : Nat} {w w' : World} {mv mv' : Value} {Cb : Nat} {c : CodeS} (h : CodeAt Ob w mv Cb c) (ht : Turn Ob mv mv' w w') : CodeAt Ob w' mv' Cb c := by
  obtain ⟨h0, ⟨h1, h2⟩, h3, h4, sa, sc, h5, h6⟩ := h
  refine ⟨h0, ⟨h1, ht.apart h4 h2⟩, fun k hk => ht.keeps (h3 k hk) h1 h2, ht.keeps h4 h1 h2, sa, sc, ht.keeps h5 h1 h2, fun j hj => ?_⟩
  obtain ⟨g, o, e, h7, h8, h9⟩ := h6 j hj
  exact ⟨g, o, e, h7, ht.apart h9 h8, ht.keeps h9 h7 h8⟩
theorem or_even (x b y : Nat) (hx : x = 2 * y) (hxl : x ≤ 100000) (hb : b < 2) : bits .or .i64 (x : Int) (b : Int) = ((x + b : Nat) : Int) := by
  have := or_bit y b (by omega) hb
  rw [show (y : Int) * 2 = (x : Int) by omega, ← hx] at this
  exact this
theorem sum_take_le (l : List Nat) (k : Nat) (hk : k < l.length) : (l.take k).sum + l.getD k 0 ≤ l.sum := by
  have h1 : l.sum = (l.take k).sum + (l.drop k).sum := by rw [← List.sum_append, List.take_append_drop]
  rw [h1, List.drop_eq_getElem_cons hk, List.sum_cons, List.getD_eq_getElem?_getD, List.getElem?_eq_getElem hk]
  simp
theorem sum_take_succ (l : List Nat) (k : Nat) (hk : k < l.length) : (l.take (k + 1)).sum = (l.take k).sum + l.getD k 0 := by
  rw [List.take_succ_eq_append_getElem hk, List.sum_append, List.getD_eq_getElem?_getD, List.getElem?_eq_getElem hk]
  simp
set_option maxRecDepth 100000 in
set_option maxHeartbeats 8000000 in
theorem sign_any {w0 : World} {Ob : Nat} {ba : Option Addr} {bn bc N most : Nat} {bs : List Int} (HS : SrcB w0 ba bn bc N most bs) (w : World) (p : Nat) (mv : Value) (made : List Int) (H : OutL 8 w0 Ob ba bn bc N most w p mv made) (Cb : Nat) (c : CodeS) (HC : CodeAt Ob w mv Cb c) :
    Calls Try.prog 34 #[.pointer (some ⟨Ob, 0, none⟩), .pointer (some ⟨Cb, 0, none⟩)] w (Got w0 Ob ba bn bc N most w mv made (signN N (8 * bn) c p)) := by
  have HSS := Lib.hid HS
  have HO := Lib.hid H
  have HCC := Lib.hid HC
  have hl15 := HC.ok.longest
  have hfew := HC.ok.few
  clear HS H HC
  go_enter Try.func34, Try.ntmps34
  go_wp2_with fail
  go_loopw [5, 6, 7, 8] (fun vx vf va vl wr => ∃ (l q x first ahead y : Nat), vl = .int .i64 (l : Int) ∧ vx = .int .i64 (x : Int) ∧ vf = .int .i64 (first : Int) ∧ va = .int .i64 (ahead : Int) ∧ 1 ≤ l ∧ l ≤ c.longest + 1 ∧ x = 2 * y ∧ x < 2 ^ l ∧ first ≤ x ∧ ahead = (c.cnt.take l).sum ∧
      OutL 8 w0 Ob ba bn bc N most wr q mv made ∧ Turn Ob mv mv w wr ∧ signN N (8 * bn) c p = signGo N (8 * bn) c (c.longest + 1 - l) l q x first ahead) (fun _ _ _ vl _ => 17 - (intOf vl).toNat)
  case atStart =>
    refine ⟨1, p, 0, 0, 0, 0, rfl, rfl, rfl, rfl, by omega, by omega, rfl, by decide, by omega, ?_, HO.out, Turn.refl _ _ _, rfl⟩
    rw [sum_take_succ _ 0 (by rw [HCC.out.ok.len]; omega), HCC.out.ok.zero]; simp
  case round =>
    obtain ⟨l, q, x, first, ahead, y, rfl, rfl, rfl, rfl, hl1, hl2, hx, hx2, hfx, hah, ho, ht, hs⟩ := hrel
    have HO1 := Lib.hid ho
    have HT1 := Lib.hid ht
    have HS1 := Lib.hid hs
    have hC1 := HCC.out.turn ht
    have HC1 := Lib.hid hC1
    have c17 := hC1.longest
    have hxl : x < 65536 := by
      have := Nat.pow_le_pow_right (n := 2) (by omega) (show l ≤ 16 by omega)
      omega
    have hahl : ahead ≤ c.sg.length := by
      rw [hah, ← HCC.out.ok.sum]
      have h1 : c.cnt.sum = (c.cnt.take l).sum + (c.cnt.drop l).sum := by rw [← List.sum_append, List.take_append_drop]
      omega
    have HX := Lib.hid hx
    have HX2 := Lib.hid hx2
    have HAH := Lib.hid hah
    have hone := one_any HSS.out wr q mv made ho
    clear ho ht hs hC1 HO hx hx2 hah
    by_cases hll : l ≤ c.longest
    · have hlli : (l : Int) ≤ (c.longest : Int) := by omega
      have hn16 : l < 16 := by omega
      have HF : Hid (c.longest + 1 - l = (c.longest - l) + 1) := by show _ = _; omega
      go_wp2_with fail
      refine hone.mono ?_
      intro e w2 hgot
      obtain ⟨b, r, hr, rfl, ht, ho⟩ | ⟨k, hr, rfl, ht⟩ := hgot.lift
      · have hb2 : b < 2 := (num_ok hr).1
        have hor := or_even x b y HX.out (by omega) hb2
        have HR := Lib.hid hr
        have HO2 := Lib.hid ho
        have HT2 := Lib.hid (HT1.out.trans ht)
        have HC2 := Lib.hid (HC1.out.turn ht)
        obtain ⟨n, hn⟩ : ∃ n, c.cnt.getD l 0 = n := ⟨_, rfl⟩
        have hcn := HC2.out.cnt l hn16
        rw [hn] at hcn
        have HN := Lib.hid hn
        have hsum : ahead + n ≤ c.sg.length := by
          rw [← hn, HAH.out, ← HCC.out.ok.sum]
          exact sum_take_le _ _ (by rw [HCC.out.ok.len]; exact hn16)
        obtain ⟨z, hz⟩ : ∃ z, x + b = z := ⟨_, rfl⟩
        rw [hz] at hor
        have HZ := Lib.hid hz
        have hz1 : first ≤ z := by omega
        have hz2 : z ≤ 65536 := by omega
        have HSTEP : Hid (signN N (8 * bn) c p = if z < first + n then .ok (c.sg.getD (ahead + z - first) 0, r) else signGo N (8 * bn) c (c.longest - l) (l + 1) r (2 * z) (2 * (first + n)) (ahead + n)) := by
          show _ = _
          rw [HS1.out, HF.out, signGo, HR.out]
          simp only []
          rw [HN.out, hz]
        clear hone hgot hr ht ho hn hz c17
        by_cases hlt : z < first + n
        · have hlti : (z : Int) - (first : Int) < (n : Int) := by omega
          obtain ⟨sa, sc, h16, hrow⟩ := HC2.out.row
          obtain ⟨i, hi⟩ : ∃ i, ahead + z - first = i := ⟨_, rfl⟩
          have hii : (ahead : Int) + (z : Int) - (first : Int) = (i : Int) := by omega
          have hil : i < c.sg.length := by omega
          have hilt : (i : Int) < (c.sg.length : Int) := by omega
          obtain ⟨g, o, hsa, hgO, hgm, hcell⟩ := hrow i hil
          subst hsa
          obtain ⟨s, hs⟩ : ∃ s, c.sg.getD i 0 = s := ⟨_, rfl⟩
          have HRES : Hid (signN N (8 * bn) c p = .ok (s, r)) := by show _ = _; rw [HSTEP.out, if_pos hlt, hi, hs]
          rw [hs] at hcell
          clear hrow hi hs hgO hgm
          go_wp2_with fail
          go_ret
          exact ⟨HT2.out, .inl ⟨s, r, HRES.out, rfl, HO2.out⟩⟩
        · have hlti : ¬ (z : Int) - (first : Int) < (n : Int) := by omega
          have HRES : Hid (signN N (8 * bn) c p = signGo N (8 * bn) c (c.longest + 1 - (l + 1)) (l + 1) r (2 * z) (2 * (first + n)) (ahead + n)) := by
            show _ = _; rw [HSTEP.out, if_neg hlt, show c.longest + 1 - (l + 1) = c.longest - l by omega]
          have HP : Hid (2 * z < 2 ^ (l + 1)) := by
            show _ < _
            have := HX2.out
            have hz := HZ.out
            have hxy := HX.out
            have he : 2 ^ l = 2 * 2 ^ (l - 1) := by rw [← Nat.pow_succ']; congr 1; omega
            rw [Nat.pow_succ]
            omega
          have HAH2 : Hid (ahead + n = (c.cnt.take (l + 1)).sum) := by show _ = _; rw [sum_take_succ _ _ (by rw [HCC.out.ok.len]; exact hn16), ← HAH.out, HN.out]
          go_wp2_with fail
          exact ⟨⟨l + 1, r, 2 * z, 2 * (first + n), ahead + n, z, by go_num, by go_num, by go_num, by go_num, by omega, by omega, rfl, HP.out, by omega, HAH2.out, HO2.out, HT2.out, HRES.out⟩, by simp [intOf]; omega⟩
      · have HT2 := Lib.hid (HT1.out.trans ht)
        have HRES : Hid (signN N (8 * bn) c p = .error k) := by
          show _ = _
          rw [HS1.out, HF.out, signGo, hr]
        clear hone hgot hr ht
        go_wp2_with fail
        exact ⟨rfl, HT2.out, .inr ⟨k, HRES.out, rfl⟩⟩
    · have hlli : ¬ (l : Int) ≤ (c.longest : Int) := by omega
      have HRES : Hid (signN N (8 * bn) c p = .error 4) := by
        show _ = _
        rw [HS1.out, show c.longest + 1 - l = 0 by omega, signGo]
      go_wp2_with fail
      refine (with_any 4 wr).mono ?_
      rintro e w3 ⟨rfl, rfl⟩
      dsimp only [thrown]
      go_wp2_with fail
      exact ⟨rfl, HT1.out, .inr ⟨4, HRES.out, rfl⟩⟩
end Go.Proofs.Ytkminkeaeclanaa
