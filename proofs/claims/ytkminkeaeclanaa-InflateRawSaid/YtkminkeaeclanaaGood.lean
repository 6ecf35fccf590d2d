/- Whether a code is good: the walks. -/
import Derived.Test.YtkminkeaeclanaaCodeOf
namespace Go.Proofs.Ytkminkeaeclanaa
open Go.RowKit Plain
set_option linter.unusedVariables false
theorem CodeRes.at {Ob Cb : Nat} {w : World} {mv : Value} {ls : List Nat} (h : CodeRes Cb w ls) (h15 : ∀ x ∈ ls, x ≤ 15) (hl : ls.length ≤ 1000) (hO : Ob < Cb) (hm : ∀ k, mv.ownBlock = some k → k < Cb) : CodeAt Ob w mv Cb (codeOfN ls) := by
  obtain ⟨sb, sc, hh, hlt, hc⟩ := h
  obtain ⟨q1, q2, q3, -⟩ := row_cells hh (cntOf_len _)
  refine ⟨codeOk ls h15 hl, ⟨by omega, fun e => by have := hm _ e; omega⟩, q1, q3, some ⟨sb, 0, none⟩, sc, q2, fun j hj => ⟨sb, 0, rfl, by omega, fun e => by have := hm _ e; omega, ?_⟩⟩
  rw [Nat.zero_add]
  exact hc j hj
theorem roomGo_neg (cnt : List Nat) (f n : Nat) (r : Int) (h : 2 * r - (cnt.getD n 0 : Int) < 0) : roomGo cnt (f + 1) n r = -1 := by rw [roomGo, if_pos h]
theorem roomGo_pos (cnt : List Nat) (f n : Nat) (r : Int) (h : ¬ 2 * r - (cnt.getD n 0 : Int) < 0) : roomGo cnt (f + 1) n r = roomGo cnt f (n + 1) (2 * r - (cnt.getD n 0 : Int)) := by rw [roomGo, if_neg h]
theorem CodeOk.cnt_le {c : CodeS} (h : CodeOk c) (k : Nat) (hk : k < 16) : c.cnt.getD k 0 ≤ 100000 := by
  have h1 := sum_take_le c.cnt k (by rw [h.len]; exact hk)
  have h2 := h.few
  rw [← h.sum] at h2
  omega
set_option maxRecDepth 100000 in
set_option maxHeartbeats 8000000 in
theorem good_any {Ob : Nat} (w : World) (mv : Value) (Cb : Nat) (c : CodeS) (HC : CodeAt Ob w mv Cb c) : Calls Try.prog 50 #[.pointer (some ⟨Cb, 0, none⟩)] w fun e w' => e = .returned (.bool (goodN c)) ∧ w = w' := by
  have HCC := Lib.hid HC
  obtain ⟨sa, sc, h16, -⟩ := HC.row
  have h17 := HC.longest
  have hl15 := HC.ok.longest
  have hfew := HC.ok.few
  clear HC
  go_enter Try.func50, Try.ntmps50
  go_wp2_with fail
  go_loop [3, 4] (fun vr vn => ∃ (l r : Nat), vn = .int .i64 (l : Int) ∧ vr = .int .i64 (r : Int) ∧ 1 ≤ l ∧ l ≤ 16 ∧ r ≤ 2 ^ (l - 1) ∧ roomGo c.cnt 15 1 1 = roomGo c.cnt (16 - l) l (r : Int)) (fun _ vn => 17 - (intOf vn).toNat)
  case atStart => exact ⟨1, 1, rfl, rfl, by omega, by omega, by decide, rfl⟩
  case round =>
    obtain ⟨l, r, rfl, rfl, h1, h2, hr, hs⟩ := hrel
    have HR := Lib.hid hr
    have HS := Lib.hid hs
    have hr5 : r ≤ 32768 := by
      have := Nat.pow_le_pow_right (n := 2) (by omega) (show l - 1 ≤ 15 by omega)
      omega
    clear hr hs
    by_cases hl : l ≤ 15
    · have hli : (l : Int) ≤ 15 := by omega
      have hcell := HCC.out.cnt l (by omega)
      have hcl := HCC.out.ok.cnt_le l (by omega)
      obtain ⟨n, hn⟩ : ∃ n, c.cnt.getD l 0 = n := ⟨_, rfl⟩
      rw [hn] at hcell hcl
      have HN := Lib.hid hn
      have HF : Hid (16 - l = (16 - (l + 1)) + 1) := by show _ = _; omega
      clear hn
      by_cases hneg : 2 * r < n
      · have hni : 2 * (r : Int) - (n : Int) < 0 := by omega
        have HRES : Hid (goodN c = false) := by
          show _ = _
          unfold goodN
          rw [HS.out, HF.out, roomGo_neg _ _ _ _ (by rw [HN.out]; exact hni)]
          rfl
        go_wp2_with fail
        go_ret
        exact ⟨by rw [HRES.out]; rfl, rfl⟩
      · have hni : ¬ 2 * (r : Int) - (n : Int) < 0 := by omega
        obtain ⟨z, hz⟩ : ∃ z, 2 * r - n = z := ⟨_, rfl⟩
        have hzi : 2 * (r : Int) - (n : Int) = (z : Int) := by omega
        have HRES : Hid (roomGo c.cnt 15 1 1 = roomGo c.cnt (16 - (l + 1)) (l + 1) (z : Int)) := by
          show _ = _
          rw [HS.out, HF.out, roomGo_pos _ _ _ _ (by rw [HN.out]; exact hni), HN.out, hzi]
        have HZ : Hid (z ≤ 2 ^ (l + 1 - 1)) := by
          show _ ≤ _
          have h5 := HR.out
          rw [show l + 1 - 1 = (l - 1) + 1 by omega, Nat.pow_succ]
          omega
        have hz0 : ¬ (z : Int) < 0 := by omega
        clear hz
        go_wp2_with fail
        go_round
        case rel => exact ⟨l + 1, z, by go_num, rfl, by omega, by omega, HZ.out, HRES.out⟩
        case measure => simp [intOf]; omega
    · have hli : ¬ (l : Int) ≤ 15 := by omega
      obtain rfl : l = 16 := by omega
      have hro : roomGo c.cnt 15 1 1 = (r : Int) := by rw [HS.out]; rfl
      have HRO := Lib.hid hro
      clear hro
      by_cases h0 : r = 0
      · subst h0
        have HRES : Hid (goodN c = true) := by show _ = _; unfold goodN; rw [HRO.out]; rfl
        go_wp2_with fail
        go_ret
        exact ⟨by rw [HRES.out]; rfl, rfl⟩
      · have h0i : ((r : Int) == 0) = false := by simp; omega
        by_cases hs1 : c.sg.length = 1
        · have hs1i : ((c.sg.length : Int) == 1) = true := by simp; omega
          by_cases hg1 : c.longest = 1
          · have hg1i : ((c.longest : Int) == 1) = true := by simp; omega
            have HRES : Hid (goodN c = true) := by show _ = _; unfold goodN; rw [HRO.out]; simp [hs1, hg1]
            clear hs1 hg1
            go_wp2_with fail
            go_ret
            exact ⟨by rw [HRES.out]; rfl, rfl⟩
          · have hg1i : ((c.longest : Int) == 1) = false := by simp; omega
            have HRES : Hid (goodN c = false) := by show _ = _; unfold goodN; rw [HRO.out]; simp [hg1]; omega
            clear hs1
            go_wp2_with fail
            go_ret
            exact ⟨by rw [HRES.out]; rfl, rfl⟩
        · have hs1i : ((c.sg.length : Int) == 1) = false := by simp; omega
          have HRES : Hid (goodN c = false) := by show _ = _; unfold goodN; rw [HRO.out]; simp [hs1]; omega
          go_wp2_with fail
          go_ret
          exact ⟨by rw [HRES.out]; rfl, rfl⟩
set_option maxRecDepth 100000 in
set_option maxHeartbeats 8000000 in
theorem goodDist_any {Ob : Nat} (w : World) (mv : Value) (Cb : Nat) (c : CodeS) (HC : CodeAt Ob w mv Cb c) : Calls Try.prog 51 #[.pointer (some ⟨Cb, 0, none⟩)] w fun e w' => e = .returned (.bool (c.sg == [] || goodN c)) ∧ w = w' := by
  have hgood := good_any w mv Cb c HC
  obtain ⟨sa, sc, h16, -⟩ := HC.row
  have hfew := HC.ok.few
  clear HC
  obtain ⟨n, hn⟩ : ∃ n, c.sg.length = n := ⟨_, rfl⟩
  rw [hn] at h16 hfew
  have HN := Lib.hid hn
  clear hn
  go_enter Try.func51, Try.ntmps51
  by_cases h0 : n = 0
  · subst h0
    have HE : Hid ((c.sg == [] || goodN c) = true) := by show _ = _; rw [List.eq_nil_of_length_eq_zero HN.out]; rfl
    go_wp2_with fail
    go_ret
    exact ⟨by rw [HE.out]; rfl, rfl⟩
  · have h0i : ((n : Int) == 0) = false := by simp; omega
    have HE : Hid ((c.sg == [] || goodN c) = goodN c) := by
      show _ = _
      cases hc : c.sg with
      | nil => have := HN.out; rw [hc] at this; simp at this; omega
      | cons a b => rfl
    go_wp2_with fail
    refine hgood.mono ?_
    rintro e w2 ⟨rfl, rfl⟩
    clear hgood
    go_wp2_with fail
    go_ret
    exact ⟨by rw [HE.out]; rfl, rfl⟩
set_option maxRecDepth 100000 in
set_option maxHeartbeats 8000000 in
theorem howMany_any {w0 : World} {Ob : Nat} {ba : Option Addr} {bn bc N most : Nat} {bs : List Int} (HS : SrcB w0 ba bn bc N most bs) (w : World) (p : Nat) (mv : Value) (made : List Int) (H : OutL 8 w0 Ob ba bn bc N most w p mv made) (n least mo : Nat) (hn : n ≤ 16) (hl : least ≤ 1000) (hm : mo ≤ 1000) :
    Calls Try.prog 46 #[.pointer (some ⟨Ob, 0, none⟩), .int .i64 (n : Int), .int .i64 (least : Int), .int .i64 (mo : Int)] w (Got w0 Ob ba bn bc N most w mv made (howManyN N (8 * bn) p n least mo)) := by
  have hnum := number_any HS w p mv made H n hn
  clear HS H
  go_enter Try.func46, Try.ntmps46
  go_wp2_with fail
  refine hnum.mono ?_
  intro e w2 hgot
  obtain ⟨x, q, hr, rfl, ht, ho⟩ | ⟨k, hr, rfl, ht⟩ := hgot.lift
  · have hx : x ≤ 65536 := by
      have h1 := (num_ok hr).1
      have h2 := Nat.pow_le_pow_right (n := 2) (by omega) hn
      omega
    have HR := Lib.hid hr
    have HT := Lib.hid ht
    have HO := Lib.hid ho
    clear hnum hgot hr ht ho
    by_cases hbig : mo < x + least
    · have hbi : (mo : Int) < (x : Int) + (least : Int) := by omega
      go_wp2_with fail
      refine (with_any 4 w2).mono ?_
      rintro e w3 ⟨rfl, rfl⟩
      dsimp only [thrown]
      go_wp2_with fail
      exact ⟨rfl, HT.out, .inr ⟨4, by unfold howManyN; rw [HR.out]; simp only []; rw [if_pos hbig], rfl⟩⟩
    · have hbi : ¬ (mo : Int) < (x : Int) + (least : Int) := by omega
      go_wp2_with fail
      go_ret
      exact ⟨HT.out, .inl ⟨x + least, q, by unfold howManyN; rw [HR.out]; simp only []; rw [if_neg hbig], rfl, HO.out⟩⟩
  · have HR := Lib.hid hr
    have HT := Lib.hid ht
    clear hnum hgot hr ht
    go_wp2_with fail
    exact ⟨rfl, HT.out, .inr ⟨k, by unfold howManyN; rw [HR.out], rfl⟩⟩
end Go.Proofs.Ytkminkeaeclanaa
