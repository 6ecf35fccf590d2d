/- Orders, of any graph: the walk. -/
import Derived.Test.YthadgepihjigeaaAheadMath
namespace Go.Proofs.Ythadgepihjigeaa
open Go.RowKit Plain
set_option linter.unusedVariables false
theorem order_got (G : List (List Int)) (a : Option Addr) (c : Nat) (qs : List Rw) (w : World) (h : GraphIn w a G.length qs) (hG : gr qs = G) (hs : Small G) :
    Calls Try.prog 9 #[.slice a G.length c] w fun e w' => OrdQ w G e w' ∧ Below w.heap.size w w' := by
  have h1 := order_any a G.length c qs w h.graph (by have := hs.len; omega) (small_rows hs hG)
  rwa [hG] at h1
theorem refOrder_got (G : List (List Int)) (a : Option Addr) (c : Nat) (qs : List Rw) (w : World) (h : GraphIn w a G.length qs) (hG : gr qs = G) (hs : Small G) :
    Calls Try.prog 10 #[.slice a G.length c] w fun e w' => RefOrdQ w G e w' ∧ Below w.heap.size w w' := by
  have h1 := refOrder_any a G.length c qs w h.graph (by have := hs.len; omega) (small_rows hs hG)
  rwa [hG] at h1
theorem ref_yes {w w' : World} {G : List (List Int)} {o : List Int} {e : Ending} (h : RefOrdQ w G e w') (ho : orderN G = some o) : ∃ a c, e = .returned (.tuple #[.slice a o.length c, .bool true]) ∧ w'.ownsRow w.heap.size 3 1 (.slice a o.length c) o.length (I64 o) := by
  rcases h with ⟨o', v, h1, rfl, h2⟩ | ⟨h1, -⟩
  · rw [ho] at h1
    injection h1 with h1
    subst h1
    obtain ⟨a, c, rfl⟩ := row_form h2
    exact ⟨a, c, rfl, h2⟩
  · rw [ho] at h1; cases h1
theorem ref_no {w w' : World} {G : List (List Int)} {e : Ending} (h : RefOrdQ w G e w') (ho : orderN G = none) : e = .returned (.tuple #[.slice none 0 0, .bool false]) := by
  rcases h with ⟨o', v, h1, rfl, h2⟩ | ⟨h1, h2⟩
  · rw [ho] at h1; cases h1
  · exact h2
set_option maxRecDepth 100000 in
set_option maxHeartbeats 8000000 in
theorem orders_any (a : Option Addr) (n c : Nat) (ps : List Rw) (w : World) (h : GraphIn w a n ps) (hn : n ≤ 9223372036854775807) :
    Calls Try.prog 3 #[.slice a n c] w fun e w' => e = .returned (.bool true) ∧ Below w.heap.size w w' := by
  have HG := Lib.hid h
  clear h
  have HS1 := few_small ps
  have HS2 := ahead_small HS1
  obtain ⟨z, hz⟩ := (ahead_is (gr (fewR ps))).order
  have hzl := (order_some hz).2
  have HZ := Lib.hid hz
  clear hz
  go_enter Try.func3, Try.ntmps3
  go_wp2_with fail
  refine (few_got a n c ps w HG.out hn).mono ?_
  rintro e w1 ⟨⟨ga, gc, qs, rfl, hg, hG⟩, hb⟩
  have HB1 := Lib.hid hb
  have HG1 := Lib.hid hg
  have HQ1 := Lib.hid hG
  clear hb hg hG
  cases ho : orderN (gr (fewR ps)) with
  | some o =>
    have hol := (order_some ho).2
    have ho30 : o.length ≤ 30 := by rw [hol]; exact HS1.len
    have HO := Lib.hid ho
    clear ho hol
    go_wp2_with fail
    refine (order_got _ ga gc qs w1 HG1.out HQ1.out HS1).mono ?_
    rintro e w2 ⟨hq, hb⟩
    obtain ⟨xa, xc, rfl, hx⟩ := ord_yes hq HO.out
    have HX := Lib.hid (ints_own hx)
    have HG2 := Lib.hid (HG1.out.below hb)
    have HB2 := Lib.hid (HB1.out.trans (hb.mono HB1.out.size))
    clear hb hq hx HG1 HB1
    go_wp2_with fail
    refine (refOrder_got _ ga gc qs w2 HG2.out HQ1.out HS1).mono ?_
    rintro e w3 ⟨hq, hb⟩
    obtain ⟨ya, yc, rfl, hy⟩ := ref_yes hq HO.out
    have HY := Lib.hid (ints_own hy)
    have HX3 := Lib.hid (HX.out.below hb)
    have HB3 := Lib.hid (HB2.out.trans (hb.mono HB2.out.size))
    clear hb hq hy HX HB2 HG2 HQ1
    go_wp2_with fail
    refine (ahead_got a n c ps w3 (HG.out.below HB3.out) hn).mono ?_
    rintro e w4 ⟨⟨ga2, gc2, qs2, rfl, hg, hG⟩, hb⟩
    have HB4 := Lib.hid (HB3.out.trans (hb.mono HB3.out.size))
    have HX4 := Lib.hid (HX3.out.below hb)
    have HY4 := Lib.hid (HY.out.below hb)
    have HG2 := Lib.hid hg
    have HQ2 := Lib.hid hG
    clear hb hg hG HB3 HX3 HY
    go_wp2_with fail
    refine (order_got _ ga2 gc2 qs2 w4 HG2.out HQ2.out HS2).mono ?_
    rintro e w5 ⟨hq, hb⟩
    obtain ⟨za, zc, rfl, hzo⟩ := ord_yes hq HZ.out
    have HB5 := Lib.hid (HB4.out.trans (hb.mono HB4.out.size))
    have HX5 := Lib.hid (HX4.out.below hb)
    have HY5 := Lib.hid (HY4.out.below hb)
    clear hb hq hzo HG2 HQ2 HB4 HX4 HY4
    rw [hzl]
    go_wp2_with fail
    refine (known_any w5).mono ?_
    rintro e w6 ⟨rfl, hb⟩
    have HB6 := Lib.hid (HB5.out.trans (hb.mono HB5.out.size))
    have HX6 := Lib.hid (HX5.out.below hb)
    have HY6 := Lib.hid (HY5.out.below hb)
    clear hb HB5 HX5 HY5
    go_wp2_with fail
    refine (same_any xa o.length xc o ya o.length yc o w6 HX6.out rfl (by omega) HY6.out rfl (by omega)).mono ?_
    rintro e w7 ⟨rfl, hb⟩
    have HB7 := Lib.hid (HB6.out.trans (hb.mono HB6.out.size))
    have hd : decide (o = o) = true := decide_eq_true rfl
    rw [hd]
    clear hb hd HX6 HY6 HB6
    go_wp2_with fail
    go_ret
    exact ⟨rfl, HB7.out⟩
  | none =>
    have HO := Lib.hid ho
    clear ho
    go_wp2_with fail
    refine (order_got _ ga gc qs w1 HG1.out HQ1.out HS1).mono ?_
    rintro e w2 ⟨hq, hb⟩
    obtain rfl := ord_no hq HO.out
    have HG2 := Lib.hid (HG1.out.below hb)
    have HB2 := Lib.hid (HB1.out.trans (hb.mono HB1.out.size))
    clear hb hq HG1 HB1
    go_wp2_with fail
    refine (refOrder_got _ ga gc qs w2 HG2.out HQ1.out HS1).mono ?_
    rintro e w3 ⟨hq, hb⟩
    obtain rfl := ref_no hq HO.out
    have HB3 := Lib.hid (HB2.out.trans (hb.mono HB2.out.size))
    clear hb hq HB2 HG2 HQ1
    go_wp2_with fail
    refine (ahead_got a n c ps w3 (HG.out.below HB3.out) hn).mono ?_
    rintro e w4 ⟨⟨ga2, gc2, qs2, rfl, hg, hG⟩, hb⟩
    have HB4 := Lib.hid (HB3.out.trans (hb.mono HB3.out.size))
    have HG2 := Lib.hid hg
    have HQ2 := Lib.hid hG
    clear hb hg hG HB3
    go_wp2_with fail
    refine (order_got _ ga2 gc2 qs2 w4 HG2.out HQ2.out HS2).mono ?_
    rintro e w5 ⟨hq, hb⟩
    obtain ⟨za, zc, rfl, hzo⟩ := ord_yes hq HZ.out
    have HB5 := Lib.hid (HB4.out.trans (hb.mono HB4.out.size))
    clear hb hq hzo HG2 HQ2 HB4
    rw [hzl]
    go_wp2_with fail
    refine (known_any w5).mono ?_
    rintro e w6 ⟨rfl, hb⟩
    have HB6 := Lib.hid (HB5.out.trans (hb.mono HB5.out.size))
    clear hb HB5
    go_wp2_with fail
    refine (same_any none 0 0 [] none 0 0 [] w6 (.inl rfl) rfl (by omega) (.inl rfl) rfl (by omega)).mono ?_
    rintro e w7 ⟨rfl, hb⟩
    have HB7 := Lib.hid (HB6.out.trans (hb.mono HB6.out.size))
    have hd : decide (([] : List Int) = []) = true := decide_eq_true rfl
    rw [hd]
    clear hb hd HB6
    go_wp2_with fail
    go_ret
    exact ⟨rfl, HB7.out⟩
end Go.Proofs.Ythadgepihjigeaa
