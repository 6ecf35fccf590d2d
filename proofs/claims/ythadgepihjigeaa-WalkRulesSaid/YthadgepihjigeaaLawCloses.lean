/- Closed lists, of any graph: the walk. -/
import Derived.Test.YthadgepihjigeaaKnown
namespace Go.Proofs.Ythadgepihjigeaa
open Go.RowKit Plain
set_option linter.unusedVariables false
theorem row_open {w : World} {a : Option Addr} {len cap : Nat} {zs : List Int} (h : (a = none ∧ len = 0 ∧ cap = 0 ∧ zs = []) ∨
    ∃ x, a = some x ∧ len ≤ cap ∧ cap ≤ maxLen ∧ zs.length = cap ∧ (∀ i, i < zs.length → w.cell? (x.add i) = some (.int .i64 (zs.getD i 0))) ∧ ∀ n ∈ zs, (Lit.int .i64 n).wf = true) : RwIn w ⟨a, cap, zs.take len⟩ ∧ (zs.take len).length = len := by
  rcases h with ⟨rfl, rfl, rfl, rfl⟩ | ⟨x, rfl, h1, h2, h3, h4, h5⟩
  · exact ⟨⟨Nat.le_refl _, by show 0 ≤ _; omega, .inl rfl, fun _ => rfl, by simp⟩, rfl⟩
  · exact ints_open h1 h2 h3 h5 (fun e => by cases e) fun a' ha c hc => by
      injection ha with ha
      subst ha
      exact h4 c (by omega)
/-- A row's first ones. -/
theorem RwIn.first {w : World} {a : Option Addr} {cap : Nat} {xs : List Int} (h : RwIn w ⟨a, cap, xs⟩) (k : Nat) : RwIn w ⟨a, cap, xs.take k⟩ := by
  refine ⟨?_, h.max, ?_, h.nil, fun x hx => h.i64 x (List.mem_of_mem_take hx)⟩
  · show (xs.take k).length ≤ cap
    have := h.le
    simp only at this
    rw [List.length_take]; omega
  · show IntsAt w a (xs.take k)
    rcases h.ints with h0 | ⟨b, off, ha, hc⟩
    · simp only at h0
      exact .inl (by rw [List.length_take]; omega)
    · refine .inr ⟨b, off, ha, fun j hj => ?_⟩
      rw [List.length_take] at hj
      rw [hc j (by simp only; omega)]
      unfold at0
      rw [List.getElem?_take_of_lt (by omega)]
theorem gr_rows {ps : List Rw} {m : Nat} (h : ∀ l ∈ gr ps, l.length ≤ m) : ∀ p ∈ ps, p.xs.length ≤ m := fun p hp => h _ (List.mem_map.2 ⟨p, hp, rfl⟩)
theorem ahead_len (G : List (List Int)) : (aheadN G).length = G.length := by unfold aheadN; exact List.length_mapIdx
theorem ahead_rows {G : List (List Int)} {m : Nat} (h : ∀ l ∈ G, l.length ≤ m) : ∀ l ∈ aheadN G, l.length ≤ m := fun l hl => by
  unfold aheadN at hl
  rw [List.mem_mapIdx] at hl
  obtain ⟨i, hi, rfl⟩ := hl
  have := h _ (List.getElem_mem hi)
  unfold aheadRow
  split
  · simp
  · rw [List.length_map]; exact this
theorem few_rows (ps : List Rw) : ∀ l ∈ gr (fewR ps), l.length ≤ 6 := fun l hl => by
  obtain ⟨p, hp, rfl⟩ := List.mem_map.1 hl
  exact fewR_row ps p hp
theorem says_eq {P : Prop} {e e' : Ending} (h : SaysB P e) (h' : SaysB P e') : ∃ b : Bool, e = .returned (.bool b) ∧ e' = .returned (.bool b) := by
  obtain ⟨b, h1, h2⟩ := h
  obtain ⟨b', h1', h2'⟩ := h'
  have : b' = b := by
    cases b <;> cases b' <;> simp_all
  subst this
  exact ⟨b', h1, h1'⟩
/-- A graph that a call gave: at most thirty rows of at most six. -/
def GotG (w : World) (G : List (List Int)) (e : Ending) : Prop := ∃ a c qs, e = .returned (.slice a G.length c) ∧ GraphIn w a G.length qs ∧ gr qs = G
structure Small (G : List (List Int)) : Prop where
  len : G.length ≤ 30
  rows : ∀ l ∈ G, l.length ≤ 6
theorem few_small (ps : List Rw) : Small (gr (fewR ps)) := ⟨by rw [gr_len]; exact fewR_len ps, few_rows ps⟩
theorem ahead_small {G : List (List Int)} (h : Small G) : Small (aheadN G) := ⟨by rw [ahead_len]; exact h.len, ahead_rows h.rows⟩
theorem OwnG.got {w : World} {base : Nat} {v : Value} {qs : List Rw} {G : List (List Int)} (h : OwnG w base v qs) (hG : gr qs = G) : GotG w G (.returned v) := by
  obtain ⟨a, c, rfl, h2⟩ := h.graphIn
  have hl : G.length = qs.length := by rw [← hG, gr_len]
  exact ⟨a, c, qs, by rw [hl], by rw [hl]; exact h2, hG⟩
theorem few_got (a : Option Addr) (n c : Nat) (ps : List Rw) (w : World) (h : GraphIn w a n ps) (hn : n ≤ 9223372036854775807) :
    Calls Try.prog 8 #[.slice a n c] w fun e w' => GotG w' (gr (fewR ps)) e ∧ Below w.heap.size w w' :=
  (few_any a n c ps w h hn).mono fun e w' ⟨v, he, ho, hb⟩ => ⟨by rw [he]; exact ho.got rfl, hb⟩
theorem ahead_got (a : Option Addr) (n c : Nat) (ps : List Rw) (w : World) (h : GraphIn w a n ps) (hn : n ≤ 9223372036854775807) :
    Calls Try.prog 11 #[.slice a n c] w fun e w' => GotG w' (aheadN (gr (fewR ps))) e ∧ Below w.heap.size w w' :=
  (ahead_any a n c ps w h hn).mono fun e w' ⟨⟨v, qs, he, ho, hq⟩, hb⟩ => ⟨by rw [he]; exact ho.got hq, hb⟩
theorem small_rows {qs : List Rw} {G : List (List Int)} (h : Small G) (hG : gr qs = G) : ∀ p ∈ qs, p.xs.length ≤ 1000 := fun p hp => by
  have := h.rows p.xs (by rw [← hG]; exact List.mem_map.2 ⟨p, hp, rfl⟩)
  omega
theorem closed_got (G : List (List Int)) (a : Option Addr) (c : Nat) (qs : List Rw) (a2 : Option Addr) (m c2 : Nat) (l : List Int) (w : World) (h : GraphIn w a G.length qs) (hG : gr qs = G) (hs : Small G) (hi : IntsAt w a2 l) (hm : l.length = m) (hm9 : m ≤ 1000000) :
    Calls Try.prog 18 #[.slice a G.length c, .slice a2 m c2] w fun e w' => SaysB (ClosedP G.length G l) e ∧ Below w.heap.size w w' := by
  have h1 := closed_any a G.length c qs a2 m c2 l w h.graph (by have := hs.len; omega) (small_rows hs hG) hi hm hm9
  rwa [hG] at h1
theorem refClosed_got (G : List (List Int)) (a : Option Addr) (c : Nat) (qs : List Rw) (a2 : Option Addr) (m c2 : Nat) (l : List Int) (w : World) (h : GraphIn w a G.length qs) (hG : gr qs = G) (hs : Small G) (hi : IntsAt w a2 l) (hm : l.length = m) (hm9 : m ≤ 1000000) :
    Calls Try.prog 19 #[.slice a G.length c, .slice a2 m c2] w fun e w' => SaysB (ClosedP G.length G l) e ∧ w' = w := by
  have h1 := refClosed_any a G.length c qs a2 m c2 l w h.graph (by have := hs.len; omega) (small_rows hs hG) hi hm hm9
  rwa [hG] at h1
set_option maxRecDepth 100000 in
set_option maxHeartbeats 8000000 in
theorem closes_any (a : Option Addr) (n c : Nat) (ps : List Rw) (a2 : Option Addr) (m c2 : Nat) (xs : List Int) (w : World) (h : GraphIn w a n ps) (hn : n ≤ 9223372036854775807) (hi : RwIn w ⟨a2, c2, xs⟩) (hm : xs.length = m) :
    Calls Try.prog 5 #[.slice a n c, .slice a2 m c2] w fun e w' => e = .returned (.bool true) ∧ Below w.heap.size w w' := by
  obtain ⟨q, hq⟩ : ∃ q, min m 30 = q := ⟨_, rfl⟩
  have hmn : ∀ (ts : Array TypeId) (t : TypeId) (W : World), (Builtin.min_ ts t #[.int .i64 (m : Int), .int .i64 30]).run Try.prog W = .ok (.int .i64 (q : Int)) W := fun ts t W => by
    rw [show (q : Int) = min (m : Int) 30 by omega]; exact run_min2 ts t .i64 .i64 m 30 W
  have hqc : q ≤ c2 := by
    have := hi.le
    simp only at this
    omega
  have sl := fun W => slice_ints a2 m c2 q hqc W
  have HI := Lib.hid (hi.first 30)
  have HIL : Hid ((xs.take 30).length = q) := by show _ = _; rw [List.length_take]; omega
  have HG := Lib.hid h
  have hq30 : q ≤ 30 := by omega
  clear h hi hm hq
  generalize xs.take 30 = ys at *
  go_enter Try.func5, Try.ntmps5
  go_wp2_with fail
  refine (known_any w).mono ?_
  rintro e w1 ⟨rfl, hb⟩
  have HB1 := Lib.hid hb
  clear hb
  go_wp2_with fail
  have HS1 := few_small ps
  have HS2 := ahead_small HS1
  refine (few_got a n c ps w1 (HG.out.below HB1.out) hn).mono ?_
  rintro e w2 ⟨⟨ga, gc, qs, rfl, hg, hG⟩, hb⟩
  have HB2 := Lib.hid (HB1.out.trans (hb.mono HB1.out.size))
  have HG2 := Lib.hid hg
  have HQ2 := Lib.hid hG
  clear hb hg hG
  go_wp2_with fail
  refine (closed_got _ ga gc qs a2 q c2 ys w2 HG2.out HQ2.out HS1 (HI.out.ints.below HB2.out) HIL.out (by omega)).mono ?_
  rintro e w3 ⟨⟨b1, rfl, hy1⟩, hb⟩
  have HY1 := Lib.hid hy1
  have HB3 := Lib.hid (HB2.out.trans (hb.mono HB2.out.size))
  clear hb hy1 HG2 HQ2 HB1 HB2
  go_wp2_with fail
  refine (few_got a n c ps w3 (HG.out.below HB3.out) hn).mono ?_
  rintro e w4 ⟨⟨ga2, gc2, qs2, rfl, hg, hG⟩, hb⟩
  have HB4 := Lib.hid (HB3.out.trans (hb.mono HB3.out.size))
  have HG2 := Lib.hid hg
  have HQ2 := Lib.hid hG
  clear hb hg hG
  go_wp2_with fail
  refine (refClosed_got _ ga2 gc2 qs2 a2 q c2 ys w4 HG2.out HQ2.out HS1 (HI.out.ints.below HB4.out) HIL.out (by omega)).mono ?_
  rintro e w' ⟨⟨b2, rfl, hy2⟩, hw⟩
  have hw2 := hw.symm
  subst hw2
  obtain rfl : b1 = b2 := Bool.eq_iff_iff.2 (HY1.out.trans hy2.symm)
  clear hw hy2 HY1 HG2 HQ2 HB3
  go_wp2_with fail
  refine (ahead_got a n c ps w4 (HG.out.below HB4.out) hn).mono ?_
  rintro e w5 ⟨⟨ga3, gc3, qs3, rfl, hg, hG⟩, hb⟩
  have HB5 := Lib.hid (HB4.out.trans (hb.mono HB4.out.size))
  have HG2 := Lib.hid hg
  have HQ2 := Lib.hid hG
  clear hb hg hG HB4
  go_wp2_with fail
  refine (closed_got _ ga3 gc3 qs3 a2 q c2 ys w5 HG2.out HQ2.out HS2 (HI.out.ints.below HB5.out) HIL.out (by omega)).mono ?_
  rintro e w6 ⟨⟨b3, rfl, hy1⟩, hb⟩
  have HY1 := Lib.hid hy1
  have HB6 := Lib.hid (HB5.out.trans (hb.mono HB5.out.size))
  clear hb hy1 HG2 HQ2 HB5
  go_wp2_with fail
  refine (ahead_got a n c ps w6 (HG.out.below HB6.out) hn).mono ?_
  rintro e w7 ⟨⟨ga4, gc4, qs4, rfl, hg, hG⟩, hb⟩
  have HB7 := Lib.hid (HB6.out.trans (hb.mono HB6.out.size))
  have HG2 := Lib.hid hg
  have HQ2 := Lib.hid hG
  clear hb hg hG HB6
  go_wp2_with fail
  refine (refClosed_got _ ga4 gc4 qs4 a2 q c2 ys w7 HG2.out HQ2.out HS2 (HI.out.ints.below HB7.out) HIL.out (by omega)).mono ?_
  rintro e w' ⟨⟨b4, rfl, hy2⟩, hw⟩
  have hw2 := hw.symm
  subst hw2
  obtain rfl : b3 = b4 := Bool.eq_iff_iff.2 (HY1.out.trans hy2.symm)
  clear hw hy2 HY1 HG2 HQ2
  go_wp2_with fail
  go_ret
  exact ⟨rfl, HB7.out⟩
end Go.Proofs.Ythadgepihjigeaa
