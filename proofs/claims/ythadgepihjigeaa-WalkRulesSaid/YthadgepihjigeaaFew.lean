/- At most thirty rows of at most six each: the walk. -/
import Derived.Test.YthadgepihjigeaaGraphIn
namespace Go.Proofs.Ythadgepihjigeaa
open Go.RowKit Plain
set_option linter.unusedVariables false
def cut6 (p : Rw) : Rw := ⟨p.a, p.cap, p.xs.take 6⟩
def fewR (ps : List Rw) : List Rw := (ps.take 30).map cut6
theorem cut6_in {w : World} {p : Rw} (h : RwIn w p) : RwIn w (cut6 p) := by
  refine ⟨?_, h.max, ?_, h.nil, fun x hx => h.i64 x (List.mem_of_mem_take hx)⟩
  · show (p.xs.take 6).length ≤ p.cap
    have := h.le
    rw [List.length_take]; omega
  · show IntsAt w p.a (p.xs.take 6)
    rcases h.ints with h0 | ⟨b, off, ha, hc⟩
    · exact .inl (by rw [List.length_take]; omega)
    · refine .inr ⟨b, off, ha, fun j hj => ?_⟩
      rw [List.length_take] at hj
      rw [hc j (by omega)]
      unfold at0
      rw [List.getElem?_take_of_lt (by omega)]
theorem take_map_succ {ps : List Rw} {k : Nat} {p : Rw} (h : ps[k]? = some p) : (ps.take (k + 1)).map cut6 = (ps.take k).map cut6 ++ [cut6 p] := by
  rw [List.take_add_one, h, List.map_append]
  rfl
/-- A graph of the call's own. -/
structure OwnG (w : World) (base : Nat) (v : Value) (ps : List Rw) : Prop where
  row : w.ownsRow base 24 1 v ps.length (ps.map hdr)
  each : ∀ p ∈ ps, RwIn w p
theorem graphAt {w : World} {a : Option Addr} {n : Nat} {ps : List Rw} (h : GraphIn w a n ps) {k : Nat} (hk : k < n) : ∃ b off pa pc px, a = some ⟨b, off, none⟩ ∧ ps[k]? = some ⟨pa, pc, px⟩ ∧ w.cell? ⟨b, off + k, none⟩ = some (.slice pa px.length pc) ∧ RwIn w ⟨pa, pc, px⟩ := by
  rcases h.rows with h0 | ⟨b, off, rfl, hc⟩
  · omega
  · have hl := h.len
    have hg : ps[k]? = some (ps[k]'(by omega)) := List.getElem?_eq_getElem (by omega)
    exact ⟨b, off, _, _, _, rfl, hg, hc k _ hg, h.each _ (List.mem_of_getElem? hg)⟩
set_option maxRecDepth 100000 in
set_option maxHeartbeats 8000000 in
theorem few_any (a : Option Addr) (n c : Nat) (ps : List Rw) (w : World) (h : GraphIn w a n ps) (hn : n ≤ 9223372036854775807) :
    Calls Try.prog 8 #[.slice a n c] w fun e w' => ∃ v, e = .returned v ∧ OwnG w' w.heap.size v (fewR ps) ∧ Below w.heap.size w w' := by
  have HG := Lib.hid h
  have HN := Lib.hid h.len
  clear h
  go_enter Try.func8, Try.ntmps8
  go_wp2_with fail
  go_loopw [3, 4] (fun o i wr => ∃ (k : Nat) (oa : Option Addr) (oc : Nat), k ≤ 30 ∧ k ≤ n ∧ i = .int .i64 (k : Int) ∧ o = .slice oa k oc ∧ wr.ownsRow w.heap.size 24 1 (.slice oa k oc) k (((ps.take k).map cut6).map hdr) ∧ Below w.heap.size w wr) (fun o i _ => 30 - (intOf i).toNat)
  case atStart => exact ⟨0, none, 0, by omega, by omega, rfl, rfl, World.ownsRow_nil _ _ _ _, Below.refl _ _⟩
  case round =>
    obtain ⟨k, oa, oc, hk, hkn, rfl, rfl, ho, hb⟩ := hrel
    have HO := Lib.hid ho
    have HB := Lib.hid hb
    clear ho hb
    have wk := next_int k (by omega)
    by_cases h1 : k = n
    · subst h1
      have HE : Hid (fewR ps = (ps.take k).map cut6 ∧ (fewR ps).length = k) := by
        have := HN.out
        unfold fewR
        rw [List.take_of_length_le (by omega), List.take_of_length_le (by omega)]
        exact ⟨rfl, by rw [List.length_map]; exact this⟩
      go_wp2_with fail
      go_ret
      refine ⟨_, rfl, ⟨by rw [HE.out.2, HE.out.1]; exact HO.out, fun p hp => ?_⟩, HB.out⟩
      obtain ⟨q, hq, rfl⟩ := List.mem_map.1 hp
      exact cut6_in ((HG.out.each q (List.mem_of_mem_take hq)).below HB.out)
    · have hkl : k < n := by omega
      have hki : (k : Int) < (n : Int) := by omega
      by_cases h2 : k = 30
      · subst h2
        have HE : Hid ((fewR ps).length = 30) := by
          have := HN.out
          unfold fewR
          rw [List.length_map, List.length_take]
          exact Nat.min_eq_left (by omega)
        go_wp2_with fail
        go_ret
        refine ⟨_, rfl, ⟨by rw [HE.out]; exact HO.out, fun p hp => ?_⟩, HB.out⟩
        obtain ⟨q, hq, rfl⟩ := List.mem_map.1 hp
        exact cut6_in ((HG.out.each q (List.mem_of_mem_take hq)).below HB.out)
      · have hk30 : k < 30 := by omega
        have hk3i : (k : Int) < 30 := by omega
        obtain ⟨b, off, pa, pc, px, rfl, hp1, hcell0, hpi⟩ := graphAt HG.out hkl
        have hcell := (HB.out.cell (p := ⟨b, off + k, none⟩) (cell_lt hcell0)).trans hcell0
        have HT := Lib.hid (take_map_succ hp1)
        have HPI := Lib.hid hpi
        have HC0 : Hid (∀ W, Below w.heap.size w W → W.cell? ⟨b, off + k, none⟩ = some (.slice pa px.length pc)) := fun W hW => (hW.cell (p := ⟨b, off + k, none⟩) (cell_lt hcell0)).trans hcell0
        clear hpi hcell0 hp1
        obtain ⟨m, hm⟩ : ∃ m, px.length = m := ⟨_, rfl⟩
        obtain ⟨q, hq⟩ : ∃ q, min m 6 = q := ⟨_, rfl⟩
        have hmn : ∀ (ts : Array TypeId) (t : TypeId) (W : World), (Builtin.min_ ts t #[.int .i64 (m : Int), .int .i64 6]).run Try.prog W = .ok (.int .i64 (q : Int)) W := fun ts t W => by
          rw [show (q : Int) = min (m : Int) 6 by omega]; exact run_min2 ts t .i64 .i64 m 6 W
        have hqc : q ≤ pc := by
          have := HPI.out.le
          simp only at this
          omega
        have HY : Hid (hdr (cut6 ⟨pa, pc, px⟩) = .slice pa q pc) := by
          show Value.slice pa (px.take 6).length pc = _
          rw [List.length_take, show min 6 px.length = q by omega]
        rw [hm] at hcell HC0
        have sl := fun W => slice_ints pa m pc q hqc W
        have hblt : b < wr.heap.size := cell_lt hcell
        have n0 := World.new_ne wr ⟨b, off + k, none⟩ hcell
        have HBW : Hid (∀ t, Below w.heap.size w (wr.drew.alloc (.cells #[.slice pa q pc] t))) := fun t => HB.out.drew.alloc (by exact HB.out.size) _
        have HLI : Hid (∀ t, (wr.drew.alloc (.cells #[.slice pa q pc] t)).cell? ⟨wr.heap.size, 0, none⟩ = some (.slice pa q pc)) := fun t => lit_val wr.drew _ t
        have HO6 : Hid (∀ t, (wr.drew.alloc (.cells #[.slice pa q pc] t)).ownsRow w.heap.size 24 1 (.slice oa k oc) k (((ps.take k).map cut6).map hdr)) := fun t => HO.out.drew.alloc _
        clear hm hq HPI HG HN
        go_wp2_with fail
        go_region_held3 (fun W => W.cell? ⟨b, off + k, none⟩ = some (.slice pa m pc))
          (first | go_keep | (exact hcell) | assumption | (exact HC0.out _ ((HBW.out _).grown (by assumption) (HBW.out _).size (fun g hg => (HO.out.lt g hg).1))))
          ((refine step_append_row rfl _ _ rfl w.heap.size (.slice oa k oc) k _ rfl (HO6.out _) wr.heap.size (.slice pa q pc) rfl rfl (HLI.out _) (by omega) (HBW.out _).size ?_; rintro g2 gc2 w7 ho1 hg1 hgg hgl))
        have HO1 := Lib.hid ho1
        have HB7 : Hid (Below w.heap.size w w7) := (HBW.out _).grown hg1 (HBW.out _).size (fun g hg => (HO.out.lt g hg).1)
        clear ho1 hg1 hgg HO HBW HLI HO6
        go_wp2_with fail
        refine ⟨⟨k + 1, some ⟨g2, 0, none⟩, gc2, by omega, by omega, by first | rfl | exact congrArg (Value.int .i64) (wk _ rfl), rfl, ?_, HB7.out⟩, by simp [intOf]; omega⟩
        rw [HT.out, List.map_append]
        show World.ownsRow _ _ _ _ _ _ (_ ++ [hdr (cut6 _)])
        rw [HY.out]
        exact HO1.out
end Go.Proofs.Ythadgepihjigeaa
