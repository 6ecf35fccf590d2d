/- Some of a right list of files; bools that came in; parts of a slice of files. -/
import Derived.Test.YtcbjadecocggjaaDoorLawMgDiffs
import Derived.Deep.Grids
namespace Go.Proofs.YtcbjadecocggjaaDoor
open Go.Sort Go.RowKit Go.WideMaps Go.Maps Plain Go.ChangeShapes Go.WideShapes Go.ChangeAt Go.Great
set_option linter.unusedVariables false
set_option linter.unusedSimpArgs false
theorem rightM_pairs (xs : List MF) : rightM xs = true ↔ (∀ x ∈ xs, rightL x.p.data.toList = true ∧ flagOk x.f = true) ∧ xs.Pairwise (fun y x => y.p.toList < x.p.toList) ∧ ∀ q ∈ xs, ∀ p ∈ xs, under p.p q.p = false := by
  rw [rightM_iff]
  constructor
  · rintro ⟨he, hu⟩
    refine ⟨fun x hx => ?_, List.pairwise_iff_getElem.2 fun i j hi hj hij => ?_, hu⟩
    · obtain ⟨k, hk⟩ := List.mem_iff_getElem?.1 hx
      exact ⟨okAt_path (he k x hk), okAt_flag (he k x hk)⟩
    · have step : ∀ k (hk : k + 1 < xs.length), (xs[k]'(by omega)).p.toList < (xs[k + 1]'hk).p.toList := fun k hk => by
        have h1 := he (k + 1) _ (List.getElem?_eq_getElem hk)
        unfold okAt at h1
        rw [Bool.and_eq_true] at h1
        have h2 := h1.2
        change (match xs[k]? with | some y => Op.bytesLess y.p.toList (xs[k + 1]'hk).p.toList | none => true) = true at h2
        rw [show xs[k]? = some (xs[k]'(by omega)) from List.getElem?_eq_getElem (by omega)] at h2
        change Op.bytesLess _ _ = true at h2
        rw [bytesLess_eq] at h2
        exact of_decide_eq_true h2
      have far : ∀ d (hd : i + d + 1 < xs.length), (xs[i]'hi).p.toList < (xs[i + d + 1]'hd).p.toList := by
        intro d
        induction d with
        | zero => intro hd; exact step i hd
        | succ d ih => intro hd; exact List.lt_trans (ih (by omega)) (step (i + d + 1) hd)
      have := far (j - i - 1) (by omega)
      have e : i + (j - i - 1) + 1 = j := by omega
      simpa only [e] using this
  · rintro ⟨h1, h2, hu⟩
    rw [List.pairwise_iff_getElem] at h2
    refine ⟨fun i x hx => ?_, hu⟩
    obtain ⟨hi, rfl⟩ := List.getElem?_eq_some_iff.1 hx
    have hm := h1 _ (List.getElem_mem hi)
    unfold okAt
    rw [hm.1, hm.2, Bool.and_eq_true]
    refine ⟨rfl, ?_⟩
    cases i with
    | zero => rfl
    | succ j =>
      show (match xs[j]? with | some y => Op.bytesLess y.p.toList (xs[j + 1]'hi).p.toList | none => true) = true
      rw [List.getElem?_eq_getElem (show j < xs.length by omega)]
      show Op.bytesLess _ _ = true
      rw [bytesLess_eq]
      exact decide_eq_true (h2 j (j + 1) (by omega) hi (by omega))
theorem rightM_sub {zs xs : List MF} (h : zs.Sublist xs) (hr : rightM xs = true) : rightM zs = true := by
  rw [rightM_pairs] at hr ⊢
  exact ⟨fun x hx => hr.1 x (h.subset hx), hr.2.1.sublist h, fun q hq p hp => hr.2.2 q (h.subset hq) p (h.subset hp)⟩
theorem ind_comm (A B : List MF) (a : List UInt8) : InD A B a ↔ InD B A a := by
  unfold InD
  rw [sameM_comm (ofL a A) (ofL a B)]
  exact ⟨fun h => ⟨h.1.symm, h.2⟩, fun h => ⟨h.1.symm, h.2⟩⟩
theorem files_of_row {w : World} {g : Nat} {x : MF} {t : TypeId} {fr : Nat × Nat} (h20 : x.n.length = 20) (h : w.heap[g]? = some (.cells (fileA x) t fr)) : FsAt w (some ⟨g, 0, none⟩) [x] := by
  refine ⟨fun y hy => by rw [List.mem_singleton.1 hy]; exact h20, .inr ⟨g, 0, rfl, (Array.getElem?_eq_some_iff.1 h).1, fun j y hj => ?_⟩⟩
  cases j with
  | zero => cases hj; rw [Nat.zero_mul]; exact row_file h
  | succ j => simp at hj
def BsAt (w : World) (a : Option Addr) (bs : List Bool) : Prop := bs.length = 0 ∨ ∃ b off, a = some ⟨b, off, none⟩ ∧ b < w.heap.size ∧ ∀ (j : Nat) x, bs[j]? = some x → w.cell? ⟨b, off + j, none⟩ = some (.bool x)
theorem BsAt.below {w w' : World} {a : Option Addr} {bs : List Bool} (h : BsAt w a bs) (hb : Below w.heap.size w w') : BsAt w' a bs :=
  h.imp id fun ⟨b, off, e, hl, hc⟩ => ⟨b, off, e, Nat.lt_of_lt_of_le hl hb.size, fun j x hj => (hb.cell (p := ⟨b, off + j, none⟩) hl).trans (hc j x hj)⟩
theorem BsAt.at {w : World} {a : Option Addr} {bs : List Bool} (h : BsAt w a bs) {k : Nat} (hk : k < bs.length) : ∃ b off x, a = some ⟨b, off, none⟩ ∧ b < w.heap.size ∧ w.cell? ⟨b, off + k, none⟩ = some (.bool x) := by
  rcases h with h0 | ⟨b, off, rfl, hl, hc⟩
  · omega
  · exact ⟨b, off, _, rfl, hl, hc k _ (List.getElem?_eq_getElem hk)⟩
set_option maxRecDepth 100000 in
theorem open_bs {H : Type} {enc : TypeId × Value → H} {w : World} {base b0 : Nat} {held : Bool} {r : Reach} {v : Value} {d : DataW H} {p : List MemPlace}
    (hv : Value.okWide Tryd.prog w r b0 37 v) (h : DataW.Trod enc Tryd.prog w base (fun _ => true) held 37 v d p) :
    ∃ (a : Option Addr) (cap : Nat) (bs : List Bool), v = .slice a bs.length cap ∧ bs.length ≤ 9223372036854775807 ∧ BsAt w a bs := by
  obtain ⟨a, len, cap, rfl⟩ := okWide_slice Tryd.underlying37 hv
  obtain ⟨fuel, hf⟩ := h
  rcases Go.Deep.open_bools Tryd.underlying37 Tryd.underlying4 (by kernel_rfl) hf with ⟨hcs, -⟩ | ⟨x, len', cap', B, hcs, -, hl, hm, -, hc⟩
  · simp [Value.cells] at hcs
    obtain ⟨rfl, rfl, rfl⟩ := hcs
    exact ⟨none, 0, [], rfl, by simp, .inl rfl⟩
  · simp [Value.cells] at hcs
    obtain ⟨rfl, rfl, rfl⟩ := hcs
    have hll : ((List.range len).map B).length = len := by simp
    refine ⟨some x, cap, (List.range len).map B, by rw [hll], by rw [hll]; unfold maxLen at hm; omega, ?_⟩
    by_cases h0 : len = 0
    · exact .inl (by rw [hll]; exact h0)
    · obtain ⟨b, off, spot⟩ := x
      have c0 := hc 0 (by omega)
      have hspot : spot = none := by simpa [Addr.add] using World.cell?_spot c0
      subst hspot
      have hplain : ∀ (o i : Nat), (⟨b, o, none⟩ : Addr).add i = ⟨b, o + i, none⟩ := fun o i => by unfold Addr.add; split <;> simp_all
      refine .inr ⟨b, off, rfl, ?_, fun j y hj => ?_⟩
      · rw [hplain] at c0
        exact World.block_lt_of_cell? w _ c0
      · have hjl : j < len := by
          have := (List.getElem?_eq_some_iff.1 hj).1
          rw [hll] at this; exact this
        rw [List.getElem?_map, List.getElem?_range hjl] at hj
        injection hj with hj
        subst hj
        have := hc j (by omega)
        rwa [hplain] at this
theorem FsAt.take {w : World} {a : Option Addr} {xs : List MF} (h : FsAt w a xs) (k : Nat) : FsAt w a (xs.take k) := by
  refine ⟨fun x hx => h.each x (List.mem_of_mem_take hx), ?_⟩
  rcases h.rows with h0 | ⟨b, off, rfl, hl, hc⟩
  · exact .inl (by rw [List.length_take]; omega)
  · refine .inr ⟨b, off, rfl, hl, fun j x hj => hc j x ?_⟩
    by_cases hjk : j < k
    · rwa [List.getElem?_take_of_lt hjk] at hj
    · rw [List.getElem?_eq_none (by rw [List.length_take]; omega)] at hj; cases hj
theorem slice_toN (a : Option Addr) (m cap hi : Nat) (h2 : hi ≤ cap) (w : World) :
    (Instr.sliceAt 23 (.slice a m cap) none (some (.int .i64 (hi : Int))) none).run Tryd.prog w = .ok (.slice a hi cap) w := by
  have hsz : ∀ W : World, (sizeOf (Tryd.prog.elem 23)).run Tryd.prog W = .ok 22 W := fun W => by kernel_rfl
  have h0 : ∀ x : Addr, x.add 0 = x := fun x => by unfold Addr.add; simp
  rw [run_sliceAt_slice w 23 _ _ _ _ (by kernel_rfl), run_slice_h w 23 a m cap (by kernel_rfl) .i64 (hi : Int) (by omega) (by omega), hsz]
  simp [Result.andThen_ok, sliced, h0]
def subN (a : Option Addr) (cap l : Nat) : Option Addr := if cap = l then a else a.map (·.add (l * 22))
theorem FsAt.drop {w : World} {a : Option Addr} {xs : List MF} (h : FsAt w a xs) (cap q : Nat) (hc : xs.length ≤ cap) (hq : q ≤ xs.length) : FsAt w (subN a cap q) (xs.drop q) := by
  refine ⟨fun p hp => h.each p (List.mem_of_mem_drop hp), ?_⟩
  by_cases he : q = xs.length
  · exact .inl (by rw [List.length_drop]; omega)
  · rcases h.rows with h0 | ⟨b, off, rfl, hb, hr⟩
    · omega
    · refine .inr ⟨b, off + q * 22, ?_, hb, fun j p hj => ?_⟩
      · unfold subN
        rw [if_neg (by omega)]
        simp [Addr.add_mid]
      · rw [List.getElem?_drop] at hj
        have := hr (q + j) p hj
        rw [show off + q * 22 + j * 22 = off + (q + j) * 22 by omega]
        exact this
theorem slice_fromN (a : Option Addr) (m cap lo : Nat) (h1 : lo ≤ m) (h2 : m ≤ cap) (w : World) :
    (Instr.sliceAt 23 (.slice a m cap) (some (.int .i64 (lo : Int))) none none).run Tryd.prog w = .ok (.slice (subN a cap lo) (m - lo) (cap - lo)) w := by
  have hsz : ∀ W : World, (sizeOf (Tryd.prog.elem 23)).run Tryd.prog W = .ok 22 W := fun W => by kernel_rfl
  rw [run_sliceAt_slice w 23 _ _ _ _ (by kernel_rfl), run_slice_l w 23 a m cap (by kernel_rfl) .i64 (lo : Int) (by omega) (by omega), hsz]
  simp [Result.andThen_ok, sliced, subN]
theorem mod_is (t : Nat) (z : Int) (ht : t ≤ 1000000) : ∃ k : Nat, (wrap64 ((IntKind.u64.wrap z).tmod ((t : Int) + 1)) = (k : Int) ∧ wrap64 ((IntKind.u64.wrap z).tmod ((t + 1 : Nat) : Int)) = (k : Int)) ∧ k ≤ t := by
  have h0 : 0 ≤ IntKind.u64.wrap z := by rw [IntKind.wrap_u64]; omega
  generalize IntKind.u64.wrap z = u at *
  have e : ((t + 1 : Nat) : Int) = (t : Int) + 1 := by omega
  rw [e, Int.tmod_eq_emod_of_nonneg h0]
  have h1 := Int.emod_nonneg u (show (t : Int) + 1 ≠ 0 by omega)
  have h2 := Int.emod_lt_of_pos u (show (0 : Int) < (t : Int) + 1 by omega)
  rw [IntWalk.wrap64_in _ (by omega)]
  exact ⟨(u % ((t : Int) + 1)).toNat, ⟨by omega, by omega⟩, by omega⟩
theorem u64_succ (t : Nat) (ht : t ≤ 1000000) : IntKind.u64.wrap ((t : Int) + 1) = (t : Int) + 1 := by rw [IntKind.wrap_u64]; omega
theorem u64_succ2 (t : Nat) (ht : t ≤ 1000000) : IntKind.u64.wrap ((t + 1 : Nat) : Int) = (t : Int) + 1 := by rw [IntKind.wrap_u64]; omega
end Go.Proofs.YtcbjadecocggjaaDoor
