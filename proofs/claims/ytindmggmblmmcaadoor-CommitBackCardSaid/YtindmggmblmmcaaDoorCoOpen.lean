/- A commit that came in. -/
import Derived.Test.YtindmggmblmmcaaDoorCoOf
namespace Go.Proofs.YtindmggmblmmcaaDoor
open Go.RowKit Plain Go.ChangeShapes Go.WideShapes Go.ChangeAt Go.Deep
set_option linter.unusedVariables false
theorem trod_ids {H : Type} {enc : TypeId × Value → H} {w : World} {base : Nat} {held : Bool} {t : TypeId} {n fuel : Nat} {cs : List Value} {y : DataW H × List MemPlace}
    (ht : Tryd.prog.underlying t = some (.array n 5)) (hl : cs.length = n) (h : DataW.trod enc Tryd.prog w base (fun _ => true) held fuel t cs = some y) :
    ∃ zs : List Int, cs = U8 zs ∧ zs.length = n ∧ ∀ z ∈ zs, 0 ≤ z ∧ z ≤ 255 := by
  obtain ⟨xs, m, -, -, -, hxl, hget⟩ := DataW.trod_array ht h
  have hone : Tryd.prog.cellsOf 5 = 1 := by kernel_rfl
  have key : ∀ i, i < n → ∃ z : Int, cs[i]? = some (.int .u8 z) ∧ 0 ≤ z ∧ z ≤ 255 := by
    intro i hi
    have h1 := hget i hi
    rw [hone, Nat.mul_one] at h1
    have hi' : i < cs.length := by omega
    rw [List.getElem?_eq_getElem (by omega)] at h1
    have e : (List.drop i cs).take 1 = [cs[i]] := by
      rw [List.drop_eq_getElem_cons hi', List.take_succ_cons, List.take_zero]
    rw [e] at h1
    obtain ⟨z, hz, -, hw⟩ := DataW.trod_int Tryd.underlying5 h1
    exact ⟨z, by rw [List.getElem?_eq_getElem hi']; simpa using hz, bounds_u8 hw⟩
  refine ⟨(List.range n).map fun i => numOf cs[i]?, ?_, by simp, fun z hz => ?_⟩
  · apply List.ext_getElem?
    intro i
    unfold U8
    rw [List.map_map, List.getElem?_map]
    by_cases hi : i < n
    · obtain ⟨z, hz, -⟩ := key i hi
      rw [List.getElem?_range hi, hz]
      simp [hz, numOf]
    · rw [List.getElem?_eq_none (by omega), List.getElem?_eq_none (by simp; omega)]
      rfl
  · obtain ⟨i, hi, rfl⟩ := List.mem_map.1 hz
    obtain ⟨z, hz, h0⟩ := key i (List.mem_range.1 hi)
    rw [hz]
    exact h0
set_option maxRecDepth 100000 in
/-- A row of records that came in. -/
theorem trod_rowG {α : Type} {k : Nat} {encα : α → List Value} {Ok : α → Prop} {SL e : TypeId} {H : Type} {enc : TypeId × Value → H} {w : World} {base : Nat} {held : Bool}
    (ht : Tryd.prog.underlying SL = some (.slice e)) (hk : Tryd.prog.cellsOf e = k) (hk0 : 0 < k) (hek : ∀ x, (encα x).length = k) (d : α)
    (hel : ∀ n (cs : List Value) y, cs.length = k → DataW.trod enc Tryd.prog w base (fun _ => true) held n e cs = some y → ∃ x, cs = encα x ∧ Ok x)
    {fuel : Nat} {cs : List Value} {y : DataW H × List MemPlace} (hf : DataW.trod enc Tryd.prog w base (fun _ => true) held fuel SL cs = some y) :
    ∃ (a : Option Addr) (cap : Nat) (xs : List α), cs = [.slice a xs.length cap] ∧ xs.length ≤ 9223372036854775807 ∧ RowAt k encα w a xs ∧ ∀ x ∈ xs, Ok x := by
  rcases DataW.trod_slice ht hf with ⟨hcs, -⟩ | ⟨x, len, cap, elems, rest, n, -, hcs, -, hb, hl, hm, hlen, hels, -, -⟩
  · exact ⟨none, 0, [], hcs, by simp, RowAt.nil w none, by simp⟩
  · have each : ∀ j, ∃ y : α, j < len → Ok y ∧ ∀ i u, (encα y)[i]? = some u → w.cell? ((x.add (j * k)).add i) = some u := by
      intro j
      by_cases hj : j < len
      · have e1 := hels j (by omega)
        rw [hk] at e1
        obtain ⟨y, hy⟩ : ∃ y, elems[j]? = some y := ⟨_, List.getElem?_eq_getElem (by omega)⟩
        rw [hy, Option.bind_eq_some_iff] at e1
        obtain ⟨cs', hcs', hst⟩ := e1
        obtain ⟨-, hcl, hcc⟩ := World.cells?_some hcs'
        obtain ⟨z, rfl, hz⟩ := hel n cs' y hcl hst
        refine ⟨z, fun _ => ⟨hz, fun i u hu => ?_⟩⟩
        have hil := (List.getElem?_eq_some_iff.1 hu).1
        have := hcc i (by rw [hek] at hil; omega)
        rw [this, hu]
      · exact ⟨d, fun h => absurd h hj⟩
    obtain ⟨f, hf2⟩ : ∃ f : Nat → α, ∀ j, j < len → Ok (f j) ∧ ∀ i u, (encα (f j))[i]? = some u → w.cell? ((x.add (j * k)).add i) = some u :=
      ⟨fun j => (each j).choose, fun j => (each j).choose_spec⟩
    have hll : ((List.range len).map f).length = len := by simp
    refine ⟨some x, cap, (List.range len).map f, by rw [hll]; exact hcs, by rw [hll]; unfold maxLen at hm; omega, ?_, fun p hp => ?_⟩
    · by_cases h0 : len = 0
      · exact .inl (by rw [hll]; exact h0)
      · obtain ⟨b, off, spot⟩ := x
        have hl0 : 0 < (encα (f 0)).length := by rw [hek]; exact hk0
        have c0 := (hf2 0 (by omega)).2 0 _ (List.getElem?_eq_getElem hl0)
        have hspot : spot = none := by simpa [Addr.add] using World.cell?_spot c0
        subst hspot
        have hplain : ∀ (o i : Nat), (⟨b, o, none⟩ : Addr).add i = ⟨b, o + i, none⟩ := fun o i => by unfold Addr.add; split <;> simp_all
        refine .inr ⟨b, off, rfl, ?_, fun j p hj i u hu => ?_⟩
        · rw [hplain, hplain] at c0
          exact World.block_lt_of_cell? w _ c0
        · have hjl : j < len := by
            have := (List.getElem?_eq_some_iff.1 hj).1
            rw [hll] at this; exact this
          rw [List.getElem?_map, List.getElem?_range hjl] at hj
          injection hj with hj
          subst hj
          have := (hf2 j hjl).2 i u hu
          rw [hplain, hplain] at this
          exact this
    · obtain ⟨j, hj, rfl⟩ := List.mem_map.1 hp
      exact (hf2 j (List.mem_range.1 hj)).1
/-- A commit that came in: every size is one that a program may have. -/
structure InCo (w : World) (c : CC) (pa xa : Option Addr) : Prop where
  at_ : CoAt w c pa xa
  pn : c.ps.length ≤ 9223372036854775807
  xn : c.xs.length ≤ 9223372036854775807
  aw : InWho c.a
  cw : InWho c.c
  ms : c.m.size ≤ maxLen
  xsz : ∀ x ∈ c.xs, x.1.size ≤ maxLen ∧ x.2.size ≤ maxLen
theorem InCo.below {w w' : World} {c : CC} {pa xa : Option Addr} (h : InCo w c pa xa) (hb : Below w.heap.size w w') : InCo w' c pa xa := ⟨h.at_.below hb, h.pn, h.xn, h.aw, h.cw, h.ms, h.xsz⟩
set_option maxRecDepth 100000 in
theorem open_commit {H : Type} {enc : TypeId × Value → H} {w : World} {base b0 : Nat} {held : Bool} {r : Reach} {v : Value} {d : DataW H} {p : List MemPlace}
    (hv : Value.okWide Tryd.prog w r b0 28 v) (h : DataW.Trod enc Tryd.prog w base (fun _ => true) held 28 v d p) :
    ∃ (c : CC) (pa : Option Addr) (pc : Nat) (xa : Option Addr) (xc : Nat), v = .agg (coV c pa pc xa xc) ∧ InCo w c pa xa := by
  have ht := Tryd.underlying28
  simp only [Value.okWide, ht] at hv
  obtain ⟨cs, rfl, hsz, -⟩ := hv
  obtain ⟨fuel, hf⟩ := h
  obtain ⟨ys, n, -, -, -, hyl, hg⟩ := DataW.trod_struct ht hf
  have hC : Tryd.prog.cellsOf 28 = 31 := by kernel_rfl
  have hC1 : Tryd.prog.cellsOf 9 = 1 := by kernel_rfl
  have hC2 : Tryd.prog.cellsOf 22 = 20 := by kernel_rfl
  have hC4 : Tryd.prog.cellsOf 23 = 1 := by kernel_rfl
  have hC5 : Tryd.prog.cellsOf 26 = 1 := by kernel_rfl
  have hC6 : Tryd.prog.cellsOf 48 = 2 := by kernel_rfl
  have hC7 : Tryd.prog.cellsOf 25 = 4 := by kernel_rfl
  rw [hC] at hsz
  have hl : cs.toList.length = 31 := hsz
  have hyl6 : ys.length = 6 := hyl
  have g0 := hg 0 _ rfl
  have g1 := hg 1 _ rfl
  have g2 := hg 2 _ rfl
  have g3 := hg 3 _ rfl
  have g4 := hg 4 _ rfl
  have g5 := hg 5 _ rfl
  rw [List.getElem?_eq_getElem (by omega)] at g0 g1 g2 g3 g4 g5
  change DataW.trod enc Tryd.prog w base (fun _ => true) held n 22 ((cs.toList.drop 0).take (Tryd.prog.cellsOf 22)) = some _ at g0
  rw [hC2] at g0
  change DataW.trod enc Tryd.prog w base (fun _ => true) held n 23 ((cs.toList.drop 20).take (Tryd.prog.cellsOf 23)) = some _ at g1
  rw [hC4] at g1
  change DataW.trod enc Tryd.prog w base (fun _ => true) held n 25 ((cs.toList.drop 21).take (Tryd.prog.cellsOf 25)) = some _ at g2
  rw [hC7] at g2
  change DataW.trod enc Tryd.prog w base (fun _ => true) held n 25 ((cs.toList.drop 25).take (Tryd.prog.cellsOf 25)) = some _ at g3
  rw [hC7] at g3
  change DataW.trod enc Tryd.prog w base (fun _ => true) held n 26 ((cs.toList.drop 29).take (Tryd.prog.cellsOf 26)) = some _ at g4
  rw [hC5] at g4
  change DataW.trod enc Tryd.prog w base (fun _ => true) held n 9 ((cs.toList.drop 30).take (Tryd.prog.cellsOf 9)) = some _ at g5
  rw [hC1] at g5
  obtain ⟨N, hN, hNl, hNb⟩ := trod_ids Tryd.underlying22 (by rw [List.length_take, List.length_drop, hl]; rfl) g0
  obtain ⟨pa, pc, ps, hP, hpn, hpr, hpo⟩ := trod_rowG (k := 20) (encα := idE) (Ok := fun p => p.length = 20 ∧ ∀ x ∈ p, 0 ≤ x ∧ x ≤ 255) Tryd.underlying23 hC2 (by decide) idE_len zeros20 (fun n' cs' y' hcl hst => by
    obtain ⟨zs, h1, h2, h3⟩ := trod_ids Tryd.underlying22 hcl hst
    exact ⟨zs, by rw [idE_of h2]; exact h1, h2, h3⟩) g1
  obtain ⟨A, hA, hAi⟩ := trod_who (by rw [List.length_take, List.length_drop, hl]; rfl) g2
  obtain ⟨C, hCc, hCi⟩ := trod_who (by rw [List.length_take, List.length_drop, hl]; rfl) g3
  obtain ⟨xa, xc, xs, hX, hxn, hxr, hxo⟩ := trod_rowG (k := 2) (encα := extE) (Ok := fun x => x.1.size ≤ maxLen ∧ x.2.size ≤ maxLen) Tryd.underlying26 hC6 (by decide) extE_len (⟨#[]⟩, ⟨#[]⟩) (fun n' cs' y' hcl hst => by
    obtain ⟨z0, z1, n2, -, -, q0, q1⟩ := trod_struct2 Tryd.underlying48 hst
    simp only [hC1] at q0 q1
    change DataW.trod enc Tryd.prog w base (fun _ => true) held n2 9 ((cs'.drop 0).take 1) = some z0 at q0
    change DataW.trod enc Tryd.prog w base (fun _ => true) held n2 9 ((cs'.drop 1).take 1) = some z1 at q1
    obtain ⟨K, hK, -, hks⟩ := DataW.trod_string Tryd.underlying9 q0
    obtain ⟨V, hV, -, hvs⟩ := DataW.trod_string Tryd.underlying9 q1
    refine ⟨(K, V), ?_, hks, hvs⟩
    rw [List.drop_zero] at hK
    rw [List.take_of_length_le (by rw [List.length_drop, hcl]; decide)] at hV
    rw [← List.take_append_drop 1 cs', hK, hV]
    rfl) g4
  obtain ⟨M, hM, -, hms⟩ := DataW.trod_string Tryd.underlying9 g5
  refine ⟨⟨N, ps, A, C, xs, M⟩, pa, pc, xa, xc, ?_, ⟨hNl, hNb, hpo, hpr, hxr⟩, hpn, hxn, hAi, hCi, hms, hxo⟩
  congr 1
  apply Array.toList_inj.1
  rw [List.drop_zero] at hN
  have step : ∀ (i : Nat) (u : Value), (cs.toList.drop i).take 1 = [u] → cs.toList.drop i = u :: cs.toList.drop (i + 1) := fun i u h => by
    rw [← List.take_append_drop 1 (cs.toList.drop i), h, List.drop_drop]
    rfl
  have step4 : ∀ (i : Nat) (us : List Value), (cs.toList.drop i).take 4 = us → cs.toList.drop i = us ++ cs.toList.drop (i + 4) := fun i us h => by
    rw [← List.take_append_drop 4 (cs.toList.drop i), h, List.drop_drop]
  have e6 : cs.toList.drop 31 = [] := List.drop_of_length_le (by omega)
  rw [← List.take_append_drop 20 cs.toList, hN, step 20 _ hP, step4 21 _ hA, step4 25 _ hCc, step 29 _ hX, step 30 _ hM, e6]
  rfl
end Go.Proofs.YtindmggmblmmcaaDoor
