/- What is met: the map, plainly and as it lies; keep. -/
import Derived.Test.YteaaoigeopekiaaRow3
namespace Go.Proofs.Yteaaoigeopekiaa
open Go.RowKit Go.WideMaps Go.Maps Plain
set_option linter.unusedVariables false
/-- The map keeps where each row of three bytes ahead of 'at' was met last. -/
def MetAt (w : World) (b : Nat) (bs : List Int) (k : Nat) : Prop :=
  ∃ es clock, w.heap[b]? = some (.map es clock) ∧ WideElems.Fit Try.prog 86 (plainElem (H := Unit) Try.prog 3) es clock ∧ es.size ≤ k ∧
    (∀ x ∈ es.toList, ∃ p : Nat, p + 3 ≤ bs.length ∧ p < k ∧ x.key = .agg (row3 bs p) ∧ x.val = .int .i64 (p : Int) ∧ (∀ p' : Nat, p < p' → p' < k → p' + 3 ≤ bs.length → row3 bs p' ≠ row3 bs p)) ∧
    (∀ p : Nat, p < k → p + 3 ≤ bs.length → ∃ kl y, keyOf Try.prog 86 (.agg (row3 bs p)) = some kl ∧ ∀ zd, (DataW.map ((es.toList.map (WideElems.rg Try.prog 86 (plainElem (H := Unit) Try.prog 3))).foldr DataW.insert [])).atKey kl zd = y)
theorem MetAt.made (w : World) (bs : List Int) : MetAt (w.alloc (.map #[] 0)) w.heap.size bs 0 := by
  obtain ⟨es, clock, h1, h2, h3, -⟩ := World.ownsMap_made (H := Unit) w Try.prog 86 (plainElem Try.prog 3)
  refine ⟨es, clock, h1, h2, h3, fun x hx => ?_, fun p h => absurd h (Nat.not_lt_zero p)⟩
  obtain ⟨l⟩ := es
  have : l = [] := List.eq_nil_of_length_eq_zero (by simpa using h3)
  subst this
  cases hx
theorem MetAt.lt {w : World} {b k : Nat} {bs : List Int} (h : MetAt w b bs k) : b < w.heap.size := by
  obtain ⟨es, clock, hb, -⟩ := h
  exact (Array.getElem?_eq_some_iff.1 hb).1
theorem MetAt.block {w w' : World} {b k : Nat} {bs : List Int} (h : MetAt w b bs k) (hb : w'.heap[b]? = w.heap[b]?) : MetAt w' b bs k := by
  obtain ⟨es, clock, h1, h2⟩ := h
  exact ⟨es, clock, hb.trans h1, h2⟩
theorem MetAt.below {w w' : World} {b k : Nat} {bs : List Int} (h : MetAt w b bs k) (hb : Below w.heap.size w w') : MetAt w' b bs k := h.block (hb.block b h.lt)
theorem MetAt.len {w : World} {b k : Nat} {bs : List Int} (h : MetAt w b bs k) (ty : TypeId) : ∃ n : Nat, n ≤ k ∧ (Builtin.len_ #[59] ty #[.map (some b)]).run Try.prog w = .ok (.int .i64 (n : Int)) w := by
  obtain ⟨es, clock, h1, h2, h3, -⟩ := h
  exact ⟨es.size, h3, run_len_map w 59 ty b es clock (by kernel_rfl) h1⟩
theorem zeroInt (w : World) : (zeroValue 3).run Try.prog w = .ok (.int .i64 0) w := by kernel_rfl
theorem MetAt.look {w : World} {b k : Nat} {bs : List Int} (h : MetAt w b bs k) (row : Array Value) (kl : Lit) (hk : keyOf Try.prog 86 (.agg row) = some kl) :
    ((∀ p : Nat, p < k → p + 3 ≤ bs.length → row3 bs p ≠ row) ∧ (Instr.lookup 59 (.map (some b)) (.agg row) true).run Try.prog w = .ok (.tuple #[.int .i64 0, .bool false]) w) ∨
    ∃ p : Nat, p + 3 ≤ bs.length ∧ p < k ∧ row3 bs p = row ∧ (∀ p' : Nat, p < p' → p' < k → p' + 3 ≤ bs.length → row3 bs p' ≠ row) ∧ (Instr.lookup 59 (.map (some b)) (.agg row) true).run Try.prog w = .ok (.tuple #[.int .i64 (p : Int), .bool true]) w := by
  obtain ⟨es, clock, h1, h2, h3, h4, h5⟩ := h
  rcases Maps.fit_look true keyed3 Try.underlying59 (zeroInt w) h1 h2 hk with ⟨hrun, -, hat⟩ | ⟨e0, y, hm, hke, hrun, -, -, -⟩
  · refine .inl ⟨fun p hp hp3 e => ?_, by simpa using hrun⟩
    obtain ⟨kl0, y, hk0, hy⟩ := h5 p hp hp3
    rw [e] at hk0
    rw [hk] at hk0
    injection hk0 with hk0
    subst hk0
    have e1 := (hat .nil).symm.trans (hy .nil)
    have e2 := (hat (.map [])).symm.trans (hy (.map []))
    rw [← e1] at e2
    cases e2
  · obtain ⟨p, p1, p2, p3, p4, p5⟩ := h4 e0 hm
    have hrow : row = row3 bs p := by rw [p3] at hke; exact (Value.agg.inj hke).symm
    subst hrow
    rw [p4] at hrun
    exact .inr ⟨p, p1, p2, rfl, p5, by simpa using hrun⟩
theorem MetAt.skip {w : World} {b k : Nat} {bs : List Int} (h : MetAt w b bs k) (hk : bs.length < k + 3) : MetAt w b bs (k + 1) := by
  obtain ⟨es, clock, h1, h2, h3, h4, h5⟩ := h
  refine ⟨es, clock, h1, h2, by omega, fun x hx => ?_, fun p hp hp3 => h5 p (by omega) hp3⟩
  obtain ⟨p, p1, p2, p3, p4, p5⟩ := h4 x hx
  exact ⟨p, p1, by omega, p3, p4, fun p' hlt hk' hp' => p5 p' hlt (by omega) hp'⟩
set_option maxRecDepth 100000 in
theorem MetAt.store {w : World} {b k : Nat} {bs : List Int} (h : MetAt w b bs k) (hn : k ≤ 100000) (hp : k + 3 ≤ bs.length) (kl : Lit) (hk : keyOf Try.prog 86 (.agg (row3 bs k)) = some kl) :
    ∃ w', (Instr.mapUpdate 59 (.map (some b)) (.agg (row3 bs k)) (.int .i64 (k : Int))).run Try.prog w = .ok () w' ∧ MetAt w' b bs (k + 1) ∧ w.grownBy w' (some b) := by
  obtain ⟨es, clock, h1, h2, h3, h4, h5⟩ := h
  have hw : (Lit.int .i64 (k : Int)).wf = true := by
    have e1 : IntKind.min .i64 = -9223372036854775808 := by decide
    have e2 : IntKind.max .i64 = 9223372036854775807 := by decide
    show (decide (IntKind.min .i64 ≤ (k : Int)) && decide ((k : Int) ≤ IntKind.max .i64)) = true
    rw [e1, e2]; simp; omega
  obtain ⟨es', clock', hrun, F', hput, -, -, hmem⟩ := Maps.fit_store (R' := plainElem (H := Unit) Try.prog 3) keyed3 Try.underlying59 h1 h2 (Nat.lt_of_le_of_lt h3 (by unfold maxLen; omega)) (fun _ _ _ _ hz => hz) hk (plainElem_int Try.underlying3 hw)
  refine ⟨_, hrun, ⟨es', clock', ChangeMaps.heap_setBlock_same h1 _, F', ?_, ?_, ?_⟩, ⟨rfl, rfl, rfl, by simp [ChangeMaps.setBlock], fun i _ hi => ChangeMaps.heap_setBlock_other h1 _ (fun e => hi (by rw [e]))⟩⟩
  · have e1 : es'.size = ((es'.toList.map (WideElems.rg Try.prog 86 (plainElem (H := Unit) Try.prog 3))).foldr DataW.insert []).length := by rw [length_sorted]; simp
    rw [e1, hput]
    unfold ChangeMaps.putKey
    rw [length_insert]
    have e2 := List.length_filter_le (ChangeMaps.notKey kl) ((es.toList.map (WideElems.rg Try.prog 86 (plainElem (H := Unit) Try.prog 3))).foldr DataW.insert [])
    rw [length_sorted] at e2
    simp at e2
    omega
  · intro x' hx'
    rcases hmem x' hx' with ⟨hx, hne⟩ | ⟨e1, e2⟩
    · obtain ⟨p, p1, p2, p3, p4, p5⟩ := h4 x' hx
      refine ⟨p, p1, by omega, p3, p4, fun p' hlt hk' hp' e => ?_⟩
      by_cases hpk : p' < k
      · exact p5 p' hlt hpk hp' e
      · obtain rfl : p' = k := by omega
        exact hne (by rw [p3, e])
    · exact ⟨k, hp, by omega, e1, e2, fun p' h1' h2' => by omega⟩
  · intro p hpk hp3
    have hkey : WideAt.IsKeyLit kl := keyed3.key hk
    by_cases he : row3 bs p = row3 bs k
    · refine ⟨kl, .lit (.int .i64 (k : Int)), he ▸ hk, fun zd => ?_⟩
      rw [hput, ← DataW.put_eq]
      exact atKey_put_same ⟨_, rfl⟩ hkey _ _
    · have hp0 : p ≠ k := fun e => he (by rw [e])
      obtain ⟨kl0, y, hk0, hy⟩ := h5 p (by omega) hp3
      refine ⟨kl0, y, hk0, fun zd => ?_⟩
      rw [hput, ← DataW.put_eq, atKey_put_other]
      · exact hy zd
      · intro e
        subst e
        have := keyed3.inj hk hk0
        injection this with this
        exact he this.symm
/-- The memory's value. -/
def memV (b : Nat) : Value := .agg #[.map (some b)]
def KeepQ (mb : Nat) (bs : List Int) (k : Nat) (w : World) (e : Ending) (w' : World) : Prop := e = .returned (.tuple #[]) ∧ MetAt w' mb bs (k + 1) ∧ (∀ base, mb ≥ base → base ≤ w.heap.size → Below base w w') ∧ (∀ g, g < w.heap.size → g ≠ mb → w'.heap[g]? = w.heap[g]?)
set_option maxRecDepth 100000 in
set_option maxHeartbeats 4000000 in
theorem keep_any (mb : Nat) (bs : List Int) (a : Option Addr) (m c : Nat) (k : Nat) (hm : m ≤ 30000) (hk : k < m) (w : World) (H : Bytes w a m bs) (HM : MetAt w mb bs k) :
    Calls Try.prog 35 #[.agg #[.map (some mb)], .slice a m c, .int .i64 (k : Int)] w (KeepQ mb bs k w) := by
  have hl : bs.length = m := H.1
  have HY := Lib.hid H
  have HMM := Lib.hid HM
  have hks : (k : Int) + 3 ≤ 2000000000 := by omega
  clear H HM
  by_cases h1 : m < k + 3
  · have h1i : (m : Int) < (k : Int) + 3 := by omega
    go_enter Try.func35, Try.ntmps35
    go_wp2_with fail
    have hal : Below w.heap.size w (w.alloc (.cells #[.map (some mb)] 61)) := (Below.refl _ _).alloc (Nat.le_refl _) _
    refine bodyPost_ret (results_none Try.results35 _ _ _) rfl ?_
    exact ⟨rfl, (HMM.out.below hal).skip (by omega), fun base _ hs => hal.mono hs, fun g hg _ => hal.block g hg⟩
  · have h1i : ¬ (m : Int) < (k : Int) + 3 := by omega
    obtain ⟨kl, hkl⟩ := row3_key bs k HY.out.2.2.1
    have hal : Below w.heap.size w (w.alloc (.cells #[.map (some mb)] 61)) := (Below.refl _ _).alloc (Nat.le_refl _) _
    obtain ⟨n, hn, hlen⟩ := (HMM.out.below hal).len 3
    have hni : ¬ (65536 : Int) ≤ (n : Int) := by omega
    have HA : Hid (MetAt (w.alloc (.cells #[.map (some mb)] 61)).drew mb bs k) := HMM.out.below hal.drew
    have HAL : Hid (Below w.heap.size w (w.alloc (.cells #[.map (some mb)] 61)).drew) := hal.drew
    have HROW := Lib.hid (rowAt_any a m c bs k (by omega) (by omega) _ (HY.out.below hal.drew))
    have HST : Hid (∀ W, MetAt W mb bs k → ∃ w', (Instr.mapUpdate 59 (.map (some mb)) (.agg (row3 bs k)) (.int .i64 (k : Int))).run Try.prog W = .ok () w' ∧ MetAt w' mb bs (k + 1) ∧ W.grownBy w' (some mb)) :=
      fun W hW => hW.store (by omega) (by omega) kl hkl
    clear hkl hal hl
    generalize row3 bs k = R at *
    go_enter Try.func35, Try.ntmps35
    go_wp2_with fail
    have hgx : (w.alloc (.cells #[.map (some mb)] 61)).heap[w.heap.size]? = some (.cells #[.map (some mb)] 61 (0, 0)) := by
      show (w.heap.push _)[w.heap.size]? = _
      simp
    have hsx : w.heap.size < (w.alloc (.cells #[.map (some mb)] 61)).heap.size := by simp
    have kbx : (w.alloc (.cells #[.map (some mb)] 61)).cell? ⟨w.heap.size, 0, none⟩ = some (.map (some mb)) := by
      unfold World.cell?
      simp only []
      rw [hgx]
      rfl
    have hmbx := HMM.out.lt
    clear hgx
    go_region_held3 (fun W => W.cell? ⟨w.heap.size, 0, none⟩ = some (.map (some mb)))
      (first | exact kbx | exact jbx | exact lbx | go_keep | assumption)
      (first | (go_at_call 52; refine (HROW.out).mono ?_; rintro e w2 ⟨rfl, hb2⟩; have jbx := (hb2.cell (p := ⟨w.heap.size, 0, none⟩) hsx).trans kbx; obtain ⟨w3, hst, hm3, hg3⟩ := HST.out w2 (HA.out.below hb2); have lbx := (World.cell?_of_block (w := w2) (w' := w3) (a := ⟨w.heap.size, 0, none⟩) (hg3.block _ (Nat.lt_of_lt_of_le hsx hb2.size) (fun e => by injection e with e; exact absurd e (Nat.ne_of_gt hmbx)))).trans jbx; have HM3 := Lib.hid hm3; have HG3 := Lib.hid hg3; have HB2 := Lib.hid hb2; clear hm3 hg3 hb2))
    go_wp2_with fail
    go_end0
    refine ⟨rfl, HM3.out, fun base hge hs => ?_, fun g hg hne => ?_⟩
    · exact ((HAL.out.mono hs).trans (HB2.out.mono (Nat.le_trans hs HAL.out.size))).grown HG3.out (by have := HB2.out.size; have := HAL.out.size; omega) (fun i hi => by injection hi with hi; omega)
    · rw [HG3.out.block g (by have := HB2.out.size; have := HAL.out.size; omega) (fun e => hne (by injection e with e)), HB2.out.block g (by have := HAL.out.size; omega), HAL.out.block g hg]
end Go.Proofs.Yteaaoigeopekiaa
