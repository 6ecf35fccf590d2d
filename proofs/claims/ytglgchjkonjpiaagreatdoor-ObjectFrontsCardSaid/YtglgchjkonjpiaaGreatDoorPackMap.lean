/- Three bytes as a row: the walk; as a key. -/
import Derived.Test.YtglgchjkonjpiaaGreatDoorPackBits
import Derived.Maps.Keyed
import Derived.Maps.Own
import Derived.WideKeyArr2
import Derived.Maps.Views
import Derived.Test.YtglgchjkonjpiaaGreatDoorInfE
/-! Three bytes as a row: the walk; as a key. -/
namespace Go.Proofs.YtglgchjkonjpiaaGreatDoor
open Go.RowKit Go.WideMaps Go.Maps Plain
set_option linter.unusedVariables false
def row3 (bs : List Int) (p : Nat) : Array Value := #[.int .u8 (bs[p]?.getD 0), .int .u8 (bs[p + 1]?.getD 0), .int .u8 (bs[p + 2]?.getD 0)]
theorem row3_eq (bs : List Int) (p q : Nat) : row3 bs p = row3 bs q ↔ bs[p]?.getD 0 = bs[q]?.getD 0 ∧ bs[p + 1]?.getD 0 = bs[q + 1]?.getD 0 ∧ bs[p + 2]?.getD 0 = bs[q + 2]?.getD 0 := by
  unfold row3
  simp
theorem arrKey3 : ArrKey Tryz.prog 142 5 3 where
  hu := Tryz.underlying142
  plain := by kernel_rfl
  one := by kernel_rfl
  size := by kernel_rfl
theorem typesMore : ∃ m, Tryz.prog.types.size = m + 1 := ⟨Tryz.prog.types.size - 1, by kernel_rfl⟩
theorem mapM_some {α β : Type} (f : α → Option β) : ∀ l : List α, (∀ a ∈ l, ∃ b, f a = some b) → ∃ bs, l.mapM f = some bs
  | [], _ => ⟨[], rfl⟩
  | a :: l, h => by
    obtain ⟨b, hb⟩ := h a (by simp)
    obtain ⟨bs, hbs⟩ := mapM_some f l (fun x hx => h x (by simp [hx]))
    exact ⟨b :: bs, by simp [List.mapM_cons, hb, hbs]⟩
theorem key_row (row : Array Value) (h : row.size = 3) (hr : ∀ j, j < 3 → ∃ x : Int, row.toList[j]? = some (.int .u8 x) ∧ 0 ≤ x ∧ x ≤ 255) : ∃ kl, keyOf Tryz.prog 142 (.agg row) = some kl := by
  have hkt := arrKey3.keyType typesMore
  obtain ⟨m, hm⟩ := typesMore
  obtain ⟨m', hm'⟩ : ∃ m', m = m' + 1 := by
    have h2 : 2 ≤ Tryz.prog.types.size := by decide +kernel
    exact ⟨m - 1, by omega⟩
  subst hm'
  unfold keyOf
  simp only [arrKey3.hu]
  rw [if_pos (by simp [hkt, Value.formed, arrKey3.hu, arrKey3.size, h]), hm]
  unfold Program.keyLits
  simp only [arrKey3.hu, Value.cells]
  rw [if_pos (by rw [arrKey3.size, Array.length_toList, h])]
  obtain ⟨bs, hbs⟩ := mapM_some (fun i => Tryz.prog.keyLits (m' + 1 + 1) 5 ((row.toList.drop (i * Tryz.prog.cellsOf 5)).take (Tryz.prog.cellsOf 5))) (List.range 3) (fun i hi => by
    rw [List.mem_range] at hi
    obtain ⟨x, hx, h0, h1⟩ := hr i hi
    rw [arrKey3.one, Nat.mul_one]
    have hd : (row.toList.drop i).take 1 = [.int .u8 x] := by
      obtain ⟨hlt, hv⟩ := List.getElem?_eq_some_iff.1 hx
      rw [List.drop_eq_getElem_cons hlt, hv]; rfl
    rw [hd]
    refine ⟨[.int .u8 x], ?_⟩
    unfold Program.keyLits
    have hu : Tryz.prog.underlying 5 = some (.int .u8) := Tryz.underlying5
    have hw : (Lit.int .u8 x).wf = true := by
      have e1 : IntKind.min .u8 = 0 := by decide
      have e2 : IntKind.max .u8 = 255 := by decide
      show (decide (IntKind.min .u8 ≤ x) && decide (x ≤ IntKind.max .u8)) = true
      rw [e1, e2]; simp; omega
    simp [hu, hw])
  rw [hbs]
  exact ⟨_, rfl⟩
theorem row3_key (bs : List Int) (p : Nat) (hb : ∀ j : Nat, 0 ≤ bs[j]?.getD 0 ∧ bs[j]?.getD 0 ≤ 255) : ∃ kl, keyOf Tryz.prog 142 (.agg (row3 bs p)) = some kl := by
  refine key_row _ rfl (fun j hj => ?_)
  have : j = 0 ∨ j = 1 ∨ j = 2 := by omega
  rcases this with rfl | rfl | rfl
  · exact ⟨_, rfl, (hb _).1, (hb _).2⟩
  · exact ⟨_, rfl, (hb _).1, (hb _).2⟩
  · exact ⟨_, rfl, (hb _).1, (hb _).2⟩
theorem keyed3 : Keyed Tryz.prog 142 := Keyed.of_law arrKey3.law
theorem Bytes.cellOf {w : World} {b off n : Nat} {xs : List Int} (h : Bytes w (some ⟨b, off, none⟩) n xs) (j : Nat) (hj : j < n) : w.cell? ⟨b, off + j, none⟩ = some (.int .u8 (xs[j]?.getD 0)) := by
  rcases h.2.2.2 with h | ⟨b', off', h1, h2⟩
  · omega
  · injection h1 with h1
    injection h1 with e1 e2
    subst e1 e2
    exact h2 j hj
set_option maxRecDepth 100000 in
set_option maxHeartbeats 4000000 in
theorem rowAt_any (a : Option Addr) (m c : Nat) (bs : List Int) (p : Nat) (hp : p + 3 ≤ m) (hm : m ≤ 1000000000) (w : World) (H : Bytes w a m bs) :
    Calls Tryz.prog 102 #[.slice a m c, .int .i64 (p : Int)] w fun e w' => e = .returned (.agg (row3 bs p)) ∧ Below w.heap.size w w' := by
  obtain ⟨b, off, rfl⟩ : ∃ b off, a = some ⟨b, off, none⟩ := by
    rcases H.2.2.2 with h | ⟨b, off, rfl, -⟩
    · omega
    · exact ⟨b, off, rfl⟩
  have hal : Below w.heap.size w (w.alloc (.cells #[.int .u8 0, .int .u8 0, .int .u8 0] 142)) := (Below.refl _ _).alloc (Nat.le_refl _) _
  have k0 := (H.below hal).cellOf p (by omega)
  have k1 := (H.below hal).cellOf (p + 1) (by omega)
  have k2 := (H.below hal).cellOf (p + 2) (by omega)
  have hx0 := H.2.2.1 p
  have hx1 := H.2.2.1 (p + 1)
  have hx2 := H.2.2.1 (p + 2)
  have HR : Hid (row3 bs p = #[.int .u8 (bs[p]?.getD 0), .int .u8 (bs[p + 1]?.getD 0), .int .u8 (bs[p + 2]?.getD 0)]) := rfl
  generalize row3 bs p = R at *
  generalize bs[p]?.getD 0 = x0 at *
  generalize bs[p + 1]?.getD 0 = x1 at *
  generalize bs[p + 2]?.getD 0 = x2 at *
  have i0 : (p : Int) < (m : Int) := by omega
  have i1 : (p : Int) + 1 < (m : Int) := by omega
  have i2 : (p : Int) + 2 < (m : Int) := by omega
  clear H hal
  go_enter Tryz.func102, Tryz.ntmps102
  go_wp2_with fail
  go_region
  go_wp2_with fail
  have hg : (w.alloc (.cells #[.int .u8 x0, .int .u8 x1, .int .u8 x2] 142)).drew.heap[w.heap.size]? = some (.cells #[.int .u8 x0, .int .u8 x1, .int .u8 x2] 142 (0, 0)) := by
    show (w.heap.push _)[w.heap.size]? = _
    simp
  refine bodyPost_ret (results_cell_row Tryz.results102 _ _ w.heap.size 142 _ (0, 0) (.array 3 5) rfl hg Tryz.underlying142 rfl (by kernel_rfl)) rfl ⟨by rw [HR.out], ((Below.refl _ _).alloc (Nat.le_refl _) _).drew⟩
end Go.Proofs.YtglgchjkonjpiaaGreatDoor
/-! What is met: the map, plainly and as it lies; keep. -/
namespace Go.Proofs.YtglgchjkonjpiaaGreatDoor
open Go.RowKit Go.WideMaps Go.Maps Plain
set_option linter.unusedVariables false
/-- The map keeps where each row of three bytes ahead of 'at' was met last. -/
def MetAt (w : World) (b : Nat) (bs : List Int) (k : Nat) : Prop :=
  ∃ es clock, w.heap[b]? = some (.map es clock) ∧ WideElems.Fit Tryz.prog 142 (plainElem (H := Unit) Tryz.prog 3) es clock ∧ es.size ≤ k ∧
    (∀ x ∈ es.toList, ∃ p : Nat, p + 3 ≤ bs.length ∧ p < k ∧ x.key = .agg (row3 bs p) ∧ x.val = .int .i64 (p : Int) ∧ (∀ p' : Nat, p < p' → p' < k → p' + 3 ≤ bs.length → row3 bs p' ≠ row3 bs p)) ∧
    (∀ p : Nat, p < k → p + 3 ≤ bs.length → ∃ kl y, keyOf Tryz.prog 142 (.agg (row3 bs p)) = some kl ∧ ∀ zd, (DataW.map ((es.toList.map (WideElems.rg Tryz.prog 142 (plainElem (H := Unit) Tryz.prog 3))).foldr DataW.insert [])).atKey kl zd = y)
theorem MetAt.made (w : World) (bs : List Int) : MetAt (w.alloc (.map #[] 0)) w.heap.size bs 0 := by
  obtain ⟨es, clock, h1, h2, h3, -⟩ := World.ownsMap_made (H := Unit) w Tryz.prog 142 (plainElem Tryz.prog 3)
  refine ⟨es, clock, h1, h2, h3, fun x hx => ?_, fun p h => absurd h (Nat.not_lt_zero p)⟩
  obtain ⟨l⟩ := es
  have : l = [] := List.eq_nil_of_length_eq_zero (by simpa using h3)
  subst this
  cases hx
theorem MetAt.lt {w : World} {b k : Nat} {bs : List Int} (h : MetAt w b bs k) : b < w.heap.size := by
  obtain ⟨es, clock, hb, -⟩ := h
  exact (Array.getElem?_eq_some_iff.1 hb).1
theorem MetAt.block {w w' : World} {b k : Nat} {bs : List Int} (h : MetAt w b bs k) (hb : w'.heap[b]? = w.heap[b]?) : MetAt w' b bs k := by
  obtain ⟨es, clock, h1, h2⟩ := h
  exact ⟨es, clock, hb.trans h1, h2⟩
theorem MetAt.below {w w' : World} {b k : Nat} {bs : List Int} (h : MetAt w b bs k) (hb : Below w.heap.size w w') : MetAt w' b bs k := h.block (hb.block b h.lt)
theorem MetAt.len {w : World} {b k : Nat} {bs : List Int} (h : MetAt w b bs k) (ty : TypeId) : ∃ n : Nat, n ≤ k ∧ (Builtin.len_ #[112] ty #[.map (some b)]).run Tryz.prog w = .ok (.int .i64 (n : Int)) w := by
  obtain ⟨es, clock, h1, h2, h3, -⟩ := h
  exact ⟨es.size, h3, run_len_map w 112 ty b es clock (by kernel_rfl) h1⟩
theorem zeroInt (w : World) : (zeroValue 3).run Tryz.prog w = .ok (.int .i64 0) w := by kernel_rfl
theorem MetAt.look {w : World} {b k : Nat} {bs : List Int} (h : MetAt w b bs k) (row : Array Value) (kl : Lit) (hk : keyOf Tryz.prog 142 (.agg row) = some kl) :
    ((∀ p : Nat, p < k → p + 3 ≤ bs.length → row3 bs p ≠ row) ∧ (Instr.lookup 112 (.map (some b)) (.agg row) true).run Tryz.prog w = .ok (.tuple #[.int .i64 0, .bool false]) w) ∨
    ∃ p : Nat, p + 3 ≤ bs.length ∧ p < k ∧ row3 bs p = row ∧ (∀ p' : Nat, p < p' → p' < k → p' + 3 ≤ bs.length → row3 bs p' ≠ row) ∧ (Instr.lookup 112 (.map (some b)) (.agg row) true).run Tryz.prog w = .ok (.tuple #[.int .i64 (p : Int), .bool true]) w := by
  obtain ⟨es, clock, h1, h2, h3, h4, h5⟩ := h
  rcases Maps.fit_look true keyed3 Tryz.underlying112 (zeroInt w) h1 h2 hk with ⟨hrun, -, hat⟩ | ⟨e0, y, hm, hke, hrun, -, -, -⟩
  · refine .inl ⟨fun p hp hp3 e => ?_, by simpa using hrun⟩
    obtain ⟨kl0, y, hk0, hy⟩ := h5 p hp hp3
    rw [e] at hk0
    rw [hk] at hk0
    injection hk0 with hk0
    subst hk0
    have e1 := (hat .nil).symm.trans (hy .nil)
    have e2 := (hat (.map [])).symm.trans (hy (.map []))
    rw [← e1] at e2
    cases e2
  · obtain ⟨p, p1, p2, p3, p4, p5⟩ := h4 e0 hm
    have hrow : row = row3 bs p := by rw [p3] at hke; exact (Value.agg.inj hke).symm
    subst hrow
    rw [p4] at hrun
    exact .inr ⟨p, p1, p2, rfl, p5, by simpa using hrun⟩
theorem MetAt.skip {w : World} {b k : Nat} {bs : List Int} (h : MetAt w b bs k) (hk : bs.length < k + 3) : MetAt w b bs (k + 1) := by
  obtain ⟨es, clock, h1, h2, h3, h4, h5⟩ := h
  refine ⟨es, clock, h1, h2, by omega, fun x hx => ?_, fun p hp hp3 => h5 p (by omega) hp3⟩
  obtain ⟨p, p1, p2, p3, p4, p5⟩ := h4 x hx
  exact ⟨p, p1, by omega, p3, p4, fun p' hlt hk' hp' => p5 p' hlt (by omega) hp'⟩
set_option maxRecDepth 100000 in
theorem MetAt.store {w : World} {b k : Nat} {bs : List Int} (h : MetAt w b bs k) (hn : k ≤ 100000) (hp : k + 3 ≤ bs.length) (kl : Lit) (hk : keyOf Tryz.prog 142 (.agg (row3 bs k)) = some kl) :
    ∃ w', (Instr.mapUpdate 112 (.map (some b)) (.agg (row3 bs k)) (.int .i64 (k : Int))).run Tryz.prog w = .ok () w' ∧ MetAt w' b bs (k + 1) ∧ w.grownBy w' (some b) := by
  obtain ⟨es, clock, h1, h2, h3, h4, h5⟩ := h
  have hw : (Lit.int .i64 (k : Int)).wf = true := by
    have e1 : IntKind.min .i64 = -9223372036854775808 := by decide
    have e2 : IntKind.max .i64 = 9223372036854775807 := by decide
    show (decide (IntKind.min .i64 ≤ (k : Int)) && decide ((k : Int) ≤ IntKind.max .i64)) = true
    rw [e1, e2]; simp; omega
  obtain ⟨es', clock', hrun, F', hput, -, -, hmem⟩ := Maps.fit_store (R' := plainElem (H := Unit) Tryz.prog 3) keyed3 Tryz.underlying112 h1 h2 (Nat.lt_of_le_of_lt h3 (by unfold maxLen; omega)) (fun _ _ _ _ hz => hz) hk (plainElem_int Tryz.underlying3 hw)
  refine ⟨_, hrun, ⟨es', clock', ChangeMaps.heap_setBlock_same h1 _, F', ?_, ?_, ?_⟩, ⟨rfl, rfl, rfl, by simp [ChangeMaps.setBlock], fun i _ hi => ChangeMaps.heap_setBlock_other h1 _ (fun e => hi (by rw [e]))⟩⟩
  · have e1 : es'.size = ((es'.toList.map (WideElems.rg Tryz.prog 142 (plainElem (H := Unit) Tryz.prog 3))).foldr DataW.insert []).length := by rw [length_sorted]; simp
    rw [e1, hput]
    unfold ChangeMaps.putKey
    rw [length_insert]
    have e2 := List.length_filter_le (ChangeMaps.notKey kl) ((es.toList.map (WideElems.rg Tryz.prog 142 (plainElem (H := Unit) Tryz.prog 3))).foldr DataW.insert [])
    rw [length_sorted] at e2
    simp at e2
    omega
  · intro x' hx'
    rcases hmem x' hx' with ⟨hx, hne⟩ | ⟨e1, e2⟩
    · obtain ⟨p, p1, p2, p3, p4, p5⟩ := h4 x' hx
      refine ⟨p, p1, by omega, p3, p4, fun p' hlt hk' hp' e => ?_⟩
      by_cases hpk : p' < k
      · exact p5 p' hlt hpk hp' e
      · obtain rfl : p' = k := by omega
        exact hne (by rw [p3, e])
    · exact ⟨k, hp, by omega, e1, e2, fun p' h1' h2' => by omega⟩
  · intro p hpk hp3
    have hkey : WideAt.IsKeyLit kl := keyed3.key hk
    by_cases he : row3 bs p = row3 bs k
    · refine ⟨kl, .lit (.int .i64 (k : Int)), he ▸ hk, fun zd => ?_⟩
      rw [hput, ← DataW.put_eq]
      exact atKey_put_same ⟨_, rfl⟩ hkey _ _
    · have hp0 : p ≠ k := fun e => he (by rw [e])
      obtain ⟨kl0, y, hk0, hy⟩ := h5 p (by omega) hp3
      refine ⟨kl0, y, hk0, fun zd => ?_⟩
      rw [hput, ← DataW.put_eq, atKey_put_other]
      · exact hy zd
      · intro e
        subst e
        have := keyed3.inj hk hk0
        injection this with this
        exact he this.symm
/-- The memory's value. -/
def memV (b : Nat) : Value := .agg #[.map (some b)]
def KeepQ (mb : Nat) (bs : List Int) (k : Nat) (w : World) (e : Ending) (w' : World) : Prop := e = .returned (.tuple #[]) ∧ MetAt w' mb bs (k + 1) ∧ (∀ base, mb ≥ base → base ≤ w.heap.size → Below base w w') ∧ (∀ g, g < w.heap.size → g ≠ mb → w'.heap[g]? = w.heap[g]?)
set_option maxRecDepth 100000 in
set_option maxHeartbeats 4000000 in
theorem keep_any (mb : Nat) (bs : List Int) (a : Option Addr) (m c : Nat) (k : Nat) (hm : m ≤ 30000) (hk : k < m) (w : World) (H : Bytes w a m bs) (HM : MetAt w mb bs k) :
    Calls Tryz.prog 78 #[.agg #[.map (some mb)], .slice a m c, .int .i64 (k : Int)] w (KeepQ mb bs k w) := by
  have hl : bs.length = m := H.1
  have HY := Lib.hid H
  have HMM := Lib.hid HM
  have hks : (k : Int) + 3 ≤ 2000000000 := by omega
  clear H HM
  by_cases h1 : m < k + 3
  · have h1i : (m : Int) < (k : Int) + 3 := by omega
    go_enter Tryz.func78, Tryz.ntmps78
    go_wp2_with fail
    have hal : Below w.heap.size w (w.alloc (.cells #[.map (some mb)] 114)) := (Below.refl _ _).alloc (Nat.le_refl _) _
    refine bodyPost_ret (results_none Tryz.results78 _ _ _) rfl ?_
    exact ⟨rfl, (HMM.out.below hal).skip (by omega), fun base _ hs => hal.mono hs, fun g hg _ => hal.block g hg⟩
  · have h1i : ¬ (m : Int) < (k : Int) + 3 := by omega
    obtain ⟨kl, hkl⟩ := row3_key bs k HY.out.2.2.1
    have hal : Below w.heap.size w (w.alloc (.cells #[.map (some mb)] 114)) := (Below.refl _ _).alloc (Nat.le_refl _) _
    obtain ⟨n, hn, hlen⟩ := (HMM.out.below hal).len 3
    have hni : ¬ (65536 : Int) ≤ (n : Int) := by omega
    have HA : Hid (MetAt (w.alloc (.cells #[.map (some mb)] 114)).drew mb bs k) := HMM.out.below hal.drew
    have HAL : Hid (Below w.heap.size w (w.alloc (.cells #[.map (some mb)] 114)).drew) := hal.drew
    have HROW := Lib.hid (rowAt_any a m c bs k (by omega) (by omega) _ (HY.out.below hal.drew))
    have HST : Hid (∀ W, MetAt W mb bs k → ∃ w', (Instr.mapUpdate 112 (.map (some mb)) (.agg (row3 bs k)) (.int .i64 (k : Int))).run Tryz.prog W = .ok () w' ∧ MetAt w' mb bs (k + 1) ∧ W.grownBy w' (some mb)) :=
      fun W hW => hW.store (by omega) (by omega) kl hkl
    clear hkl hal hl
    generalize row3 bs k = R at *
    go_enter Tryz.func78, Tryz.ntmps78
    go_wp2_with fail
    have hgx : (w.alloc (.cells #[.map (some mb)] 114)).heap[w.heap.size]? = some (.cells #[.map (some mb)] 114 (0, 0)) := by
      show (w.heap.push _)[w.heap.size]? = _
      simp
    have hsx : w.heap.size < (w.alloc (.cells #[.map (some mb)] 114)).heap.size := by simp
    have kbx : (w.alloc (.cells #[.map (some mb)] 114)).cell? ⟨w.heap.size, 0, none⟩ = some (.map (some mb)) := by
      unfold World.cell?
      simp only []
      rw [hgx]
      rfl
    have hmbx := HMM.out.lt
    clear hgx
    go_region_held3 (fun W => W.cell? ⟨w.heap.size, 0, none⟩ = some (.map (some mb)))
      (first | exact kbx | exact jbx | exact lbx | go_keep | assumption)
      (first | (go_at_call 102; refine (HROW.out).mono ?_; rintro e w2 ⟨rfl, hb2⟩; have jbx := (hb2.cell (p := ⟨w.heap.size, 0, none⟩) hsx).trans kbx; obtain ⟨w3, hst, hm3, hg3⟩ := HST.out w2 (HA.out.below hb2); have lbx := (World.cell?_of_block (w := w2) (w' := w3) (a := ⟨w.heap.size, 0, none⟩) (hg3.block _ (Nat.lt_of_lt_of_le hsx hb2.size) (fun e => by injection e with e; exact absurd e (Nat.ne_of_gt hmbx)))).trans jbx; have HM3 := Lib.hid hm3; have HG3 := Lib.hid hg3; have HB2 := Lib.hid hb2; clear hm3 hg3 hb2))
    go_wp2_with fail
    go_end0
    refine ⟨rfl, HM3.out, fun base hge hs => ?_, fun g hg hne => ?_⟩
    · exact ((HAL.out.mono hs).trans (HB2.out.mono (Nat.le_trans hs HAL.out.size))).grown HG3.out (by have := HB2.out.size; have := HAL.out.size; omega) (fun i hi => by injection hi with hi; omega)
    · rw [HG3.out.block g (by have := HB2.out.size; have := HAL.out.size; omega) (fun e => hne (by injection e with e)), HB2.out.block g (by have := HAL.out.size; omega), HAL.out.block g hg]
end Go.Proofs.YtglgchjkonjpiaaGreatDoor
/-! What is found of the bytes ahead: plainly, and the walk. -/
namespace Go.Proofs.YtglgchjkonjpiaaGreatDoor
open Go.RowKit Go.WideMaps Go.Maps Plain
set_option linter.unusedVariables false
def same3 (bs : List Int) (p q : Nat) : Bool := bs[p]?.getD 0 == bs[q]?.getD 0 && (bs[p + 1]?.getD 0 == bs[q + 1]?.getD 0 && bs[p + 2]?.getD 0 == bs[q + 2]?.getD 0)
theorem same3_iff (bs : List Int) (p q : Nat) : same3 bs p q = true ↔ row3 bs p = row3 bs q := by
  rw [row3_eq]; unfold same3; simp
/-- The last place ahead of k with the row that begins at k. -/
def lastGo (bs : List Int) (k : Nat) : Nat → Option Nat
  | 0 => none
  | p + 1 => if p + 3 ≤ bs.length ∧ same3 bs p k = true then some p else lastGo bs k p
def extGo (bs : List Int) (p k most : Nat) : Nat → Nat → Nat
  | 0, n => n
  | f + 1, n => if n < most ∧ bs[p + n]?.getD 0 = bs[k + n]?.getD 0 then extGo bs p k most f (n + 1) else n
/-- How many bytes, how far behind. -/
def findN (bs : List Int) (k : Nat) : Nat × Nat :=
  if bs.length < k + 3 then (0, 0) else match lastGo bs k k with
    | none => (0, 0)
    | some p => (extGo bs p k (min 258 (bs.length - k)) 258 3, k - p)
theorem lastGo_none {bs : List Int} {k : Nat} : ∀ j, (∀ p : Nat, p < j → p + 3 ≤ bs.length → row3 bs p ≠ row3 bs k) → lastGo bs k j = none
  | 0, _ => rfl
  | j + 1, h => by
    rw [lastGo, if_neg (fun hc => h j (by omega) hc.1 ((same3_iff _ _ _).1 hc.2)), lastGo_none j (fun p hp => h p (by omega))]
theorem lastGo_some {bs : List Int} {k p : Nat} (h3 : p + 3 ≤ bs.length) (he : row3 bs p = row3 bs k) : ∀ j, p < j → (∀ p' : Nat, p < p' → p' < j → p' + 3 ≤ bs.length → row3 bs p' ≠ row3 bs k) → lastGo bs k j = some p
  | 0, h, _ => by omega
  | j + 1, h, hl => by
    rw [lastGo]
    by_cases hj : p = j
    · subst hj
      rw [if_pos ⟨h3, (same3_iff _ _ _).2 he⟩]
    · rw [if_neg (fun hc => hl j (by omega) (by omega) hc.1 ((same3_iff _ _ _).1 hc.2)), lastGo_some h3 he j (by omega) (fun p' a b => hl p' a (by omega))]
theorem lastGo_ok {bs : List Int} {k : Nat} : ∀ {j p : Nat}, lastGo bs k j = some p → p < j ∧ p + 3 ≤ bs.length ∧ row3 bs p = row3 bs k
  | 0, p, h => by cases h
  | j + 1, p, h => by
    rw [lastGo] at h
    split at h
    · rename_i hc
      injection h with h
      subst h
      exact ⟨by omega, hc.1, (same3_iff _ _ _).1 hc.2⟩
    · have := lastGo_ok h
      exact ⟨by omega, this.2⟩
theorem extGo_same {bs : List Int} {p k most : Nat} : ∀ f g n, most ≤ n + f → most ≤ n + g → extGo bs p k most f n = extGo bs p k most g n
  | 0, 0, n, _, _ => rfl
  | 0, g + 1, n, h, _ => by rw [extGo, extGo, if_neg (fun hc => by omega)]
  | f + 1, 0, n, _, h => by rw [extGo, extGo, if_neg (fun hc => by omega)]
  | f + 1, g + 1, n, h, h' => by
    rw [extGo, extGo]
    split
    · exact extGo_same f g (n + 1) (by omega) (by omega)
    · rfl
theorem extGo_le {bs : List Int} {p k most : Nat} : ∀ f n, n ≤ most → n ≤ extGo bs p k most f n ∧ extGo bs p k most f n ≤ most
  | 0, n, h => ⟨Nat.le_refl _, h⟩
  | f + 1, n, h => by
    rw [extGo]
    split
    · have := extGo_le (bs := bs) (p := p) (k := k) (most := most) f (n + 1) (by omega)
      omega
    · exact ⟨Nat.le_refl _, h⟩
theorem extGo_eq {bs : List Int} {p k most : Nat} : ∀ f n, (∀ j, j < n → bs[p + j]?.getD 0 = bs[k + j]?.getD 0) → ∀ j, j < extGo bs p k most f n → bs[p + j]?.getD 0 = bs[k + j]?.getD 0
  | 0, n, h => h
  | f + 1, n, h => by
    rw [extGo]
    split
    · rename_i hc
      refine extGo_eq f (n + 1) (fun j hj => ?_)
      by_cases hjn : j < n
      · exact h j hjn
      · obtain rfl : j = n := by omega
        exact hc.2
    · exact h
/-- What is found is there. -/
theorem findN_ok {bs : List Int} {k l d : Nat} (h : findN bs k = (l, d)) (hl : l ≠ 0) : 3 ≤ l ∧ l ≤ 258 ∧ k + l ≤ bs.length ∧ 1 ≤ d ∧ d ≤ k ∧ ∀ j, j < l → bs[k - d + j]?.getD 0 = bs[k + j]?.getD 0 := by
  unfold findN at h
  split at h
  · injection h with h1 h2; omega
  · cases hg : lastGo bs k k with
    | none => rw [hg] at h; injection h with h1 h2; omega
    | some p =>
      rw [hg] at h
      injection h with h1 h2
      obtain ⟨p1, p2, p3⟩ := lastGo_ok hg
      have hle := extGo_le (bs := bs) (p := p) (k := k) (most := min 258 (bs.length - k)) 258 3 (by omega)
      rw [h1] at hle
      refine ⟨hle.1, by omega, by omega, by omega, by omega, ?_⟩
      obtain ⟨q0, q1, q2⟩ := (row3_eq bs p k).1 p3
      have := extGo_eq (bs := bs) (p := p) (k := k) (most := min 258 (bs.length - k)) 258 3 (fun j hj => by
        have : j = 0 ∨ j = 1 ∨ j = 2 := by omega
        rcases this with rfl | rfl | rfl <;> assumption)
      rw [h1] at this
      rw [show k - d = p by omega]
      exact this
theorem MetAt.lookN {w : World} {b k : Nat} {bs : List Int} (h : MetAt w b bs k) (hb : ∀ j : Nat, 0 ≤ bs[j]?.getD 0 ∧ bs[j]?.getD 0 ≤ 255) :
    (Instr.lookup 112 (.map (some b)) (.agg (row3 bs k)) true).run Tryz.prog w = .ok (.tuple #[.int .i64 (((lastGo bs k k).getD 0 : Nat) : Int), .bool (lastGo bs k k).isSome]) w := by
  obtain ⟨kl, hkl⟩ := row3_key bs k hb
  rcases h.look _ kl hkl with ⟨h1, hrun⟩ | ⟨p, p1, p2, p3, p4, hrun⟩
  · rw [lastGo_none k h1]; exact hrun
  · rw [lastGo_some p1 p3 k p2 p4]; exact hrun
set_option maxRecDepth 100000 in
set_option maxHeartbeats 8000000 in
theorem find_any (mb : Nat) (bs : List Int) (a : Option Addr) (m c : Nat) (k : Nat) (hmc : m ≤ c) (hcm : c ≤ 9223372036854775807) (hm : m ≤ 30000) (hk : k < m) (w : World) (H : Bytes w a m bs) (HM : MetAt w mb bs k) :
    Calls Tryz.prog 74 #[.agg #[.map (some mb)], .slice a m c, .int .i64 (k : Int)] w fun e w' => e = .returned (.tuple #[.int .i64 ((findN bs k).1 : Int), .int .i64 ((findN bs k).2 : Int)]) ∧ Below w.heap.size w w' := by
  have hl : bs.length = m := H.1
  have HY := Lib.hid H
  have HMM := Lib.hid HM
  clear H HM
  by_cases h1 : m < k + 3
  · have h1i : (m : Int) < (k : Int) + 3 := by omega
    have HF : Hid (findN bs k = (0, 0)) := by show _ = _; rw [findN, if_pos (by omega)]
    rw [HF.out]
    clear hl
    go_enter Tryz.func74, Tryz.ntmps74
    go_wp2_with fail
    go_ret2
    exact ⟨rfl, (Below.refl _ _).alloc (Nat.le_refl _) _⟩
  · have h1i : ¬ (m : Int) < (k : Int) + 3 := by omega
    have hal : Below w.heap.size w (w.alloc (.cells #[.map (some mb)] 114)) := (Below.refl _ _).alloc (Nat.le_refl _) _
    have HA : Hid (MetAt (w.alloc (.cells #[.map (some mb)] 114)).drew mb bs k) := HMM.out.below hal.drew
    have HAL : Hid (Below w.heap.size w (w.alloc (.cells #[.map (some mb)] 114)).drew) := hal.drew
    have HROW := Lib.hid (rowAt_any a m c bs k (by omega) (by omega) _ (HY.out.below hal.drew))
    have hgx : (w.alloc (.cells #[.map (some mb)] 114)).heap[w.heap.size]? = some (.cells #[.map (some mb)] 114 (0, 0)) := by
      show (w.heap.push _)[w.heap.size]? = _
      simp
    have hsx : w.heap.size < (w.alloc (.cells #[.map (some mb)] 114)).heap.size := by simp
    have kbx : (w.alloc (.cells #[.map (some mb)] 114)).cell? ⟨w.heap.size, 0, none⟩ = some (.map (some mb)) := by
      unfold World.cell?
      simp only []
      rw [hgx]
      rfl
    have HFN : Hid (findN bs k = match lastGo bs k k with
      | none => (0, 0)
      | some p => (extGo bs p k (min 258 (bs.length - k)) 258 3, k - p)) := by show _ = _; rw [findN, if_neg (by omega)]
    have HLK : Hid (∀ W, MetAt W mb bs k → (Instr.lookup 112 (.map (some mb)) (.agg (row3 bs k)) true).run Tryz.prog W = .ok (.tuple #[.int .i64 (((lastGo bs k k).getD 0 : Nat) : Int), .bool (lastGo bs k k).isSome]) W) := fun W hW => hW.lookN HY.out.2.2.1
    have HLG : Hid (∀ p, lastGo bs k k = some p → p < k) := fun p hp => (lastGo_ok hp).1
    have HL := Lib.hid hl
    clear hgx hal hl
    generalize row3 bs k = R at *
    cases hlg : lastGo bs k k with
    | none =>
      have HF : Hid (findN bs k = (0, 0)) := by show _ = _; rw [HFN.out, hlg]
      rw [HF.out]
      rw [hlg] at HLK
      clear hlg HFN HLG HF
      go_enter Tryz.func74, Tryz.ntmps74
      go_wp2_with fail
      go_region_held3 (fun W => W.cell? ⟨w.heap.size, 0, none⟩ = some (.map (some mb)))
        (first | exact kbx | exact jbx | go_keep | assumption)
        (first | (go_at_call 102; refine (HROW.out).mono ?_; rintro e w2 ⟨rfl, hb2⟩; have jbx := (hb2.cell (p := ⟨w.heap.size, 0, none⟩) hsx).trans kbx; have hlk := HLK.out w2 (HA.out.below hb2); have HB2 := Lib.hid hb2; clear hb2))
      go_wp2_with fail
      go_ret2
      exact ⟨rfl, HAL.out.trans (HB2.out.mono HAL.out.size)⟩
    | some p =>
      have hpk : p < k := HLG.out p hlg
      have hpki : ¬ (32768 : Int) < (k : Int) - (p : Int) := by omega
      have HF : Hid (findN bs k = (extGo bs p k (min 258 (m - k)) 258 3, k - p)) := by show _ = _; rw [HFN.out, hlg, HL.out]
      rw [HF.out]
      rw [hlg] at HLK
      clear hlg HFN HLG HF
      obtain ⟨q, hq⟩ : ∃ q, min 258 (m - k) = q := ⟨_, rfl⟩
      have hq3 : 3 ≤ q := by omega
      have hqm : k + q ≤ m := by omega
      have hq258 : q ≤ 258 := by omega
      have hmin : ∀ W : World, Sem.run Tryz.prog (Builtin.min_ #[3, 3] 3 #[.int .i64 258, .int .i64 ((m : Int) - (k : Int))]) W = .ok (.int .i64 (q : Int)) W := fun W => by
        rw [run_min2, show min 258 ((m : Int) - (k : Int)) = (q : Int) by omega]
      obtain ⟨d, hd⟩ : ∃ d, k - p = d := ⟨_, rfl⟩
      have hdi : (k : Int) - (p : Int) = (d : Int) := by omega
      rw [hq, hd]
      rw [hdi] at hpki
      clear hq hd
      go_enter Tryz.func74, Tryz.ntmps74
      go_wp2_with fail
      go_region_held3 (fun W => W.cell? ⟨w.heap.size, 0, none⟩ = some (.map (some mb)))
        (first | exact kbx | exact jbx | go_keep | assumption)
        (first | (go_at_call 102; refine (HROW.out).mono ?_; rintro e w2 ⟨rfl, hb2⟩; have jbx := (hb2.cell (p := ⟨w.heap.size, 0, none⟩) hsx).trans kbx; have hlk := HLK.out w2 (HA.out.below hb2); have HB2 := Lib.hid hb2; clear hb2))
      have HBW : Hid (Below w.heap.size w w2) := HAL.out.trans (HB2.out.mono HAL.out.size)
      clear kbx jbx hlk hsx HROW HLK HA HB2 HAL HMM
      go_wp2_with fail
      clear hmin
      obtain ⟨wo, rfl⟩ : ∃ wo : World, wo = w := ⟨_, rfl⟩
      go_loopw [10] (fun v wr => ∃ j : Nat, v = .int .i64 (j : Int) ∧ 3 ≤ j ∧ j ≤ q ∧ extGo bs p k q 258 3 = extGo bs p k q (q - j) j ∧ Below wo.heap.size wo wr) (fun v _ => q - (intOf v).toNat)
      case atStart => exact ⟨3, rfl, by omega, hq3, extGo_same 258 (q - 3) 3 (by omega) (by omega), HBW.out⟩
      case round =>
        obtain ⟨j, rfl, hj3, hjq, hex, hb⟩ := hrel
        have HE := Lib.hid hex
        have HB := Lib.hid hb
        clear hex hb HBW
        by_cases hlt : j < q
        · have hd1 : decide ((j : Int) < (q : Int)) = true := by simp; omega
          have hd2 : (j : Int) < (q : Int) := by omega
          obtain ⟨i1, e1⟩ : ∃ i1, p + j = i1 := ⟨_, rfl⟩
          obtain ⟨i2, e2⟩ : ∃ i2, k + j = i2 := ⟨_, rfl⟩
          have s1 : (p : Int) + (j : Int) = (i1 : Int) := by omega
          have s2 : (k : Int) + (j : Int) = (i2 : Int) := by omega
          have b1 : (i1 : Int) < (m : Int) := by omega
          have b2 : (i2 : Int) < (m : Int) := by omega
          have w1 : ∀ z : Int, z = (i1 : Int) → IntKind.i64.wrap z = (i1 : Int) := fun z hz => by rw [hz]; exact IntWalk.i64_in _ (by omega)
          have w2 : ∀ z : Int, z = (i2 : Int) → IntKind.i64.wrap z = (i2 : Int) := fun z hz => by rw [hz]; exact IntWalk.i64_in _ (by omega)
          obtain ⟨b, off, rfl⟩ : ∃ b off, a = some ⟨b, off, none⟩ := by
            rcases HY.out.2.2.2 with h | ⟨b, off, rfl, -⟩
            · omega
            · exact ⟨b, off, rfl⟩
          have q1 := (HY.out.below HB.out).cellOf i1 (by omega)
          have q2 := (HY.out.below HB.out).cellOf i2 (by omega)
          have HST : Hid (extGo bs p k q (q - j) j = if j < q ∧ bs[i1]?.getD 0 = bs[i2]?.getD 0 then extGo bs p k q (q - (j + 1)) (j + 1) else j) := by
            show _ = _
            rw [show q - j = (q - (j + 1)) + 1 by omega, extGo, e1, e2]
          clear e1 e2
          generalize bs[i1]?.getD 0 = x1 at *
          generalize bs[i2]?.getD 0 = x2 at *
          by_cases hx : x1 = x2
          · have hxd : (x1 == x2) = true := by simp [hx]
            have HNX : Hid (extGo bs p k q (q - j) j = extGo bs p k q (q - (j + 1)) (j + 1)) := by show _ = _; rw [HST.out, if_pos ⟨hlt, hx⟩]
            clear hx
            go_wp2_with fail
            go_quiet (fail)
            have HBz : Hid (Below wo.heap.size wo (wr.drewN nq)) := ⟨HB.out.1, HB.out.2, HB.out.3, HB.out.4, HB.out.5⟩
            generalize wr.drewN nq = wz at *
            go_wp2_with fail
            exact ⟨⟨j + 1, by go_num, by omega, by omega, HE.out.trans HNX.out, HBz.out⟩, by simp [intOf]; omega⟩
          · have hxd : (x1 == x2) = false := by simp [hx]
            have HNX : Hid (extGo bs p k q (q - j) j = j) := by show _ = _; rw [HST.out, if_neg (fun hc => hx hc.2)]
            go_wp2_with fail
            go_quiet (fail)
            have HBz : Hid (Below wo.heap.size wo (wr.drewN nq)) := ⟨HB.out.1, HB.out.2, HB.out.3, HB.out.4, HB.out.5⟩
            generalize wr.drewN nq = wz at *
            go_wp2_with fail
            go_ret2
            exact ⟨by rw [HE.out, HNX.out]; rfl, HBz.out⟩
        · have hd1 : decide ((j : Int) < (q : Int)) = false := by simp; omega
          have hd2 : ¬ (j : Int) < (q : Int) := by omega
          have HNX : Hid (extGo bs p k q (q - j) j = j) := by show _ = _; rw [show q - j = 0 by omega]; rfl
          go_wp2_with fail
          go_quiet (fail)
          have HBz : Hid (Below wo.heap.size wo (wr.drewN nq)) := ⟨HB.out.1, HB.out.2, HB.out.3, HB.out.4, HB.out.5⟩
          generalize wr.drewN nq = wz at *
          go_wp2_with fail
          go_ret2
          exact ⟨by rw [HE.out, HNX.out]; rfl, HBz.out⟩
end Go.Proofs.YtglgchjkonjpiaaGreatDoor
