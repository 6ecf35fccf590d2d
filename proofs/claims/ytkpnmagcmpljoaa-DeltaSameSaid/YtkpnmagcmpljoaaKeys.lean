/- The map of blocks: keys, what it tells. -/
import Derived.Test.YtkpnmagcmpljoaaBlock
import Derived.Maps.Keyed
import Derived.Maps.Own
import Derived.WideKeyArr2
import Derived.Maps.Views
namespace Go.Proofs.Ytkpnmagcmpljoaa
open Go.RowKit Go.WideMaps Go.Maps
set_option linter.unusedVariables false
theorem arrKey : ArrKey Try.prog 63 5 16 where
  hu := Try.underlying63
  plain := by kernel_rfl
  one := by kernel_rfl
  size := by kernel_rfl
theorem typesMore : ∃ m, Try.prog.types.size = m + 1 := ⟨Try.prog.types.size - 1, by kernel_rfl⟩
theorem mapM_some {α β : Type} (f : α → Option β) : ∀ l : List α, (∀ a ∈ l, ∃ b, f a = some b) → ∃ bs, l.mapM f = some bs
  | [], _ => ⟨[], rfl⟩
  | a :: l, h => by
    obtain ⟨b, hb⟩ := h a (by simp)
    obtain ⟨bs, hbs⟩ := mapM_some f l (fun x hx => h x (by simp [hx]))
    exact ⟨b :: bs, by simp [List.mapM_cons, hb, hbs]⟩
theorem key_block (row : Array Value) (h : row.size = 16) (hr : ∀ j, j < 16 → ∃ x : Int, row.toList[j]? = some (.int .u8 x) ∧ 0 ≤ x ∧ x ≤ 255) : ∃ kl, keyOf Try.prog 63 (.agg row) = some kl := by
  have hkt := arrKey.keyType typesMore
  obtain ⟨m, hm⟩ := typesMore
  obtain ⟨m', hm'⟩ : ∃ m', m = m' + 1 := by
    have h2 : 2 ≤ Try.prog.types.size := by decide +kernel
    exact ⟨m - 1, by omega⟩
  subst hm'
  unfold keyOf
  simp only [arrKey.hu]
  rw [if_pos (by simp [hkt, Value.formed, arrKey.hu, arrKey.size, h]), hm]
  unfold Program.keyLits
  simp only [arrKey.hu, Value.cells]
  rw [if_pos (by rw [arrKey.size, Array.length_toList, h])]
  obtain ⟨bs, hbs⟩ := mapM_some (fun i => Try.prog.keyLits (m' + 1 + 1) 5 ((row.toList.drop (i * Try.prog.cellsOf 5)).take (Try.prog.cellsOf 5))) (List.range 16) (fun i hi => by
    rw [List.mem_range] at hi
    obtain ⟨x, hx, h0, h1⟩ := hr i hi
    rw [arrKey.one, Nat.mul_one]
    have hd : (row.toList.drop i).take 1 = [.int .u8 x] := by
      obtain ⟨hlt, hv⟩ := List.getElem?_eq_some_iff.1 hx
      rw [List.drop_eq_getElem_cons hlt, hv]; rfl
    rw [hd]
    refine ⟨[.int .u8 x], ?_⟩
    unfold Program.keyLits
    have hu : Try.prog.underlying 5 = some (.int .u8) := Try.underlying5
    have hw : (Lit.int .u8 x).wf = true := by
      have e1 : IntKind.min .u8 = 0 := by decide
      have e2 : IntKind.max .u8 = 255 := by decide
      show (decide (IntKind.min .u8 ≤ x) && decide (x ≤ IntKind.max .u8)) = true
      rw [e1, e2]; simp; omega
    simp [hu, hw])
  rw [hbs]
  exact ⟨_, rfl⟩
theorem block_key (bs : List Int) (p : Nat) (hp : p + 16 ≤ bs.length) (hb : ∀ j : Nat, 0 ≤ bs[j]?.getD 0 ∧ bs[j]?.getD 0 ≤ 255) : ∃ kl, keyOf Try.prog 63 (.agg (blockOf bs p)) = some kl := by
  refine key_block _ (blockOf_size bs p hp) (fun j hj => ⟨bs[p + j]?.getD 0, ?_, (hb _).1, (hb _).2⟩)
  unfold blockOf U8
  simp [hj, List.getElem?_eq_getElem (show p + j < bs.length by omega)]
theorem keyed : Keyed Try.prog 63 := Keyed.of_law arrKey.law
/-- Each entry tells where its block lies. -/
def MapAt (w : World) (b n : Nat) (bs : List Int) : Prop :=
  ∃ es clock, w.heap[b]? = some (.map es clock) ∧ WideElems.Fit Try.prog 63 (plainElem (H := Unit) Try.prog 3) es clock ∧ es.size ≤ n ∧
    (∀ x ∈ es.toList, ∃ p : Nat, p + 16 ≤ bs.length ∧ p ≤ 4294967295 ∧ x.key = .agg (blockOf bs p) ∧ x.val = .int .i64 (p : Int) ∧ (blockOf bs p = blockOf bs 0 → p = 0)) ∧
    (0 < n → ∃ kl y, keyOf Try.prog 63 (.agg (blockOf bs 0)) = some kl ∧ ∀ zd, (DataW.map ((es.toList.map (WideElems.rg Try.prog 63 (plainElem (H := Unit) Try.prog 3))).foldr DataW.insert [])).atKey kl zd = y)
theorem MapAt.made (w : World) (bs : List Int) : MapAt (w.alloc (.map #[] 0)) w.heap.size 0 bs := by
  obtain ⟨es, clock, h1, h2, h3, -⟩ := World.ownsMap_made (H := Unit) w Try.prog 63 (plainElem Try.prog 3)
  refine ⟨es, clock, h1, h2, h3, fun x hx => ?_, fun h => absurd h (Nat.lt_irrefl 0)⟩
  obtain ⟨l⟩ := es
  have : l = [] := List.eq_nil_of_length_eq_zero (by simpa using h3)
  subst this
  cases hx
theorem MapAt.lt {w : World} {b n : Nat} {bs : List Int} (h : MapAt w b n bs) : b < w.heap.size := by
  obtain ⟨es, clock, hb, -⟩ := h
  exact (Array.getElem?_eq_some_iff.1 hb).1
theorem MapAt.block {w w' : World} {b n : Nat} {bs : List Int} (h : MapAt w b n bs) (hb : w'.heap[b]? = w.heap[b]?) : MapAt w' b n bs := by
  obtain ⟨es, clock, h1, h2⟩ := h
  exact ⟨es, clock, hb.trans h1, h2⟩
theorem zeroInt (w : World) : (zeroValue 3).run Try.prog w = .ok (.int .i64 0) w := by kernel_rfl
theorem MapAt.look {w : World} {b n : Nat} {bs : List Int} (h : MapAt w b n bs) (row : Array Value) (kl : Lit) (hk : keyOf Try.prog 63 (.agg row) = some kl) :
    ((row = blockOf bs 0 → n = 0) ∧ (Instr.lookup 49 (.map (some b)) (.agg row) true).run Try.prog w = .ok (.tuple #[.int .i64 0, .bool false]) w) ∨
    ∃ p : Nat, p + 16 ≤ bs.length ∧ p ≤ 4294967295 ∧ row = blockOf bs p ∧ (row = blockOf bs 0 → p = 0) ∧ 0 < n ∧ (Instr.lookup 49 (.map (some b)) (.agg row) true).run Try.prog w = .ok (.tuple #[.int .i64 (p : Int), .bool true]) w := by
  obtain ⟨es, clock, h1, h2, h3, h4, h5⟩ := h
  rcases Maps.fit_look true keyed Try.underlying49 (zeroInt w) h1 h2 hk with ⟨hrun, -, hat⟩ | ⟨e0, y, hm, hke, hrun, -, -, -⟩
  · refine .inl ⟨fun e => ?_, by simpa using hrun⟩
    rcases Nat.eq_zero_or_pos n with h0 | h0
    · exact h0
    · exfalso
      obtain ⟨kl0, y, hk0, hy⟩ := h5 h0
      rw [e] at hk
      rw [hk] at hk0
      injection hk0 with hk0
      subst hk0
      have e1 := (hat .nil).symm.trans (hy .nil)
      have e2 := (hat (.map [])).symm.trans (hy (.map []))
      rw [← e1] at e2
      cases e2
  · obtain ⟨p, p1, p2, p3, p4, p5⟩ := h4 e0 hm
    have hrow : row = blockOf bs p := by rw [p3] at hke; injection hke with hke; exact hke.symm
    refine .inr ⟨p, p1, p2, hrow, fun e => p5 (hrow.symm.trans e), ?_, ?_⟩
    · have : 0 < es.toList.length := List.length_pos_iff.2 (List.ne_nil_of_mem hm)
      rw [Array.length_toList] at this
      omega
    · rw [p4] at hrun; simpa using hrun
theorem MapAt.store {w : World} {b n : Nat} {bs : List Int} (h : MapAt w b n bs) (hn : n < maxLen) (p : Nat) (hp : p + 16 ≤ bs.length) (hp2 : p ≤ 4294967295) (kl : Lit) (hk : keyOf Try.prog 63 (.agg (blockOf bs p)) = some kl)
    (hz : p = 0 ∨ 0 < n) (hf : blockOf bs p = blockOf bs 0 → p = 0) :
    ∃ w', (Instr.mapUpdate 49 (.map (some b)) (.agg (blockOf bs p)) (.int .i64 (p : Int))).run Try.prog w = .ok () w' ∧ MapAt w' b (n + 1) bs ∧ w.grownBy w' (some b) := by
  obtain ⟨es, clock, h1, h2, h3, h4, h5⟩ := h
  have hw : (Lit.int .i64 (p : Int)).wf = true := by
    have e1 : IntKind.min .i64 = -9223372036854775808 := by decide
    have e2 : IntKind.max .i64 = 9223372036854775807 := by decide
    show (decide (IntKind.min .i64 ≤ (p : Int)) && decide ((p : Int) ≤ IntKind.max .i64)) = true
    rw [e1, e2]; simp; omega
  obtain ⟨es', clock', hrun, F', hput, -, -, hmem⟩ := Maps.fit_store (R' := plainElem (H := Unit) Try.prog 3) keyed Try.underlying49 h1 h2 (Nat.lt_of_le_of_lt h3 hn) (fun _ _ _ _ hz => hz) hk (plainElem_int Try.underlying3 hw)
  refine ⟨_, hrun, ⟨es', clock', ChangeMaps.heap_setBlock_same h1 _, F', ?_, ?_, ?_⟩, ⟨rfl, rfl, rfl, by simp [ChangeMaps.setBlock], fun i _ hi => ChangeMaps.heap_setBlock_other h1 _ (fun e => hi (by rw [e]))⟩⟩
  · have e1 : es'.size = ((es'.toList.map (WideElems.rg Try.prog 63 (plainElem (H := Unit) Try.prog 3))).foldr DataW.insert []).length := by rw [length_sorted]; simp
    rw [e1, hput]
    unfold ChangeMaps.putKey
    rw [length_insert]
    have e2 := List.length_filter_le (ChangeMaps.notKey kl) ((es.toList.map (WideElems.rg Try.prog 63 (plainElem (H := Unit) Try.prog 3))).foldr DataW.insert [])
    rw [length_sorted] at e2
    simp at e2
    omega
  · intro x' hx'
    rcases hmem x' hx' with ⟨hx, -⟩ | ⟨e1, e2⟩
    · exact h4 x' hx
    · exact ⟨p, hp, hp2, e1, e2, hf⟩
  · intro _
    have hkey : WideAt.IsKeyLit kl := keyed.key hk
    by_cases he : blockOf bs p = blockOf bs 0
    · refine ⟨kl, .lit (.int .i64 (p : Int)), he ▸ hk, fun zd => ?_⟩
      rw [hput, ← DataW.put_eq]
      exact atKey_put_same ⟨_, rfl⟩ hkey _ _
    · have hp0 : p ≠ 0 := fun e => he (by rw [e])
      obtain ⟨kl0, y, hk0, hy⟩ := h5 (by omega)
      refine ⟨kl0, y, hk0, fun zd => ?_⟩
      rw [hput, ← DataW.put_eq, atKey_put_other]
      · exact hy zd
      · intro e
        subst e
        have := keyed.inj hk hk0
        injection this with this
        exact he this
end Go.Proofs.Ytkpnmagcmpljoaa
