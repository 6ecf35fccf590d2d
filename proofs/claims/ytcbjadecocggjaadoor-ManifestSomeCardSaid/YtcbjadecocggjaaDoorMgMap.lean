/- A map of rows of files: at each path its files, in their order. -/
import Derived.Test.YtcbjadecocggjaaDoorFiles
import Derived.Maps.Keyed
import Derived.Maps.Own
import Derived.Maps.Views
import Derived.Maps.OwnSet
import Derived.Maps.RangeWalk
import Derived.Sort.EncStr
namespace Go.Proofs.YtcbjadecocggjaaDoor
open Go.RowKit Go.WideMaps Go.Maps Plain
set_option linter.unusedVariables false
/-- How a row's slice reads: as where it lies. -/
def encR : Value → Option (DataW Unit × List MemPlace)
  | .slice none 0 0 => some (.nil, [])
  | .slice (some ⟨g, 0, none⟩) n c => some (.slice [.lit (.int .i64 (g : Int)), .lit (.int .i64 (n : Int)), .lit (.int .i64 (c : Int))] [], [])
  | _ => none
theorem encR_cases {v : Value} {z : DataW Unit × List MemPlace} (h : encR v = some z) : (v = .slice none 0 0 ∧ z = (.nil, [])) ∨ ∃ g n c : Nat, v = .slice (some ⟨g, 0, none⟩) n c ∧ z = (.slice [.lit (.int .i64 (g : Int)), .lit (.int .i64 (n : Int)), .lit (.int .i64 (c : Int))] [], []) := by
  unfold encR at h
  split at h
  · exact .inl ⟨rfl, (Option.some.inj h).symm⟩
  · exact .inr ⟨_, _, _, rfl, (Option.some.inj h).symm⟩
  · cases h
theorem encR_inj {v v' : Value} {z z' : DataW Unit × List MemPlace} (h : encR v = some z) (h' : encR v' = some z') (he : z.1 = z'.1) : v = v' := by
  rcases encR_cases h with ⟨rfl, rfl⟩ | ⟨g, n, c, rfl, rfl⟩ <;> rcases encR_cases h' with ⟨rfl, rfl⟩ | ⟨g', n', c', rfl, rfl⟩
  · rfl
  · cases he
  · cases he
  · simp at he
    obtain ⟨h1, h2, h3⟩ := he
    have e1 : g = g' := by omega
    have e2 : n = n' := by omega
    have e3 : c = c' := by omega
    rw [e1, e2, e3]
theorem encR_nil : encR (.slice none 0 0) = some (.nil, []) := rfl
theorem encR_own {e : TypeId} {w : World} {base : Nat} {v : Value} {xs : List MF} (h : OwnF e w base v xs) : ∃ z, encR v = some z := by
  rcases h.1.2 with ⟨rfl, -⟩ | ⟨g, cap, cur, rfl, -⟩
  · exact ⟨_, rfl⟩
  · exact ⟨_, rfl⟩
theorem OwnF.kept {e : TypeId} {w w' : World} {base : Nat} {v : Value} {xs : List MF} {row : Option Nat} (h : OwnF e w base v xs) (hg : w.grownBy w' row) (hne : v.ownBlock = none ∨ v.ownBlock ≠ row) : OwnF e w' base v xs := ⟨h.1.kept hg hne, h.2⟩
theorem OwnF.some_block {e : TypeId} {w : World} {base : Nat} {v : Value} {xs : List MF} (h : OwnF e w base v xs) (hne : xs ≠ []) : ∃ g, v.ownBlock = some g := by
  rcases h.1.2 with ⟨rfl, h0⟩ | ⟨g, cap, cur, rfl, -⟩
  · exact absurd (List.length_eq_zero_iff.1 h0) hne
  · exact ⟨g, rfl⟩
/-- A path's letters. -/
def pL (x : MF) : List UInt8 := x.p.data.toList
/-- Those of a path. -/
def ofL (a : List UInt8) (l : List MF) : List MF := l.filter fun x => pL x == a
theorem ofL_snoc (a : List UInt8) (l : List MF) (x : MF) : ofL a (l ++ [x]) = if pL x = a then ofL a l ++ [x] else ofL a l := by
  unfold ofL
  rw [List.filter_append]
  by_cases h : pL x = a
  · rw [if_pos h]; simp [h]
  · rw [if_neg h]; simp [h]
theorem ofL_len (a : List UInt8) (l : List MF) : (ofL a l).length ≤ l.length := List.length_filter_le _ _
theorem ofL_mem {a : List UInt8} {l : List MF} : ofL a l ≠ [] ↔ ∃ x ∈ l, pL x = a := by
  unfold ofL
  constructor
  · intro h
    obtain ⟨x, hx⟩ := List.exists_mem_of_ne_nil _ h
    obtain ⟨h1, h2⟩ := List.mem_filter.1 hx
    exact ⟨x, h1, by simpa using h2⟩
  · rintro ⟨x, h1, h2⟩ h
    have : x ∈ l.filter fun x => pL x == a := List.mem_filter.2 ⟨h1, by simpa using h2⟩
    rw [h] at this
    cases this
/-- What the map says of each path. -/
structure GD (w : World) (base : Nat) (l : List MF) (D : DataW Unit) : Prop where
  keys : ∀ a, Maps.has D (.string a) = true ↔ ofL a l ≠ []
  vals : ∀ a, ofL a l ≠ [] → ∃ v z, encR v = some z ∧ (∀ zd, D.atKey (.string a) zd = z.1) ∧ OwnF 32 w base v (ofL a l)
  apart : ∀ a a' v v' z z', a ≠ a' → ofL a l ≠ [] → ofL a' l ≠ [] → encR v = some z → (∀ zd, D.atKey (.string a) zd = z.1) → encR v' = some z' → (∀ zd, D.atKey (.string a') zd = z'.1) → v.ownBlock ≠ v'.ownBlock
/-- Block b is the map of l's files, by their paths. -/
def GM (w : World) (base b n : Nat) (l : List MF) : Prop := ∃ D, w.ownsMap Tryd.prog 9 encR b n D ∧ b < base ∧ GD w base l D
theorem GD.kept {w w' : World} {base : Nat} {l : List MF} {D : DataW Unit} {row : Option Nat} (h : GD w base l D) (hg : w.grownBy w' row) (hr : ∀ g, row = some g → g < base) : GD w' base l D := by
  refine ⟨h.keys, fun a ha => ?_, h.apart⟩
  obtain ⟨v, z, h1, h2, h3⟩ := h.vals a ha
  refine ⟨v, z, h1, h2, h3.kept hg ?_⟩
  cases hv : v.ownBlock with
  | none => exact .inl rfl
  | some g =>
    refine .inr fun e => ?_
    have h4 := (h3.lt hv).1
    have h5 := hr g e.symm
    omega
theorem GD.below {w w' : World} {base : Nat} {l : List MF} {D : DataW Unit} (h : GD w base l D) (hb : Below w.heap.size w w') : GD w' base l D := by
  refine ⟨h.keys, fun a ha => ?_, h.apart⟩
  obtain ⟨v, z, h1, h2, h3⟩ := h.vals a ha
  exact ⟨v, z, h1, h2, h3.below hb⟩
theorem GM.below {w w' : World} {base b n : Nat} {l : List MF} (h : GM w base b n l) (hb : Below w.heap.size w w') : GM w' base b n l := by
  obtain ⟨D, h1, h2, h3⟩ := h
  refine ⟨D, ?_, h2, h3.below hb⟩
  have hl := h1.lt
  obtain ⟨es, clock, e1, e2⟩ := h1
  exact ⟨es, clock, (hb.block b hl).trans e1, e2⟩
theorem GM.made (w : World) : GM (w.alloc (.map #[] 0)) (w.heap.size + 1) w.heap.size 0 [] := by
  refine ⟨.map [], World.ownsMap_made w _ _ _, Nat.lt_succ_self _, ⟨fun a => ⟨fun h => (by cases h), fun h => absurd rfl h⟩, fun a h => absurd rfl h, fun a a' v v' z z' _ h => absurd rfl h⟩⟩
theorem GM.lt {w : World} {base b n : Nat} {l : List MF} (h : GM w base b n l) : b < w.heap.size ∧ b < base := by
  obtain ⟨D, h1, h2, -⟩ := h
  exact ⟨h1.lt, h2⟩
theorem key_law : Keyed Tryd.prog 9 := string_keyed Tryd.underlying9
theorem zero_row (w : World) : (zeroValue 23).run Tryd.prog w = .ok (.slice none 0 0) w := by kernel_rfl
theorem key_ofS {s : ByteArray} (h : s.size ≤ maxLen) : keyOf Tryd.prog 9 (.string s) = some (.string s.data.toList) := keyOf_string_mk Tryd.underlying9 h
set_option maxRecDepth 100000 in
set_option maxHeartbeats 4000000 in
theorem GM.look {w : World} {base b n : Nat} {l : List MF} (h : GM w base b n l) (s : ByteArray) (hs : s.size ≤ 100000) (hn : n < 1000000) :
    ∃ v, (∀ W, Below w.heap.size w W → (Instr.lookup 46 (.map (some b)) (.string s) false).run Tryd.prog W = .ok v W) ∧ OwnF 32 w base v (ofL s.data.toList l) ∧
      ∀ (w1 : World) (v' : Value) (x : MF), pL x = s.data.toList → w.grownBy w1 v.ownBlock → OwnF 32 w1 base v' (ofL s.data.toList l ++ [x]) → (v'.ownBlock = v.ownBlock ∨ ∃ g, v'.ownBlock = some g ∧ w.heap.size ≤ g) →
        ∃ w2, (Instr.mapUpdate 46 (.map (some b)) (.string s) v').run Tryd.prog w1 = .ok () w2 ∧ GM w2 base b (n + 1) (l ++ [x]) ∧ w1.grownBy w2 (some b) := by
  obtain ⟨D, hm, hb, hD⟩ := h
  have hk := key_ofS (s := s) (by unfold maxLen; omega)
  have hkl : WideAt.IsKeyLit (Lit.string s.data.toList) := key_law.key hk
  obtain ⟨v, ps, hrun, hv⟩ := hm.lookup key_law Tryd.underlying46 (zero_row w) encR_nil hk
  generalize hq : s.data.toList = q at *
  have hown : OwnF 32 w base v (ofL q l) := by
    by_cases h0 : ofL q l = []
    · have hno : Maps.has D (.string q) = false := by
        cases hh : Maps.has D (.string q) with
        | false => rfl
        | true => exact absurd h0 ((hD.keys q).1 hh)
      rw [atKey_of_not_has hno] at hv
      have := encR_inj hv encR_nil rfl
      rw [this, h0]
      exact OwnF.nil _ _ _
    · obtain ⟨v0, z, h1, h2, h3⟩ := hD.vals q h0
      have := encR_inj hv h1 (h2 .nil)
      rwa [this]
  have hall : ∀ W, Below w.heap.size w W → (Instr.lookup 46 (.map (some b)) (.string s) false).run Tryd.prog W = .ok v W := fun W hW => by
    have hmW : W.ownsMap Tryd.prog 9 encR b n D := by
      have hl := hm.lt
      obtain ⟨es, clock, e1, e2⟩ := hm
      exact ⟨es, clock, (hW.block b hl).trans e1, e2⟩
    obtain ⟨v2, ps2, hrun2, hv2⟩ := hmW.lookup key_law Tryd.underlying46 (zero_row W) encR_nil hk
    rw [hrun2, encR_inj hv2 hv rfl]
  refine ⟨v, hall, hown, fun w1 v' x hx hg hown' hloc => ?_⟩
  have hbl := hm.lt
  have hvb : v.ownBlock ≠ some b := fun e => by
    have := (hown.lt e).1
    omega
  obtain ⟨z', hz'⟩ := encR_own hown'
  obtain ⟨g', hg'⟩ := hown'.some_block (by simp)
  obtain ⟨w2, hup, hm2, hg2⟩ := (hm.kept hg (fun e => hvb e.symm)).update key_law Tryd.underlying46 (by unfold maxLen; omega) hk hz'
  refine ⟨w2, hup, ⟨D.put (.string q) z'.1, hm2, hb, ⟨fun a => ?_, fun a ha => ?_, ?_⟩⟩, hg2⟩
  · rw [ofL_snoc, hx]
    by_cases e : q = a
    · subst e
      rw [if_pos rfl, has_put_same hm.isMap hkl]
      simp
    · rw [if_neg e, has_put_other (fun h => e (by injection h with h; exact h.symm))]
      exact hD.keys a
  · rw [ofL_snoc, hx] at ha ⊢
    by_cases e : q = a
    · subst e
      rw [if_pos rfl] at ha ⊢
      refine ⟨v', z', hz', fun zd => atKey_put_same hm.isMap hkl _ _, hown'.kept hg2 (.inr fun e1 => ?_)⟩
      have := (hown'.lt e1).1
      omega
    · rw [if_neg e] at ha ⊢
      obtain ⟨v0, z0, h1, h2, h3⟩ := hD.vals a ha
      have hne : v0.ownBlock = none ∨ v0.ownBlock ≠ v.ownBlock := by
        by_cases h0 : ofL q l = []
        · rw [h0] at hown
          rcases hown.1.2 with ⟨rfl, -⟩ | ⟨g, cap, cur, rfl, -⟩
          · obtain ⟨g0, hg0⟩ := h3.some_block ha
            exact .inr (by rw [hg0]; intro h; cases h)
          · refine .inr fun e1 => ?_
            have hno : Maps.has D (.string q) = false := by
              cases hh : Maps.has D (.string q) with
              | false => rfl
              | true => exact absurd h0 ((hD.keys q).1 hh)
            rw [atKey_of_not_has hno] at hv
            cases encR_inj hv encR_nil rfl
        · obtain ⟨v1, z1, k1, k2, k3⟩ := hD.vals q h0
          have hvv := encR_inj hv k1 (k2 .nil)
          subst hvv
          exact .inr (hD.apart a q v0 v z0 z1 (fun h => e h.symm) ha h0 h1 h2 k1 k2)
      refine ⟨v0, z0, h1, fun zd => by rw [atKey_put_other (fun h => e (by injection h with h; exact h.symm))]; exact h2 zd, (h3.kept hg hne).kept hg2 ?_⟩
      cases hv0 : v0.ownBlock with
      | none => exact .inl rfl
      | some g =>
        refine .inr fun e1 => ?_
        have := (h3.lt hv0).1
        cases e1
        omega
  · -- apart
    have key : ∀ a v0 z0, q ≠ a → ofL a (l ++ [x]) ≠ [] → encR v0 = some z0 → (∀ zd, (D.put (.string q) z'.1).atKey (.string a) zd = z0.1) → v0.ownBlock ≠ v'.ownBlock := by
      intro a v0 z0 e ha h1 h2 hEq
      rw [ofL_snoc, hx, if_neg e] at ha
      have h2' : ∀ zd, D.atKey (.string a) zd = z0.1 := fun zd => by
        rw [← h2 zd, atKey_put_other (fun h => e (by injection h with h; exact h.symm))]
      obtain ⟨u, zu, k1, k2, k3⟩ := hD.vals a ha
      have hu := encR_inj h1 k1 ((h2' .nil).symm.trans (k2 .nil))
      subst hu
      obtain ⟨g0, hg0⟩ := k3.some_block ha
      rcases hloc with hl | ⟨g, hl, hge⟩
      · by_cases h0 : ofL q l = []
        · rw [h0] at hown
          rcases hown.1.2 with ⟨rfl, -⟩ | ⟨g, cap, cur, rfl, -⟩
          · rw [hl] at hg'; cases hg'
          · have hno : Maps.has D (.string q) = false := by
              cases hh : Maps.has D (.string q) with
              | false => rfl
              | true => exact absurd h0 ((hD.keys q).1 hh)
            rw [atKey_of_not_has hno] at hv
            cases encR_inj hv encR_nil rfl
        · obtain ⟨v1, z1, m1, m2, m3⟩ := hD.vals q h0
          have hvv := encR_inj hv m1 (m2 .nil)
          subst hvv
          exact hD.apart a q v0 v z0 z1 (fun h => e h.symm) ha h0 h1 h2' m1 m2 (hEq.trans hl)
      · have := (k3.lt hg0).2
        rw [hg0, hl] at hEq
        cases hEq
        omega
    intro a a' u u' z z1 hne ha ha' h1 h2 h3 h4
    by_cases e : q = a
    · subst e
      have hu : u = v' := encR_inj h1 hz' (by rw [← h2 .nil, atKey_put_same hm.isMap hkl])
      subst hu
      exact fun h => key a' u' z1 hne ha' h3 h4 h.symm
    · by_cases e' : q = a'
      · subst e'
        have hu : u' = v' := encR_inj h3 hz' (by rw [← h4 .nil, atKey_put_same hm.isMap hkl])
        subst hu
        exact key a u z e ha h1 h2
      · rw [ofL_snoc, hx, if_neg e] at ha
        rw [ofL_snoc, hx, if_neg e'] at ha'
        exact hD.apart a a' u u' z z1 hne ha ha' h1 (fun zd => by rw [← h2 zd, atKey_put_other (fun h => e (by injection h with h; exact h.symm))]) h3 (fun zd => by rw [← h4 zd, atKey_put_other (fun h => e' (by injection h with h; exact h.symm))])
end Go.Proofs.YtcbjadecocggjaaDoor
