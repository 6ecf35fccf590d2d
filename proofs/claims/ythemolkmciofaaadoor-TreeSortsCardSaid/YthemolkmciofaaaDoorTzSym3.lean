/- Merging in place: slices.symMergeCmpFunc. -/
import Derived.Test.YthemolkmciofaaaDoorTzSym2
namespace Go.Proofs.YthemolkmciofaaaDoor
open Go.RowKit Plain Go.ChangeShapes Go.WideShapes Go.ChangeAt Go.Great
set_option linter.unusedVariables false
set_option linter.unusedSimpArgs false
theorem norot {α : Type} {A X Y C : List α} {a m s e : Nat} (hm : a + X.length = m) (h : s = m ∨ e = m) : A ++ (X.take (s - a) ++ (Y.take (e - m) ++ (X.drop (s - a) ++ (Y.drop (e - m) ++ C)))) = A ++ (X ++ (Y ++ C)) := by
  rcases h with rfl | rfl
  · rw [List.take_of_length_le (show X.length ≤ s - a by omega), List.drop_eq_nil_of_le (show X.length ≤ s - a by omega), List.nil_append, ← List.append_assoc (Y.take _), List.take_append_drop]
  · rw [Nat.sub_self, List.take_zero, List.drop_zero, List.nil_append, ← List.append_assoc (X.take _), List.take_append_drop]
theorem nomrg {α : Type} {lt : α → α → Bool} {X Y : List α} (h : X.length = 0 ∨ Y.length = 0) : mrg lt X Y = X ++ Y := by
  rcases h with h | h
  · rw [List.length_eq_zero_iff.1 h, mrg_nil_left, List.nil_append]
  · rw [List.length_eq_zero_iff.1 h, mrg_nil_right, List.append_nil]
/-- A Boolean that tells of two. -/
def TF (t : Bool) (P Q : Prop) : Prop := t = true ↔ P ∧ Q
theorem TF.mp {t : Bool} {P Q : Prop} (h : TF t P Q) : t = true → P ∧ Q := Iff.mp h
theorem TF.mpr {t : Bool} {P Q : Prop} (h : TF t P Q) : P ∧ Q → t = true := Iff.mpr h
/-- symMerge merges, where both parts have fewer than N elements. -/
def SymP (g n c base N : Nat) : Prop := ∀ (A X Y C : List TE) (a m b : Nat) (w : World), b < a + N → OwnE 30 w base (.slice (some ⟨g, 0, none⟩) n c) (A ++ (X ++ (Y ++ C))) → A.length = a → a + X.length = m → m + Y.length = b → 0 < X.length → 0 < Y.length → Srt ltT X → Srt ltT Y → (∀ z ∈ X ++ Y, z.p.size ≤ 100000) → base ≤ w.heap.size →
    Calls Tryd.prog 32 #[(.slice (some ⟨g, 0, none⟩) n c), .int .i64 (a : Int), .int .i64 (m : Int), .int .i64 (b : Int), (.func (.func 18) #[] #[])] w fun e w' => e = .returned (.tuple #[]) ∧ OwnE 30 w' base (.slice (some ⟨g, 0, none⟩) n c) (A ++ (mrg ltT X Y ++ C)) ∧ Below base w w'
set_option maxRecDepth 100000 in
set_option maxHeartbeats 16000000 in
theorem sym_gen (A X Y C : List TE) (g n c a m b base : Nat) (w : World) (ih : SymP g n c base (b - a)) (h : OwnE 30 w base (.slice (some ⟨g, 0, none⟩) n c) (A ++ (X ++ (Y ++ C)))) (hn : n ≤ 100000) (ha : A.length = a) (hm : a + X.length = m) (hb : m + Y.length = b) (hX2 : 2 ≤ X.length) (hY2 : 2 ≤ Y.length) (hX : Srt ltT X) (hY : Srt ltT Y) (hp : ∀ z ∈ X ++ Y, z.p.size ≤ 100000) (hbase : base ≤ w.heap.size) :
    Calls Tryd.prog 32 #[(.slice (some ⟨g, 0, none⟩) n c), .int .i64 (a : Int), .int .i64 (m : Int), .int .i64 (b : Int), (.func (.func 18) #[] #[])] w fun e w' => e = .returned (.tuple #[]) ∧ OwnE 30 w' base (.slice (some ⟨g, 0, none⟩) n c) (A ++ (mrg ltT X Y ++ C)) ∧ Below base w w' := by
  have H0 := Lib.hid h
  have HNB := Lib.hid hn
  have HA := Lib.hid ha
  have HM := Lib.hid hm
  have HBL := Lib.hid hb
  have HPS := Lib.hid hp
  have HBS := Lib.hid hbase
  have HLN : Hid (b ≤ n) := by have := h.row.1; simp only [List.length_append, List.length_cons, List.length_nil] at this; show _ ≤ _; omega
  have IH := Lib.hid ih
  have HX := Lib.hid hX
  have HY := Lib.hid hY
  obtain ⟨d, hd⟩ : ∃ d, X.length = d := ⟨_, rfl⟩
  obtain ⟨d', hd'⟩ : ∃ d, Y.length = d := ⟨_, rfl⟩
  have HW0 : Hid (wrap64 ((m : Int) - (a : Int)) = (d : Int)) := by rw [show (m : Int) - (a : Int) = (d : Int) by omega]; exact w64 _ (by omega) (by have := HLN.out; omega)
  have HW1 : Hid (wrap64 ((b : Int) - (m : Int)) = (d' : Int)) := by rw [show (b : Int) - (m : Int) = (d' : Int) by omega]; exact w64 _ (by omega) (by have := HLN.out; omega)
  have hd1 : ¬ (d : Int) = 1 := by omega
  have hd2 : ((d : Int) == 1) = false := beq_eq_false_iff_ne.2 hd1
  have hd3 : ¬ (d' : Int) = 1 := by omega
  have hd4 : ((d' : Int) == 1) = false := beq_eq_false_iff_ne.2 hd3
  obtain ⟨s1, hs1⟩ : ∃ s, a + b = s := ⟨_, rfl⟩
  obtain ⟨mid, hmid⟩ : ∃ q, s1 / 2 = q := ⟨_, rfl⟩
  obtain ⟨nn, hnn⟩ : ∃ q, mid + m = q := ⟨_, rfl⟩
  have HM0 : Hid (a < m ∧ m < b ∧ a < mid ∧ mid < b ∧ nn = mid + m ∧ (2 * mid ≤ a + b ∧ a + b ≤ 2 * mid + 1) ∧ b ≤ 100000) := by have := HLN.out; show _ ∧ _ ∧ _ ∧ _ ∧ _ ∧ (_ ∧ _) ∧ _; omega
  have HH1 := Lib.hid (half_add a b s1 hs1 (by have := HM0.out; omega))
  have HH2 := Lib.hid (half_u64 s1 (by have := HM0.out; omega))
  have HH3 := Lib.hid (half_div s1 mid hmid)
  have HH4 := Lib.hid (half_i64 mid (by have := HM0.out; omega))
  have HH5 := Lib.hid (add_nat mid m nn hnn (by have := HM0.out; omega))
  clear h hn ha hm hb hp hbase hX hY hX2 hY2 hd hd' ih hs1 hmid hnn
  have hw0 := HW0.out
  have hw1 := HW1.out
  have hh1 := HH1.out
  have hh2 := HH2.out
  have hh3 := HH3.out
  have hh4 := HH4.out
  have hh5 := HH5.out
  go_enter Tryd.func32, Tryd.ntmps32
  go_upto_if 140 with fail
  try simp only [HH1.out, HH2.out, HH3.out, HH4.out, HH5.out]
  clear hw0 hw1 hd1 hd2 hd3 hd4 hh1 hh2 hh3 hh4 hh5 HW0 HW1
  go_cut [20, 21] from 25 (fun sv rv wx => ∃ s0 r0 : Nat, sv = .int .i64 (s0 : Int) ∧ rv = .int .i64 (r0 : Int) ∧ SymN a m b mid nn s0 r0 ∧ OwnE 30 wx base (.slice (some ⟨g, 0, none⟩) n c) (A ++ (X ++ (Y ++ C))) ∧ Below base w wx)
  case first =>
    by_cases hg : mid < m
    · have hgi : (mid : Int) < (m : Int) := by omega
      obtain ⟨s0, hs0⟩ : ∃ s, nn = s + b := ⟨nn - b, by have := HM0.out; omega⟩
      have HS0 : Hid (SymN a m b mid nn s0 mid) := by
        have := HM0.out
        exact ⟨this.1, this.2.1, this.2.2.1, this.2.2.2.1, this.2.2.2.2.1, .inl ⟨hg, hs0.symm, rfl⟩, this.2.2.2.2.2.1⟩
      have HW2 := Lib.hid (sub_nat nn b s0 hs0 (by have := HM0.out; omega))
      clear hg hs0
      have hw2 := HW2.out
      go_wp2_with fail
      go_meet
      exact ⟨s0, mid, by first | rw [HW2.out] | rfl, rfl, HS0.out, H0.out, Below.refl _ _⟩
    · have hgi : ¬ (mid : Int) < (m : Int) := by omega
      have HS0 : Hid (SymN a m b mid nn a m) := by
        have := HM0.out
        exact ⟨this.1, this.2.1, this.2.2.1, this.2.2.2.1, this.2.2.2.2.1, .inr ⟨hg, rfl, rfl⟩, this.2.2.2.2.2.1⟩
      clear hg
      go_wp2_with fail
      go_meet
      exact ⟨a, m, rfl, rfl, HS0.out, H0.out, Below.refl _ _⟩
  case rest =>
  obtain ⟨s0, r0, rfl, rfl, hsn, ho, hbl⟩ := hcut
  have HSN := Lib.hid hsn
  have H1 := Lib.hid ho
  have HB1 := Lib.hid hbl
  obtain ⟨p, hp⟩ : ∃ p, nn = p + 1 := ⟨nn - 1, by have := HM0.out; omega⟩
  have HP := Lib.hid hp
  have HW2 : Hid (wrap64 ((nn : Int) - 1) = (p : Int)) := by rw [show (nn : Int) - 1 = (p : Int) by omega]; exact w64 _ (by omega) (by have := HM0.out; omega)
  clear hsn ho hbl hp H0
  have hw2 := HW2.out
  go_wp2_with fail
  try simp only [HW2.out]
  clear hw2
  go_loopw [20, 21, 23] (fun sv rv cv wr => ∃ s r : Nat, sv = .int .i64 (s : Int) ∧ rv = .int .i64 (r : Int) ∧ s0 ≤ s ∧ s ≤ r ∧ r ≤ r0 ∧ (∀ x y, r < r0 → (A ++ (X ++ (Y ++ C)))[r]? = some x → (A ++ (X ++ (Y ++ C)))[nn - 1 - r]? = some y → ltT y x = true) ∧ (∀ x y, s0 < s → (A ++ (X ++ (Y ++ C)))[s - 1]? = some x → (A ++ (X ++ (Y ++ C)))[nn - s]? = some y → ltT y x = false) ∧ OwnE 30 wr base (.slice (some ⟨g, 0, none⟩) n c) (A ++ (X ++ (Y ++ C))) ∧ Below base w wr) (fun sv rv _ _ => (intOf rv).toNat - (intOf sv).toNat)
  case atStart => exact ⟨s0, r0, rfl, rfl, Nat.le_refl _, by obtain ⟨q1, q2, q3, q4, q5, q6, q7⟩ := HSN.out; rcases q6 with ⟨e1, e2, e3⟩ | ⟨e1, e2, e3⟩ <;> omega, Nat.le_refl _, fun x y h => absurd h (by omega), fun x y h => absurd h (by omega), H1.out, HB1.out⟩
  case round =>
    obtain ⟨i, j, rfl, rfl, hmi, hij, hjb, hhi, hlo, ho, hbl⟩ := hrel
    have HO := Lib.hid ho
    have HB := Lib.hid hbl
    have HLO := Lib.hid hlo
    have HHI := Lib.hid hhi
    clear ho hbl hlo hhi H1 HB1
    by_cases hlt : i < j
    · as_aux_lemma =>
      have hlti : (i : Int) < (j : Int) := by omega
      obtain ⟨s, hs⟩ : ∃ s, i + j = s := ⟨_, rfl⟩
      obtain ⟨q, hq⟩ : ∃ q, s / 2 = q := ⟨_, rfl⟩
      have HS : Hid (i ≤ q ∧ q < j ∧ i < j ∧ j ≤ r0 ∧ s0 ≤ i) := by show _ ∧ _ ∧ _ ∧ _ ∧ _; omega
      have HAT := Lib.hid (HSN.out.at (show s0 ≤ q by have := HS.out; omega) (show q < r0 by have := HS.out; omega))
      obtain ⟨u, hu⟩ : ∃ u, p = u + q := ⟨p - q, by have := HAT.out; have := HP.out; have := HM0.out; omega⟩
      have HU : Hid (u < n ∧ q < n ∧ nn - 1 - q = u ∧ nn - (q + 1) = u ∧ m ≤ u ∧ u < b ∧ a ≤ q ∧ q < m) := by have := HAT.out; have := HP.out; have := HM0.out; have := HLN.out; show _ ∧ _ ∧ _ ∧ _ ∧ _ ∧ _ ∧ _ ∧ _; omega
      have HH1 := Lib.hid (half_add i j s hs (by have := HS.out; have := HAT.out; have := HM0.out; have := HSN.out.ok (Nat.le_trans hmi hij) hjb; omega))
      have HH2 := Lib.hid (half_u64 s (by have := HM0.out; have := HSN.out.ok (Nat.le_trans hmi hij) hjb; omega))
      have HH3 := Lib.hid (half_div s q hq)
      have HH4 := Lib.hid (half_i64 q (by have := HM0.out; have := HU.out; omega))
      have HWU := Lib.hid (sub_nat p q u hu (by have := HM0.out; have := HP.out; omega))
      have HVU : Hid (IntKind.i64.wrap ((p : Int) - (q : Int)) = (u : Int)) := by rw [show (p : Int) - (q : Int) = (u : Int) by omega]; exact w64k _ (by omega) (by have := HM0.out; have := HP.out; omega)
      have hqn : (q : Int) < (n : Int) := by have := HU.out; omega
      have hq0 : (0 : Int) ≤ (q : Int) := Int.natCast_nonneg q
      have hun : (u : Int) < (n : Int) := by have := HU.out; omega
      have hu0 : (0 : Int) ≤ (u : Int) := Int.natCast_nonneg u
      have HWQ := Lib.hid (next_int q (by have := HU.out; have := HM0.out; omega))
      obtain ⟨x, hx⟩ : ∃ x, X[q - a]? = some x := ⟨_, List.getElem?_eq_getElem (by have := HU.out; have := HM.out; omega)⟩
      obtain ⟨y, hy⟩ : ∃ y, Y[u - m]? = some y := ⟨_, List.getElem?_eq_getElem (by have := HU.out; have := HBL.out; omega)⟩
      have HPX : Hid ((A ++ (X ++ (Y ++ C)))[q]? = some x) := by
        have e := at_x A X (Y ++ C) (q - a) (List.getElem?_eq_some_iff.1 hx).1
        rw [show A.length + (q - a) = q by have := HA.out; have := HU.out; omega] at e
        exact e.trans hx
      have HQY : Hid ((A ++ (X ++ (Y ++ C)))[u]? = some y) := by
        have e := at_y A X Y C (u - m) (List.getElem?_eq_some_iff.1 hy).1
        rw [show A.length + X.length + (u - m) = u by have := HA.out; have := HM.out; have := HU.out; omega] at e
        exact e.trans hy
      have Hxp : Hid (x.p.size ≤ 100000) := HPS.out x (List.mem_append_left _ (List.mem_of_getElem? hx))
      have Hyp : Hid (y.p.size ≤ 100000) := HPS.out y (List.mem_append_right _ (List.mem_of_getElem? hy))
      have HOD : Hid (OwnE 30 wr.drew base (.slice (some ⟨g, 0, none⟩) n c) (A ++ (X ++ (Y ++ C)))) := HO.out.below (Below.refl _ _).drew
      have Hy : Hid (y.n.length = 20) := HOD.out.2 y (List.mem_of_getElem? HQY.out)
      have Hx : Hid (x.n.length = 20) := HOD.out.2 x (List.mem_of_getElem? HPX.out)
      have HRy : Hid (wr.drew.rangeAt g (u * 22) (entL y)) := HOD.out.row.2.2.2.1 u y HQY.out
      have HRx : Hid (wr.drew.rangeAt g (q * 22) (entL x)) := HOD.out.row.2.2.2.1 q x HPX.out
      have HBG : Hid (base ≤ g ∧ g < wr.drew.heap.size) := ⟨HOD.out.row.2.1, HOD.out.row.2.2.1⟩
      clear hx hy hs hq hlt hmi hij hjb hu
      have hh1 := HH1.out
      have hh2 := HH2.out
      have hh3 := HH3.out
      have hh4 := HH4.out
      have hwu := HWU.out
      have hvu := HVU.out
      go_wp2_with fail
      refine wp_region_noPanic ?_
      refine wp_region_held_drew (S := fun W => W.rangeAt g (u * 22) (entL y) ∧ W.rangeAt g (q * 22) (entL x)) (by kernel_rfl) ?_ (fun hHeld => ?_)
      · exact ⟨HRy.out, HRx.out⟩
      refine wpAnyH_take (i := 0) (v := ?_) (by simp only [List.getElem?_toArray, List.getElem?_cons_zero]; rfl) (by kernel_rfl) (by kernel_rfl) (by kernel_rfl) (fun _ _ _ h => h) (Or.inl ⟨by rfl, ?_⟩) (by assumption) ?_
      rotate_left
      · intro W hSW
        go_simp
        try with_reducible rfl
      try simp only [Act.put, List.setIfInBounds_toArray, List.set_cons_zero, List.set_cons_succ]
      refine wpAnyH_take (i := 1) (v := ?_) (by simp only [List.getElem?_toArray, List.getElem?_cons_succ, List.getElem?_cons_zero]; rfl) (by kernel_rfl) (by kernel_rfl) (by kernel_rfl) (fun _ _ _ h => h) (Or.inl ⟨by rfl, ?_⟩) (by assumption) ?_
      rotate_left
      · intro W hSW
        go_simp
        try with_reducible rfl
      try simp only [Act.put, List.setIfInBounds_toArray, List.set_cons_zero, List.set_cons_succ]
      refine wpAnyH_take (i := 2) (v := ?_) (by simp only [List.getElem?_toArray, List.getElem?_cons_succ, List.getElem?_cons_zero]; rfl) (by kernel_rfl) (by kernel_rfl) (by kernel_rfl) (fun _ _ _ h => h) (Or.inl ⟨by rfl, ?_⟩) (by assumption) ?_
      rotate_left
      · intro W hSW
        go_simp
        try with_reducible rfl
      try simp only [Act.put, List.setIfInBounds_toArray, List.set_cons_zero, List.set_cons_succ]
      refine wpAnyH_take (i := 3) (v := ?_) (by simp only [List.getElem?_toArray, List.getElem?_cons_succ, List.getElem?_cons_zero]; rfl) (by kernel_rfl) (by kernel_rfl) (by kernel_rfl) (fun _ _ _ h => h) (Or.inl ⟨by rfl, ?_⟩) (by assumption) ?_
      rotate_left
      · intro W hSW
        go_simp
        try with_reducible rfl
      try simp only [Act.put, List.setIfInBounds_toArray, List.set_cons_zero, List.set_cons_succ]
      refine wpAnyH_take (i := 4) (v := ?_) (by simp only [List.getElem?_toArray, List.getElem?_cons_succ, List.getElem?_cons_zero]; rfl) (by kernel_rfl) (by kernel_rfl) (by kernel_rfl) (fun _ _ _ h => h) (Or.inl ⟨by rfl, ?_⟩) (by assumption) ?_
      rotate_left
      · intro W hSW
        go_simp
        try with_reducible rfl
      try simp only [Act.put, List.setIfInBounds_toArray, List.set_cons_zero, List.set_cons_succ]
      refine wpAnyH_take (i := 5) (v := ?_) (by simp only [List.getElem?_toArray, List.getElem?_cons_succ, List.getElem?_cons_zero]; rfl) (by kernel_rfl) (by kernel_rfl) (by kernel_rfl) (fun _ _ _ h => h) (Or.inl ⟨by rfl, ?_⟩) (by assumption) ?_
      rotate_left
      · intro W hSW
        go_simp
        try with_reducible rfl
      try simp only [Act.put, List.setIfInBounds_toArray, List.set_cons_zero, List.set_cons_succ]
      refine wpAnyH_take (i := 6) (by simp only [List.getElem?_toArray, List.getElem?_cons_succ, List.getElem?_cons_zero]; rfl) (by kernel_rfl) (by kernel_rfl) (by kernel_rfl) (fun _ _ _ h => h) (yieldsIf_load_mid (by rfl) 30 _ rfl g (u * 22) rfl (entL y) _ (fun W h => h.1) Tryd.underlying30 rfl (ent_infoL y Hy.out)) (by assumption) ?_
      try simp only [Act.put, List.setIfInBounds_toArray, List.set_cons_zero, List.set_cons_succ]
      refine wpAnyH_take (i := 7) (v := ?_) (by simp only [List.getElem?_toArray, List.getElem?_cons_succ, List.getElem?_cons_zero]; rfl) (by kernel_rfl) (by kernel_rfl) (by kernel_rfl) (fun _ _ _ h => h) (Or.inl ⟨by rfl, ?_⟩) (by assumption) ?_
      rotate_left
      · intro W hSW
        go_simp
        try with_reducible rfl
      try simp only [Act.put, List.setIfInBounds_toArray, List.set_cons_zero, List.set_cons_succ]
      refine wpAnyH_take (i := 8) (v := ?_) (by simp only [List.getElem?_toArray, List.getElem?_cons_succ, List.getElem?_cons_zero]; rfl) (by kernel_rfl) (by kernel_rfl) (by kernel_rfl) (fun _ _ _ h => h) (Or.inl ⟨by rfl, ?_⟩) (by assumption) ?_
      rotate_left
      · intro W hSW
        go_simp
        try with_reducible rfl
      try simp only [Act.put, List.setIfInBounds_toArray, List.set_cons_zero, List.set_cons_succ]
      refine wpAnyH_take (i := 9) (v := ?_) (by simp only [List.getElem?_toArray, List.getElem?_cons_succ, List.getElem?_cons_zero]; rfl) (by kernel_rfl) (by kernel_rfl) (by kernel_rfl) (fun _ _ _ h => h) (Or.inl ⟨by rfl, ?_⟩) (by assumption) ?_
      rotate_left
      · intro W hSW
        go_simp
        try with_reducible rfl
      try simp only [Act.put, List.setIfInBounds_toArray, List.set_cons_zero, List.set_cons_succ]
      refine wpAnyH_take (i := 10) (by simp only [List.getElem?_toArray, List.getElem?_cons_succ, List.getElem?_cons_zero]; rfl) (by kernel_rfl) (by kernel_rfl) (by kernel_rfl) (fun _ _ _ h => h) (yieldsIf_load_mid (by rfl) 30 _ rfl g (q * 22) rfl (entL x) _ (fun W h => h.2) Tryd.underlying30 rfl (ent_infoL x Hx.out)) (by assumption) ?_
      try simp only [Act.put, List.setIfInBounds_toArray, List.set_cons_zero, List.set_cons_succ]
      refine wpAnyH_ready (rs := [11]) (by kernel_rfl) (by simp) ?_
      refine AllReadyH.cons (by simp only [List.getElem?_toArray, List.getElem?_cons_succ, List.getElem?_cons_zero]; rfl) (fun K hK => ?_) AllReadyH.nil
      go_simp
      refine (compare_any y x Hy.out Hyp.out Hx.out Hxp.out _).mono ?_
      rintro e v1 ⟨rfl, hb⟩
      have HFV := Lib.hid hb
      have HOV := Lib.hid (HOD.out.below hb)
      clear hb
      go_wp2_with fail
      refine hK.out _ _ (⟨HOV.out.row.2.2.2.1 u y HQY.out, HOV.out.row.2.2.2.1 q x HPX.out⟩) (fun hHeld2 => ?_)
      clear hK K hHeld
      have hHeld := hHeld2
      clear hHeld2
      try simp only [Act.put, List.setIfInBounds_toArray, List.set_cons_zero, List.set_cons_succ]
      refine wpAnyH_take (i := 12) (v := ?_) (by simp only [List.getElem?_toArray, List.getElem?_cons_succ, List.getElem?_cons_zero]; rfl) (by kernel_rfl) (by kernel_rfl) (by kernel_rfl) (fun _ _ _ h => h) (Or.inl ⟨by rfl, ?_⟩) (by assumption) ?_
      rotate_left
      · intro W hSW
        go_simp
        try with_reducible rfl
      try simp only [Act.put, List.setIfInBounds_toArray, List.set_cons_zero, List.set_cons_succ]
      refine wpAnyH_take (i := 13) (v := ?_) (by simp only [List.getElem?_toArray, List.getElem?_cons_succ, List.getElem?_cons_zero]; rfl) (by kernel_rfl) (by kernel_rfl) (by kernel_rfl) (fun _ _ _ h => h) (Or.inl ⟨by rfl, ?_⟩) (by assumption) ?_
      rotate_left
      · intro W hSW
        go_simp
        try with_reducible rfl
      try simp only [Act.put, List.setIfInBounds_toArray, List.set_cons_zero, List.set_cons_succ]
      refine wpAnyH_done (by kernel_rfl) ?_ _
      refine NoPanic.normal ?_
      clear hHeld hh1 hh2 hh3 hh4 hwu hvu
      have HBV := Lib.hid (HB.out.drew.trans (HFV.out.mono (Nat.le_trans HBG.out.1 (Nat.le_of_lt HBG.out.2))))
      cases hl : ltT y x
      · have hcl : ¬ Lib.compareBytes (keyT y) (keyT x) < 0 := of_decide_eq_false hl
        have HL := Lib.hid hl
        clear hl
        simp only [show decide (Lib.compareBytes (keyT y) (keyT x) < 0) = false from HL.out, Bool.not_false]
        go_wp2_with fail
        exact ⟨⟨q + 1, j, by first | rw [HWQ.out _ rfl] | rfl, rfl, by have := HS.out; omega, HS.out.2.1, HS.out.2.2.2.1, HHI.out, (fun z1 z2 _ h1 h2 => by rw [Nat.add_sub_cancel, HPX.out] at h1; rw [HU.out.2.2.2.1, HQY.out] at h2; cases h1; cases h2; exact HL.out), HOV.out, HBV.out⟩, by have := HS.out; (first | rw [HWQ.out _ rfl] | skip); simp [intOf]; omega⟩
      · have hcl : Lib.compareBytes (keyT y) (keyT x) < 0 := of_decide_eq_true hl
        have HL := Lib.hid hl
        clear hl
        simp only [show decide (Lib.compareBytes (keyT y) (keyT x) < 0) = true from HL.out, Bool.not_true]
        go_wp2_with fail
        exact ⟨⟨i, q, rfl, rfl, HS.out.2.2.2.2, HS.out.1, by have := HS.out; omega, (fun z1 z2 _ h1 h2 => by rw [HPX.out] at h1; rw [HU.out.2.2.1, HQY.out] at h2; cases h1; cases h2; exact HL.out), HLO.out, HOV.out, HBV.out⟩, by have := HS.out; simp [intOf]; omega⟩
    · have hlti : ¬ (i : Int) < (i : Int) := by omega
      obtain rfl : i = j := by omega
      have HOK := Lib.hid (HSN.out.ok hmi hjb)
      obtain ⟨e, he⟩ : ∃ e, nn = e + i := ⟨nn - i, by have := HOK.out; omega⟩
      have HSEAM := Lib.hid (HSN.out.seam (C := C) (e := e) ltT_swo HX.out HY.out HA.out HM.out HBL.out hmi hjb he.symm HHI.out HLO.out)
      have HROT := Lib.hid (sym_rot (A := A) (X := X) (Y := Y) (C := C) a m i e HA.out HM.out (by have := HOK.out; omega) (by have := HOK.out; omega) (by have := HOK.out; omega) (by have := HOK.out; have := HBL.out; omega))
      have HNOROT : Hid (i = m ∨ e = m → A ++ (X.take (i - a) ++ (Y.take (e - m) ++ (X.drop (i - a) ++ (Y.drop (e - m) ++ C)))) = A ++ (X ++ (Y ++ C))) := fun h => norot HM.out h
      have HSX1 : Hid (Srt ltT (X.take (i - a))) := List.Pairwise.take HX.out
      have HSX2 : Hid (Srt ltT (X.drop (i - a))) := List.Pairwise.drop HX.out
      have HSY1 : Hid (Srt ltT (Y.take (e - m))) := List.Pairwise.take HY.out
      have HSY2 : Hid (Srt ltT (Y.drop (e - m))) := List.Pairwise.drop HY.out
      have HL1 : Hid ((X.take (i - a)).length = i - a) := by rw [List.length_take]; have := HOK.out; have := HM.out; show _ = _; omega
      have HL2 : Hid ((X.drop (i - a)).length = m - i) := by rw [List.length_drop]; have := HOK.out; have := HM.out; show _ = _; omega
      have HL3 : Hid ((Y.take (e - m)).length = e - m) := by rw [List.length_take]; have := HOK.out; have := HBL.out; show _ = _; omega
      have HL4 : Hid ((Y.drop (e - m)).length = b - e) := by rw [List.length_drop]; have := HOK.out; have := HBL.out; show _ = _; omega
      have HP1 : Hid (∀ z ∈ X.take (i - a) ++ Y.take (e - m), z.p.size ≤ 100000) := fun z hz => by
        rcases List.mem_append.1 hz with h1 | h1
        · exact HPS.out z (List.mem_append_left _ (List.mem_of_mem_take h1))
        · exact HPS.out z (List.mem_append_right _ (List.mem_of_mem_take h1))
      have HP2 : Hid (∀ z ∈ X.drop (i - a) ++ Y.drop (e - m), z.p.size ≤ 100000) := fun z hz => by
        rcases List.mem_append.1 hz with h1 | h1
        · exact HPS.out z (List.mem_append_left _ (List.mem_of_mem_drop h1))
        · exact HPS.out z (List.mem_append_right _ (List.mem_of_mem_drop h1))
      generalize X.take (i - a) = X1 at *
      generalize X.drop (i - a) = X2 at *
      generalize Y.take (e - m) = Y1 at *
      generalize Y.drop (e - m) = Y2 at *
      have HNUM : Hid (a ≤ i ∧ i ≤ m ∧ m ≤ e ∧ e ≤ b ∧ i + Y1.length = mid ∧ a + X1.length = i ∧ mid + X2.length = e ∧ e + Y2.length = b ∧ a < mid ∧ mid < b ∧ e ≤ n) := by have := HOK.out; have := HL1.out; have := HL2.out; have := HL3.out; have := HL4.out; have := HM0.out; have := HLN.out; show _ ∧ _ ∧ _ ∧ _ ∧ _ ∧ _ ∧ _ ∧ _ ∧ _ ∧ _ ∧ _; omega
      have HWE := Lib.hid (sub_nat nn i e he (by have := HM0.out; omega))
      clear hlt hmi hij hjb he HLO HHI HL1 HL2 HL3 HL4
      have hwe := HWE.out
      go_upto_region 39 with fail
      try simp only [HWE.out]
      clear hwe
      go_cut [185] from 25 (fun cv wx => ∃ t : Bool, cv = .bool t ∧ TF t (i < m) (m < e) ∧ OwnE 30 wx base (.slice (some ⟨g, 0, none⟩) n c) (A ++ (X ++ (Y ++ C))) ∧ Below base w wx)
      case first =>
        by_cases h1 : i < m
        · have h1i : (i : Int) < (m : Int) := by omega
          by_cases h2 : m < e
          · have h2i : (m : Int) < (e : Int) := by omega
            have HIFF : Hid (TF true (i < m) (m < e)) := ⟨fun _ => ⟨h1, h2⟩, fun _ => rfl⟩
            clear h1 h2
            go_wp2_with fail
            go_meet
            exact ⟨true, rfl, HIFF.out, HO.out, HB.out⟩
          · have h2i : ¬ (m : Int) < (e : Int) := by omega
            have HIFF : Hid (TF false (i < m) (m < e)) := ⟨fun h => by (cases h), fun h => absurd h.2 h2⟩
            clear h1 h2
            go_wp2_with fail
            go_meet
            exact ⟨false, rfl, HIFF.out, HO.out, HB.out⟩
        · have h1i : ¬ (i : Int) < (m : Int) := by omega
          have HIFF : Hid (TF false (i < m) (m < e)) := ⟨fun h => by (cases h), fun h => absurd h.1 h1⟩
          clear h1
          go_wp2_with fail
          go_meet
          exact ⟨false, rfl, HIFF.out, HO.out, HB.out⟩
      case rest =>
      obtain ⟨t, rfl, hiff, ho, hbl⟩ := hcut
      have HIFF := Lib.hid hiff
      have HOa := Lib.hid ho
      have HBa := Lib.hid hbl
      clear ho hbl hiff HO HB
      generalize wc = w1a at *
      go_upto_if 185 with fail
      go_cut [] from 25 (fun wx => OwnE 30 wx base (.slice (some ⟨g, 0, none⟩) n c) (A ++ (X1 ++ (Y1 ++ (X2 ++ (Y2 ++ C))))) ∧ Below base w wx)
      case first =>
        as_aux_lemma =>
        cases t
        · have HO1 : Hid (OwnE 30 w1a base (.slice (some ⟨g, 0, none⟩) n c) (A ++ (X1 ++ (Y1 ++ (X2 ++ (Y2 ++ C)))))) := by
            rw [HNOROT.out (by
              have := HIFF.out
              have := HNUM.out
              by_cases q1 : i < m
              · by_cases q2 : m < e
                · exact absurd (HIFF.out.mpr ⟨q1, q2⟩) (by decide)
                · exact .inr (by omega)
              · exact .inl (by omega))]
            exact HOa.out
          clear HIFF
          go_wp2_with fail
          go_meet
          exact ⟨HO1.out, HBa.out⟩
        · have HS : Hid (Calls Tryd.prog 36 #[(.slice (some ⟨g, 0, none⟩) n c), .int .i64 (i : Int), .int .i64 (m : Int), .int .i64 (e : Int), (.func (.func 18) #[] #[])] w1a fun e w' => e = .returned (.tuple #[]) ∧ OwnE 30 w' base (.slice (some ⟨g, 0, none⟩) n c) (A ++ (X1 ++ (Y1 ++ (X2 ++ (Y2 ++ C))))) ∧ Below base w w') := by
            refine (rotate_any (A ++ (X ++ (Y ++ C))) (A ++ (X1 ++ (Y1 ++ (X2 ++ (Y2 ++ C))))) g n c i m e base (.func (.func 18) #[] #[]) w1a HOa.out HNB.out (HIFF.out.mp rfl).1 (HIFF.out.mp rfl).2 HNUM.out.2.2.2.2.2.2.2.2.2.2 HROT.out (Nat.le_trans HBS.out HBa.out.size)).mono ?_
            rintro e' w' ⟨rfl, ho, hb⟩
            exact ⟨rfl, ho, HBa.out.trans hb⟩
          clear HIFF
          go_wp2_with fail
          refine HS.out.mono ?_
          rintro e' w1 ⟨rfl, ho, hb⟩
          have HO1 := Lib.hid ho
          have HB1 := Lib.hid hb
          clear ho hb
          go_wp2_with fail
          go_meet
          exact ⟨HO1.out, HB1.out⟩
      case rest =>
      obtain ⟨ho, hbl⟩ := hcut
      have HO1 := Lib.hid ho
      have HB1 := Lib.hid hbl
      clear ho hbl HOa HBa HROT HNOROT
      generalize wc = w2 at *
      go_upto_region 41 with fail
      go_cut [199] from 25 (fun cv wx => ∃ t : Bool, cv = .bool t ∧ TF t (a < i) (i < mid) ∧ OwnE 30 wx base (.slice (some ⟨g, 0, none⟩) n c) (A ++ (X1 ++ (Y1 ++ (X2 ++ (Y2 ++ C))))) ∧ Below base w wx)
      case first =>
        by_cases h1 : a < i
        · have h1i : (a : Int) < (i : Int) := by omega
          by_cases h2 : i < mid
          · have h2i : (i : Int) < (mid : Int) := by omega
            have HIFF : Hid (TF true (a < i) (i < mid)) := ⟨fun _ => ⟨h1, h2⟩, fun _ => rfl⟩
            clear h1 h2
            go_wp2_with fail
            go_meet
            exact ⟨true, rfl, HIFF.out, HO1.out, HB1.out⟩
          · have h2i : ¬ (i : Int) < (mid : Int) := by omega
            have HIFF : Hid (TF false (a < i) (i < mid)) := ⟨fun h => by (cases h), fun h => absurd h.2 h2⟩
            clear h1 h2
            go_wp2_with fail
            go_meet
            exact ⟨false, rfl, HIFF.out, HO1.out, HB1.out⟩
        · have h1i : ¬ (a : Int) < (i : Int) := by omega
          have HIFF : Hid (TF false (a < i) (i < mid)) := ⟨fun h => by (cases h), fun h => absurd h.1 h1⟩
          clear h1
          go_wp2_with fail
          go_meet
          exact ⟨false, rfl, HIFF.out, HO1.out, HB1.out⟩
      case rest =>
      obtain ⟨t, rfl, hiff, ho, hbl⟩ := hcut
      have HIFF := Lib.hid hiff
      have HO1a := Lib.hid ho
      have HB1a := Lib.hid hbl
      clear ho hbl hiff HO1 HB1
      generalize wc = w2a at *
      go_upto_if 199 with fail
      go_cut [] from 25 (fun wx => OwnE 30 wx base (.slice (some ⟨g, 0, none⟩) n c) (A ++ (mrg ltT X1 Y1 ++ (X2 ++ (Y2 ++ C)))) ∧ Below base w wx)
      case first =>
        as_aux_lemma =>
        cases t
        · have HO3 : Hid (OwnE 30 w2a base (.slice (some ⟨g, 0, none⟩) n c) (A ++ (mrg ltT X1 Y1 ++ (X2 ++ (Y2 ++ C))))) := by
            rw [nomrg (by
              have := HNUM.out
              by_cases q1 : a < i
              · by_cases q2 : i < mid
                · exact absurd (HIFF.out.mpr ⟨q1, q2⟩) (by decide)
                · exact .inr (by omega)
              · exact .inl (by omega)), List.append_assoc]
            exact HO1a.out
          clear HIFF
          go_wp2_with fail
          go_meet
          exact ⟨HO3.out, HB1a.out⟩
        · have HS : Hid (Calls Tryd.prog 32 #[(.slice (some ⟨g, 0, none⟩) n c), .int .i64 (a : Int), .int .i64 (i : Int), .int .i64 (mid : Int), (.func (.func 18) #[] #[])] w2a fun e w' => e = .returned (.tuple #[]) ∧ OwnE 30 w' base (.slice (some ⟨g, 0, none⟩) n c) (A ++ (mrg ltT X1 Y1 ++ (X2 ++ (Y2 ++ C)))) ∧ Below base w w') := by
            obtain ⟨h1, h2⟩ := HIFF.out.mp rfl
            refine (IH.out A X1 Y1 (X2 ++ (Y2 ++ C)) a i mid w2a (by have := HNUM.out; omega) HO1a.out HA.out HNUM.out.2.2.2.2.2.1 HNUM.out.2.2.2.2.1 (by have := HNUM.out; omega) (by have := HNUM.out; omega) HSX1.out HSY1.out HP1.out (Nat.le_trans HBS.out HB1a.out.size)).mono ?_
            rintro e' w' ⟨rfl, ho, hb⟩
            exact ⟨rfl, ho, HB1a.out.trans hb⟩
          clear HIFF
          go_wp2_with fail
          refine HS.out.mono ?_
          rintro e' w3 ⟨rfl, ho, hb⟩
          have HO3 := Lib.hid ho
          have HB3 := Lib.hid hb
          clear ho hb
          go_wp2_with fail
          go_meet
          exact ⟨HO3.out, HB3.out⟩
      case rest =>
      obtain ⟨ho, hbl⟩ := hcut
      have HO3 := Lib.hid ho
      have HB3 := Lib.hid hbl
      clear ho hbl HO1a HB1a
      generalize wc = w4 at *
      have HFIN : Hid (A ++ (mrg ltT X1 Y1 ++ (mrg ltT X2 Y2 ++ C)) = A ++ (mrg ltT X Y ++ C)) := by
        show _ = _
        rw [HSEAM.out]
        simp only [List.append_assoc]
      by_cases h1 : mid < e
      · have h1i : (mid : Int) < (e : Int) := by omega
        by_cases h2 : e < b
        · have h2i : (e : Int) < (b : Int) := by omega
          have HS : Hid (Calls Tryd.prog 32 #[(.slice (some ⟨g, 0, none⟩) n c), .int .i64 (mid : Int), .int .i64 (e : Int), .int .i64 (b : Int), (.func (.func 18) #[] #[])] w4 fun e w' => e = .returned (.tuple #[]) ∧ OwnE 30 w' base (.slice (some ⟨g, 0, none⟩) n c) (A ++ (mrg ltT X Y ++ C)) ∧ Below base w w') := by
            refine (IH.out (A ++ mrg ltT X1 Y1) X2 Y2 C mid e b w4 (by have := HNUM.out; omega) (by rw [List.append_assoc]; exact HO3.out) (by rw [List.length_append, (mrg_perm _ X1 Y1 (Nat.le_refl _)).length_eq, List.length_append]; have := HNUM.out; have := HA.out; omega) HNUM.out.2.2.2.2.2.2.1 HNUM.out.2.2.2.2.2.2.2.1 (by have := HNUM.out; omega) (by have := HNUM.out; omega) HSX2.out HSY2.out HP2.out (Nat.le_trans HBS.out HB3.out.size)).mono ?_
            rintro e' w' ⟨rfl, ho, hb⟩
            refine ⟨rfl, ?_, HB3.out.trans hb⟩
            rw [← HFIN.out]
            rw [List.append_assoc] at ho
            exact ho
          clear h1 h2
          go_wp2_with fail
          refine HS.out.mono ?_
          rintro e' w5 ⟨rfl, ho, hb⟩
          have HO5 := Lib.hid ho
          have HB5 := Lib.hid hb
          clear ho hb
          go_wp2_with fail
          refine bodyPost_end (results_none rfl _ _ _) rfl ?_
          exact ⟨rfl, HO5.out, HB5.out⟩
        · have h2i : ¬ (e : Int) < (b : Int) := by omega
          have HO5 : Hid (OwnE 30 w4 base (.slice (some ⟨g, 0, none⟩) n c) (A ++ (mrg ltT X Y ++ C))) := by
            rw [← HFIN.out, nomrg (X := X2) (Y := Y2) (.inr (by have := HNUM.out; omega)), List.append_assoc]
            exact HO3.out
          clear h1 h2
          go_wp2_with fail
          refine bodyPost_end (results_none rfl _ _ _) rfl ?_
          exact ⟨rfl, HO5.out, HB3.out⟩
      · have h1i : ¬ (mid : Int) < (e : Int) := by omega
        have HO5 : Hid (OwnE 30 w4 base (.slice (some ⟨g, 0, none⟩) n c) (A ++ (mrg ltT X Y ++ C))) := by
          rw [← HFIN.out, nomrg (X := X2) (Y := Y2) (.inl (by have := HNUM.out; omega)), List.append_assoc]
          exact HO3.out
        clear h1
        go_wp2_with fail
        refine bodyPost_end (results_none rfl _ _ _) rfl ?_
        exact ⟨rfl, HO5.out, HB3.out⟩
theorem symmerge_any (g n c base : Nat) (hn : n ≤ 100000) : ∀ N, SymP g n c base N
  | 0 => fun A X Y C a m b w hN h ha hm hb h1 h2 _ _ _ _ => absurd hN (by omega)
  | N + 1 => fun A X Y C a m b w hN h ha hm hb h1 h2 hX hY hp hbase => by
    by_cases e1 : X.length = 1
    · obtain ⟨x, rfl⟩ := one_of e1
      exact sym_left A Y C x g n c a m b base w h hn ha (by simpa using hm) hb hY (fun z hz => hp z (by simpa using hz)) hbase
    · by_cases e2 : Y.length = 1
      · obtain ⟨y, rfl⟩ := one_of e2
        exact sym_right A X C y g n c a m b base w h hn ha hm (by simpa using hb) e1 hX (fun z hz => hp z (by simp at hz ⊢; rcases hz with hz | hz <;> simp [hz])) hbase
      · exact sym_gen A X Y C g n c a m b base w (fun A' X' Y' C' a' m' b' w' hN' => symmerge_any g n c base hn N A' X' Y' C' a' m' b' w' (by omega)) h hn ha hm hb (by omega) (by omega) hX hY hp hbase
end Go.Proofs.YthemolkmciofaaaDoor
