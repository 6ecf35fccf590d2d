/- The document's unpacking: the next code, as a text. -/
import Derived.Test.YtkminkeaeclanaaRefMany
import Derived.Lib.ConvBytes
namespace Go.Proofs.Ytkminkeaeclanaa
open Go.RowKit Plain
set_option linter.unusedVariables false
/-- '[]byte(s)' of a text. -/
theorem conv_text (xs : List Int) (hb : ∀ x ∈ xs, 0 ≤ x ∧ x ≤ 255) (w : World) : ∃ c w', (convert 9 22 (.string (strOfNums xs))).run Try.prog w = .ok (.slice (some ⟨w.heap.size, 0, none⟩) xs.length c) w' ∧ Below w.heap.size w w' ∧ w'.heap.size = w.heap.size + 1 ∧
    (∀ j, j < xs.length → w'.cell? ⟨w.heap.size, j, none⟩ = some (.int .u8 (xs[j]?.getD 0))) ∧ (∀ j, j < xs.length → w'.frozen? ⟨w.heap.size, j, none⟩ = false) ∧ xs.length ≤ c := by
  have hsz : (strOfNums xs).size = xs.length := strOfNums_size xs
  have hle : xs.length ≤ grownCap w (strOfNums xs).size 0 5 := by
    rw [hsz]; exact grownCap_ge w _ _ _
  refine ⟨_, _, by rw [← hsz]; exact Lib.run_convert_string_bytes w 9 22 5 (strOfNums xs) Try.underlying9 Try.underlying22 Try.underlying5, ?_, Lib.bytesWorld_size _ _ _, ?_, ?_, hle⟩
  · exact ⟨by unfold Lib.bytesWorld World.freeze; split <;> rfl, by unfold Lib.bytesWorld World.freeze; split <;> rfl, by unfold Lib.bytesWorld World.freeze; split <;> rfl, by rw [Lib.bytesWorld_size]; omega, fun i hi => Lib.bytesWorld_at_old w _ _ i hi⟩
  · intro j hj
    rw [Lib.bytesWorld_cell w _ _ j (by rw [hsz]; exact hj), strOfNums_data]
    have := hb _ (List.getElem_mem hj)
    simp [hj]
    omega
  · intro j hj
    simp [World.frozen?, Lib.bytesWorld_at_new, Lib.bytesCells]
    omega
theorem Bytes.set {w : World} {g m : Nat} {xs : List Int} (h : Bytes w (some ⟨g, 0, none⟩) m xs) (k : Nat) (hk : k < m) (v : Int) (hv : 0 ≤ v ∧ v ≤ 255) : Bytes (w.setCell ⟨g, k, none⟩ (.int .u8 v)) (some ⟨g, 0, none⟩) m (xs.set k v) := by
  obtain ⟨h1, h2, h3, h4 | ⟨b, o, he, hc⟩⟩ := h
  · omega
  · simp only [Option.some.injEq, Addr.mk.injEq] at he
    obtain ⟨rfl, rfl, -⟩ := he
    refine ⟨by rw [List.length_set]; exact h1, h2, fun j => ?_, .inr ⟨g, 0, rfl, fun j hj => ?_⟩⟩
    · by_cases hjk : k = j
      · subst hjk; rw [List.getElem?_set_self (by omega)]; exact hv
      · rw [List.getElem?_set_ne hjk]; exact h3 j
    · by_cases hjk : k = j
      · subst hjk
        rw [List.getElem?_set_self (by omega), Nat.zero_add]
        have := hc k hk
        rw [Nat.zero_add] at this
        exact World.cell?_setCell_same (w := w) (a := ⟨g, k, none⟩) (v := .int .u8 v) this
      · rw [List.getElem?_set_ne hjk, ← hc j hj]
        exact World.cell?_setCell_other (w := w) (a := ⟨g, k, none⟩) (b := ⟨g, 0 + j, none⟩) (v := .int .u8 v) (fun e => hjk (by injection e with _ e2; omega))
/-- A code's text, 1 more; of ones alone: itself. -/
def nextGo (s : List Int) : Nat → List Int → List Int
  | 0, _ => s
  | k + 1, ys => if ys[k]?.getD 0 = 48 then ys.set k 49 else nextGo s k (ys.set k 48)
def nextT (s : List Int) : List Int := nextGo s s.length s
theorem nextGo_len (s : List Int) : ∀ (k : Nat) (ys : List Int), ys.length = s.length → (nextGo s k ys).length = s.length
  | 0, _, _ => rfl
  | k + 1, ys, h => by
    rw [nextGo]
    split
    · rw [List.length_set]; exact h
    · exact nextGo_len s k _ (by rw [List.length_set]; exact h)
theorem nextT_len (s : List Int) : (nextT s).length = s.length := nextGo_len s _ _ rfl
theorem nextGo_mem (s : List Int) (hs : ∀ x ∈ s, x = 48 ∨ x = 49) : ∀ (k : Nat) (ys : List Int), (∀ x ∈ ys, x = 48 ∨ x = 49) → ∀ x ∈ nextGo s k ys, x = 48 ∨ x = 49
  | 0, _, _ => hs
  | k + 1, ys, h => by
    rw [nextGo]
    split
    · intro x hx
      rcases List.mem_or_eq_of_mem_set hx with hx | hx
      · exact h x hx
      · exact .inr hx
    · refine nextGo_mem s hs k _ (fun x hx => ?_)
      rcases List.mem_or_eq_of_mem_set hx with hx | hx
      · exact h x hx
      · exact .inl hx
theorem nextT_mem (s : List Int) (hs : ∀ x ∈ s, x = 48 ∨ x = 49) : ∀ x ∈ nextT s, x = 48 ∨ x = 49 := nextGo_mem s hs _ _ hs
set_option maxRecDepth 100000 in
set_option maxHeartbeats 8000000 in
theorem next_any (w : World) (xs : List Int) (hx : ∀ x ∈ xs, x = 48 ∨ x = 49) (hn : xs.length ≤ 1000) :
    Calls Try.prog 26 #[.string (strOfNums xs)] w fun e w' => e = .returned (.string (strOfNums (nextT xs))) ∧ Below w.heap.size w w' := by
  have hb : ∀ x ∈ xs, 0 ≤ x ∧ x ≤ 255 := fun x h => by rcases hx x h with h | h <;> omega
  obtain ⟨c, w1, hcv, hb1, hs1, hc1, hf1, hle⟩ := conv_text xs hb w
  have HB0 : Hid (Bytes w1 (some ⟨w.heap.size, 0, none⟩) xs.length xs) := ⟨rfl, by omega, range_of_mem0 hb, .inr ⟨w.heap.size, 0, rfl, fun j hj => by rw [Nat.zero_add]; exact hc1 j hj⟩⟩
  have HF0 := Lib.hid hf1
  have HB1 := Lib.hid hb1
  obtain ⟨n, en⟩ : ∃ n, xs.length = n := ⟨_, rfl⟩
  have HNX : Hid (nextT xs = nextGo xs n xs) := by show _ = _; unfold nextT; rw [en]
  rw [en] at HB0 HF0 hcv hn
  have hle' : n ≤ c := by rw [← en]; exact hle
  have HEN := Lib.hid en
  obtain ⟨s, es⟩ : ∃ s, strOfNums xs = s := ⟨_, rfl⟩
  rw [es] at hcv ⊢
  have HES := Lib.hid es
  generalize hg : w.heap.size = g at *
  have HG := Lib.hid hg
  clear hb hx hc1 hf1 hle hb1 hs1 en es hg
  go_enter Try.func26, Try.ntmps26
  go_wp2_with fail
  clear hcv
  go_loopw [4] (fun vi wr => ∃ (k : Nat) (ys : List Int), vi = .int .i64 ((k : Int) - 1) ∧ k ≤ n ∧ Bytes wr (some ⟨g, 0, none⟩) n ys ∧ (∀ j, j < n → wr.frozen? ⟨g, j, none⟩ = false) ∧ nextT xs = nextGo xs k ys ∧ Below g w wr) (fun vi _ => (intOf vi + 1).toNat)
  case atStart => exact ⟨n, xs, rfl, Nat.le_refl _, HB0.out, HF0.out, HNX.out, HB1.out⟩
  case round =>
    obtain ⟨k, ys, rfl, hk, hby, hfz, hnx, hbl⟩ := hrel
    have HBY := Lib.hid hby
    have HFZ := Lib.hid hfz
    have HNX2 := Lib.hid hnx
    have HBL := Lib.hid hbl
    clear hby hfz hnx hbl HB0 HF0 HNX HB1
    cases k with
    | zero =>
      have hge : ¬ (0 : Int) ≤ ((0 : Nat) : Int) - 1 := by omega
      have hge2 : ((0 : Nat) : Int) - 1 = -1 := rfl
      have HR : Hid (strOfNums (nextT xs) = s) := by show _ = _; rw [HNX2.out, nextGo, HES.out]
      go_wp2_with fail
      go_ret
      exact ⟨by rw [HR.out]; rfl, HBL.out⟩
    | succ j =>
      have hj1 : ((j + 1 : Nat) : Int) - 1 = (j : Int) := by omega
      rw [hj1]
      have hjn : j < n := by omega
      have hjni : (j : Int) < (n : Int) := by omega
      have q1 : wr.cell? ⟨g, j, none⟩ = some (.int .u8 (ys[j]?.getD 0)) := by
        rcases HBY.out.2.2.2 with h | ⟨b, off, h1, h2⟩
        · omega
        · injection h1 with h1
          injection h1 with e1 e2
          subst e1 e2
          have := h2 j hjn
          rwa [Nat.zero_add] at this
      have f1 := HFZ.out j hjn
      have HST : Hid (nextT xs = if ys[j]?.getD 0 = 48 then ys.set j 49 else nextGo xs j (ys.set j 48)) := by show _ = _; rw [HNX2.out, nextGo]
      have HSB := Lib.hid (fun v hv => HBY.out.set j hjn v hv)
      have HSF : Hid (∀ v, ∀ i, i < n → (wr.setCell ⟨g, j, none⟩ v).frozen? ⟨g, i, none⟩ = false) := fun v i hi => by rw [World.frozen?_setCell]; exact HFZ.out i hi
      have hyr := HBY.out.2.2.1 j
      clear hj1
      generalize ys[j]?.getD 0 = y at *
      by_cases h48 : y = 48
      · subst h48
        have HR : Hid (nextT xs = ys.set j 49) := by show _ = _; rw [HST.out, if_pos rfl]
        have ht := text_run (wr.setCell ⟨g, j, none⟩ (.int .u8 49)) (some ⟨g, 0, none⟩) n c _ (HSB.out 49 (by omega))
        rw [← HR.out] at ht
        go_wp2_with fail
        go_ret
        exact ⟨rfl, HBL.out.setCell (Nat.le_refl _) _⟩
      · have HR : Hid (nextT xs = nextGo xs j (ys.set j 48)) := by show _ = _; rw [HST.out, if_neg h48]
        have hyb : (y == 48) = false := by simp [h48]
        go_wp2_with fail
        go_roundw
        case rel => exact ⟨j, ys.set j 48, by go_num, by omega, HSB.out 48 (by omega), HSF.out _, HR.out, HBL.out.setCell (Nat.le_refl _) _⟩
        case measure => simp [intOf]; try go_num
end Go.Proofs.Ytkminkeaeclanaa
