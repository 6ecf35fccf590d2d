/- Hunks that move with bytes ahead. -/
import Derived.Test.YtbkifjmfmiipnaaPartsRun
namespace Go.Proofs.Ytbkifjmfmiipnaa
open Go.RowKit Plain
set_option linter.unusedVariables false
namespace Plain
def sh (F : Nat) : Option Hk → Option Hk
  | none => none
  | some h => some ⟨h.fr + F, h.to + F, h.ys⟩
theorem sub_mid (front base back : List Int) (p n : Nat) (h : p + n ≤ base.length) : sub (front ++ base ++ back) (p + front.length) n = sub base p n := by
  unfold sub
  rw [List.append_assoc, Nat.add_comm, ← List.drop_drop, List.drop_left, List.drop_append_of_le_length (by omega), List.take_append_of_le_length (by simp; omega)]
theorem sh_mid (front base back : List Int) : ∀ (l : List (Option Hk)) (p : Nat) (out x : List Int), p ≤ base.length → applyGo base l p out = (0, x) →
    applyGo (front ++ base ++ back) (l.map (sh front.length)) (p + front.length) (front ++ out) = (0, front ++ x ++ back)
  | [], p, out, x, hp, h => by
    simp only [applyGo, Prod.mk.injEq, true_and] at h
    subst h
    simp only [List.map_nil, applyGo]
    congr 1
    rw [List.append_assoc front base back, Nat.add_comm p, ← List.drop_drop, List.drop_left, List.drop_append_of_le_length hp]
    simp [List.append_assoc]
  | none :: t, p, out, x, hp, h => by simp [applyGo] at h
  | some k :: t, p, out, x, hp, h => by
    rw [applyGo] at h
    split at h
    · simp at h
    · rename_i hc
      have ih := sh_mid front base back t k.to (out ++ sub base p (k.fr - p) ++ k.ys) x (by omega) h
      rw [List.map_cons]
      show applyGo _ (some ⟨k.fr + front.length, k.to + front.length, k.ys⟩ :: _) _ _ = _
      rw [applyGo, if_neg (by simp; omega)]
      simp only
      rw [show k.fr + front.length - (p + front.length) = k.fr - p by omega, sub_mid front base back p (k.fr - p) (by omega)]
      rw [← ih]
      simp [List.append_assoc]
theorem sh_start (front base back : List Int) (l : List (Option Hk)) (x : List Int) (h : applyGo base l 0 [] = (0, x)) : applyGo (front ++ base ++ back) (l.map (sh front.length)) 0 [] = (0, front ++ x ++ back) := by
  match l, h with
  | [], h =>
    simp [applyGo] at h
    subst h
    simp [applyGo]
  | none :: t, h => simp [applyGo] at h
  | some k :: t, h =>
    rw [applyGo] at h
    split at h
    · simp at h
    · rename_i hc
      have ih := sh_mid front base back t k.to ([] ++ sub base 0 (k.fr - 0) ++ k.ys) x (by omega) h
      rw [List.map_cons]
      show applyGo _ (some ⟨k.fr + front.length, k.to + front.length, k.ys⟩ :: _) _ _ = _
      rw [applyGo, if_neg (by simp; omega)]
      simp only
      rw [← ih]
      congr 1
      have e : sub (front ++ base ++ back) 0 (k.fr + front.length) = front ++ sub base 0 k.fr := by
        unfold sub
        rw [List.drop_zero, List.drop_zero, List.append_assoc, Nat.add_comm, List.take_length_add_append, List.take_append_of_le_length (by omega)]
      simp only [List.nil_append, Nat.sub_zero]
      rw [e]
      simp only [List.append_assoc]
theorem applyGo_len (base : List Int) : ∀ (l : List (Option Hk)) (p : Nat) (out : List Int), p ≤ base.length → (∀ h, some h ∈ l → h.ys.length ≤ 100) → (applyGo base l p out).2.length ≤ out.length + (base.length - p) + 100 * l.length
  | [], p, out, hp, hl => by simp [applyGo]
  | none :: t, p, out, hp, hl => by simp [applyGo]
  | some k :: t, p, out, hp, hl => by
    rw [applyGo]
    split
    · simp
    · rename_i hc
      have ih := applyGo_len base t k.to (out ++ sub base p (k.fr - p) ++ k.ys) (by omega) (fun h hh => hl h (by simp [hh]))
      have h1 := hl k (by simp)
      rw [List.length_append, List.length_append] at ih
      have h2 : (sub base p (k.fr - p)).length ≤ k.fr - p := by simp [sub]; omega
      rw [List.length_cons]
      omega
def shH (F : Nat) (h : Hk) : Hk := ⟨h.fr + F, h.to + F, h.ys⟩
/-- What is asked. -/
theorem ends_ok (front base back : List Int) (hs : List Hk) (hf : front.length ≤ 100) (hb : base.length ≤ 1000) (hk : back.length ≤ 100) (hl : hs.length ≤ 20) (hh : ∀ h ∈ hs, h.fr ≤ 5000 ∧ h.to ≤ 5000 ∧ h.ys.length ≤ 100)
    (h0 : (applyOf base (printOf hs) 1099511627776).1 = 0) :
    applyOf (front ++ base ++ back) (printOf (hs.map (shH front.length))) 1099511627776 = (0, front ++ (applyOf base (printOf hs) 1099511627776).2 ++ back) := by
  have lowid : ∀ (l : List Hk), (∀ h ∈ l, h.fr < 4294967296 ∧ h.to < 4294967296) → l.map (fun h => some (low h)) = l.map some := by
    intro l hl
    apply List.map_congr_left
    intro h hm
    rw [low_id h (hl h hm).1 (hl h hm).2]
  have e1 : hunksOf (printOf hs) = hs.map some := by
    rw [hunksOf_print hs (fun h hm => by have := hh h hm; omega), lowid hs (fun h hm => by have := hh h hm; omega)]
  have e2 : hunksOf (printOf (hs.map (shH front.length))) = (hs.map some).map (sh front.length) := by
    rw [hunksOf_print _ (fun h hm => by
      obtain ⟨k, hk, rfl⟩ := List.mem_map.1 hm
      have := hh k hk
      show k.ys.length < _
      omega), lowid _ (fun h hm => by
      obtain ⟨k, hk, rfl⟩ := List.mem_map.1 hm
      have := hh k hk
      show k.fr + front.length < _ ∧ k.to + front.length < _
      omega), List.map_map, List.map_map]
    rfl
  have hlen := applyGo_len base (hs.map some) 0 [] (by omega) (fun h hm => by
    obtain ⟨k, hk, e⟩ := List.mem_map.1 hm
    cases e
    exact (hh _ hk).2.2)
  unfold applyOf at h0 ⊢
  rw [e1] at h0 ⊢
  rw [e2]
  rcases hres : applyGo base (hs.map some) 0 [] with ⟨e, x⟩
  rw [hres] at h0 hlen
  simp only [List.length_nil, List.length_map, Nat.sub_zero, Nat.zero_add] at hlen
  have he : e = 0 := by
    by_cases h : e = 0
    · exact h
    · simp only [h, if_false] at h0
  subst he
  have hs2 := sh_start front base back _ x hres
  rw [hs2]
  have n1 : ¬ (1099511627776 : Int) < (x.length : Int) := by omega
  have n2 : ¬ (1099511627776 : Int) < ((front ++ x ++ back).length : Int) := by rw [List.length_append, List.length_append]; omega
  simp only [if_true, if_neg n1, if_neg n2]
end Plain
end Go.Proofs.Ytbkifjmfmiipnaa
