/- Tags, plainly: there and back. -/
import Derived.Test.YtindmggmblmmcaaGreatDoorTgKind
namespace Go.Proofs.YtindmggmblmmcaaGreatDoor
open Go.RowKit Plain
set_option linter.unusedVariables false
structure TX where
  o : List Int
  k : Int
  n : ByteArray
  t : WX
  m : ByteArray
def tgT (x : TX) : List Value := .int .i64 x.k :: .string x.n :: (whoL x.t ++ [.string x.m])
def tgL (x : TX) : List Value := U8 x.o ++ tgT x
def tgA (x : TX) : Array Value := (tgL x).toArray
def tz : TX := ⟨zeros20, 0, ⟨#[]⟩, wzero, ⟨#[]⟩⟩
theorem tz_20 : tz.o.length = 20 := by show zeros20.length = 20; decide +kernel
theorem tgL_len (x : TX) (h : x.o.length = 20) : (tgL x).length = 27 := by unfold tgL; rw [List.length_append, U8_length, h]; rfl
theorem tgA_size (x : TX) (h : x.o.length = 20) : (tgA x).size = 27 := by unfold tgA; rw [List.size_toArray, tgL_len x h]
def kObj : List UInt8 := [111, 98, 106, 101, 99, 116]
def kTyp : List UInt8 := [116, 121, 112, 101]
def kTag : List UInt8 := [116, 97, 103]
def kTgr : List UInt8 := [116, 97, 103, 103, 101, 114]
def wordL (k : Int) : List UInt8 := (wordAt k).data.toList
def tagB (x : TX) : Bool := !(wordL x.k == []) && !(x.n.data.toList == []) && noAny [10] x.n.data.toList && whoB x.t
def printT (x : TX) : List UInt8 := kObj ++ [32] ++ hexOf x.o ++ 10 :: (kTyp ++ [32] ++ wordL x.k ++ 10 :: (kTag ++ [32] ++ x.n.data.toList ++ 10 :: (kTgr ++ [32] ++ whoT x.t ++ 10 :: (10 :: x.m.data.toList))))
def sg1 (L : List UInt8) : St := (idS kObj (L, false)).2
def sg2 (L : List UInt8) : St := (valS kTyp (sg1 L)).2
def sg3 (L : List UInt8) : St := (valS kTag (sg2 L)).2
def sg4 (L : List UInt8) : St := (whoS kTgr (sg3 L)).2
def rawT (L : List UInt8) : TX := ⟨(idS kObj (L, false)).1, (kindUpto (txt (valS kTyp (sg1 L)).1) 4 : Nat), txt (valS kTag (sg2 L)).1, (whoS kTgr (sg3 L)).1, txt (msgS (sg4 L)).1⟩
def parseT (L : List UInt8) : Option TX := if (msgS (sg4 L)).2.2 = true then none else if tagB (rawT L) = true then some (rawT L) else none
def TgGood (x : TX) : Prop := x.o.length = 20 ∧ ∀ z ∈ x.o, 0 ≤ z ∧ z ≤ 255
theorem word_cases {k : Int} (h : wordL k ≠ []) : k = 1 ∨ k = 2 ∨ k = 3 ∨ k = 4 := by
  unfold wordL wordAt at h
  split at h
  · omega
  · split at h
    · omega
    · split at h
      · omega
      · split at h
        · omega
        · exact absurd rfl h
theorem word_no (k : Int) : (10 : UInt8) ∉ wordL k := by
  by_cases h : wordL k = []
  · rw [h]; simp
  · rcases word_cases h with rfl | rfl | rfl | rfl <;> decide
theorem word_kind {k : Int} (h : wordL k ≠ []) : ((kindUpto (txt (wordL k)) 4 : Nat) : Int) = k := by
  rcases word_cases h with rfl | rfl | rfl | rfl <;> decide
theorem kind_hit (s : ByteArray) : ∀ i : Nat, kindUpto s i ≠ 0 → wordAt ((kindUpto s i : Nat) : Int) = s
  | 0, h => absurd rfl h
  | i + 1, h => by
    unfold kindUpto at h ⊢
    split
    · rename_i hw; exact hw
    · rename_i hw
      rw [if_neg hw] at h
      exact kind_hit s i h
theorem kind_word {V : List UInt8} (h : wordL ((kindUpto (txt V) 4 : Nat) : Int) ≠ []) : wordL ((kindUpto (txt V) 4 : Nat) : Int) = V := by
  have h0 : kindUpto (txt V) 4 ≠ 0 := fun e => by rw [e] at h; exact h rfl
  have := kind_hit (txt V) 4 h0
  unfold wordL
  rw [this, txt_list]
theorem tagB_parts {x : TX} (h : tagB x = true) : wordL x.k ≠ [] ∧ x.n.data.toList ≠ [] ∧ (10 : UInt8) ∉ x.n.data.toList ∧ whoB x.t = true := by
  unfold tagB at h
  simp only [Bool.and_eq_true, Bool.not_eq_true', beq_eq_false_iff_ne] at h
  exact ⟨h.1.1.1, h.1.1.2, not_any h.1.2 (by decide), h.2⟩
theorem tag_print {x : TX} (hg : TgGood x) (h : tagB x = true) : parseT (printT x) = some x := by
  obtain ⟨h1, h2, h3, h4⟩ := tagB_parts h
  have e1 : idS kObj (printT x, false) = (x.o, (kTyp ++ [32] ++ wordL x.k ++ 10 :: (kTag ++ [32] ++ x.n.data.toList ++ 10 :: (kTgr ++ [32] ++ whoT x.t ++ 10 :: (10 :: x.m.data.toList))), false)) := idS_yes false (by decide) hg.1 hg.2
  have s1 : sg1 (printT x) = (kTyp ++ [32] ++ wordL x.k ++ 10 :: (kTag ++ [32] ++ x.n.data.toList ++ 10 :: (kTgr ++ [32] ++ whoT x.t ++ 10 :: (10 :: x.m.data.toList))), false) := by
    unfold sg1
    rw [e1]
  have e2 : valS kTyp (sg1 (printT x)) = (wordL x.k, (kTag ++ [32] ++ x.n.data.toList ++ 10 :: (kTgr ++ [32] ++ whoT x.t ++ 10 :: (10 :: x.m.data.toList)), false)) := by
    rw [s1]
    exact valS_yes false (by decide) (word_no _)
  have s2 : sg2 (printT x) = (kTag ++ [32] ++ x.n.data.toList ++ 10 :: (kTgr ++ [32] ++ whoT x.t ++ 10 :: (10 :: x.m.data.toList)), false) := by
    unfold sg2
    rw [e2]
  have e3 : valS kTag (sg2 (printT x)) = (x.n.data.toList, (kTgr ++ [32] ++ whoT x.t ++ 10 :: (10 :: x.m.data.toList), false)) := by
    rw [s2]
    exact valS_yes false (by decide) h3
  have s3 : sg3 (printT x) = (kTgr ++ [32] ++ whoT x.t ++ 10 :: (10 :: x.m.data.toList), false) := by
    unfold sg3
    rw [e3]
  have e4 : whoS kTgr (sg3 (printT x)) = (x.t, (10 :: x.m.data.toList, false)) := by
    rw [s3]
    exact whoS_yes false (by decide) h4
  have s4 : sg4 (printT x) = (10 :: x.m.data.toList, false) := by
    unfold sg4
    rw [e4]
  have e5 : msgS (sg4 (printT x)) = (x.m.data.toList, (x.m.data.toList, false)) := by
    rw [s4]
    rfl
  have er : rawT (printT x) = x := by
    unfold rawT
    rw [e1, e2, e3, e4, e5, txt_of, txt_of, word_kind h1]
  unfold parseT
  rw [e5, er, if_neg (by simp), if_pos h]
theorem tag_back {L : List UInt8} {x : TX} (h : parseT L = some x) : printT x = L ∧ tagB x = true ∧ TgGood x := by
  unfold parseT at h
  split at h
  · cases h
  · rename_i hw
    split at h
    · rename_i hr
      simp only [Option.some.injEq] at h
      subst h
      have hf : (msgS (sg4 L)).2.2 = false := by simpa using hw
      obtain ⟨m1, m2⟩ := msgS_back hf
      have m3 : (whoS kTgr (sg3 L)).2.2 = false := by unfold sg4 at m2; exact m2
      obtain ⟨c1, c2⟩ := whoS_back (k := kTgr) (by decide) m3
      have c3 : (valS kTag (sg2 L)).2.2 = false := by unfold sg3 at c2; exact c2
      obtain ⟨a1, a2, -⟩ := valS_back (k := kTag) (by decide) c3
      have a3 : (valS kTyp (sg1 L)).2.2 = false := by unfold sg2 at a2; exact a2
      obtain ⟨b1, b2, -⟩ := valS_back (k := kTyp) (by decide) a3
      have b3 : (idS kObj (L, false)).2.2 = false := by unfold sg1 at b2; exact b2
      obtain ⟨t1, t2⟩ := idS_back (k := kObj) (by decide) b3
      refine ⟨?_, hr, parsed_length _, parsed_bytes _⟩
      have hk := (tagB_parts hr).1
      have hk2 : wordL (rawT L).k = (valS kTyp (sg1 L)).1 := kind_word hk
      unfold printT
      rw [hk2]
      unfold rawT
      dsimp only
      rw [txt_list, txt_list, ← m1]
      have c1' : (sg3 L).1 = kTgr ++ [32] ++ whoT (whoS kTgr (sg3 L)).1 ++ 10 :: (sg4 L).1 := by rw [show sg4 L = (whoS kTgr (sg3 L)).2 from rfl]; exact c1
      rw [← c1']
      have a1' : (sg2 L).1 = kTag ++ [32] ++ (valS kTag (sg2 L)).1 ++ 10 :: (sg3 L).1 := by rw [show sg3 L = (valS kTag (sg2 L)).2 from rfl]; exact a1
      rw [← a1']
      have b1' : (sg1 L).1 = kTyp ++ [32] ++ (valS kTyp (sg1 L)).1 ++ 10 :: (sg2 L).1 := by rw [show sg2 L = (valS kTyp (sg1 L)).2 from rfl]; exact b1
      rw [← b1', show sg1 L = (idS kObj (L, false)).2 from rfl]
      exact t1.symm
    · cases h
theorem tag_more {L : List UInt8} {x : TX} (h : parseT L = some x) (M : List UInt8) : parseT (L ++ M) = some { x with m := txt (x.m.data.toList ++ M) } := by
  obtain ⟨h1, h2, h3⟩ := tag_back h
  have e : printT { x with m := txt (x.m.data.toList ++ M) } = L ++ M := by
    rw [← h1]
    unfold printT
    rw [txt_list]
    simp
  rw [← e]
  exact tag_print h3 h2
theorem tag_raw {L : List UInt8} {x : TX} (h : parseT L = some x) : x = rawT L := by
  unfold parseT at h
  split at h
  · cases h
  · split at h
    · exact (Option.some.inj h).symm
    · cases h
end Go.Proofs.YtindmggmblmmcaaGreatDoor
