/- The document's reading of bodies, plainly: what was printed is read as it was. -/
import Derived.Test.YtindmggmblmmcaaGreatDoorCoLawB
import Derived.Test.YtindmggmblmmcaaGreatDoorTgM
namespace Go.Proofs.YtindmggmblmmcaaGreatDoor
open Go.RowKit Plain
set_option linter.unusedVariables false
def lnStep (s : List (List UInt8) × List UInt8) (c : UInt8) : List (List UInt8) × List UInt8 := if c = 10 then (s.1 ++ [s.2], []) else (s.1, s.2 ++ [c])
def lnS (l : List UInt8) : List (List UInt8) × List UInt8 := l.foldl lnStep ([], [])
def linesF (l : List UInt8) : List (List UInt8) := (lnS l).1 ++ [(lnS l).2]
theorem ln_pre : ∀ (r : List UInt8) (d : List (List UInt8)) (o : List UInt8), r.foldl lnStep (d, o) = (d ++ (r.foldl lnStep ([], o)).1, (r.foldl lnStep ([], o)).2)
  | [], d, o => by simp
  | c :: r, d, o => by
    simp only [List.foldl_cons]
    by_cases hc : c = 10
    · rw [show lnStep (d, o) c = (d ++ [o], []) from if_pos hc, show lnStep ([], o) c = ([o], []) from if_pos hc, ln_pre r (d ++ [o]) [], ln_pre r [o] []]
      simp
    · rw [show lnStep (d, o) c = (d, o ++ [c]) from if_neg hc, show lnStep ([], o) c = ([], o ++ [c]) from if_neg hc]
      exact ln_pre r d (o ++ [c])
theorem ln_none : ∀ (a o : List UInt8), (10 : UInt8) ∉ a → a.foldl lnStep ([], o) = ([], o ++ a)
  | [], o, _ => by simp
  | c :: a, o, h => by
    simp only [List.foldl_cons]
    rw [show lnStep ([], o) c = ([], o ++ [c]) from if_neg (fun e => h (by rw [e]; simp)), ln_none a (o ++ [c]) (fun hm => h (by simp [hm]))]
    simp
theorem lines_cons {a : List UInt8} (h : (10 : UInt8) ∉ a) (r : List UInt8) : linesF (a ++ 10 :: r) = a :: linesF r := by
  unfold linesF lnS
  rw [List.foldl_append, ln_none a [] h, List.foldl_cons, show lnStep ([], [] ++ a) 10 = ([a], []) from if_pos rfl, ln_pre r [a] []]
  rfl
theorem lines_last {a : List UInt8} (h : (10 : UInt8) ∉ a) : linesF a = [a] := by
  unfold linesF lnS
  rw [ln_none a [] h]
  rfl
theorem lines_ne (l : List UInt8) : linesF l ≠ [] := by unfold linesF; simp
def joinL : List (List UInt8) → List UInt8
  | [] => []
  | [x] => x
  | x :: y :: r => x ++ 10 :: joinL (y :: r)
theorem nl_split : ∀ l : List UInt8, (10 : UInt8) ∉ l ∨ ∃ a b, l = a ++ 10 :: b ∧ (10 : UInt8) ∉ a := cut_or 10
theorem join_lines : ∀ (n : Nat) (l : List UInt8), l.length ≤ n → joinL (linesF l) = l
  | n, l, hl => by
    rcases nl_split l with h | ⟨a, b, rfl, h⟩
    · rw [lines_last h]; rfl
    · cases n with
      | zero => simp at hl
      | succ n =>
        rw [lines_cons h]
        have hb := join_lines n b (by simp at hl; omega)
        cases hlb : linesF b with
        | nil => exact absurd hlb (lines_ne b)
        | cons y r =>
          rw [hlb] at hb
          show a ++ 10 :: joinL (y :: r) = _
          rw [hb]
def frontW (word l : List UInt8) : List UInt8 := if word.isPrefixOf l = true then l.drop word.length else []
theorem front_yes (k v : List UInt8) : frontW (k ++ [32]) (k ++ [32] ++ v) = v := by
  unfold frontW
  rw [if_pos (List.isPrefixOf_iff_prefix.2 ⟨v, rfl⟩), List.drop_left]
def rPar : List (List UInt8) → List (List Int) × List (List UInt8)
  | [] => ([], [])
  | x :: r => if frontW (kPar ++ [32]) x = [] then ([], x :: r) else (parsed (txt (frontW (kPar ++ [32]) x)) :: (rPar r).1, (rPar r).2)
def rWho (k : List UInt8) : List (List UInt8) → WX × List (List UInt8)
  | [] => (wzero, [])
  | x :: r => (guessX (frontW (k ++ [32]) x), r)
def addV (xs : List (ByteArray × ByteArray)) (t : List UInt8) : List (ByteArray × ByteArray) := match xs.getLast? with
  | some x => xs.dropLast ++ [(x.1, txt (x.2.data.toList ++ [10] ++ t))]
  | none => xs
def extStep (xs : List (ByteArray × ByteArray)) (x : List UInt8) : List (ByteArray × ByteArray) :=
  if x.head? = some 32 ∧ xs ≠ [] then addV xs (x.drop 1) else xs ++ [(txt (Lib.cut x [32]).1, txt (Lib.cut x [32]).2.1)]
def rExt : List (ByteArray × ByteArray) → List (List UInt8) → List (ByteArray × ByteArray) × List (List UInt8)
  | xs, [] => (xs, [])
  | xs, x :: r => if x = [] then (xs, x :: r) else rExt (extStep xs x) r
def rwT (l : List (List UInt8)) : List Int := match l with | [] => zeros20 | x :: _ => parsed (txt (frontW (kTree ++ [32]) x))
def rwP (l : List (List UInt8)) : List (List Int) × List (List UInt8) := rPar (l.drop 1)
def rwA (l : List (List UInt8)) : WX × List (List UInt8) := rWho kAut (rwP l).2
def rwC (l : List (List UInt8)) : WX × List (List UInt8) := rWho kCom (rwA l).2
def rwE (l : List (List UInt8)) : List (ByteArray × ByteArray) × List (List UInt8) := rExt [] (rwC l).2
def rawR (L : List UInt8) : CC := ⟨rwT (linesF L), (rwP (linesF L)).1, (rwA (linesF L)).1, (rwC (linesF L)).1, (rwE (linesF L)).1, txt (joinL ((rwE (linesF L)).2.drop 1))⟩
theorem hexOf_ne {p : List Int} (h : p.length = 20) : hexOf p ≠ [] := fun e => by
  have := hexOf_length p
  rw [e, h] at this
  cases this
theorem rPar_yes {R : List UInt8} {x : List UInt8} {r : List (List UInt8)} (hR : linesF R = x :: r) (hx : frontW (kPar ++ [32]) x = []) : ∀ ps : List (List Int), (∀ p ∈ ps, p.length = 20 ∧ ∀ x ∈ p, 0 ≤ x ∧ x ≤ 255) → rPar (linesF (ps.flatMap parT ++ R)) = (ps, linesF R)
  | [], _ => by
    show rPar (linesF R) = _
    rw [hR]
    unfold rPar
    rw [if_pos hx]
  | p :: ps, hp => by
    obtain ⟨h1, h2⟩ := hp p (by simp)
    have hno : (10 : UInt8) ∉ kPar ++ [32] ++ hexOf p := by
      simp only [List.mem_append, not_or]
      exact ⟨⟨by decide, by decide⟩, hex_no h1 h2⟩
    rw [List.flatMap_cons, List.append_assoc, parT_eq, lines_cons hno]
    unfold rPar
    rw [front_yes, if_neg (hexOf_ne h1), rPar_yes hR hx ps (fun q hq => hp q (by simp [hq])), (hex_back h1 h2).2]
theorem addV_last (acc : List (ByteArray × ByteArray)) (k : ByteArray) (v t : List UInt8) : addV (acc ++ [(k, txt v)]) t = acc ++ [(k, txt (v ++ [10] ++ t))] := by
  unfold addV
  rw [List.getLast?_concat, List.dropLast_concat]
  dsimp only
  rw [txt_list]
theorem ext_more (rest : List UInt8) : ∀ (n : Nat) (v : List UInt8), v.length ≤ n → ∀ (acc : List (ByteArray × ByteArray)) (k : ByteArray) (v0 : List UInt8),
    rExt (acc ++ [(k, txt v0)]) (linesF (32 :: nlB v ++ 10 :: rest)) = rExt (acc ++ [(k, txt (v0 ++ [10] ++ v))]) (linesF rest)
  | n, v, hn, acc, k, v0 => by
    rcases nl_split v with h | ⟨a, b, rfl, h⟩
    · have hb : nlB v = v := by rw [← rep_nlB]; exact rep_miss (index_not v 10 h)
      have hno : (10 : UInt8) ∉ 32 :: v := fun hm => by
        rcases List.mem_cons.1 hm with e | e
        · cases e
        · exact h e
      rw [hb, lines_cons hno]
      show (if 32 :: v = [] then _ else rExt (extStep (acc ++ [(k, txt v0)]) (32 :: v)) (linesF rest)) = _
      rw [if_neg (by simp)]
      unfold extStep
      rw [if_pos ⟨rfl, by simp⟩]
      show rExt (addV (acc ++ [(k, txt v0)]) v) (linesF rest) = _
      rw [addV_last]
    · cases n with
      | zero => simp at hn
      | succ n =>
        have hnl : nlB (a ++ 10 :: b) = a ++ [10, 32] ++ nlB b := by
          rw [nlB_app]
          have ha : nlB a = a := by rw [← rep_nlB]; exact rep_miss (index_not a 10 h)
          rw [ha]
          rw [show nlB (10 :: b) = 10 :: 32 :: nlB b from by simp [nlB]]
          simp
        have hno : (10 : UInt8) ∉ 32 :: a := fun hm => by
          rcases List.mem_cons.1 hm with e | e
          · cases e
          · exact h e
        have e : 32 :: nlB (a ++ 10 :: b) ++ 10 :: rest = (32 :: a) ++ 10 :: (32 :: nlB b ++ 10 :: rest) := by rw [hnl]; simp
        rw [e, lines_cons hno]
        show (if 32 :: a = [] then _ else rExt (extStep (acc ++ [(k, txt v0)]) (32 :: a)) (linesF (32 :: nlB b ++ 10 :: rest))) = _
        rw [if_neg (by simp)]
        unfold extStep
        rw [if_pos ⟨rfl, by simp⟩]
        show rExt (addV (acc ++ [(k, txt v0)]) a) _ = _
        rw [addV_last, ext_more rest n b (by simp at hn; omega) acc k (v0 ++ [10] ++ a)]
        simp
theorem ext_one {x : ByteArray × ByteArray} (h : extR x = true) (rest : List UInt8) (acc : List (ByteArray × ByteArray)) : rExt acc (linesF (extT x ++ 10 :: rest)) = rExt (acc ++ [x]) (linesF rest) := by
  obtain ⟨h0, h32, h10⟩ := extR_parts h
  obtain ⟨c, r, hk⟩ : ∃ c r, x.1.data.toList = c :: r := by
    cases hx : x.1.data.toList with
    | nil => exact absurd hx h0
    | cons c r => exact ⟨c, r, rfl⟩
  have hc32 : c ≠ 32 := fun e => h32 (by rw [hk, e]; simp)
  have step : ∀ v : List UInt8, (10 : UInt8) ∉ v → ∀ R, rExt acc (linesF (x.1.data.toList ++ [32] ++ v ++ 10 :: R)) = rExt (acc ++ [(x.1, txt v)]) (linesF R) := fun v hv R => by
    have hno : (10 : UInt8) ∉ x.1.data.toList ++ [32] ++ v := by
      simp only [List.mem_append, not_or]
      exact ⟨⟨h10, by decide⟩, hv⟩
    rw [lines_cons hno]
    have hne : x.1.data.toList ++ [32] ++ v ≠ [] := by simp
    show (if x.1.data.toList ++ [32] ++ v = [] then _ else rExt (extStep acc (x.1.data.toList ++ [32] ++ v)) (linesF R)) = _
    rw [if_neg hne]
    unfold extStep
    have hcut : Lib.cut (x.1.data.toList ++ [32] ++ v) [32] = (x.1.data.toList, v, true) := by rw [List.append_assoc]; exact cut_at _ _ 32 h32
    rw [if_neg (fun hh => by rw [hk] at hh; simp at hh; exact hc32 hh.1), hcut, txt_of]
  unfold extT
  rw [rep_nlB]
  rcases nl_split x.2.data.toList with hv | ⟨a, b, hv, ha⟩
  · have hb : nlB x.2.data.toList = x.2.data.toList := by rw [← rep_nlB]; exact rep_miss (index_not _ 10 hv)
    rw [hb, step _ hv, txt_of]
  · have hnl : nlB x.2.data.toList = a ++ [10, 32] ++ nlB b := by
      rw [hv, nlB_app]
      have ha' : nlB a = a := by rw [← rep_nlB]; exact rep_miss (index_not a 10 ha)
      rw [ha']
      rw [show nlB (10 :: b) = 10 :: 32 :: nlB b from by simp [nlB]]
      simp
    have e : x.1.data.toList ++ [32] ++ nlB x.2.data.toList ++ 10 :: rest = x.1.data.toList ++ [32] ++ a ++ 10 :: (32 :: nlB b ++ 10 :: rest) := by rw [hnl]; simp
    rw [e, step a ha, ext_more rest b.length b (Nat.le_refl _)]
    congr 3
    rw [show a ++ [10] ++ b = x.2.data.toList by rw [hv]; simp, txt_of]
theorem ext_all (rest : List UInt8) : ∀ (xs acc : List (ByteArray × ByteArray)), (∀ x ∈ xs, extR x = true) → rExt acc (linesF (exsT xs ++ 10 :: rest)) = (acc ++ xs, [] :: linesF rest)
  | [], acc, _ => by
    show rExt acc (linesF ([] ++ 10 :: rest)) = _
    rw [lines_cons (by simp)]
    show (if ([] : List UInt8) = [] then (acc, [] :: linesF rest) else _) = _
    rw [if_pos rfl]
    simp
  | x :: xs, acc, h => by
    rw [exsT_cons, ext_one (h x (by simp)), ext_all rest xs (acc ++ [x]) (fun y hy => h y (by simp [hy]))]
    simp
theorem no_kw (k t : List UInt8) (hk : (10 : UInt8) ∉ k) (ht : (10 : UInt8) ∉ t) : (10 : UInt8) ∉ k ++ [32] ++ t := by
  simp only [List.mem_append, not_or]
  exact ⟨⟨hk, by decide⟩, ht⟩
theorem raw_print {c : CC} (hg : CoGood c) (h : coR c = true) : rawR (printC c) = c := by
  obtain ⟨hx, ha, hc⟩ := coR_parts h
  have e0 : linesF (printC c) = (kTree ++ [32] ++ hexOf c.tr) :: linesF (c.ps.flatMap parT ++ (kAut ++ [32] ++ whoT c.a ++ 10 :: (kCom ++ [32] ++ whoT c.c ++ 10 :: (exsT c.xs ++ 10 :: c.m.data.toList)))) := by
    rw [printC_eq]
    exact lines_cons (no_kw _ _ (by decide) (hex_no hg.1.1 hg.1.2)) _
  have eA : linesF (kAut ++ [32] ++ whoT c.a ++ 10 :: (kCom ++ [32] ++ whoT c.c ++ 10 :: (exsT c.xs ++ 10 :: c.m.data.toList))) = (kAut ++ [32] ++ whoT c.a) :: linesF (kCom ++ [32] ++ whoT c.c ++ 10 :: (exsT c.xs ++ 10 :: c.m.data.toList)) := lines_cons (no_kw _ _ (by decide) (whoT_no ha)) _
  have eC : linesF (kCom ++ [32] ++ whoT c.c ++ 10 :: (exsT c.xs ++ 10 :: c.m.data.toList)) = (kCom ++ [32] ++ whoT c.c) :: linesF (exsT c.xs ++ 10 :: c.m.data.toList) := lines_cons (no_kw _ _ (by decide) (whoT_no hc)) _
  have e1 : rwT (linesF (printC c)) = c.tr := by
    rw [e0]
    show parsed (txt (frontW _ _)) = _
    rw [front_yes, (hex_back hg.1.1 hg.1.2).2]
  have e2 : rwP (linesF (printC c)) = (c.ps, (kAut ++ [32] ++ whoT c.a) :: linesF (kCom ++ [32] ++ whoT c.c ++ 10 :: (exsT c.xs ++ 10 :: c.m.data.toList))) := by
    rw [e0, ← eA]
    exact rPar_yes eA rfl c.ps hg.2
  have e3 : rwA (linesF (printC c)) = (c.a, (kCom ++ [32] ++ whoT c.c) :: linesF (exsT c.xs ++ 10 :: c.m.data.toList)) := by
    unfold rwA
    rw [e2, ← eC]
    show (guessX (frontW _ _), _) = _
    rw [front_yes, guess_yes ha]
  have e4 : rwC (linesF (printC c)) = (c.c, linesF (exsT c.xs ++ 10 :: c.m.data.toList)) := by
    unfold rwC
    rw [e3]
    show (guessX (frontW _ _), _) = _
    rw [front_yes, guess_yes hc]
  have e5 : rwE (linesF (printC c)) = (c.xs, [] :: linesF c.m.data.toList) := by
    unfold rwE
    rw [e4, ext_all _ c.xs [] hx]
    rfl
  unfold rawR
  rw [e1, e2, e3, e4, e5]
  show (⟨c.tr, c.ps, c.a, c.c, c.xs, txt (joinL (linesF c.m.data.toList))⟩ : CC) = c
  rw [join_lines _ _ (Nat.le_refl _), txt_of]
theorem rPar_good : ∀ l : List (List UInt8), ∀ p ∈ (rPar l).1, p.length = 20 ∧ ∀ x ∈ p, 0 ≤ x ∧ x ≤ 255
  | [], p, hp => by cases hp
  | x :: r, p, hp => by
    unfold rPar at hp
    split at hp
    · cases hp
    · rcases List.mem_cons.1 hp with rfl | h
      · exact ⟨parsed_length _, parsed_bytes _⟩
      · exact rPar_good r p h
theorem raw_good (L : List UInt8) : CoGood (rawR L) := by
  refine ⟨⟨?_, ?_⟩, rPar_good _⟩
  · show (rwT (linesF L)).length = 20
    cases h : linesF L with
    | nil => exact absurd h (lines_ne L)
    | cons x r => exact parsed_length _
  · show ∀ x ∈ rwT (linesF L), _
    cases h : linesF L with
    | nil => exact absurd h (lines_ne L)
    | cons x r => exact parsed_bytes _
/-- The document's answer is the program's. -/
theorem raw_parse (L : List UInt8) : parseC L = if coR (rawR L) = true ∧ printC (rawR L) = L then some (rawR L) else none := by
  by_cases h : coR (rawR L) = true ∧ printC (rawR L) = L
  · rw [if_pos h]
    have := parse_print (raw_good L) h.1
    rwa [h.2] at this
  · rw [if_neg h]
    cases hp : parseC L with
    | none => rfl
    | some c =>
      obtain ⟨h1, h2, h3⟩ := parse_back hp
      have hr := raw_print h3 h2
      rw [h1] at hr
      exact absurd ⟨by rw [hr]; exact h2, by rw [hr]; exact h1⟩ h
/-- The same of tags. -/
def rawRT (L : List UInt8) : TX := ⟨parsed (txt (frontW (kObj ++ [32]) ((linesF L)[0]?.getD []))), (kindUpto (txt (frontW (kTyp ++ [32]) ((linesF L)[1]?.getD []))) 4 : Nat), txt (frontW (kTag ++ [32]) ((linesF L)[2]?.getD [])), guessX (frontW (kTgr ++ [32]) ((linesF L)[3]?.getD [])), txt (joinL ((linesF L).drop 5))⟩
theorem tag_lines {x : TX} (hg : TgGood x) (h : tagB x = true) : linesF (printT x) = (kObj ++ [32] ++ hexOf x.o) :: (kTyp ++ [32] ++ wordL x.k) :: (kTag ++ [32] ++ x.n.data.toList) :: (kTgr ++ [32] ++ whoT x.t) :: [] :: linesF x.m.data.toList := by
  obtain ⟨h1, h2, h3, h4⟩ := tagB_parts h
  unfold printT
  rw [lines_cons (no_kw _ _ (by decide) (hex_no hg.1 hg.2)), lines_cons (no_kw _ _ (by decide) (word_no _)), lines_cons (no_kw _ _ (by decide) h3), lines_cons (no_kw _ _ (by decide) (whoT_no h4))]
  have := lines_cons (a := []) (by simp) x.m.data.toList
  rw [List.nil_append] at this
  rw [this]
theorem rawT_print {x : TX} (hg : TgGood x) (h : tagB x = true) : rawRT (printT x) = x := by
  obtain ⟨h1, h2, h3, h4⟩ := tagB_parts h
  unfold rawRT
  rw [tag_lines hg h]
  show (⟨parsed (txt (frontW _ (kObj ++ [32] ++ hexOf x.o))), ((kindUpto (txt (frontW _ (kTyp ++ [32] ++ wordL x.k))) 4 : Nat) : Int), txt (frontW _ (kTag ++ [32] ++ x.n.data.toList)), guessX (frontW _ (kTgr ++ [32] ++ whoT x.t)), txt (joinL (linesF x.m.data.toList))⟩ : TX) = x
  rw [front_yes, front_yes, front_yes, front_yes, (hex_back hg.1 hg.2).2, word_kind h1, txt_of, guess_yes h4, join_lines _ _ (Nat.le_refl _), txt_of]
theorem rawT_good (L : List UInt8) : TgGood (rawRT L) := ⟨parsed_length _, parsed_bytes _⟩
theorem rawT_parse (L : List UInt8) : parseT L = if 6 ≤ (linesF L).length ∧ tagB (rawRT L) = true ∧ printT (rawRT L) = L then some (rawRT L) else none := by
  by_cases h : 6 ≤ (linesF L).length ∧ tagB (rawRT L) = true ∧ printT (rawRT L) = L
  · rw [if_pos h]
    have := tag_print (rawT_good L) h.2.1
    rwa [h.2.2] at this
  · rw [if_neg h]
    cases hp : parseT L with
    | none => rfl
    | some x =>
      obtain ⟨h1, h2, h3⟩ := tag_back hp
      have hr := rawT_print h3 h2
      rw [h1] at hr
      have hl := congrArg List.length (tag_lines h3 h2)
      rw [h1] at hl
      have hne := List.length_pos_iff.2 (lines_ne x.m.data.toList)
      exact absurd ⟨by rw [hl]; simp only [List.length_cons]; omega, by rw [hr]; exact h2, by rw [hr]; exact h1⟩ h
end Go.Proofs.YtindmggmblmmcaaGreatDoor
