/- commit.Parse, plainly; the walk. -/
import Derived.Test.YtkpiinjhcckhfaaGreatDoorCoRd4
/-! commit.Parse, plainly; the walk. -/
namespace Go.Proofs.YtkpiinjhcckhfaaGreatDoor
open Go.RowKit Plain Go.ChangeShapes Go.WideShapes Go.ChangeAt Go.Great
set_option linter.unusedVariables false
set_option linter.unusedSimpArgs false
def kTree : List UInt8 := [116, 114, 101, 101]
def kPar : List UInt8 := [112, 97, 114, 101, 110, 116]
def kAut : List UInt8 := [97, 117, 116, 104, 111, 114]
def kCom : List UInt8 := [99, 111, 109, 109, 105, 116, 116, 101, 114]
def parG : Nat → St → List (List Int) × St
  | 0, s => ([], s)
  | f + 1, s => if Lib.hasPrefix s.1 (kPar ++ [32]) = true then ((idS kPar s).1 :: (parG f (idS kPar s).2).1, (parG f (idS kPar s).2).2) else ([], s)
def parO (s : St) : List (List Int) × St := parG (s.1.length + 1) s
def exS (s : St) : List (ByteArray × ByteArray) × St := match exO s.1 with
  | some (xs, l) => (xs, (l, s.2))
  | none => ([], ([], true))
def st1 (L : List UInt8) : St := (idS kTree (L, false)).2
def st2 (L : List UInt8) : St := (parO (st1 L)).2
def st3 (L : List UInt8) : St := (whoS kAut (st2 L)).2
def st4 (L : List UInt8) : St := (whoS kCom (st3 L)).2
def st5 (L : List UInt8) : St := (exS (st4 L)).2
def rawC (L : List UInt8) : CC := ⟨(idS kTree (L, false)).1, (parO (st1 L)).1, (whoS kAut (st2 L)).1, (whoS kCom (st3 L)).1, (exS (st4 L)).1, txt (msgS (st5 L)).1⟩
def parseC (L : List UInt8) : Option CC := if (msgS (st5 L)).2.2 = true then none else if coR (rawC L) = true then some (rawC L) else none
def cz : CC := ⟨zeros20, [], wzero, wzero, [], ⟨#[]⟩⟩
theorem cz_20 : cz.tr.length = 20 := by show zeros20.length = 20; decide +kernel
theorem zero_co (W : World) : (zeroValue 34).run Tryz.prog W = .ok (.agg (coA cz (.slice none 0 0) (.slice none 0 0))) W := by kernel_rfl
theorem build_co0 (W : World) : (Instr.build 34 #[]).run Tryz.prog W = .ok (.agg (coA cz (.slice none 0 0) (.slice none 0 0))) W := run_build W _ _ _ (by kernel_rfl)
theorem list20 {xs : List Int} (h : xs.length = 20) : ∃ a0 a1 a2 a3 a4 a5 a6 a7 a8 a9 a10 a11 a12 a13 a14 a15 a16 a17 a18 a19 : Int, xs = [a0, a1, a2, a3, a4, a5, a6, a7, a8, a9, a10, a11, a12, a13, a14, a15, a16, a17, a18, a19] := by
  match xs, h with
  | [a0, a1, a2, a3, a4, a5, a6, a7, a8, a9, a10, a11, a12, a13, a14, a15, a16, a17, a18, a19], _ => exact ⟨a0, a1, a2, a3, a4, a5, a6, a7, a8, a9, a10, a11, a12, a13, a14, a15, a16, a17, a18, a19, rfl⟩
theorem built_cot (a0 a1 a2 a3 a4 a5 a6 a7 a8 a9 a10 a11 a12 a13 a14 a15 a16 a17 a18 a19 : Int) : Tryz.prog.built 34 [(0, .agg #[.int .u8 a0, .int .u8 a1, .int .u8 a2, .int .u8 a3, .int .u8 a4, .int .u8 a5, .int .u8 a6, .int .u8 a7, .int .u8 a8, .int .u8 a9, .int .u8 a10, .int .u8 a11, .int .u8 a12, .int .u8 a13, .int .u8 a14, .int .u8 a15, .int .u8 a16, .int .u8 a17, .int .u8 a18, .int .u8 a19])] = some (coA { cz with tr := [a0, a1, a2, a3, a4, a5, a6, a7, a8, a9, a10, a11, a12, a13, a14, a15, a16, a17, a18, a19] } (.slice none 0 0) (.slice none 0 0)) := by kernel_rfl
theorem build_cot (n : List Int) (h : n.length = 20) (W : World) : (Instr.build 34 #[(0, .agg (V8 n))]).run Tryz.prog W = .ok (.agg (coA { cz with tr := n } (.slice none 0 0) (.slice none 0 0))) W := by
  obtain ⟨a0, a1, a2, a3, a4, a5, a6, a7, a8, a9, a10, a11, a12, a13, a14, a15, a16, a17, a18, a19, rfl⟩ := list20 h
  exact run_build W _ _ _ (built_cot a0 a1 a2 a3 a4 a5 a6 a7 a8 a9 a10 a11 a12 a13 a14 a15 a16 a17 a18 a19)
theorem build_rest (s : ByteArray) (W : World) : (Instr.build 134 #[(0, .string s)]).run Tryz.prog W = .ok (.agg #[.string s]) W := run_build W _ _ _ (by kernel_rfl)
theorem build_rd (s : ByteArray) (W : World) : (Instr.build 136 #[(0, .agg #[.string s])]).run Tryz.prog W = .ok (.agg #[.string s, .bool false]) W := run_build W _ _ _ (by kernel_rfl)
theorem zero_rd (W : World) : (zeroValue 136).run Tryz.prog W = .ok (.agg #[.string ⟨#[]⟩, .bool false]) W := by kernel_rfl
theorem idS_len (k : List UInt8) (s : St) : (idS k s).2.1.length ≤ s.1.length := by
  have := (valS_len k s).2
  unfold idS
  split
  · exact this
  · simp
theorem whoS_len (k : List UInt8) (s : St) : (whoS k s).2.1.length ≤ s.1.length := by
  have := (valS_len k s).2
  unfold whoS
  dsimp only
  split
  · exact this
  · simp
theorem idS_lt (k : List UInt8) (s : St) (h : Lib.hasPrefix s.1 (k ++ [32]) = true) : (idS k s).2.1.length < s.1.length := by
  have h0 : 0 < s.1.length := by
    unfold Lib.hasPrefix at h
    obtain ⟨r, hr⟩ := List.isPrefixOf_iff_prefix.1 h
    rw [← hr]
    simp; omega
  unfold idS
  dsimp only
  split
  · unfold valS valO
    split
    · rename_i v l hv
      split at hv
      · simp only [Option.some.injEq, Prod.mk.injEq] at hv
        obtain ⟨-, rfl⟩ := hv
        show (s.1.drop _).length < _
        rw [List.length_drop]; omega
      · cases hv
    · exact h0
  · exact h0
theorem parG_len : ∀ (f : Nat) (s : St), (parG f s).1.length + (parG f s).2.1.length ≤ s.1.length
  | 0, s => by simp [parG]
  | f + 1, s => by
    unfold parG
    split
    · rename_i h
      have h1 := idS_lt kPar s h
      have h2 := parG_len f (idS kPar s).2
      simp only [List.length_cons]
      omega
    · simp
theorem parG_ids : ∀ (f : Nat) (s : St), ∀ p ∈ (parG f s).1, p.length = 20 ∧ ∀ x ∈ p, 0 ≤ x ∧ x ≤ 255
  | 0, s, p, hp => by simp [parG] at hp
  | f + 1, s, p, hp => by
    unfold parG at hp
    split at hp
    · rcases List.mem_cons.1 hp with rfl | hp
      · exact ⟨parsed_length _, parsed_bytes _⟩
      · exact parG_ids f _ p hp
    · simp at hp
theorem wzero_small : WhoSmall wzero := by show _ ∧ _ ∧ _ ∧ _ ∧ _; decide
theorem personE_small (V : List UInt8) (h : V.length ≤ 40000) : WhoSmall (personE V).1 := by
  unfold personE
  split
  · rename_i x hx
    split
    · unfold personR at hx
      have l1 := cutS_len V [32, 60]
      have l2 := cutS_len (Lib.cut V [32, 60]).2.1 [62, 32]
      have l3 := cutS_len (Lib.cut (Lib.cut V [32, 60]).2.1 [62, 32]).2.1 [32]
      have l4 := decF_le (Lib.cut (Lib.cut (Lib.cut V [32, 60]).2.1 [62, 32]).2.1 [32]).1
      split at hx
      · split at hx
        · split at hx
          · simp only [Option.some.injEq] at hx
            subst hx
            refine ⟨?_, ?_, ?_, ?_, ?_⟩
            · show (txt _).size ≤ _; rw [txt_size]; omega
            · show (txt _).size ≤ _; rw [txt_size]; omega
            · show (txt _).size ≤ _; rw [txt_size]; omega
            · show -9223372036854775808 ≤ ((_ : Nat) : Int); omega
            · show ((_ : Nat) : Int) ≤ _; omega
          · cases hx
        · cases hx
      · cases hx
    · exact wzero_small
  · exact wzero_small
theorem whoS_small (k : List UInt8) (s : St) (h : s.1.length ≤ 40000) : WhoSmall (whoS k s).1 := personE_small _ (Nat.le_trans (valS_len k s).1 h)
theorem exG_small : ∀ (f : Nat) (l : List UInt8) (xs : List (ByteArray × ByteArray)) (r : List UInt8), exG f l = some (xs, r) → l.length ≤ 15000 → xs.length + r.length ≤ l.length ∧ ∀ x ∈ xs, ExtSmall x
  | 0, l, xs, r, h, hl => by simp [exG] at h
  | f + 1, l, xs, r, h, hl => by
    unfold exG at h
    split at h
    · simp only [Option.some.injEq, Prod.mk.injEq] at h
      obtain ⟨rfl, rfl⟩ := h
      simp
    · split at h
      · cases h
      · rename_i n hn
        split at h
        · cases h
        · rename_i x hx
          obtain ⟨p, hp, he⟩ := Option.map_eq_some_iff.1 h
          simp only [Prod.mk.injEq] at he
          obtain ⟨rfl, rfl⟩ := he
          have hd := rd_len_x hn
          obtain ⟨h1, h2⟩ := exG_small f _ p.1 p.2 hp (by omega)
          refine ⟨by rw [List.length_cons]; omega, fun y hy => ?_⟩
          rcases List.mem_cons.1 hy with rfl | hy
          · unfold lineX at hx
            split at hx
            · simp only [Option.some.injEq] at hx
              subst hx
              have l1 := cutS_len (l.take n) [32]
              have l2 := replace_len (Lib.cut (l.take n) [32]).2.1 [10, 32] [10]
              rw [List.length_take] at l1
              simp only [List.length_cons, List.length_nil] at l2
              refine ⟨?_, ?_⟩
              · show (txt _).size ≤ _; rw [txt_size]; omega
              · show (txt _).size ≤ _; rw [txt_size]; omega
            · cases hx
          · exact h2 y hy
theorem exS_small (s : St) (h : s.1.length ≤ 15000) : (exS s).1.length + (exS s).2.1.length ≤ s.1.length ∧ ∀ x ∈ (exS s).1, ExtSmall x := by
  unfold exS
  split
  · rename_i xs l hx
    exact exG_small _ _ _ _ hx h
  · simp
theorem msgS_len (s : St) : (msgS s).1.length ≤ s.1.length := by
  obtain ⟨l, b⟩ := s
  unfold msgS
  cases l with
  | nil => simp
  | cons c t =>
    dsimp only
    split
    · simp
    · simp
theorem parO_len (s : St) : (parO s).1.length + (parO s).2.1.length ≤ s.1.length := by unfold parO; exact parG_len _ s
theorem len_st2 (L : List UInt8) : (st2 L).1.length ≤ (st1 L).1.length := by
  unfold st2
  generalize st1 L = s
  exact Nat.le_trans (Nat.le_add_left _ _) (parO_len s)
theorem len_st3 (L : List UInt8) : (st3 L).1.length ≤ (st2 L).1.length := by
  unfold st3
  generalize st2 L = s
  exact whoS_len kAut s
theorem len_st4 (L : List UInt8) : (st4 L).1.length ≤ (st3 L).1.length := by
  unfold st4
  generalize st3 L = s
  exact whoS_len kCom s
theorem len_ps (L : List UInt8) : (parO (st1 L)).1.length ≤ (st1 L).1.length := by
  generalize st1 L = s
  exact Nat.le_trans (Nat.le_add_right _ _) (parO_len s)
theorem st_len (L : List UInt8) : (st1 L).1.length ≤ L.length ∧ (st2 L).1.length ≤ L.length ∧ (st3 L).1.length ≤ L.length ∧ (st4 L).1.length ≤ L.length ∧ (parO (st1 L)).1.length ≤ L.length := by
  have e1 : (st1 L).1.length ≤ L.length := by
    unfold st1
    exact idS_len kTree (L, false)
  have e2 := len_st2 L
  have e3 := len_st3 L
  have e4 := len_st4 L
  have e5 := len_ps L
  have e12 := Nat.le_trans e2 e1
  have e13 := Nat.le_trans e3 e12
  exact ⟨e1, e12, e13, Nat.le_trans e4 e13, Nat.le_trans e5 e1⟩
theorem small_of (tr : List Int) (ps : List (List Int)) (a c : WX) (xs : List (ByteArray × ByteArray)) (m : List UInt8) (ha : WhoSmall a) (hc : WhoSmall c) (hp : ps.length ≤ 40000) (hx : xs.length ≤ 40000) (hxs : ∀ x ∈ xs, ExtSmall x) (hm : m.length ≤ 40000) : CoSmall ⟨tr, ps, a, c, xs, txt m⟩ := ⟨ha, hc, hp, hx, hxs, by rw [txt_size]; exact hm⟩
theorem exs_len {n : Nat} (s : St) (h : s.1.length ≤ n) (hn : n ≤ 15000) : (exS s).1.length ≤ 40000 ∧ (exS s).2.1.length ≤ 40000 ∧ ∀ x ∈ (exS s).1, ExtSmall x := by
  obtain ⟨h1, h2⟩ := exS_small s (Nat.le_trans h hn)
  generalize (exS s).1.length = a at *
  generalize (exS s).2.1.length = b at *
  exact ⟨by omega, by omega, h2⟩
theorem raw_small (L : List UInt8) (h : L.length ≤ 15000) : CoSmall (rawC L) := by
  obtain ⟨-, h2, h3, h4, h5⟩ := st_len L
  obtain ⟨h6, h8, h7⟩ := exs_len (st4 L) h4 h
  have h40 : L.length ≤ 40000 := Nat.le_trans h (by decide)
  unfold rawC
  exact small_of _ _ _ _ _ _ (whoS_small kAut (st2 L) (Nat.le_trans h2 h40)) (whoS_small kCom (st3 L) (Nat.le_trans h3 h40)) (Nat.le_trans h5 h40) h6 h7 (Nat.le_trans (msgS_len (st5 L)) (by unfold st5; exact h8))
end Go.Proofs.YtkpiinjhcckhfaaGreatDoor
/-! commit.Parse: the walk. -/
namespace Go.Proofs.YtkpiinjhcckhfaaGreatDoor
open Go.RowKit Plain Go.ChangeShapes Go.WideShapes Go.ChangeAt Go.Great
set_option linter.unusedVariables false
set_option linter.unusedSimpArgs false
def setAll (cur : Array Value) : Nat → List Value → Array Value
  | _, [] => cur
  | o, v :: r => setAll (cur.setIfInBounds o v) (o + 1) r
theorem heap_setCells (b : Nat) (t : TypeId) : ∀ (vs : List Value) (o : Nat) (w : World) (cur : Array Value), w.heap[b]? = some (.cells cur t (0, 0)) → (w.setCells b o vs).heap[b]? = some (.cells (setAll cur o vs) t (0, 0))
  | [], o, w, cur, h => h
  | v :: r, o, w, cur, h => heap_setCells b t r (o + 1) _ _ (heap_setCell_same w b o _ _ _ h)
theorem heap_setCells_ne (b k : Nat) (hn : k ≠ b) : ∀ (vs : List Value) (o : Nat) (w : World), (w.setCells b o vs).heap[k]? = w.heap[k]?
  | [], o, w => rfl
  | v :: r, o, w => (heap_setCells_ne b k hn r (o + 1) _).trans (heap_setCell_ne w ⟨b, o, none⟩ v k hn)
theorem below_setCells {B : Nat} {a : World} (b : Nat) (hb : B ≤ b) : ∀ (vs : List Value) (o : Nat) (w : World), Below B a w → Below B a (w.setCells b o vs)
  | [], o, w, h => h
  | v :: r, o, w, h => below_setCells b hb r (o + 1) _ (h.setCell (p := ⟨b, o, none⟩) hb v)
theorem setAll_list : ∀ (vs : List Value) (o : Nat) (cur : Array Value), o + vs.length ≤ cur.size → (setAll cur o vs).toList = cur.toList.take o ++ vs ++ cur.toList.drop (o + vs.length)
  | [], o, cur, h => by simp [setAll]
  | v :: r, o, cur, h => by
    rw [List.length_cons] at h
    have ih := setAll_list r (o + 1) (cur.setIfInBounds o v) (by rw [Array.size_setIfInBounds]; omega)
    rw [setAll, ih, Array.toList_setIfInBounds]
    have hl : o < cur.toList.length := by rw [Array.length_toList]; omega
    rw [List.take_set, List.drop_set_of_lt (by omega), List.length_cons, show o + 1 + r.length = o + (r.length + 1) by omega, List.take_add_one, List.getElem?_eq_getElem hl]
    have h1 : (cur.toList.take o).length = o := by rw [List.length_take]; omega
    rw [List.set_append_right _ _ (by omega), h1, Nat.sub_self]
    simp
theorem OwnG.move {α : Type} {k : Nat} {enc : α → List Value} {e : TypeId} {w w' : World} {base : Nat} {v : Value} {xs : List α} (h : OwnG k enc e w base v xs) (hk : ∀ g, base ≤ g → g < w.heap.size → w'.heap[g]? = w.heap[g]?) : OwnG k enc e w' base v xs := by
  obtain ⟨h1, h2 | ⟨g, cap, cur, h3, h4, h5, h6⟩⟩ := h
  · exact ⟨h1, .inl h2⟩
  · exact ⟨h1, .inr ⟨g, cap, cur, h3, h4, (hk g h4 (Array.getElem?_eq_some_iff.1 h5).1).trans h5, h6⟩⟩
theorem rowat_setRow {α : Type} {k : Nat} {enc : α → List Value} {w : World} {a : Option Addr} {xs : List α} (h : RowAt k enc w a xs) {b : Nat} {cs : Array Value} (hb : ∀ b' off, a = some ⟨b', off, none⟩ → xs.length ≠ 0 → b' ≠ b) : RowAt k enc (w.setRow b cs) a xs := by
  by_cases h0 : xs.length = 0
  · exact .inl h0
  · rcases h with h1 | ⟨b', off, rfl, hl, hc⟩
    · exact absurd h1 h0
    · have hn := hb b' off rfl h0
      have hh : (w.setRow b cs).heap[b']? = w.heap[b']? := setRow_other w b b' cs hn
      refine .inr ⟨b', off, rfl, (by simpa [World.setRow] using hl), fun j x hj i v hv => ?_⟩
      rw [← hc j x hj i v hv]
      unfold World.cell?
      rw [hh]
theorem OwnG.base {α : Type} {k : Nat} {enc : α → List Value} {e : TypeId} {w : World} {base n c : Nat} {a : Option Addr} {xs : List α} (h : OwnG k enc e w base (.slice a n c) xs) {b' off : Nat} (ha : a = some ⟨b', off, none⟩) : base ≤ b' := by
  obtain ⟨h1, ⟨h2, -⟩ | ⟨g, cap, cur, h3, h4, -⟩⟩ := h
  · simp only [Value.slice.injEq] at h2
    rw [h2.1] at ha
    cases ha
  · simp only [Value.slice.injEq] at h3
    rw [h3.1] at ha
    simp only [Option.some.injEq, Addr.mk.injEq] at ha
    rw [← ha.1]
    exact h4
theorem set_mid (A B C B' : List Value) (n : Nat) (hn : A.length = n) (hb : B.length = B'.length) : (A ++ (B ++ C)).take n ++ B' ++ (A ++ (B ++ C)).drop (n + B'.length) = A ++ (B' ++ C) := by
  subst hn
  rw [List.take_left, ← hb, List.append_assoc, ← List.drop_drop, List.drop_left, List.drop_left]
theorem coA_author (c : CC) (pv xv : Value) (h20 : c.tr.length = 20) (x : WX) : setAll (coA c pv xv) 21 (whoL x) = coA { c with a := x } pv xv := by
  apply Array.toList_inj.1
  rw [setAll_list _ _ _ (by rw [coA_size _ _ _ h20]; show _ + 4 ≤ 31; omega)]
  have := set_mid (U8 c.tr ++ [pv]) (whoL c.a) (whoL c.c ++ [xv, .string c.m]) (whoL x) 21 (by rw [List.length_append, U8_length, h20]; rfl) rfl
  simp only [List.append_assoc, List.cons_append, List.nil_append] at this
  unfold coA coL coT
  simpa [List.append_assoc] using this
theorem coA_committer (c : CC) (pv xv : Value) (h20 : c.tr.length = 20) (x : WX) : setAll (coA c pv xv) 25 (whoL x) = coA { c with c := x } pv xv := by
  apply Array.toList_inj.1
  rw [setAll_list _ _ _ (by rw [coA_size _ _ _ h20]; show _ + 4 ≤ 31; omega)]
  have := set_mid (U8 c.tr ++ (pv :: whoL c.a)) (whoL c.c) [xv, .string c.m] (whoL x) 25 (by rw [List.length_append, U8_length, h20]; rfl) rfl
  unfold coA coL coT
  simpa [List.append_assoc] using this
theorem coA_set (c : CC) (pv xv : Value) (h20 : c.tr.length = 20) (i : Nat) (v : Value) : (coA c pv xv).setIfInBounds (20 + i) v = (U8 c.tr ++ (coT c pv xv).set i v).toArray := by
  unfold coA coL
  rw [List.setIfInBounds_toArray, List.set_append_right _ _ (by rw [U8_length, h20]; omega), U8_length, h20, show 20 + i - 20 = i by omega]
theorem co_there {w : World} {b : Nat} {c : CC} {pv xv : Value} (h : w.heap[b]? = some (.cells (coA c pv xv) 34 (0, 0))) (h20 : c.tr.length = 20) (o : Nat) (ho : o + 4 ≤ 31) : w.there b o 4 := fun j hj => by
  refine ⟨?_, frozen_of_row w b (o + j) _ _ h⟩
  rw [cell_of_row _ _ _ _ _ _ h, Array.getElem?_eq_getElem (by rw [coA_size _ _ _ h20]; omega)]
  rfl
/-- Where the reading stands while the parents are read. -/
structure PS (w : World) (b2 r cb B4 : Nat) (tr : List Int) (W : World) (s : St) (pv : Value) (done : List (List Int)) : Prop where
  rd : RdAt W r s
  co : W.heap[cb]? = some (.cells (coA { cz with tr := tr } pv (.slice none 0 0)) 34 (0, 0))
  own : OwnG 20 idE 29 W B4 pv done
  z : W.heap[b2]? = some (.cells (coA cz (.slice none 0 0) (.slice none 0 0)) 34 (0, 0))
  bel : Below w.heap.size w W
  sz : B4 ≤ W.heap.size
theorem PS.frr {w W W' : World} {b2 r cb B4 : Nat} {tr : List Int} {s s' : St} {pv : Value} {done : List (List Int)} (h : PS w b2 r cb B4 tr W s pv done) (hf : FrR r W W') (hr : RdAt W' r s') (h1 : cb ≠ r) (h2 : b2 ≠ r) (h3 : r < B4) (h4 : w.heap.size ≤ r) : PS w b2 r cb B4 tr W' s' pv done :=
  ⟨hr, (hf.block cb (Array.getElem?_eq_some_iff.1 h.co).1 h1).trans h.co, h.own.frr hf h3, (hf.block b2 (Array.getElem?_eq_some_iff.1 h.z).1 h2).trans h.z, h.bel.trans (hf.below h4 h.bel.size), Nat.le_trans h.sz hf.size⟩
theorem setCells_size (b : Nat) : ∀ (vs : List Value) (o : Nat) (w : World), (w.setCells b o vs).heap.size = w.heap.size
  | [], o, w => rfl
  | v :: r, o, w => (setCells_size b r (o + 1) _).trans (by simp [World.setCell])
/-- .. and behind them. -/
structure PT (w : World) (b2 r cb B4 : Nat) (W : World) (s : St) (C : CC) (pv xv : Value) (done : List (List Int)) : Prop where
  rd : RdAt W r s
  h20 : C.tr.length = 20
  co : W.heap[cb]? = some (.cells (coA C pv xv) 34 (0, 0))
  own : OwnG 20 idE 29 W B4 pv done
  z : W.heap[b2]? = some (.cells (coA cz (.slice none 0 0) (.slice none 0 0)) 34 (0, 0))
  bel : Below w.heap.size w W
  sz : B4 ≤ W.heap.size
theorem PT.frr {w W W' : World} {b2 r cb B4 : Nat} {C : CC} {s s' : St} {pv xv : Value} {done : List (List Int)} (h : PT w b2 r cb B4 W s C pv xv done) (hf : FrR r W W') (hr : RdAt W' r s') (h1 : cb ≠ r) (h2 : b2 ≠ r) (h3 : r < B4) (h4 : w.heap.size ≤ r) : PT w b2 r cb B4 W' s' C pv xv done :=
  ⟨hr, h.h20, (hf.block cb (Array.getElem?_eq_some_iff.1 h.co).1 h1).trans h.co, h.own.frr hf h3, (hf.block b2 (Array.getElem?_eq_some_iff.1 h.z).1 h2).trans h.z, h.bel.trans (hf.below h4 h.bel.size), Nat.le_trans h.sz hf.size⟩
theorem PT.cells {w W : World} {b2 r cb B4 : Nat} {C : CC} {s : St} {pv xv : Value} {done : List (List Int)} (h : PT w b2 r cb B4 W s C pv xv done) (o : Nat) (vs : List Value) (C' : CC) (h20 : C'.tr.length = 20) (hs : setAll (coA C pv xv) o vs = coA C' pv xv) (h1 : cb ≠ r) (h2 : cb ≠ b2) (h3 : cb < B4) (h4 : w.heap.size ≤ cb) : PT w b2 r cb B4 (W.setCells cb o vs) s C' pv xv done :=
  ⟨(heap_setCells_ne cb r h1.symm vs o W).trans h.rd, h20, by rw [heap_setCells cb _ vs o W _ h.co, hs], h.own.move fun g hg _ => heap_setCells_ne cb g (by omega) vs o W, (heap_setCells_ne cb b2 h2.symm vs o W).trans h.z, below_setCells cb h4 vs o W h.bel, by rw [setCells_size]; exact h.sz⟩
theorem PT.cell {w W : World} {b2 r cb B4 : Nat} {C : CC} {s : St} {pv xv xv' : Value} {done : List (List Int)} (h : PT w b2 r cb B4 W s C pv xv done) (i : Nat) (v : Value) (C' : CC) (h20 : C'.tr.length = 20) (hs : (coA C pv xv).setIfInBounds i v = coA C' pv xv') (h1 : cb ≠ r) (h2 : cb ≠ b2) (h3 : cb < B4) (h4 : w.heap.size ≤ cb) : PT w b2 r cb B4 (W.setCell ⟨cb, i, none⟩ v) s C' pv xv' done :=
  ⟨(heap_setCell_ne W ⟨cb, i, none⟩ v r h1.symm).trans h.rd, h20, (heap_setCell_same W cb i _ _ _ h.co).trans (by rw [hs]), h.own.move fun g hg _ => heap_setCell_ne W ⟨cb, i, none⟩ v g (by show g ≠ cb; omega), (heap_setCell_ne W ⟨cb, i, none⟩ v b2 h2.symm).trans h.z, h.bel.setCell h4 _, by have := h.sz; simpa [World.setCell] using this⟩
theorem extsR_S {e : Ending} {w' : World} {base r : Nat} {s : St} (h : ExtsR e w' base r s) : ∃ v, e = .returned v ∧ OwnG 2 extE 69 w' base v (exS s).1 ∧ RdAt w' r (exS s).2 := by
  rcases h with ⟨xs, l, h1, v, rfl, h2, h3⟩ | ⟨h1, rfl, h3⟩
  · refine ⟨v, rfl, ?_, ?_⟩
    · unfold exS; rw [h1]; exact h2
    · unfold exS; rw [h1]; exact h3
  · refine ⟨_, rfl, ?_, ?_⟩
    · unfold exS; rw [h1]; exact OwnG.nil _ _ _
    · unfold exS; rw [h1]; exact h3
/-- What Parse answers: its rows are new. -/
def CoParse (base : Nat) (e : Ending) (w' : World) (o : Option CC) : Prop := match o with
  | some c => ∃ pa pc xa xc, e = .returned (.tuple #[.agg (coV c pa pc xa xc), .int .i64 0]) ∧ CoAt w' c pa xa ∧ (∀ b' off, pa = some ⟨b', off, none⟩ → base ≤ b') ∧ (∀ b' off, xa = some ⟨b', off, none⟩ → base ≤ b')
  | none => e = .returned (.tuple #[.agg (coA cz (.slice none 0 0) (.slice none 0 0)), .int .i64 4])
set_option maxRecDepth 100000 in
set_option maxHeartbeats 32000000 in
theorem coparse_any (a : Option Addr) (m cap : Nat) (L : List UInt8) (w : World) (R : Bytes w a m (numsOf (txt L))) (hm : m ≤ 15000) (hE : EnvC w) :
    Calls Tryz.prog 63 #[.slice a m cap] w fun e w' => CoParse w.heap.size e w' (parseC L) ∧ Below w.heap.size w w' := by
  have HE := Lib.hid hE
  have HL : Hid (L.length ≤ 15000) := by
    show _ ≤ _
    have h1 := R.1
    rw [numsOf_length, txt_size] at h1
    omega
  have HTX : Hid (∀ W, Below w.heap.size w W → (convert 71 9 (.slice a m cap)).run Tryz.prog W = .ok (.string (txt L)) W) := fun W hW => by
    have := text_run W a m cap _ (R.below hW)
    rwa [str_nums] at this
  have hzc := zero_co
  have hzr := zero_rd
  have HB1 : Hid (Below w.heap.size w (w.alloc (.cells (coA cz (.slice none 0 0) (.slice none 0 0)) 34))) := (Below.refl _ _).alloc (Nat.le_refl _) _
  have htx := HTX.out _ HB1.out
  clear R hE hm
  go_enter Tryz.func63, Tryz.ntmps63
  go_wp2_with (first
    | refine wpList_buildQ rfl 134 _ rfl #[(0, .string (txt L))] (map_one _ _ _ rfl) _ (build_rest _) ?_
    | refine wpList_buildQ rfl 136 _ rfl #[(0, .agg #[.string (txt L)])] (map_one _ _ _ rfl) _ (build_rd _) ?_)
  clear htx hzc hzr HB1
  obtain ⟨w2, hw2⟩ : ∃ W, (w.alloc (.cells (coA cz (.slice none 0 0) (.slice none 0 0)) 34)).alloc (.cells #[.string (txt L), .bool false] 136) = W := ⟨_, rfl⟩
  have HB2 : Hid (Below w.heap.size w w2) := by rw [← hw2]; exact ((Below.refl _ _).alloc (Nat.le_refl _) _).alloc (by simp) _
  have hz2 : w2.heap[w.heap.size]? = some (.cells (coA cz (.slice none 0 0) (.slice none 0 0)) 34 (0, 0)) := by
    rw [← hw2]
    exact (Below.heap_alloc _ _ _ (by simp)).trans (heap_alloc_new _ _)
  have hrd : RdAt w2 (w.heap.size + 1) (L, false) := by
    rw [← hw2]
    have h1 := heap_alloc_new (w.alloc (.cells (coA cz (.slice none 0 0) (.slice none 0 0)) 34)) (.cells #[.string (txt L), .bool false] 136)
    rw [show (w.alloc (.cells (coA cz (.slice none 0 0) (.slice none 0 0)) 34)).heap.size = w.heap.size + 1 by simp] at h1
    exact h1
  rw [hw2]
  clear hw2
  obtain ⟨b2, hb2⟩ : ∃ b, w.heap.size = b := ⟨_, rfl⟩
  have HBE : Hid (w.heap.size = b2) := hb2
  rw [hb2] at hz2 hrd
  simp only [hb2]
  obtain ⟨r, hr⟩ : ∃ b, b2 + 1 = b := ⟨_, rfl⟩
  rw [hr] at hrd
  simp only [hr]
  have HRE : Hid (b2 ≠ r ∧ w.heap.size ≤ r) := by show _ ∧ _; omega
  have H2 := Lib.hid hz2
  have HRD := Lib.hid hrd
  clear hz2 hrd hb2 hr
  have HENV : Hid (∀ W, Below w.heap.size w W → EnvR r W) := fun W hW => ⟨w, HE.out, hW, HRE.out.2⟩
  refine (rdid_any r kTree (L, false) w2 HRD.out (by decide) (by decide) (by have := HL.out; show L.length ≤ _; omega) (HENV.out w2 HB2.out)).mono ?_
  rintro e w3 ⟨rfl, hr3, hf3⟩
  have HR3 : Hid (RdAt w3 r (st1 L)) := by show RdAt _ _ _; unfold st1; exact hr3
  have HB3 := Lib.hid (HB2.out.trans (hf3.below HRE.out.2 HB2.out.size))
  have H23 := Lib.hid ((hf3.block b2 (Array.getElem?_eq_some_iff.1 H2.out).1 HRE.out.1).trans H2.out)
  clear hr3 hf3 H2 HRD HB2
  obtain ⟨tr, htr⟩ : ∃ t, parsed (txt (valS kTree (L, false)).1) = t := ⟨_, rfl⟩
  have HTR : Hid (tr.length = 20) := by rw [← htr]; exact parsed_length _
  have HTRE : Hid ((idS kTree (L, false)).1 = tr) := by show _ = _; unfold idS; exact htr
  have HTB : Hid (∀ x ∈ tr, 0 ≤ x ∧ x ≤ 255) := by rw [← htr]; exact parsed_bytes _
  rw [htr]
  clear htr
  have hzc := zero_co
  have HZF : Hid ((w3.alloc (.cells (coA cz (.slice none 0 0) (.slice none 0 0)) 34)).heap[w3.heap.size]? = some (.cells (coA cz (.slice none 0 0) (.slice none 0 0)) 34 (0, 0))) := heap_alloc_new _ _
  have HIC : Hid ((Tryz.prog.info? 34).map (·.size) = some (coA { cz with tr := tr } (.slice none 0 0) (.slice none 0 0)).size) := info_coA { cz with tr := tr } (.slice none 0 0) (.slice none 0 0) HTR.out
  have HSC : Hid ((coA cz (.slice none 0 0) (.slice none 0 0)).size = (coA { cz with tr := tr } (.slice none 0 0) (.slice none 0 0)).size) := by show _ = _; rw [coA_size _ _ _ cz_20, coA_size { cz with tr := tr } _ _ HTR.out]
  have HOC := Lib.hid (coA_one { cz with tr := tr } (.slice none 0 0) (.slice none 0 0) rfl rfl)
  have HBT := Lib.hid (build_cot tr HTR.out)
  have HPS0 : Hid (PS w b2 r w3.heap.size (w3.heap.size + 1) tr ((w3.alloc (.cells (coA cz (.slice none 0 0) (.slice none 0 0)) 34)).setRow w3.heap.size (coA { cz with tr := tr } (.slice none 0 0) (.slice none 0 0))) (st1 L) (.slice none 0 0) []) := by
    have hb : Below w3.heap.size w3 ((w3.alloc (.cells (coA cz (.slice none 0 0) (.slice none 0 0)) 34)).setRow w3.heap.size (coA { cz with tr := tr } (.slice none 0 0) (.slice none 0 0))) := below_setRow ((Below.refl _ _).alloc (Nat.le_refl _) _) (Nat.le_refl _) _
    exact ⟨HR3.out.below hb, setRow_heap _ _ _ _ _ _ HZF.out, OwnG.nil _ _ _, (hb.block b2 (Array.getElem?_eq_some_iff.1 H23.out).1).trans H23.out, HB3.out.trans (hb.mono HB3.out.size), by simp [World.setRow]⟩
  have HRL := Lib.hid HR3.out.lt
  have HBL := Lib.hid (Array.getElem?_eq_some_iff.1 H23.out).1
  go_wp2_with (first
    | refine wpList_buildQ rfl 34 _ rfl #[(0, .agg (V8 tr))] (map_one _ _ _ rfl) _ HBT.out ?_
    | refine wpList_store_row rfl 34 _ _ rfl w3.heap.size (coA { cz with tr := tr } (.slice none 0 0) (.slice none 0 0)) rfl rfl 34 (coA cz (.slice none 0 0) (.slice none 0 0)) HZF.out HIC.out HSC.out HOC.out ?_)
  clear hzc HZF HIC HSC HOC HBT HR3 H23 HB3
  generalize (w3.alloc (.cells (coA cz (.slice none 0 0) (.slice none 0 0)) 34)).setRow w3.heap.size (coA { cz with tr := tr } (.slice none 0 0) (.slice none 0 0)) = w4 at *
  obtain ⟨cb, hcb⟩ : ∃ b, w3.heap.size = b := ⟨_, rfl⟩
  simp only [hcb] at HPS0 HRL HBL ⊢
  obtain ⟨B4, hB4⟩ : ∃ b, cb + 1 = b := ⟨_, rfl⟩
  rw [hB4] at HPS0
  have HN : Hid (cb ≠ r ∧ b2 ≠ r ∧ r < B4 ∧ w.heap.size ≤ r) := by have h1 := HRL.out; have h2 := HRE.out; show _ ∧ _ ∧ _ ∧ _; omega
  have HN2 : Hid (cb < B4 ∧ b2 < B4 ∧ w.heap.size ≤ B4) := by have h1 := HRL.out; have h2 := HRE.out; have h3 := HBL.out; have h4 := HBE.out; show _ ∧ _ ∧ _; omega
  have HN3 : Hid (cb ≠ b2) := by have h3 := HBL.out; show _ ≠ _; omega
  have HN4 : Hid (w.heap.size < cb) := by have h1 := HRL.out; have h2 := HRE.out; have h4 := HBE.out; show _ < _; omega
  clear hcb hB4 HRL HBL
  obtain ⟨N1, hN1⟩ : ∃ n, (st1 L).1.length = n := ⟨_, rfl⟩
  have HN1L : Hid (N1 ≤ L.length) := by rw [← hN1]; exact (st_len L).1
  have HPO : Hid (parO (st1 L) = parG (N1 + 1) (st1 L)) := by show _ = _; unfold parO; rw [hN1]
  have HS1 := Lib.hid hN1
  clear hN1
  simp only [Act.put, List.setIfInBounds_toArray, List.set_cons_zero, List.set_cons_succ]
  go_loopw [] (fun wr => ∃ (f : Nat) (s : St) (pa : Option Addr) (pc : Nat) (done : List (List Int)), s.1.length < f ∧ s.1.length ≤ L.length ∧ done.length + s.1.length ≤ L.length ∧ parO (st1 L) = (done ++ (parG f s).1, (parG f s).2) ∧ PS w b2 r cb B4 tr wr s (.slice pa done.length pc) done) (fun wr => rdSz wr r)
  case atStart => exact ⟨N1 + 1, st1 L, none, 0, [], by have := HS1.out; omega, by have := HS1.out; have := HN1L.out; omega, by have := HS1.out; have := HN1L.out; simp; omega, by rw [HPO.out]; simp, HPS0.out⟩
  case round =>
    obtain ⟨f, s, pa, pc, done, hf, hsl, hdl, hgo, hps⟩ := hrel
    have HFU := Lib.hid hf
    have HSL := Lib.hid hsl
    have HDL := Lib.hid hdl
    have HPW := Lib.hid hps
    have HPO2 := Lib.hid hgo
    have HSZ := Lib.hid hps.rd.sz
    obtain ⟨f, rfl⟩ : ∃ g, f = g + 1 := ⟨f - 1, by omega⟩
    clear hf hsl hdl hps hgo HPS0
    have HBA : Hid (Below wr.heap.size wr (wr.alloc (.cells #[.string (txt kPar)] 9))) := (Below.refl _ _).alloc (Nat.le_refl _) _
    have HPQ := Lib.hid (HPW.out.frr (FrR.of HBA.out) (HPW.out.rd.below HBA.out) HN.out.1 HN.out.2.1 HN.out.2.2.1 HN.out.2.2.2)
    have HNC : Hid ((wr.alloc (.cells #[.string (txt kPar)] 9)).cell? ⟨wr.heap.size, 0, none⟩ = some (.string (txt kPar))) := by show _ = _; rw [cell_of_row _ _ _ _ _ _ (heap_alloc_new wr _)]; rfl
    go_wp2_with (first
      | refine wpList_slice rfl 38 1 #[(0, _)] rfl #[(0, .string (txt kPar))] (map_one _ _ _ rfl) _ _ (slice_str _ wr) ?_)
    generalize wr.alloc (.cells #[.string (txt kPar)] 9) = wq at *
    refine (begins_any r wr.heap.size kPar s wq HPQ.out.rd HNC.out (by decide)).mono ?_
    rintro e w5 ⟨rfl, rfl⟩
    rename World => wq
    have HEQ := Lib.hid (HENV.out wq HPQ.out.bel)
    clear HNC HBA HPW
    cases hpf : Lib.hasPrefix s.1 (kPar ++ [32])
    rotate_left
    · obtain ⟨p, hp⟩ : ∃ p, parsed (txt (valS kPar s).1) = p := ⟨_, rfl⟩
      obtain ⟨s', hs'⟩ : ∃ s', (idS kPar s).2 = s' := ⟨_, rfl⟩
      have HP20 : Hid (p.length = 20) := by rw [← hp]; exact parsed_length _
      have HSF : Hid (s'.1.length < s.1.length) := by rw [← hs']; exact idS_lt kPar s hpf
      have HGO : Hid (parO (st1 L) = ((done ++ [p]) ++ (parG f s').1, (parG f s').2)) := by
        have h1 := HPO2.out
        unfold parG at h1
        rw [if_pos hpf, hs', show (idS kPar s).1 = p from hp] at h1
        show _ = _
        rw [h1]; simp
      have hid0 := rdid_any r kPar s
      rw [hp, hs'] at hid0
      have HID0 := Lib.hid hid0
      clear hpf hp hs' hid0
      go_wp2_with fail
      refine wp_region_noPanic ?_
      refine wp_region_held_drew (S := fun _ => True) (by kernel_rfl) ?_ (fun hHeld => ?_)
      · exact trivial
      refine tkV 0 (v := ?_) (hw := ?_) (h := ?_)
      rotate_left
      · intro W hSW
        go_simp
        try with_reducible rfl
      try simp only [Act.put, List.setIfInBounds_toArray, List.set_cons_zero, List.set_cons_succ]
      refine wpAnyH_ready (rs := [1, 2]) (by kernel_rfl) (by simp) ?_
      refine AllReadyH.cons (by simp only [List.getElem?_toArray, List.getElem?_cons_succ, List.getElem?_cons_zero]; rfl) (fun K hK => ?_) (AllReadyH.cons (by simp only [List.getElem?_toArray, List.getElem?_cons_succ, List.getElem?_cons_zero]; rfl) (fun K hK => ?_) AllReadyH.nil)
      · have hcod := (CoRow.of HPQ.out.co HTR.out).pars
        go_simp
        refine hK.out _ _ (trivial) (fun hHeld2 => ?_)
        clear hK K hHeld
        have hHeld := hHeld2
        clear hHeld2
        try simp only [Act.put, List.setIfInBounds_toArray, List.set_cons_zero, List.set_cons_succ]
        clear hcod
        refine wpAnyH_ready (rs := [2]) (by kernel_rfl) (by simp) ?_
        refine AllReadyH.cons (by simp only [List.getElem?_toArray, List.getElem?_cons_succ, List.getElem?_cons_zero]; rfl) (fun K hK => ?_) AllReadyH.nil
        go_simp
        refine (HID0.out _ (by exact HPQ.out.rd) (by decide) (by decide) (by have := HSL.out; have := HL.out; omega) (by exact HEQ.out.below ((Below.refl _ _).drew))).mono ?_
        rintro e v1 ⟨rfl, hr, hf⟩
        have HPV := Lib.hid (HPQ.out.frr ((FrR.of (r := r) ((Below.refl _ _).drew)).trans hf) hr HN.out.1 HN.out.2.1 HN.out.2.2.1 HN.out.2.2.2)
        clear hr hf
        go_wp2_with fail
        refine hK.out _ _ (trivial) (fun hHeld2 => ?_)
        clear hK K hHeld
        have hHeld := hHeld2
        clear hHeld2
        try simp only [Act.put, List.setIfInBounds_toArray, List.set_cons_zero, List.set_cons_succ]
        refine wpAnyH_ready (rs := [3]) (by kernel_rfl) (by simp) ?_
        refine AllReadyH.cons (by simp only [List.getElem?_toArray, List.getElem?_cons_succ, List.getElem?_cons_zero]; rfl) (fun K hK => ?_) AllReadyH.nil
        have HIE : Hid ((idE p).toArray = V8 p) := by show _ = _; rw [idE_of HP20.out]; rfl
        refine step_slice (by rfl) _ _ _ rfl #[(0, .agg (V8 p))] (map_one _ _ _ rfl) _ _ (slice_G1 elem_id (by decide) (by decide) (by decide) idE_len p (.agg (V8 p)) (by rw [HIE.out]; rfl) _) ?_
        refine hK.out _ _ (trivial) (fun hHeld2 => ?_)
        clear hK K hHeld
        have hHeld := hHeld2
        clear hHeld2
        try simp only [Act.put, List.setIfInBounds_toArray, List.set_cons_zero, List.set_cons_succ]
        have HBA : Hid (Below v1.heap.size v1 (v1.alloc (.cells (idE p).toArray 29))) := (Below.refl _ _).alloc (Nat.le_refl _) _
        have HOA : Hid (OwnG 20 idE 29 (v1.alloc (.cells (idE p).toArray 29)) B4 (.slice pa done.length pc) done) := HPV.out.own.below HBA.out
        have HSA : Hid (v1.heap.size < (v1.alloc (.cells (idE p).toArray 29)).heap.size) := by show _ < _; simp
        refine wpAnyH_ready (rs := [4]) (by kernel_rfl) (by simp) ?_
        refine AllReadyH.cons (by simp only [List.getElem?_toArray, List.getElem?_cons_succ, List.getElem?_cons_zero]; rfl) (fun K hK => ?_) AllReadyH.nil
        refine step_append_G elem_id idE_len (by decide) (by decide) idE_one (by rfl) _ _ rfl B4 (.slice pa done.length pc) done done.length rfl rfl (by exact HOA.out) v1.heap.size 0 1 1 [p] rfl (by decide) rfl (one_G v1 _ p) (done.length + 1) (done ++ [p]) rfl rfl (by have := HDL.out; have := HL.out; omega) (by exact Nat.le_trans HPV.out.sz (Nat.le_of_lt HSA.out)) ?_
        rintro g2 gc2 w7 ho7 hg7 hgg hgl
        have HO7 := Lib.hid ho7
        have HLB : Hid (∀ g, Value.ownBlock (.slice pa done.length pc) = some g → B4 ≤ g) := fun g hg => (HOA.out.lt hg).1
        have HF7 : Hid (Below B4 v1 w7) := ⟨hg7.os, hg7.tape, hg7.output, Nat.le_trans (Nat.le_of_lt HSA.out) hg7.size, fun k hk => (hg7.block k (Nat.lt_of_lt_of_le (Nat.lt_of_lt_of_le hk HPV.out.sz) (Nat.le_of_lt HSA.out)) (fun e => by have := HLB.out k e.symm; omega)).trans (HBA.out.block k (Nat.lt_of_lt_of_le hk HPV.out.sz))⟩
        have HR7 : Hid (RdAt w7 r s') := (HF7.out.block r HN.out.2.2.1).trans HPV.out.rd
        have HC7 : Hid (w7.heap[cb]? = some (.cells (coA { cz with tr := tr } (.slice pa done.length pc) (.slice none 0 0)) 34 (0, 0))) := (HF7.out.block cb HN2.out.1).trans HPV.out.co
        have HZ7 : Hid (w7.heap[b2]? = some (.cells (coA cz (.slice none 0 0) (.slice none 0 0)) 34 (0, 0))) := (HF7.out.block b2 HN2.out.2.1).trans HPV.out.z
        have HB7 : Hid (Below w.heap.size w w7) := HPV.out.bel.trans (HF7.out.mono HN2.out.2.2)
        clear ho7 hg7 hgg hgl
        refine hK.out _ _ (trivial) (fun hHeld2 => ?_)
        clear hK K hHeld
        have hHeld := hHeld2
        clear hHeld2
        try simp only [Act.put, List.setIfInBounds_toArray, List.set_cons_zero, List.set_cons_succ]
        refine tkV 5 (v := ?_) (hw := ?_) (h := ?_)
        rotate_left
        · intro W hSW
          go_simp
          try with_reducible rfl
        try simp only [Act.put, List.setIfInBounds_toArray, List.set_cons_zero, List.set_cons_succ]
        have hco7 := (CoRow.of HC7.out HTR.out).pars
        have hfo7 := frozen_of_row w7 cb 20 _ _ HC7.out
        refine wpAnyH_ready (rs := [6]) (by kernel_rfl) (by simp) ?_
        refine AllReadyH.cons (by simp only [List.getElem?_toArray, List.getElem?_cons_succ, List.getElem?_cons_zero]; rfl) (fun K hK => ?_) AllReadyH.nil
        go_simp
        have HP8 : Hid (PS w b2 r cb B4 tr (w7.setCell ⟨cb, 20, none⟩ (.slice (some ⟨g2, 0, none⟩) (done.length + 1) gc2)) s' (.slice (some ⟨g2, 0, none⟩) (done.length + 1) gc2) (done ++ [p])) := ⟨(heap_setCell_ne w7 ⟨cb, 20, none⟩ _ r HN.out.1.symm).trans HR7.out, (heap_setCell_same w7 cb 20 _ _ _ HC7.out).trans (by rw [coA_set _ _ _ HTR.out 0]; rfl), HO7.out.move fun g hg _ => heap_setCell_ne w7 ⟨cb, 20, none⟩ _ g (by have := HN2.out.1; show g ≠ cb; omega), (heap_setCell_ne w7 ⟨cb, 20, none⟩ _ b2 HN3.out.symm).trans HZ7.out, HB7.out.setCell (Nat.le_of_lt HN4.out) _, by have h1 := HF7.out.size; have h2 := HPV.out.sz; simp [World.setCell]; omega⟩
        refine hK.out _ _ (trivial) (fun hHeld2 => ?_)
        clear hK K hHeld
        have hHeld := hHeld2
        clear hHeld2
        try simp only [Act.put, List.setIfInBounds_toArray, List.set_cons_zero, List.set_cons_succ]
        refine wpAnyH_done (by kernel_rfl) ?_ _
        refine NoPanic.normal ?_
        clear hHeld hco7 hfo7
        go_wp2_with fail
        exact ⟨⟨f, s', some ⟨g2, 0, none⟩, gc2, done ++ [p], by have := HSF.out; have := HFU.out; omega, by have := HSF.out; have := HSL.out; omega, by have := HSF.out; have := HDL.out; rw [List.length_append]; simp only [List.length_cons, List.length_nil]; omega, HGO.out, by have h := HP8.out; first | exact h | (rw [List.length_append]; exact h)⟩, by have h1 := HP8.out.rd.sz; have h2 := HSZ.out; have h3 := HSF.out; simp only [h1, h2]; omega⟩
      · go_simp
        refine (HID0.out _ (by exact HPQ.out.rd) (by decide) (by decide) (by have := HSL.out; have := HL.out; omega) (by exact HEQ.out.below ((Below.refl _ _).drew))).mono ?_
        rintro e v1 ⟨rfl, hr, hf⟩
        have HPV := Lib.hid (HPQ.out.frr ((FrR.of (r := r) ((Below.refl _ _).drew)).trans hf) hr HN.out.1 HN.out.2.1 HN.out.2.2.1 HN.out.2.2.2)
        clear hr hf
        go_wp2_with fail
        refine hK.out _ _ (trivial) (fun hHeld2 => ?_)
        clear hK K hHeld
        have hHeld := hHeld2
        clear hHeld2
        try simp only [Act.put, List.setIfInBounds_toArray, List.set_cons_zero, List.set_cons_succ]
        refine wpAnyH_ready (rs := [1, 3]) (by kernel_rfl) (by simp) ?_
        refine AllReadyH.cons (by simp only [List.getElem?_toArray, List.getElem?_cons_succ, List.getElem?_cons_zero]; rfl) (fun K hK => ?_) (AllReadyH.cons (by simp only [List.getElem?_toArray, List.getElem?_cons_succ, List.getElem?_cons_zero]; rfl) (fun K hK => ?_) AllReadyH.nil)
        · have hcod := (CoRow.of HPV.out.co HTR.out).pars
          go_simp
          refine hK.out _ _ (trivial) (fun hHeld2 => ?_)
          clear hK K hHeld
          have hHeld := hHeld2
          clear hHeld2
          try simp only [Act.put, List.setIfInBounds_toArray, List.set_cons_zero, List.set_cons_succ]
          clear hcod
          refine wpAnyH_ready (rs := [3]) (by kernel_rfl) (by simp) ?_
          refine AllReadyH.cons (by simp only [List.getElem?_toArray, List.getElem?_cons_succ, List.getElem?_cons_zero]; rfl) (fun K hK => ?_) AllReadyH.nil
          have HIE : Hid ((idE p).toArray = V8 p) := by show _ = _; rw [idE_of HP20.out]; rfl
          refine step_slice (by rfl) _ _ _ rfl #[(0, .agg (V8 p))] (map_one _ _ _ rfl) _ _ (slice_G1 elem_id (by decide) (by decide) (by decide) idE_len p (.agg (V8 p)) (by rw [HIE.out]; rfl) _) ?_
          refine hK.out _ _ (trivial) (fun hHeld2 => ?_)
          clear hK K hHeld
          have hHeld := hHeld2
          clear hHeld2
          try simp only [Act.put, List.setIfInBounds_toArray, List.set_cons_zero, List.set_cons_succ]
          have HBA : Hid (Below v1.heap.size v1 (v1.alloc (.cells (idE p).toArray 29))) := (Below.refl _ _).alloc (Nat.le_refl _) _
          have HOA : Hid (OwnG 20 idE 29 (v1.alloc (.cells (idE p).toArray 29)) B4 (.slice pa done.length pc) done) := HPV.out.own.below HBA.out
          have HSA : Hid (v1.heap.size < (v1.alloc (.cells (idE p).toArray 29)).heap.size) := by show _ < _; simp
          refine wpAnyH_ready (rs := [4]) (by kernel_rfl) (by simp) ?_
          refine AllReadyH.cons (by simp only [List.getElem?_toArray, List.getElem?_cons_succ, List.getElem?_cons_zero]; rfl) (fun K hK => ?_) AllReadyH.nil
          refine step_append_G elem_id idE_len (by decide) (by decide) idE_one (by rfl) _ _ rfl B4 (.slice pa done.length pc) done done.length rfl rfl (by exact HOA.out) v1.heap.size 0 1 1 [p] rfl (by decide) rfl (one_G v1 _ p) (done.length + 1) (done ++ [p]) rfl rfl (by have := HDL.out; have := HL.out; omega) (by exact Nat.le_trans HPV.out.sz (Nat.le_of_lt HSA.out)) ?_
          rintro g2 gc2 w7 ho7 hg7 hgg hgl
          have HO7 := Lib.hid ho7
          have HLB : Hid (∀ g, Value.ownBlock (.slice pa done.length pc) = some g → B4 ≤ g) := fun g hg => (HOA.out.lt hg).1
          have HF7 : Hid (Below B4 v1 w7) := ⟨hg7.os, hg7.tape, hg7.output, Nat.le_trans (Nat.le_of_lt HSA.out) hg7.size, fun k hk => (hg7.block k (Nat.lt_of_lt_of_le (Nat.lt_of_lt_of_le hk HPV.out.sz) (Nat.le_of_lt HSA.out)) (fun e => by have := HLB.out k e.symm; omega)).trans (HBA.out.block k (Nat.lt_of_lt_of_le hk HPV.out.sz))⟩
          have HR7 : Hid (RdAt w7 r s') := (HF7.out.block r HN.out.2.2.1).trans HPV.out.rd
          have HC7 : Hid (w7.heap[cb]? = some (.cells (coA { cz with tr := tr } (.slice pa done.length pc) (.slice none 0 0)) 34 (0, 0))) := (HF7.out.block cb HN2.out.1).trans HPV.out.co
          have HZ7 : Hid (w7.heap[b2]? = some (.cells (coA cz (.slice none 0 0) (.slice none 0 0)) 34 (0, 0))) := (HF7.out.block b2 HN2.out.2.1).trans HPV.out.z
          have HB7 : Hid (Below w.heap.size w w7) := HPV.out.bel.trans (HF7.out.mono HN2.out.2.2)
          clear ho7 hg7 hgg hgl
          refine hK.out _ _ (trivial) (fun hHeld2 => ?_)
          clear hK K hHeld
          have hHeld := hHeld2
          clear hHeld2
          try simp only [Act.put, List.setIfInBounds_toArray, List.set_cons_zero, List.set_cons_succ]
          refine tkV 5 (v := ?_) (hw := ?_) (h := ?_)
          rotate_left
          · intro W hSW
            go_simp
            try with_reducible rfl
          try simp only [Act.put, List.setIfInBounds_toArray, List.set_cons_zero, List.set_cons_succ]
          have hco7 := (CoRow.of HC7.out HTR.out).pars
          have hfo7 := frozen_of_row w7 cb 20 _ _ HC7.out
          refine wpAnyH_ready (rs := [6]) (by kernel_rfl) (by simp) ?_
          refine AllReadyH.cons (by simp only [List.getElem?_toArray, List.getElem?_cons_succ, List.getElem?_cons_zero]; rfl) (fun K hK => ?_) AllReadyH.nil
          go_simp
          have HP8 : Hid (PS w b2 r cb B4 tr (w7.setCell ⟨cb, 20, none⟩ (.slice (some ⟨g2, 0, none⟩) (done.length + 1) gc2)) s' (.slice (some ⟨g2, 0, none⟩) (done.length + 1) gc2) (done ++ [p])) := ⟨(heap_setCell_ne w7 ⟨cb, 20, none⟩ _ r HN.out.1.symm).trans HR7.out, (heap_setCell_same w7 cb 20 _ _ _ HC7.out).trans (by rw [coA_set _ _ _ HTR.out 0]; rfl), HO7.out.move fun g hg _ => heap_setCell_ne w7 ⟨cb, 20, none⟩ _ g (by have := HN2.out.1; show g ≠ cb; omega), (heap_setCell_ne w7 ⟨cb, 20, none⟩ _ b2 HN3.out.symm).trans HZ7.out, HB7.out.setCell (Nat.le_of_lt HN4.out) _, by have h1 := HF7.out.size; have h2 := HPV.out.sz; simp [World.setCell]; omega⟩
          refine hK.out _ _ (trivial) (fun hHeld2 => ?_)
          clear hK K hHeld
          have hHeld := hHeld2
          clear hHeld2
          try simp only [Act.put, List.setIfInBounds_toArray, List.set_cons_zero, List.set_cons_succ]
          refine wpAnyH_done (by kernel_rfl) ?_ _
          refine NoPanic.normal ?_
          clear hHeld hco7 hfo7
          go_wp2_with fail
          exact ⟨⟨f, s', some ⟨g2, 0, none⟩, gc2, done ++ [p], by have := HSF.out; have := HFU.out; omega, by have := HSF.out; have := HSL.out; omega, by have := HSF.out; have := HDL.out; rw [List.length_append]; simp only [List.length_cons, List.length_nil]; omega, HGO.out, by have h := HP8.out; first | exact h | (rw [List.length_append]; exact h)⟩, by have h1 := HP8.out.rd.sz; have h2 := HSZ.out; have h3 := HSF.out; simp only [h1, h2]; omega⟩
        · have HIE : Hid ((idE p).toArray = V8 p) := by show _ = _; rw [idE_of HP20.out]; rfl
          refine step_slice (by rfl) _ _ _ rfl #[(0, .agg (V8 p))] (map_one _ _ _ rfl) _ _ (slice_G1 elem_id (by decide) (by decide) (by decide) idE_len p (.agg (V8 p)) (by rw [HIE.out]; rfl) _) ?_
          refine hK.out _ _ (trivial) (fun hHeld2 => ?_)
          clear hK K hHeld
          have hHeld := hHeld2
          clear hHeld2
          try simp only [Act.put, List.setIfInBounds_toArray, List.set_cons_zero, List.set_cons_succ]
          refine wpAnyH_ready (rs := [1]) (by kernel_rfl) (by simp) ?_
          refine AllReadyH.cons (by simp only [List.getElem?_toArray, List.getElem?_cons_succ, List.getElem?_cons_zero]; rfl) (fun K hK => ?_) AllReadyH.nil
          have HPA : Hid (PS w b2 r cb B4 tr (v1.alloc (.cells (idE p).toArray 29)) s' (.slice pa done.length pc) done) := HPV.out.frr (FrR.of ((Below.refl _ _).alloc (Nat.le_refl _) _)) (HPV.out.rd.below ((Below.refl _ _).alloc (Nat.le_refl _) _)) HN.out.1 HN.out.2.1 HN.out.2.2.1 HN.out.2.2.2
          have hcod := (CoRow.of HPA.out.co HTR.out).pars
          go_simp
          try rw [show (v1.alloc (.cells (idE p).toArray 29)).drew = v1.drew.alloc (.cells (idE p).toArray 29) from rfl]
          refine hK.out _ _ (trivial) (fun hHeld2 => ?_)
          clear hK K hHeld
          have hHeld := hHeld2
          clear hHeld2
          try simp only [Act.put, List.setIfInBounds_toArray, List.set_cons_zero, List.set_cons_succ]
          clear hcod
          have HBA : Hid (Below v1.heap.size v1 (v1.alloc (.cells (idE p).toArray 29))) := (Below.refl _ _).alloc (Nat.le_refl _) _
          have HOA : Hid (OwnG 20 idE 29 (v1.alloc (.cells (idE p).toArray 29)) B4 (.slice pa done.length pc) done) := HPV.out.own.below HBA.out
          have HSA : Hid (v1.heap.size < (v1.alloc (.cells (idE p).toArray 29)).heap.size) := by show _ < _; simp
          refine wpAnyH_ready (rs := [4]) (by kernel_rfl) (by simp) ?_
          refine AllReadyH.cons (by simp only [List.getElem?_toArray, List.getElem?_cons_succ, List.getElem?_cons_zero]; rfl) (fun K hK => ?_) AllReadyH.nil
          refine step_append_G elem_id idE_len (by decide) (by decide) idE_one (by rfl) _ _ rfl B4 (.slice pa done.length pc) done done.length rfl rfl (by exact HOA.out) v1.heap.size 0 1 1 [p] rfl (by decide) rfl (one_G v1 _ p) (done.length + 1) (done ++ [p]) rfl rfl (by have := HDL.out; have := HL.out; omega) (by exact Nat.le_trans HPV.out.sz (Nat.le_of_lt HSA.out)) ?_
          rintro g2 gc2 w7 ho7 hg7 hgg hgl
          have HO7 := Lib.hid ho7
          have HLB : Hid (∀ g, Value.ownBlock (.slice pa done.length pc) = some g → B4 ≤ g) := fun g hg => (HOA.out.lt hg).1
          have HF7 : Hid (Below B4 v1 w7) := ⟨hg7.os, hg7.tape, hg7.output, Nat.le_trans (Nat.le_of_lt HSA.out) hg7.size, fun k hk => (hg7.block k (Nat.lt_of_lt_of_le (Nat.lt_of_lt_of_le hk HPV.out.sz) (Nat.le_of_lt HSA.out)) (fun e => by have := HLB.out k e.symm; omega)).trans (HBA.out.block k (Nat.lt_of_lt_of_le hk HPV.out.sz))⟩
          have HR7 : Hid (RdAt w7 r s') := (HF7.out.block r HN.out.2.2.1).trans HPV.out.rd
          have HC7 : Hid (w7.heap[cb]? = some (.cells (coA { cz with tr := tr } (.slice pa done.length pc) (.slice none 0 0)) 34 (0, 0))) := (HF7.out.block cb HN2.out.1).trans HPV.out.co
          have HZ7 : Hid (w7.heap[b2]? = some (.cells (coA cz (.slice none 0 0) (.slice none 0 0)) 34 (0, 0))) := (HF7.out.block b2 HN2.out.2.1).trans HPV.out.z
          have HB7 : Hid (Below w.heap.size w w7) := HPV.out.bel.trans (HF7.out.mono HN2.out.2.2)
          clear ho7 hg7 hgg hgl
          refine hK.out _ _ (trivial) (fun hHeld2 => ?_)
          clear hK K hHeld
          have hHeld := hHeld2
          clear hHeld2
          try simp only [Act.put, List.setIfInBounds_toArray, List.set_cons_zero, List.set_cons_succ]
          refine tkV 5 (v := ?_) (hw := ?_) (h := ?_)
          rotate_left
          · intro W hSW
            go_simp
            try with_reducible rfl
          try simp only [Act.put, List.setIfInBounds_toArray, List.set_cons_zero, List.set_cons_succ]
          have hco7 := (CoRow.of HC7.out HTR.out).pars
          have hfo7 := frozen_of_row w7 cb 20 _ _ HC7.out
          refine wpAnyH_ready (rs := [6]) (by kernel_rfl) (by simp) ?_
          refine AllReadyH.cons (by simp only [List.getElem?_toArray, List.getElem?_cons_succ, List.getElem?_cons_zero]; rfl) (fun K hK => ?_) AllReadyH.nil
          go_simp
          have HP8 : Hid (PS w b2 r cb B4 tr (w7.setCell ⟨cb, 20, none⟩ (.slice (some ⟨g2, 0, none⟩) (done.length + 1) gc2)) s' (.slice (some ⟨g2, 0, none⟩) (done.length + 1) gc2) (done ++ [p])) := ⟨(heap_setCell_ne w7 ⟨cb, 20, none⟩ _ r HN.out.1.symm).trans HR7.out, (heap_setCell_same w7 cb 20 _ _ _ HC7.out).trans (by rw [coA_set _ _ _ HTR.out 0]; rfl), HO7.out.move fun g hg _ => heap_setCell_ne w7 ⟨cb, 20, none⟩ _ g (by have := HN2.out.1; show g ≠ cb; omega), (heap_setCell_ne w7 ⟨cb, 20, none⟩ _ b2 HN3.out.symm).trans HZ7.out, HB7.out.setCell (Nat.le_of_lt HN4.out) _, by have h1 := HF7.out.size; have h2 := HPV.out.sz; simp [World.setCell]; omega⟩
          refine hK.out _ _ (trivial) (fun hHeld2 => ?_)
          clear hK K hHeld
          have hHeld := hHeld2
          clear hHeld2
          try simp only [Act.put, List.setIfInBounds_toArray, List.set_cons_zero, List.set_cons_succ]
          refine wpAnyH_done (by kernel_rfl) ?_ _
          refine NoPanic.normal ?_
          clear hHeld hco7 hfo7
          go_wp2_with fail
          exact ⟨⟨f, s', some ⟨g2, 0, none⟩, gc2, done ++ [p], by have := HSF.out; have := HFU.out; omega, by have := HSF.out; have := HSL.out; omega, by have := HSF.out; have := HDL.out; rw [List.length_append]; simp only [List.length_cons, List.length_nil]; omega, HGO.out, by have h := HP8.out; first | exact h | (rw [List.length_append]; exact h)⟩, by have h1 := HP8.out.rd.sz; have h2 := HSZ.out; have h3 := HSF.out; simp only [h1, h2]; omega⟩
    · have HGO : Hid ((parO (st1 L)).1 = done ∧ st2 L = s) := by
        have h1 := HPO2.out
        unfold parG at h1
        rw [if_neg (by rw [hpf]; decide)] at h1
        refine ⟨by rw [h1]; simp, by unfold st2; rw [h1]⟩
      clear hpf
      obtain ⟨HPD, hst2⟩ := HGO
      have HPD := Lib.hid HPD
      have HTwq : Hid (PT w b2 r cb B4 wq (st2 L) { cz with tr := tr } (.slice pa done.length pc) (.slice none 0 0) done) := by rw [hst2]; exact ⟨HPQ.out.rd, HTR.out, HPQ.out.co, HPQ.out.own, HPQ.out.z, HPQ.out.bel, HPQ.out.sz⟩
      have HSTL := Lib.hid (st_len L)
      clear hst2 HPQ HPO2 HSZ HSL HDL HFU HEQ
      go_wp2_with fail
      obtain ⟨WA, hWA⟩ : ∃ x, (personE (valS kAut (st2 L)).1).1 = x := ⟨_, rfl⟩
      have HWAE : Hid ((whoS kAut (st2 L)).1 = WA) := by show _ = _; unfold whoS; exact hWA
      have h0WA := rdwho_any r kAut (st2 L)
      rw [hWA, show (whoS kAut (st2 L)).2 = st3 L by unfold st3; rfl] at h0WA
      have H0WA := Lib.hid h0WA
      clear hWA h0WA
      refine (H0WA.out wq HTwq.out.rd (by decide) (by decide) (by have := HL.out; have := HSTL.out; omega) (HENV.out wq HTwq.out.bel)).mono ?_
      rintro e w6 ⟨rfl, hr, hf⟩
      have HTw6 := Lib.hid (HTwq.out.frr hf hr HN.out.1 HN.out.2.1 HN.out.2.2.1 HN.out.2.2.2)
      clear hr hf HTwq
      have HTH : Hid (w6.there cb 21 (whoA WA).size) := co_there HTw6.out.co HTw6.out.h20 21 (by decide)
      have HTN : Hid (PT w b2 r cb B4 (w6.setCells cb 21 (whoA WA).toList) (st3 L) { cz with tr := tr, a := WA } (.slice pa done.length pc) (.slice none 0 0) done) := HTw6.out.cells 21 (whoL WA) { cz with tr := tr, a := WA } HTR.out (coA_author { cz with tr := tr } _ _ HTR.out WA) HN.out.1 HN3.out HN2.out.1 (Nat.le_of_lt HN4.out)
      go_wp2_with (first
        | (refine wpList_store_mid rfl 31 _ _ rfl cb 21 (whoA WA) rfl rfl HTH.out (info_who WA) (who_one WA) ?_
           clear HTH
           generalize w6.setCells cb 21 (whoA WA).toList = w7 at *))
      have HTw7 := HTN
      clear HTN
      obtain ⟨WC, hWC⟩ : ∃ x, (personE (valS kCom (st3 L)).1).1 = x := ⟨_, rfl⟩
      have HWCE : Hid ((whoS kCom (st3 L)).1 = WC) := by show _ = _; unfold whoS; exact hWC
      have h0WC := rdwho_any r kCom (st3 L)
      rw [hWC, show (whoS kCom (st3 L)).2 = st4 L by unfold st4; rfl] at h0WC
      have H0WC := Lib.hid h0WC
      clear hWC h0WC
      refine (H0WC.out w7 HTw7.out.rd (by decide) (by decide) (by have := HL.out; have := HSTL.out; omega) (HENV.out w7 HTw7.out.bel)).mono ?_
      rintro e w8 ⟨rfl, hr, hf⟩
      have HTw8 := Lib.hid (HTw7.out.frr hf hr HN.out.1 HN.out.2.1 HN.out.2.2.1 HN.out.2.2.2)
      clear hr hf HTw7
      have HTH : Hid (w8.there cb 25 (whoA WC).size) := co_there HTw8.out.co HTw8.out.h20 25 (by decide)
      have HTN : Hid (PT w b2 r cb B4 (w8.setCells cb 25 (whoA WC).toList) (st4 L) { cz with tr := tr, a := WA, c := WC } (.slice pa done.length pc) (.slice none 0 0) done) := HTw8.out.cells 25 (whoL WC) { cz with tr := tr, a := WA, c := WC } HTR.out (coA_committer { cz with tr := tr, a := WA } _ _ HTR.out WC) HN.out.1 HN3.out HN2.out.1 (Nat.le_of_lt HN4.out)
      go_wp2_with (first
        | (refine wpList_store_mid rfl 31 _ _ rfl cb 25 (whoA WC) rfl rfl HTH.out (info_who WC) (who_one WC) ?_
           clear HTH
           generalize w8.setCells cb 25 (whoA WC).toList = w9 at *))
      have HTw9 := HTN
      clear HTN
      refine (extras_any r (st4 L) w9 HTw9.out.rd (by have := HL.out; have := HSTL.out; omega) (HENV.out w9 HTw9.out.bel)).mono ?_
      rintro e w10 ⟨hx, hf⟩
      obtain ⟨xv0, rfl, hox, hr⟩ := extsR_S hx
      have hr : RdAt w10 r (st5 L) := by unfold st5; exact hr
      have HT10 := Lib.hid (HTw9.out.frr hf hr HN.out.1 HN.out.2.1 HN.out.2.2.1 HN.out.2.2.2)
      obtain ⟨xs, hxs⟩ : ∃ x, (exS (st4 L)).1 = x := ⟨_, rfl⟩
      have HXS := Lib.hid hxs
      rw [hxs] at hox
      obtain ⟨xa, xc, hsh⟩ := hox.shape
      subst hsh
      have HOX := Lib.hid hox
      have HB9 : Hid (B4 ≤ w9.heap.size) := HTw9.out.sz
      clear hx hr hf hox hxs HTw9
      have hco := (CoRow.of HT10.out.co HTR.out).exts
      have hfo := frozen_of_row w10 cb 29 _ _ HT10.out.co
      have HT11 : Hid (PT w b2 r cb B4 (w10.setCell ⟨cb, 29, none⟩ (.slice xa xs.length xc)) (st5 L) { cz with tr := tr, a := WA, c := WC } (.slice pa done.length pc) (.slice xa xs.length xc) done) := HT10.out.cell 29 _ { cz with tr := tr, a := WA, c := WC } HTR.out (by rw [coA_set _ _ _ HTR.out 9]; rfl) HN.out.1 HN3.out HN2.out.1 (Nat.le_of_lt HN4.out)
      have HOX11 : Hid (OwnG 2 extE 69 (w10.setCell ⟨cb, 29, none⟩ (.slice xa xs.length xc)) w9.heap.size (.slice xa xs.length xc) xs) := HOX.out.move fun g hg _ => heap_setCell_ne w10 ⟨cb, 29, none⟩ _ g (by have h1 := HN2.out.1; have h2 := HB9.out; show g ≠ cb; omega)
      go_wp2_with fail
      clear hco hfo HT10 HOX
      generalize w10.setCell ⟨cb, 29, none⟩ (.slice xa xs.length xc) = w11 at *
      obtain ⟨MS, hMS⟩ : ∃ x, txt (msgS (st5 L)).1 = x := ⟨_, rfl⟩
      obtain ⟨b, hb⟩ : ∃ b, (msgS (st5 L)).2.2 = b := ⟨_, rfl⟩
      obtain ⟨lf, hlf⟩ : ∃ b, (msgS (st5 L)).2.1 = b := ⟨_, rfl⟩
      have HMS := Lib.hid hMS
      have HBW := Lib.hid hb
      have HM2 : Hid ((msgS (st5 L)).2 = (lf, b)) := Prod.ext hlf hb
      have h0m := message_any r (st5 L)
      simp only [hMS, HM2.out] at h0m
      have hl5 : (st5 L).1.length ≤ 1000000 := by
        have h1 := (exs_len (st4 L) HSTL.out.2.2.2.1 HL.out).2.1
        unfold st5
        exact Nat.le_trans h1 (by decide)
      have H0M : Hid (∀ W, RdAt W r (st5 L) → Calls Tryz.prog 93 #[.pointer (some ⟨r, 0, none⟩)] W fun e w' => e = .returned (.string MS) ∧ RdAt w' r (lf, b) ∧ FrR r W w') := fun W hW => h0m W hW hl5
      clear h0m hl5 hMS hb hlf
      refine (H0M.out w11 HT11.out.rd).mono ?_
      rintro e w12 ⟨rfl, hr, hf⟩
      have HT12 := Lib.hid (HT11.out.frr hf hr HN.out.1 HN.out.2.1 HN.out.2.2.1 HN.out.2.2.2)
      have HOX12 := Lib.hid (HOX11.out.frr hf (by have := HN.out; have := HB9.out; omega))
      clear hr hf HT11 HOX11
      have hco := (CoRow.of HT12.out.co HTR.out).msg
      have hfo := frozen_of_row w12 cb 30 _ _ HT12.out.co
      have HT13 : Hid (PT w b2 r cb B4 (w12.setCell ⟨cb, 30, none⟩ (.string MS)) (lf, b) { cz with tr := tr, a := WA, c := WC, m := MS } (.slice pa done.length pc) (.slice xa xs.length xc) done) := HT12.out.cell 30 _ { cz with tr := tr, a := WA, c := WC, m := MS } HTR.out (by rw [coA_set _ _ _ HTR.out 10]; rfl) HN.out.1 HN3.out HN2.out.1 (Nat.le_of_lt HN4.out)
      have HOX13 : Hid (OwnG 2 extE 69 (w12.setCell ⟨cb, 30, none⟩ (.string MS)) w9.heap.size (.slice xa xs.length xc) xs) := HOX12.out.move fun g hg _ => heap_setCell_ne w12 ⟨cb, 30, none⟩ _ g (by have h1 := HN2.out.1; have h2 := HB9.out; show g ≠ cb; omega)
      have HRC : Hid (rawC L = ⟨tr, done, WA, WC, xs, MS⟩) := by show _ = _; unfold rawC; rw [HTRE.out, HPD.out, HWAE.out, HWCE.out, HXS.out, HMS.out]
      have HRS := raw_small L HL.out
      rw [HRC.out] at HRS
      have HRS := Lib.hid HRS
      have HIC : Hid ((Tryz.prog.info? 34).map (·.size) = some (coL { cz with tr := tr, a := WA, c := WC, m := MS } (.slice pa done.length pc) (.slice xa xs.length xc)).length) := info_co { cz with tr := tr, a := WA, c := WC, m := MS } _ _ HTR.out
      have HICA : Hid ((Tryz.prog.info? 34).map (·.size) = some (coA { cz with tr := tr, a := WA, c := WC, m := MS } (.slice pa done.length pc) (.slice xa xs.length xc)).size) := info_coA { cz with tr := tr, a := WA, c := WC, m := MS } _ _ HTR.out
      have HICZ : Hid ((Tryz.prog.info? 34).map (·.size) = some (coA cz (.slice none 0 0) (.slice none 0 0)).size) := info_coA cz _ _ cz_20
      have HOZ : Hid ((coA cz (.slice none 0 0) (.slice none 0 0)).all (·.oneCell') = true) := coA_one cz _ _ rfl rfl
      have HOC : Hid ((coA { cz with tr := tr, a := WA, c := WC, m := MS } (.slice pa done.length pc) (.slice xa xs.length xc)).all (·.oneCell') = true) := coA_one { cz with tr := tr, a := WA, c := WC, m := MS } _ _ rfl rfl
      have HSC : Hid ((coA cz (.slice none 0 0) (.slice none 0 0)).size = (coA { cz with tr := tr, a := WA, c := WC, m := MS } (.slice pa done.length pc) (.slice xa xs.length xc)).size) := by show _ = _; rw [coA_size _ _ _ cz_20, coA_size { cz with tr := tr, a := WA, c := WC, m := MS } _ _ HTR.out]
      have hwr : (w12.setCell ⟨cb, 30, none⟩ (.string MS)).cell? ⟨r, 1, none⟩ = some (.bool b) := HT13.out.rd.wrong
      clear HT12 HOX12
      cases b
      rotate_left
      · have HPC : Hid (parseC L = none) := by show _ = _; unfold parseC; rw [HBW.out]; rfl
        go_wp2_with (first
          | refine wpList_buildQ rfl 34 _ rfl #[] (by rfl) _ build_co0 ?_
          | refine wpList_store_row rfl 34 _ _ rfl b2 (coA cz (.slice none 0 0) (.slice none 0 0)) rfl rfl 34 (coA cz (.slice none 0 0) (.slice none 0 0)) HT13.out.z HICZ.out rfl HOZ.out ?_)
        refine bodyPost_ret (results_row_tmp Tryz.results63 _ _ b2 34 (coA cz (.slice none 0 0) (.slice none 0 0)) (0, 0) _ rfl (setRow_heap _ _ _ _ _ _ HT13.out.z) Tryz.underlying34 rfl HICZ.out) rfl ⟨?_, ?_⟩
        · rw [HPC.out]; exact rfl
        · exact below_setRow HT13.out.bel (Nat.le_of_eq HBE.out) _
      obtain ⟨hxr, hxn⟩ := HOX13.out.fs extE_len
      have HXR := Lib.hid hxr
      have hrt := coright_any ⟨tr, done, WA, WC, xs, MS⟩ (.slice pa done.length pc) xa xc (w12.setCell ⟨cb, 30, none⟩ (.string MS)) HTR.out hxr HRS.out
      obtain ⟨q, hq⟩ : ∃ q, coR ⟨tr, done, WA, WC, xs, MS⟩ = q := ⟨_, rfl⟩
      have HQ := Lib.hid hq
      rw [hq] at hrt
      have HRT := Lib.hid hrt
      have HCE : Hid (coA { cz with tr := tr, a := WA, c := WC, m := MS } (.slice pa done.length pc) (.slice xa xs.length xc) = coA ⟨tr, done, WA, WC, xs, MS⟩ (.slice pa done.length pc) (.slice xa xs.length xc)) := rfl
      clear hxr hxn hrt hq
      go_wp2_with (first
        | (refine wpList_load_mid_g rfl 34 _ rfl cb 0 rfl (coL { cz with tr := tr, a := WA, c := WC, m := MS } (.slice pa done.length pc) (.slice xa xs.length xc)) _ (CoRow.of HT13.out.co HTR.out).cells Tryz.underlying34 rfl HIC.out ?_))
      clear hwr hco hfo
      refine HRT.out.mono ?_
      rintro e w14 ⟨rfl, hb⟩
      have HT14 := Lib.hid (HT13.out.frr (FrR.of (r := r) hb) (HT13.out.rd.below hb) HN.out.1 HN.out.2.1 HN.out.2.2.1 HN.out.2.2.2)
      have HOX14 := Lib.hid (HOX13.out.below hb)
      clear hb HT13 HOX13 HRT
      cases q
      · have HPC : Hid (parseC L = none) := by show _ = _; unfold parseC; rw [HBW.out, HRC.out, HQ.out]; rfl
        go_wp2_with (first
          | refine wpList_buildQ rfl 34 _ rfl #[] (by rfl) _ build_co0 ?_
          | refine wpList_store_row rfl 34 _ _ rfl b2 (coA cz (.slice none 0 0) (.slice none 0 0)) rfl rfl 34 (coA cz (.slice none 0 0) (.slice none 0 0)) HT14.out.z HICZ.out rfl HOZ.out ?_)
        refine bodyPost_ret (results_row_tmp Tryz.results63 _ _ b2 34 (coA cz (.slice none 0 0) (.slice none 0 0)) (0, 0) _ rfl (setRow_heap _ _ _ _ _ _ HT14.out.z) Tryz.underlying34 rfl HICZ.out) rfl ⟨?_, ?_⟩
        · rw [HPC.out]; exact rfl
        · exact below_setRow HT14.out.bel (Nat.le_of_eq HBE.out) _
      · have HPC : Hid (parseC L = some ⟨tr, done, WA, WC, xs, MS⟩) := by show _ = _; unfold parseC; rw [HBW.out, HRC.out, HQ.out]; rfl
        go_wp2_with (first
          | (refine wpList_load_mid rfl 34 _ rfl cb 0 rfl (coL { cz with tr := tr, a := WA, c := WC, m := MS } (.slice pa done.length pc) (.slice xa xs.length xc)) _ (CoRow.of HT14.out.co HTR.out).cells Tryz.underlying34 rfl HIC.out ?_)
          | refine wpList_store_row rfl 34 _ _ rfl b2 (coA { cz with tr := tr, a := WA, c := WC, m := MS } (.slice pa done.length pc) (.slice xa xs.length xc)) rfl rfl 34 (coA cz (.slice none 0 0) (.slice none 0 0)) HT14.out.z HICA.out HSC.out HOC.out ?_)
        refine bodyPost_ret (results_row_tmp Tryz.results63 _ _ b2 34 (coA { cz with tr := tr, a := WA, c := WC, m := MS } (.slice pa done.length pc) (.slice xa xs.length xc)) (0, 0) _ rfl (setRow_heap _ _ _ _ _ _ HT14.out.z) Tryz.underlying34 rfl HICA.out) rfl ⟨?_, ?_⟩
        · rw [HPC.out]
          obtain ⟨hpr, -⟩ := HT14.out.own.fs idE_len
          obtain ⟨hxr, -⟩ := HOX14.out.fs extE_len
          have hids : ∀ p ∈ done, p.length = 20 ∧ ∀ x ∈ p, 0 ≤ x ∧ x ≤ 255 := by rw [← HPD.out]; unfold parO; exact parG_ids _ _
          have hpb : ∀ b' off, pa = some ⟨b', off, none⟩ → B4 ≤ b' := fun b' off he => HT14.out.own.base he
          have hxb : ∀ b' off, xa = some ⟨b', off, none⟩ → w9.heap.size ≤ b' := fun b' off he => HOX14.out.base he
          refine ⟨pa, pc, xa, xc, rfl, ⟨HTR.out, HTB.out, hids, rowat_setRow hpr fun b' off he _ => ?_, rowat_setRow hxr fun b' off he _ => ?_⟩, fun b' off he => ?_, fun b' off he => ?_⟩
          · have h1 := hpb b' off he; have h2 := HN2.out; omega
          · have h1 := hxb b' off he; have h2 := HN2.out; have h3 := HB9.out; omega
          · have h1 := hpb b' off he; have h2 := HN2.out; omega
          · have h1 := hxb b' off he; have h2 := HN2.out; have h3 := HB9.out; omega
        · exact below_setRow HT14.out.bel (Nat.le_of_eq HBE.out) _
end Go.Proofs.YtkpiinjhcckhfaaGreatDoor
