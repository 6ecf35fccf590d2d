/- commit.Parse, plainly; the walk. -/
import Derived.Test.YtindmggmblmmcaaDoorCoRd4
namespace Go.Proofs.YtindmggmblmmcaaDoor
open Go.RowKit Plain Go.ChangeShapes Go.WideShapes Go.ChangeAt Go.Great
set_option linter.unusedVariables false
set_option linter.unusedSimpArgs false
def kTree : List UInt8 := [116, 114, 101, 101]
def kPar : List UInt8 := [112, 97, 114, 101, 110, 116]
def kAut : List UInt8 := [97, 117, 116, 104, 111, 114]
def kCom : List UInt8 := [99, 111, 109, 109, 105, 116, 116, 101, 114]
def parG : Nat → St → List (List Int) × St
  | 0, s => ([], s)
  | f + 1, s => if Lib.hasPrefix s.1 (kPar ++ [32]) = true then ((idS kPar s).1 :: (parG f (idS kPar s).2).1, (parG f (idS kPar s).2).2) else ([], s)
def parO (s : St) : List (List Int) × St := parG (s.1.length + 1) s
def exS (s : St) : List (ByteArray × ByteArray) × St := match exO s.1 with
  | some (xs, l) => (xs, (l, s.2))
  | none => ([], ([], true))
def st1 (L : List UInt8) : St := (idS kTree (L, false)).2
def st2 (L : List UInt8) : St := (parO (st1 L)).2
def st3 (L : List UInt8) : St := (whoS kAut (st2 L)).2
def st4 (L : List UInt8) : St := (whoS kCom (st3 L)).2
def st5 (L : List UInt8) : St := (exS (st4 L)).2
def rawC (L : List UInt8) : CC := ⟨(idS kTree (L, false)).1, (parO (st1 L)).1, (whoS kAut (st2 L)).1, (whoS kCom (st3 L)).1, (exS (st4 L)).1, txt (msgS (st5 L)).1⟩
def parseC (L : List UInt8) : Option CC := if (msgS (st5 L)).2.2 = true then none else if coR (rawC L) = true then some (rawC L) else none
def cz : CC := ⟨zeros20, [], wzero, wzero, [], ⟨#[]⟩⟩
theorem cz_20 : cz.tr.length = 20 := by show zeros20.length = 20; decide +kernel
theorem zero_co (W : World) : (zeroValue 35).run Tryd.prog W = .ok (.agg (coA cz (.slice none 0 0) (.slice none 0 0))) W := by kernel_rfl
theorem build_co0 (W : World) : (Instr.build 35 #[]).run Tryd.prog W = .ok (.agg (coA cz (.slice none 0 0) (.slice none 0 0))) W := run_build W _ _ _ (by kernel_rfl)
theorem list20 {xs : List Int} (h : xs.length = 20) : ∃ a0 a1 a2 a3 a4 a5 a6 a7 a8 a9 a10 a11 a12 a13 a14 a15 a16 a17 a18 a19 : Int, xs = [a0, a1, a2, a3, a4, a5, a6, a7, a8, a9, a10, a11, a12, a13, a14, a15, a16, a17, a18, a19] := by
  match xs, h with
  | [a0, a1, a2, a3, a4, a5, a6, a7, a8, a9, a10, a11, a12, a13, a14, a15, a16, a17, a18, a19], _ => exact ⟨a0, a1, a2, a3, a4, a5, a6, a7, a8, a9, a10, a11, a12, a13, a14, a15, a16, a17, a18, a19, rfl⟩
theorem built_cot (a0 a1 a2 a3 a4 a5 a6 a7 a8 a9 a10 a11 a12 a13 a14 a15 a16 a17 a18 a19 : Int) : Tryd.prog.built 35 [(0, .agg #[.int .u8 a0, .int .u8 a1, .int .u8 a2, .int .u8 a3, .int .u8 a4, .int .u8 a5, .int .u8 a6, .int .u8 a7, .int .u8 a8, .int .u8 a9, .int .u8 a10, .int .u8 a11, .int .u8 a12, .int .u8 a13, .int .u8 a14, .int .u8 a15, .int .u8 a16, .int .u8 a17, .int .u8 a18, .int .u8 a19])] = some (coA { cz with tr := [a0, a1, a2, a3, a4, a5, a6, a7, a8, a9, a10, a11, a12, a13, a14, a15, a16, a17, a18, a19] } (.slice none 0 0) (.slice none 0 0)) := by kernel_rfl
theorem build_cot (n : List Int) (h : n.length = 20) (W : World) : (Instr.build 35 #[(0, .agg (V8 n))]).run Tryd.prog W = .ok (.agg (coA { cz with tr := n } (.slice none 0 0) (.slice none 0 0))) W := by
  obtain ⟨a0, a1, a2, a3, a4, a5, a6, a7, a8, a9, a10, a11, a12, a13, a14, a15, a16, a17, a18, a19, rfl⟩ := list20 h
  exact run_build W _ _ _ (built_cot a0 a1 a2 a3 a4 a5 a6 a7 a8 a9 a10 a11 a12 a13 a14 a15 a16 a17 a18 a19)
theorem build_rest (s : ByteArray) (W : World) : (Instr.build 61 #[(0, .string s)]).run Tryd.prog W = .ok (.agg #[.string s]) W := run_build W _ _ _ (by kernel_rfl)
theorem build_rd (s : ByteArray) (W : World) : (Instr.build 63 #[(0, .agg #[.string s])]).run Tryd.prog W = .ok (.agg #[.string s, .bool false]) W := run_build W _ _ _ (by kernel_rfl)
theorem zero_rd (W : World) : (zeroValue 63).run Tryd.prog W = .ok (.agg #[.string ⟨#[]⟩, .bool false]) W := by kernel_rfl
theorem idS_len (k : List UInt8) (s : St) : (idS k s).2.1.length ≤ s.1.length := by
  have := (valS_len k s).2
  unfold idS
  split
  · exact this
  · simp
theorem whoS_len (k : List UInt8) (s : St) : (whoS k s).2.1.length ≤ s.1.length := by
  have := (valS_len k s).2
  unfold whoS
  dsimp only
  split
  · exact this
  · simp
theorem idS_lt (k : List UInt8) (s : St) (h : Lib.hasPrefix s.1 (k ++ [32]) = true) : (idS k s).2.1.length < s.1.length := by
  have h0 : 0 < s.1.length := by
    unfold Lib.hasPrefix at h
    obtain ⟨r, hr⟩ := List.isPrefixOf_iff_prefix.1 h
    rw [← hr]
    simp; omega
  unfold idS
  dsimp only
  split
  · unfold valS valO
    split
    · rename_i v l hv
      split at hv
      · simp only [Option.some.injEq, Prod.mk.injEq] at hv
        obtain ⟨-, rfl⟩ := hv
        show (s.1.drop _).length < _
        rw [List.length_drop]; omega
      · cases hv
    · exact h0
  · exact h0
theorem parG_len : ∀ (f : Nat) (s : St), (parG f s).1.length + (parG f s).2.1.length ≤ s.1.length
  | 0, s => by simp [parG]
  | f + 1, s => by
    unfold parG
    split
    · rename_i h
      have h1 := idS_lt kPar s h
      have h2 := parG_len f (idS kPar s).2
      simp only [List.length_cons]
      omega
    · simp
theorem parG_ids : ∀ (f : Nat) (s : St), ∀ p ∈ (parG f s).1, p.length = 20 ∧ ∀ x ∈ p, 0 ≤ x ∧ x ≤ 255
  | 0, s, p, hp => by simp [parG] at hp
  | f + 1, s, p, hp => by
    unfold parG at hp
    split at hp
    · rcases List.mem_cons.1 hp with rfl | hp
      · exact ⟨parsed_length _, parsed_bytes _⟩
      · exact parG_ids f _ p hp
    · simp at hp
theorem wzero_small : WhoSmall wzero := by show _ ∧ _ ∧ _ ∧ _ ∧ _; decide
theorem personE_small (V : List UInt8) (h : V.length ≤ 40000) : WhoSmall (personE V).1 := by
  unfold personE
  split
  · rename_i x hx
    split
    · unfold personR at hx
      have l1 := cutS_len V [32, 60]
      have l2 := cutS_len (Lib.cut V [32, 60]).2.1 [62, 32]
      have l3 := cutS_len (Lib.cut (Lib.cut V [32, 60]).2.1 [62, 32]).2.1 [32]
      have l4 := decF_le (Lib.cut (Lib.cut (Lib.cut V [32, 60]).2.1 [62, 32]).2.1 [32]).1
      split at hx
      · split at hx
        · split at hx
          · simp only [Option.some.injEq] at hx
            subst hx
            refine ⟨?_, ?_, ?_, ?_, ?_⟩
            · show (txt _).size ≤ _; rw [txt_size]; omega
            · show (txt _).size ≤ _; rw [txt_size]; omega
            · show (txt _).size ≤ _; rw [txt_size]; omega
            · show -9223372036854775808 ≤ ((_ : Nat) : Int); omega
            · show ((_ : Nat) : Int) ≤ _; omega
          · cases hx
        · cases hx
      · cases hx
    · exact wzero_small
  · exact wzero_small
theorem whoS_small (k : List UInt8) (s : St) (h : s.1.length ≤ 40000) : WhoSmall (whoS k s).1 := personE_small _ (Nat.le_trans (valS_len k s).1 h)
theorem exG_small : ∀ (f : Nat) (l : List UInt8) (xs : List (ByteArray × ByteArray)) (r : List UInt8), exG f l = some (xs, r) → l.length ≤ 15000 → xs.length + r.length ≤ l.length ∧ ∀ x ∈ xs, ExtSmall x
  | 0, l, xs, r, h, hl => by simp [exG] at h
  | f + 1, l, xs, r, h, hl => by
    unfold exG at h
    split at h
    · simp only [Option.some.injEq, Prod.mk.injEq] at h
      obtain ⟨rfl, rfl⟩ := h
      simp
    · split at h
      · cases h
      · rename_i n hn
        split at h
        · cases h
        · rename_i x hx
          obtain ⟨p, hp, he⟩ := Option.map_eq_some_iff.1 h
          simp only [Prod.mk.injEq] at he
          obtain ⟨rfl, rfl⟩ := he
          have hd := rd_len_x hn
          obtain ⟨h1, h2⟩ := exG_small f _ p.1 p.2 hp (by omega)
          refine ⟨by rw [List.length_cons]; omega, fun y hy => ?_⟩
          rcases List.mem_cons.1 hy with rfl | hy
          · unfold lineX at hx
            split at hx
            · simp only [Option.some.injEq] at hx
              subst hx
              have l1 := cutS_len (l.take n) [32]
              have l2 := replace_len (Lib.cut (l.take n) [32]).2.1 [10, 32] [10]
              rw [List.length_take] at l1
              simp only [List.length_cons, List.length_nil] at l2
              refine ⟨?_, ?_⟩
              · show (txt _).size ≤ _; rw [txt_size]; omega
              · show (txt _).size ≤ _; rw [txt_size]; omega
            · cases hx
          · exact h2 y hy
theorem exS_small (s : St) (h : s.1.length ≤ 15000) : (exS s).1.length + (exS s).2.1.length ≤ s.1.length ∧ ∀ x ∈ (exS s).1, ExtSmall x := by
  unfold exS
  split
  · rename_i xs l hx
    exact exG_small _ _ _ _ hx h
  · simp
theorem msgS_len (s : St) : (msgS s).1.length ≤ s.1.length := by
  obtain ⟨l, b⟩ := s
  unfold msgS
  cases l with
  | nil => simp
  | cons c t =>
    dsimp only
    split
    · simp
    · simp
theorem parO_len (s : St) : (parO s).1.length + (parO s).2.1.length ≤ s.1.length := by unfold parO; exact parG_len _ s
theorem len_st2 (L : List UInt8) : (st2 L).1.length ≤ (st1 L).1.length := by
  unfold st2
  generalize st1 L = s
  exact Nat.le_trans (Nat.le_add_left _ _) (parO_len s)
theorem len_st3 (L : List UInt8) : (st3 L).1.length ≤ (st2 L).1.length := by
  unfold st3
  generalize st2 L = s
  exact whoS_len kAut s
theorem len_st4 (L : List UInt8) : (st4 L).1.length ≤ (st3 L).1.length := by
  unfold st4
  generalize st3 L = s
  exact whoS_len kCom s
theorem len_ps (L : List UInt8) : (parO (st1 L)).1.length ≤ (st1 L).1.length := by
  generalize st1 L = s
  exact Nat.le_trans (Nat.le_add_right _ _) (parO_len s)
theorem st_len (L : List UInt8) : (st1 L).1.length ≤ L.length ∧ (st2 L).1.length ≤ L.length ∧ (st3 L).1.length ≤ L.length ∧ (st4 L).1.length ≤ L.length ∧ (parO (st1 L)).1.length ≤ L.length := by
  have e1 : (st1 L).1.length ≤ L.length := by
    unfold st1
    exact idS_len kTree (L, false)
  have e2 := len_st2 L
  have e3 := len_st3 L
  have e4 := len_st4 L
  have e5 := len_ps L
  have e12 := Nat.le_trans e2 e1
  have e13 := Nat.le_trans e3 e12
  exact ⟨e1, e12, e13, Nat.le_trans e4 e13, Nat.le_trans e5 e1⟩
theorem small_of (tr : List Int) (ps : List (List Int)) (a c : WX) (xs : List (ByteArray × ByteArray)) (m : List UInt8) (ha : WhoSmall a) (hc : WhoSmall c) (hp : ps.length ≤ 40000) (hx : xs.length ≤ 40000) (hxs : ∀ x ∈ xs, ExtSmall x) (hm : m.length ≤ 40000) : CoSmall ⟨tr, ps, a, c, xs, txt m⟩ := ⟨ha, hc, hp, hx, hxs, by rw [txt_size]; exact hm⟩
theorem exs_len {n : Nat} (s : St) (h : s.1.length ≤ n) (hn : n ≤ 15000) : (exS s).1.length ≤ 40000 ∧ (exS s).2.1.length ≤ 40000 ∧ ∀ x ∈ (exS s).1, ExtSmall x := by
  obtain ⟨h1, h2⟩ := exS_small s (Nat.le_trans h hn)
  generalize (exS s).1.length = a at *
  generalize (exS s).2.1.length = b at *
  exact ⟨by omega, by omega, h2⟩
theorem raw_small (L : List UInt8) (h : L.length ≤ 15000) : CoSmall (rawC L) := by
  obtain ⟨-, h2, h3, h4, h5⟩ := st_len L
  obtain ⟨h6, h8, h7⟩ := exs_len (st4 L) h4 h
  have h40 : L.length ≤ 40000 := Nat.le_trans h (by decide)
  unfold rawC
  exact small_of _ _ _ _ _ _ (whoS_small kAut (st2 L) (Nat.le_trans h2 h40)) (whoS_small kCom (st3 L) (Nat.le_trans h3 h40)) (Nat.le_trans h5 h40) h6 h7 (Nat.le_trans (msgS_len (st5 L)) (by unfold st5; exact h8))
end Go.Proofs.YtindmggmblmmcaaDoor
