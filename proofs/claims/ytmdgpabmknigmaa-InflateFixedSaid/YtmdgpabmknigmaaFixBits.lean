/- Bits that are set in bytes, one by one: plainly; strings that grow. -/
import Derived.Test.YtmdgpabmknigmaaFixMath
namespace Go.Proofs.Ytmdgpabmknigmaa
open Go.RowKit Plain
set_option linter.unusedVariables false
def ViaVal (A : Value → Act) (R : Value → World → Prop) : Exit → Act → World → Prop
  | .normal, a, w => ∃ x, a = A x ∧ R x w
  | _, _, _ => False
theorem wp_via_val {P : Program} {c : Code} {Q : Exit → Act → World → Prop} {a : Act} {w : World} {R : Value → World → Prop} (A : Value → Act) (h1 : c.wp P (ViaVal A R) a w) (h2 : ∀ x W, R x W → Q .normal (A x) W) : c.wp P Q a w := by
  refine wp_mono h1 fun e a' w' h => ?_
  cases e with
  | normal =>
    obtain ⟨x, ha, hr⟩ := h
    subst ha
    exact h2 x w' hr
  | _ => exact h.elim
theorem nums_append (xs ys : List Int) : strOfNums xs ++ strOfNums ys = strOfNums (xs ++ ys) := by
  apply ByteArray.ext
  apply Array.toList_inj.1
  simp [strOfNums]
theorem pv_snoc (s : List Int) (c : Int) (v : Nat × Nat) : pv (s ++ [c]) v = put (if c = 49 then 1 else 0) 1 (pv s v) := by rw [pv_append]; rfl
/-- The bytes that hold i bits. -/
def heldN (V : Nat × Nat) : List Int := bytesN V.1 ((V.2 + 7) / 8)
theorem held_open {V : Nat × Nat} (h : Lt V) (h8 : V.2 % 8 = 0) : bytesN V.1 (V.2 / 8 + 1) = heldN V ++ [0] := by
  unfold heldN
  rw [show (V.2 + 7) / 8 = V.2 / 8 by omega, bytesN_succ, show 8 * (V.2 / 8) = V.2 by omega, Nat.div_eq_of_lt h]
  rfl
theorem held_zero {V : Nat × Nat} : heldN (put 0 1 V) = bytesN V.1 (V.2 / 8 + 1) := by
  unfold heldN put
  simp only [Nat.zero_mul, Nat.add_zero]
  rw [show (V.2 + 1 + 7) / 8 = V.2 / 8 + 1 by omega]
/-- The last byte takes one bit more. -/
theorem held_one {V : Nat × Nat} (h : Lt V) : V.1 / 2 ^ (8 * (V.2 / 8)) < 2 ^ (V.2 % 8) ∧ bytesN V.1 (V.2 / 8 + 1) = bytesN V.1 (V.2 / 8) ++ [((V.1 / 2 ^ (8 * (V.2 / 8)) : Nat) : Int)] ∧
    heldN (put 1 1 V) = (bytesN V.1 (V.2 / 8 + 1)).set (V.2 / 8) ((V.1 / 2 ^ (8 * (V.2 / 8)) + 2 ^ (V.2 % 8) : Nat) : Int) := by
  have h1 := held_lt h
  have hp : 2 ^ (V.2 % 8) ≤ 128 := by
    have := Nat.pow_le_pow_right (n := 2) (by omega) (show V.2 % 8 ≤ 7 by omega)
    simpa using this
  have e1 : bytesN V.1 (V.2 / 8 + 1) = bytesN V.1 (V.2 / 8) ++ [((V.1 / 2 ^ (8 * (V.2 / 8)) : Nat) : Int)] := by
    rw [bytesN_succ, Nat.mod_eq_of_lt (by omega)]
  refine ⟨h1, e1, ?_⟩
  unfold heldN put
  simp only []
  rw [show (V.2 + 1 + 7) / 8 = V.2 / 8 + 1 by omega, bytesN_succ, bytesN_more V.1 V.2 1 _ (by omega), Plain.held_more, e1]
  rw [List.set_append_right _ _ (by rw [bytesN_len]; exact Nat.le_refl _), bytesN_len, Nat.sub_self, List.set_cons_zero, Nat.one_mul, Nat.mod_eq_of_lt (by omega)]
theorem or_bit8 : ∀ k : Nat, k < 8 → ∀ h : Nat, h < 2 ^ k → bits .or .u8 (h : Int) ((2 : Int) ^ k % 256) = ((h + 2 ^ k : Nat) : Int) := by decide +kernel
theorem mid_cell {w : World} {base g o n c : Nat} {xs : List Int} (h : Mid w base (.slice (some ⟨g, o, none⟩) n c) n xs) (j : Nat) (hj : j < n) : w.cell? ⟨g, o + j, none⟩ = some (.int .u8 (xs[j]?.getD 0)) ∧ w.frozen? ⟨g, o + j, none⟩ = false := by
  obtain ⟨hl, ⟨e, h0⟩ | ⟨g', o', cap, e, hb, hlt, hn, hc, hr, ht⟩⟩ := h
  · omega
  · simp only [Value.slice.injEq, Option.some.injEq, Addr.mk.injEq, true_and, and_true] at e
    obtain ⟨⟨rfl, rfl⟩, rfl⟩ := e
    refine ⟨hr j _ ?_, (ht j (by omega)).2⟩
    unfold U8
    rw [List.getElem?_map, List.getElem?_eq_getElem (by omega)]; rfl
theorem mid_set {w : World} {base g o n c : Nat} {xs : List Int} (h : Mid w base (.slice (some ⟨g, o, none⟩) n c) n xs) (j : Nat) (hj : j < n) (y : Int) :
    Mid (w.setCell ⟨g, o + j, none⟩ (.int .u8 y)) base (.slice (some ⟨g, o, none⟩) n c) n (xs.set j y) := by
  obtain ⟨hl, ⟨e, h0⟩ | ⟨g', o', cap, e, hb, hlt, hn, hc, hr, ht⟩⟩ := h
  · omega
  · simp only [Value.slice.injEq, Option.some.injEq, Addr.mk.injEq, true_and, and_true] at e
    obtain ⟨⟨rfl, rfl⟩, rfl⟩ := e
    refine ⟨by rw [List.length_set]; exact hl, .inr ⟨g, o, c, rfl, hb, ?_, hn, hc, ?_, World.there_setCells ht g (o + j) [.int .u8 y]⟩⟩
    · rw [World.size_setCell]; exact hlt
    · intro i v hv
      unfold U8 at hv
      rw [List.getElem?_map] at hv
      by_cases hij : i = j
      · subst hij
        rw [List.getElem?_set_self (by omega)] at hv
        injection hv with hv
        subst hv
        refine World.cell?_setCell_same w _ _ (u := .int .u8 (xs[i]?.getD 0)) (hr i _ ?_)
        unfold U8
        rw [List.getElem?_map, List.getElem?_eq_getElem (by omega)]; rfl
      · rw [List.getElem?_set_ne (fun e => hij e.symm)] at hv
        rw [World.cell?_setCell_other w _ _ _ (by intro e; injection e with e1 e2 e3; omega)]
        refine hr i v ?_
        unfold U8
        rw [List.getElem?_map]; exact hv
theorem mid_some {w : World} {base n c : Nat} {a : Option Addr} {xs : List Int} (h : Mid w base (.slice a n c) n xs) (hn : 0 < n) : ∃ g o, a = some ⟨g, o, none⟩ := by
  obtain ⟨hl, ⟨e, h0⟩ | ⟨g', o', cap, e, hb, hlt, hn, hc, hr, ht⟩⟩ := h
  · omega
  · simp only [Value.slice.injEq, true_and] at e
    obtain ⟨rfl, rfl⟩ := e
    exact ⟨g', o', rfl⟩
theorem agL_snoc (d : Nat) : ∀ k m, agL d (k + 1) m = agL d k m ++ [(agL d k m)[(agL d k m).length - d]?.getD 0]
  | 0, m => rfl
  | k + 1, m => by
    rw [agL, agL_snoc d k]
    rw [show agL d (k + 1) m = agL d k (m ++ [m[m.length - d]?.getD 0]) from rfl]
theorem agL_mem (d : Nat) : ∀ k m, (∀ x ∈ m, 0 ≤ x ∧ x ≤ 255) → ∀ x ∈ agL d k m, 0 ≤ x ∧ x ≤ 255
  | 0, m, h => h
  | k + 1, m, h => by
    refine agL_mem d k _ fun x hx => ?_
    rcases List.mem_append.1 hx with hx | hx
    · exact h x hx
    · rw [List.mem_singleton.1 hx]
      exact range_of_mem0 h _
theorem cell_alloc_new (w : World) (cs : Array Value) (T : TypeId) (d : Nat) (v : Value) (h : cs[d]? = some v) : (w.alloc (.cells cs T)).cell? ⟨w.heap.size, d, none⟩ = some v := by
  have hb : (w.alloc (.cells cs T)).heap[w.heap.size]? = some (.cells cs T (0, 0)) := by
    show (w.heap.push _)[w.heap.size]? = _
    simp
  unfold World.cell?
  rw [hb]
  exact h
theorem index_nums (xs : List Int) (k : Nat) (c : Int) (h : xs[k]? = some c) (h0 : 0 ≤ c) (h1 : c ≤ 255) (w : World) : (Instr.index 9 (.string (strOfNums xs)) (.int .i64 (k : Int))).run Try.prog w = .ok (.int .u8 c) w := by
  obtain ⟨hk, hc⟩ := List.getElem?_eq_some_iff.1 h
  have hs : k < (strOfNums xs).size := by rw [strOfNums_size]; exact hk
  rw [run_index_string w 9 _ .i64 _ Try.underlying9, dif_pos (by omega)]
  have e : ((((strOfNums xs)[k]'hs).toNat : Nat) : Int) = c := by
    show (((((xs.map fun n => UInt8.ofNat n.toNat).toArray)[k]'(by simpa using hk)).toNat : Nat) : Int) = c
    simp [hc]
    omega
  rw [← e]
  rfl
theorem held_full {V : Nat × Nat} (h : V.2 % 8 ≠ 0) : heldN V = bytesN V.1 (V.2 / 8 + 1) := by
  unfold heldN
  rw [show (V.2 + 7) / 8 = V.2 / 8 + 1 by omega]
theorem far_text (d : Nat) (hd : d < 4) : (#[.string ⟨#[48, 48, 48, 48, 48]⟩, .string ⟨#[48, 48, 48, 48, 49]⟩, .string ⟨#[48, 48, 48, 49, 48]⟩, .string ⟨#[48, 48, 48, 49, 49]⟩] : Array Value)[d]? = some (.string (strOfNums (txt 5 d))) := by
  have h : d = 0 ∨ d = 1 ∨ d = 2 ∨ d = 3 := by omega
  rcases h with rfl | rfl | rfl | rfl <;> rfl
/-- What is read of bytes, a length and a distance behind, and the end. -/
theorem read_far {N L d : Nat} {x0 : List Int} (hx : ∀ x ∈ x0, 0 ≤ x ∧ x ≤ 255) (h0 : d + 1 ≤ x0.length) (hd : d < 4) (h300 : x0.length ≤ 300)
    (he : Ext (putS 256 (putC d 5 (putS 264 (putsV x0 (3, 3))))) N) (hL : (putS 256 (putC d 5 (putS 264 (putsV x0 (3, 3))))).2 ≤ L) :
    Ext (3, 3) N ∧ signsN N L 1000 (fixedSignN N L) (fixedDistN N L) 3 [] = .ok ((putS 256 (putC d 5 (putS 264 (putsV x0 (3, 3))))).2, agL (d + 1) 10 x0) := by
  have l0 : Lt ((3, 3) : Nat × Nat) := by show (3 : Nat) < 2 ^ 3; decide
  have l1 := putsV_lt x0 _ l0
  have l2 := putS_lt (s := 264) l1
  have l3 : Lt (putC d 5 (putS 264 (putsV x0 (3, 3)))) := put_lt l2 (rev_lt _ _)
  have e3 := ext_down l3 (rev_lt _ _) he
  have e2 := ext_down l2 (rev_lt _ _) e3
  have e1 := ext_down l1 (rev_lt _ _) e2
  have h3 : (putC d 5 (putS 264 (putsV x0 (3, 3)))).2 ≤ (putS 256 (putC d 5 (putS 264 (putsV x0 (3, 3))))).2 := Nat.le_add_right _ _
  have h2 : (putS 264 (putsV x0 (3, 3))).2 ≤ (putC d 5 (putS 264 (putsV x0 (3, 3)))).2 := Nat.le_add_right _ _
  have h1 : (putsV x0 (3, 3)).2 ≤ (putS 264 (putsV x0 (3, 3))).2 := Nat.le_add_right _ _
  refine ⟨putsV_ext x0 _ N l0 e1, ?_⟩
  have r1 := read_bytes (N := N) (L := L) (most := 1000) x0 hx (3, 3) [] l0 e1 (by omega) (by simp; omega)
  have r2 := read_again (N := N) (L := L) (most := 1000) (made := x0) l1 hd h0 (by omega) e3 (by omega)
  have r3 := read_end (N := N) (L := L) (most := 1000) (made := agL (d + 1) 10 x0) l3 he hL
  rw [List.nil_append] at r1
  exact r1.trans (r2.trans r3)
theorem bit_at (T : List Int) (k : Nat) (hk : k < T.length) (h : ∀ x ∈ T, x = 48 ∨ x = 49) : ∃ b : Nat, (b = 0 ∨ b = 1) ∧ T[k]? = some (48 + (b : Int)) ∧ (∀ v : Nat × Nat, pv (T.take (k + 1)) v = put b 1 (pv (T.take k) v)) := by
  have e := List.take_succ_eq_append_getElem hk
  rcases h _ (List.getElem_mem hk) with h1 | h1
  · exact ⟨0, .inl rfl, by rw [List.getElem?_eq_getElem hk, h1]; rfl, fun v => by rw [e, pv_snoc, h1]; rfl⟩
  · exact ⟨1, .inr rfl, by rw [List.getElem?_eq_getElem hk, h1]; rfl, fun v => by rw [e, pv_snoc, h1]; rfl⟩
end Go.Proofs.Ytmdgpabmknigmaa
