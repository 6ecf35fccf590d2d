/- Frames, and back: plainly; a byte of a row is set. -/
import Derived.Test.YtglgchjkonjpiaaGreatDoorWrap
namespace Go.Proofs.YtglgchjkonjpiaaGreatDoor
open Go.RowKit Plain
set_option linter.unusedVariables false
set_option maxRecDepth 100000 in
/-- An array of bytes that came in by value. -/
theorem open_array_u8 {H : Type} {enc : TypeId × Value → H} {w : World} {base b0 : Nat} {spare : Nat → Bool} {held : Bool} {r : Reach} {t : TypeId} {n : Nat} {v : Value} {d : DataW H} {p : List MemPlace}
    (ht : Tryz.prog.underlying t = some (.array n 5)) (hC : Tryz.prog.cellsOf t = n) (hv : Value.okWide Tryz.prog w r b0 t v) (h : DataW.Trod enc Tryz.prog w base spare held t v d p) :
    ∃ zs : List Int, v = .agg (zs.map (Value.int .u8)).toArray ∧ zs.length = n ∧ ∀ z ∈ zs, 0 ≤ z ∧ z ≤ 255 := by
  simp only [Value.okWide, ht] at hv
  obtain ⟨cs, rfl, hsz, -⟩ := hv
  obtain ⟨fuel, hf⟩ := h
  obtain ⟨xs, m, -, -, -, hxl, hget⟩ := DataW.trod_array ht hf
  have hsz' : cs.size = n := hsz.trans hC
  have hone : Tryz.prog.cellsOf 5 = 1 := by kernel_rfl
  have key : ∀ i, i < n → ∃ z : Int, cs[i]? = some (.int .u8 z) ∧ 0 ≤ z ∧ z ≤ 255 := by
    intro i hi
    have h1 := hget i hi
    rw [hone, Nat.mul_one] at h1
    have hi' : i < cs.size := by omega
    rw [List.getElem?_eq_getElem (by omega)] at h1
    have e : (List.drop i (Value.agg cs).cells.toList).take 1 = [cs[i]] := by
      have : (Value.agg cs).cells = cs := rfl
      rw [this, List.drop_eq_getElem_cons (by simpa using hi')]
      simp
    rw [e] at h1
    obtain ⟨z, hz, -, hw⟩ := DataW.trod_int Tryz.underlying5 h1
    exact ⟨z, by rw [Array.getElem?_eq_getElem hi']; simpa using hz, bounds_u8 hw⟩
  refine ⟨(List.range n).map fun i => numOf cs[i]?, ?_, by simp, ?_⟩
  · congr 1
    apply Array.ext
    · simp [hsz']
    · intro i h1 h2
      obtain ⟨z, hz, -⟩ := key i (by omega)
      have h3 : i < n := by omega
      have e : (((List.range n).map fun i => numOf cs[i]?).map (Value.int .u8)).toArray[i] = Value.int .u8 (numOf cs[i]?) := by simp
      rw [e, hz]
      rw [Array.getElem?_eq_getElem h1] at hz
      simpa [numOf] using hz
  · intro z hz
    obtain ⟨i, hi, rfl⟩ := List.mem_map.1 hz
    obtain ⟨y, hy, h0⟩ := key i (by simpa using hi)
    show 0 ≤ numOf cs[i]? ∧ numOf cs[i]? ≤ 255
    rw [hy]
    exact h0
theorem Mid.set {w : World} {base g o n c : Nat} {xs : List Int} (h : Mid w base (.slice (some ⟨g, o, none⟩) n c) n xs) (j : Nat) (hj : j < n) (y : Int) :
    Mid (w.setCell ⟨g, o + j, none⟩ (.int .u8 y)) base (.slice (some ⟨g, o, none⟩) n c) n (xs.set j y) := by
  obtain ⟨hl, ⟨e, h0⟩ | ⟨g', o', cap, e, hb, hlt, hn, hc, hr, ht⟩⟩ := h
  · omega
  · simp only [Value.slice.injEq, Option.some.injEq, Addr.mk.injEq, true_and, and_true] at e
    obtain ⟨⟨rfl, rfl⟩, rfl⟩ := e
    refine ⟨by rw [List.length_set]; exact hl, .inr ⟨g, o, c, rfl, hb, ?_, hn, hc, ?_, World.there_setCells ht g (o + j) [.int .u8 y]⟩⟩
    · rw [World.size_setCell]; exact hlt
    · intro i v hv
      unfold U8 at hv
      rw [List.getElem?_map] at hv
      by_cases hij : i = j
      · subst hij
        rw [List.getElem?_set_self (by omega)] at hv
        injection hv with hv
        subst hv
        refine World.cell?_setCell_same w _ _ (u := .int .u8 (xs[i]?.getD 0)) (hr i _ ?_)
        unfold U8
        rw [List.getElem?_map, List.getElem?_eq_getElem (by omega)]; rfl
      · rw [List.getElem?_set_ne (fun e => hij e.symm)] at hv
        rw [World.cell?_setCell_other w _ _ _ (by intro e; injection e with e1 e2 e3; omega)]
        refine hr i v ?_
        unfold U8
        rw [List.getElem?_map]; exact hv
theorem Mid.cellAt' {w : World} {base g o n c : Nat} {xs : List Int} (h : Mid w base (.slice (some ⟨g, o, none⟩) n c) n xs) (j : Nat) (hj : j < n) : w.cell? ⟨g, o + j, none⟩ = some (.int .u8 (xs[j]?.getD 0)) ∧ w.frozen? ⟨g, o + j, none⟩ = false := by
  obtain ⟨hl, ⟨e, h0⟩ | ⟨g', o', cap, e, hb, hlt, hn, hc, hr, ht⟩⟩ := h
  · omega
  · simp only [Value.slice.injEq, Option.some.injEq, Addr.mk.injEq, true_and, and_true] at e
    obtain ⟨⟨rfl, rfl⟩, rfl⟩ := e
    refine ⟨hr j _ ?_, (ht j (by omega)).2⟩
    unfold U8
    rw [List.getElem?_map, List.getElem?_eq_getElem (by omega)]; rfl
theorem pre_get (pre T : List Int) (t i : Nat) (h : pre.length + i = t) : (pre ++ T)[t]?.getD 0 = T[i]?.getD 0 := by
  subst h
  rw [List.getElem?_append_right (by omega), Nat.add_sub_cancel_left]
theorem pre_set (pre T : List Int) (t i : Nat) (x : Int) (h : pre.length + i = t) : (pre ++ T).set t x = pre ++ T.set i x := by
  subst h
  rw [List.set_append_right _ _ (by omega), Nat.add_sub_cancel_left]
theorem frameAt {bs t : List Int} (ht : t.length = 4) (htr : ∀ x ∈ t, 0 ≤ x ∧ x ≤ 255) (hb : ∀ x ∈ bs, 0 ≤ x ∧ x ≤ 255) (h30 : bs.length ≤ 30000) (more : List Int) (hmore : ∀ x ∈ more, 0 ≤ x ∧ x ≤ 255) :
    openN ([120, 156] ++ rawPack bs ++ t ++ more) bs.length = if t = tail4 bs then .ok (2 + (rawPack bs).length + 4, bs) else .error 5 := by
  obtain ⟨q, h1, h2⟩ := rawPack_back hb h30 (Nat.le_refl bs.length)
  have hk := more_keep (rawPack_mem bs hb) (more := t ++ more) (fun x hx => (List.mem_append.1 hx).elim (htr x) (hmore x)) h1
  rw [h2, List.take_length] at hk
  have e : [120, 156] ++ rawPack bs ++ t ++ more = (120 : Int) :: 156 :: (rawPack bs ++ (t ++ more)) := by simp
  have hf : frontN 120 156 = true := by decide
  have e2 : ((120 : Int) :: 156 :: (rawPack bs ++ (t ++ more))).drop (2 + (rawPack bs).length) = t ++ more := by
    rw [← List.drop_drop]
    show (rawPack bs ++ (t ++ more)).drop _ = _
    rw [List.drop_left]
  have e3 : (t ++ more).take 4 = t := by rw [← ht, List.take_left]
  rw [e, openN, if_neg (by simp)]
  show (if frontN 120 156 = false then _ else openBehind _ (rawOf (rawPack bs ++ (t ++ more)) bs.length)) = _
  rw [hf, if_neg (by simp), hk, openBehind, h2, if_neg (by simp [ht]; omega), e2, e3]
  by_cases h : t = tail4 bs
  · rw [if_pos h, if_neg (by simp [h])]
  · rw [if_neg h, if_pos h]
theorem wrap_open {bs : List Int} (hb : ∀ x ∈ bs, 0 ≤ x ∧ x ≤ 255) (h30 : bs.length ≤ 30000) (more : List Int) (hmore : ∀ x ∈ more, 0 ≤ x ∧ x ≤ 255) : openN (wrapN bs ++ more) bs.length = .ok ((wrapN bs).length, bs) := by
  have := frameAt (t := tail4 bs) rfl (tail4_range bs) hb h30 more hmore
  rw [if_pos rfl] at this
  rw [wrapN_len]
  exact this
theorem wrap_cut {bs : List Int} (hb : ∀ x ∈ bs, 0 ≤ x ∧ x ≤ 255) (h30 : bs.length ≤ 30000) {k : Nat} (hk : k < (wrapN bs).length) : openN ((wrapN bs).take k) bs.length = .error 3 := by
  have hlen : ((wrapN bs).take k).length = k := by rw [List.length_take]; omega
  by_cases h2 : k < 2
  · rw [openN, if_pos (by omega)]
  · obtain ⟨j, rfl⟩ : ∃ j, k = j + 2 := ⟨k - 2, by omega⟩
    obtain ⟨q, h1, hq⟩ := rawPack_back hb h30 (Nat.le_refl bs.length)
    have e : (wrapN bs).take (j + 2) = (120 : Int) :: 156 :: (rawPack bs ++ tail4 bs).take j := by
      unfold wrapN
      rw [List.append_assoc]
      rfl
    have hf : frontN 120 156 = true := by decide
    have hwl := wrapN_len bs
    rw [openN, if_neg (by omega), e]
    show (if frontN 120 156 = false then _ else openBehind _ (rawOf ((rawPack bs ++ tail4 bs).take j) bs.length)) = _
    rw [hf, if_neg (by simp)]
    by_cases hj : j < (rawPack bs).length
    · rw [List.take_append_of_le_length (by omega), cut_ends (rawPack_mem bs hb) h1 (by omega)]
      rfl
    · have e2 : (rawPack bs ++ tail4 bs).take j = rawPack bs ++ (tail4 bs).take (j - (rawPack bs).length) := by
        rw [List.take_append, List.take_of_length_le (by omega)]
      have hk := more_keep (rawPack_mem bs hb) (more := (tail4 bs).take (j - (rawPack bs).length)) (fun x hx => tail4_range bs x (List.mem_of_mem_take hx)) h1
      rw [hq, List.take_length] at hk
      have ht4 : (tail4 bs).length = 4 := rfl
      rw [e2, hk, openBehind, hq, if_pos]
      simp [ht4]
      omega
theorem wrap_less {bs : List Int} (hb : ∀ x ∈ bs, 0 ≤ x ∧ x ≤ 255) (h30 : bs.length ≤ 30000) (h0 : 0 < bs.length) : openN (wrapN bs) (bs.length - 1) = .error 2 := by
  obtain ⟨q, h1, hq⟩ := rawPack_back hb h30 (Nat.le_refl bs.length)
  have hk := more_keep (rawPack_mem bs hb) (more := tail4 bs) (tail4_range bs) h1
  rw [hq, List.take_length] at hk
  have hl := (less_room hk (k := bs.length - 1)).1 (by omega)
  have e : wrapN bs = (120 : Int) :: 156 :: (rawPack bs ++ tail4 bs) := by
    unfold wrapN; simp
  have hf : frontN 120 156 = true := by decide
  rw [e, openN, if_neg (by simp)]
  show (if frontN 120 156 = false then _ else openBehind _ (rawOf (rawPack bs ++ tail4 bs) (bs.length - 1))) = _
  rw [hf, if_neg (by simp), hl]
  rfl
/-! ### Four bytes, turned -/
def xorN (ys zs : List Int) (i : Nat) : List Int := (List.range 4).map fun j => if j < i then bits .xor .u8 (ys[j]?.getD 0) (zs[j]?.getD 0) else ys[j]?.getD 0
def noughtN (zs : List Int) (i : Nat) : Bool := (zs.take i).all (· == 0)
theorem xorN_len (ys zs : List Int) (i : Nat) : (xorN ys zs i).length = 4 := by simp [xorN]
theorem xorN_zero (ys zs : List Int) (h : ys.length = 4) : xorN ys zs 0 = ys := by
  unfold xorN
  apply List.ext_getElem
  · simp [h]
  · intro j h1 h2
    simp [List.getElem?_eq_getElem h2]
theorem xorN_set (ys zs : List Int) (i : Nat) (h : i < 4) : (xorN ys zs i).set i (bits .xor .u8 (ys[i]?.getD 0) (zs[i]?.getD 0)) = xorN ys zs (i + 1) := by
  unfold xorN
  apply List.ext_getElem
  · simp
  · intro j h1 h2
    rw [List.getElem_set]
    simp only [List.getElem_map, List.getElem_range]
    by_cases hj : i = j
    · subst hj; rw [if_pos rfl, if_pos (by omega)]
    · rw [if_neg hj]
      by_cases hji : j < i
      · rw [if_pos hji, if_pos (by omega)]
      · rw [if_neg hji, if_neg (by omega)]
theorem xorN_get (ys zs : List Int) (i : Nat) (h : i < 4) : (xorN ys zs i)[i]?.getD 0 = ys[i]?.getD 0 := by
  unfold xorN
  rw [List.getElem?_map, List.getElem?_range h]
  simp
theorem noughtN_succ (zs : List Int) (i : Nat) (h : i < zs.length) : noughtN zs (i + 1) = (noughtN zs i && zs[i]?.getD 0 == 0) := by
  unfold noughtN
  rw [List.take_succ_eq_append_getElem h, List.all_append, List.getElem?_eq_getElem h]
  simp
theorem xor_byte (y z : Int) (hy : 0 ≤ y ∧ y ≤ 255) (hz : 0 ≤ z ∧ z ≤ 255) : (0 ≤ bits .xor .u8 y z ∧ bits .xor .u8 y z ≤ 255) ∧ (bits .xor .u8 y z = y ↔ z = 0) := by
  have hh := u8_xor y z hy.1 (by omega) hz.1 (by omega)
  have hlt : y.toNat ^^^ z.toNat < 256 := Nat.xor_lt_two_pow (n := 8) (by omega) (by omega)
  have e : bits .xor .u8 y z = ((y.toNat ^^^ z.toNat : Nat) : Int) := by first | exact hh.1 | exact hh
  rw [e]
  refine ⟨by omega, fun h1 => ?_, fun h1 => ?_⟩
  · have h2 : y.toNat ^^^ z.toNat = y.toNat := by omega
    have h3 : y.toNat ^^^ (y.toNat ^^^ z.toNat) = y.toNat ^^^ y.toNat := by rw [h2]
    rw [← Nat.xor_assoc, Nat.xor_self, Nat.zero_xor] at h3
    omega
  · subst h1
    simp
    omega
theorem xorN_range (ys zs : List Int) (hy : ∀ j : Nat, 0 ≤ ys[j]?.getD 0 ∧ ys[j]?.getD 0 ≤ 255) (hz : ∀ j : Nat, 0 ≤ zs[j]?.getD 0 ∧ zs[j]?.getD 0 ≤ 255) (i : Nat) : ∀ x ∈ xorN ys zs i, 0 ≤ x ∧ x ≤ 255 := fun x hx => by
  unfold xorN at hx
  obtain ⟨j, -, rfl⟩ := List.mem_map.1 hx
  split
  · exact (xor_byte _ _ (hy j) (hz j)).1
  · exact hy j
theorem xorN_all (ys zs : List Int) (h : ys.length = 4) (h4 : zs.length = 4) (hy : ∀ j : Nat, 0 ≤ ys[j]?.getD 0 ∧ ys[j]?.getD 0 ≤ 255) (hz : ∀ j : Nat, 0 ≤ zs[j]?.getD 0 ∧ zs[j]?.getD 0 ≤ 255) : (xorN ys zs 4 = ys) ↔ noughtN zs 4 = true := by
  have e0 : noughtN zs 4 = true ↔ ∀ j, j < 4 → zs[j]?.getD 0 = 0 := by
    unfold noughtN
    rw [List.take_of_length_le (by omega), List.all_eq_true]
    constructor
    · intro hh j hj
      rw [List.getElem?_eq_getElem (by omega)]
      simpa using hh (zs[j]) (List.getElem_mem _)
    · intro hh x hx
      obtain ⟨j, hj, rfl⟩ := List.getElem_of_mem hx
      have := hh j (by omega)
      rw [List.getElem?_eq_getElem hj] at this
      simpa using this
  rw [e0]
  constructor
  · intro hh j hj
    have h1 : (xorN ys zs 4)[j]?.getD 0 = ys[j]?.getD 0 := by rw [hh]
    unfold xorN at h1
    rw [List.getElem?_map, List.getElem?_range hj] at h1
    simp only [Option.map_some, Option.getD_some] at h1
    rw [if_pos hj] at h1
    exact (xor_byte _ _ (hy j) (hz j)).2.1 h1
  · intro hh
    unfold xorN
    apply List.ext_getElem
    · simp [h]
    · intro j h1 h2
      simp only [List.getElem_map, List.getElem_range]
      have hj : j < 4 := by omega
      rw [if_pos hj, (xor_byte _ _ (hy j) (hz j)).2.2 (hh j hj), List.getElem?_eq_getElem h2]
      rfl
end Go.Proofs.YtglgchjkonjpiaaGreatDoor
