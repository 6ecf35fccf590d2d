/- change.Value: the walk. -/
import Derived.Test.YthokcdjmhhlcdaaDoorChRight
namespace Go.Proofs.YthokcdjmhhlcdaaDoor
open Go.RowKit Go.Shelf Plain
set_option linter.unusedVariables false
set_option linter.unusedSimpArgs false
def lookK : List (ByteArray × ByteArray) → ByteArray → ByteArray × Bool
  | [], _ => (⟨#[]⟩, false)
  | x :: xs, K => if x.1 = K then (x.2, true) else lookK xs K
theorem lookK_skip (K : ByteArray) : ∀ (k : Nat) (xs : List (ByteArray × ByteArray)), (∀ i x, i < k → xs[i]? = some x → x.1 ≠ K) → lookK xs K = lookK (xs.drop k) K
  | 0, xs, _ => by rw [List.drop_zero]
  | k + 1, [], _ => by rw [List.drop_nil]
  | k + 1, x :: xs, h => by
    rw [lookK, if_neg (h 0 x (by omega) rfl), List.drop_succ_cons]
    exact lookK_skip K k xs fun i y hi hy => h (i + 1) y (by omega) (by simpa using hy)
theorem lookK_here {K : ByteArray} {k : Nat} {xs : List (ByteArray × ByteArray)} {x : ByteArray × ByteArray} (h : ∀ i x, i < k → xs[i]? = some x → x.1 ≠ K) (hx : xs[k]? = some x) (he : x.1 = K) : lookK xs K = (x.2, true) := by
  rw [lookK_skip K k xs h]
  obtain ⟨hl, hg⟩ := List.getElem?_eq_some_iff.1 hx
  rw [List.drop_eq_getElem_cons hl, hg, lookK, if_pos he]
theorem lookK_none {K : ByteArray} {xs : List (ByteArray × ByteArray)} (h : ∀ i x, i < xs.length → xs[i]? = some x → x.1 ≠ K) : lookK xs K = (⟨#[]⟩, false) := by
  rw [lookK_skip K xs.length xs h, List.drop_length, lookK]
theorem str_same (a b : ByteArray) : (a.data.toList == b.data.toList) = decide (a = b) := by
  by_cases h : a = b
  · subst h; simp
  · rw [decide_eq_false h, beq_eq_false_iff_ne]
    intro e
    exact h (ByteArray.ext (Array.toList_inj.1 e))
set_option maxRecDepth 100000 in
set_option maxHeartbeats 32000000 in
theorem chlook_any (c : CX) (xa : Option Addr) (xc : Nat) (fa : Option Addr) (fc : Nat) (K : ByteArray) (w : World) (h : ChAt w c xa xc fa fc) (hs : c.xs.length ≤ 100000) :
    Calls Tryd.prog 12 #[.agg (chV c xa xc fa fc), .string K] w fun e w' => e = .returned (.tuple #[.string (lookK c.xs K).1, .bool (lookK c.xs K).2]) ∧ Below w.heap.size w w' := by
  obtain ⟨n, hN⟩ : ∃ n, c.xs.length = n := ⟨_, rfl⟩
  obtain ⟨fn, hFN⟩ : ∃ n, c.fs.length = n := ⟨_, rfl⟩
  have HN := Lib.hid hN
  have HNB : Hid (n ≤ 100000) := by rw [← hN]; exact hs
  have HAX := Lib.hid h.exts
  unfold chV
  rw [hN, hFN]
  have HB0 : Hid (Below w.heap.size w (w.alloc (.cells (chA c (.slice xa n xc) (.slice fa fn fc)) 31))) := (Below.refl _ _).alloc (Nat.le_refl _) _
  have HCW0 : Hid (ChRow (w.alloc (.cells (chA c (.slice xa n xc) (.slice fa fn fc)) 31)) w.heap.size c (.slice xa n xc) (.slice fa fn fc)) := ChRow.of (heap_alloc_new _ _) h.n20
  have hcx := HCW0.out.exts
  clear hN hFN h hs
  go_enter Tryd.func12, Tryd.ntmps12
  go_wp2_with fail
  clear hcx HCW0
  generalize w.alloc (.cells (chA c (.slice xa n xc) (.slice fa fn fc)) 31) = w0 at *
  go_loopw [11] (fun i wr => ∃ k : Nat, k ≤ n ∧ i = .int .i64 (k : Int) ∧ (∀ i x', i < k → c.xs[i]? = some x' → x'.1 ≠ K) ∧ Below w.heap.size w wr) (fun i _ => n - (intOf i).toNat)
  case atStart => exact ⟨0, Nat.zero_le _, rfl, fun i x' hi => by omega, HB0.out⟩
  case round =>
    obtain ⟨k, hk, rfl, hok, hb⟩ := hrel
    have HOK := Lib.hid hok
    have HBW := Lib.hid hb
    have WK := Lib.hid (next_int k (by have := HNB.out; omega))
    clear hok hb
    by_cases hkn : k < n
    · have hki : (k : Int) < (n : Int) := by omega
      have HKN := Lib.hid hkn
      rcases HAX.out with h0 | ⟨b, off, rfl, hbl, hc⟩
      · rw [HN.out] at h0; omega
      obtain ⟨x, hp⟩ : ∃ x, c.xs[k]? = some x := ⟨_, List.getElem?_eq_getElem (by rw [HN.out]; exact hkn)⟩
      have HP := Lib.hid hp
      have HRX := Lib.hid (range_below (hc k x hp) HBW.out hbl)
      have hze := zero_ext
      have HZX : Hid ((wr.alloc (.cells zextA 43)).heap[wr.heap.size]? = some (.cells zextA 43 (0, 0))) := heap_alloc_new _ _
      have HXA : Hid (((wr.alloc (.cells zextA 43)).setRow wr.heap.size (extE x).toArray).heap[wr.heap.size]? = some (.cells (extE x).toArray 43 (0, 0))) := setRow_heap _ _ _ _ _ _ HZX.out
      have HBS : Hid (Below wr.heap.size wr ((wr.alloc (.cells zextA 43)).setRow wr.heap.size (extE x).toArray)) := below_setRow ((Below.refl _ _).alloc (Nat.le_refl _) _) (Nat.le_refl _) _
      have HX0 : Hid (((wr.alloc (.cells zextA 43)).setRow wr.heap.size (extE x).toArray).cell? ⟨wr.heap.size, 0, none⟩ = some (.string x.1)) := by show _ = _; rw [cell_of_row _ _ _ _ _ _ HXA.out]; rfl
      have HX1 : Hid (((wr.alloc (.cells zextA 43)).setRow wr.heap.size (extE x).toArray).cell? ⟨wr.heap.size, 1, none⟩ = some (.string x.2)) := by show _ = _; rw [cell_of_row _ _ _ _ _ _ HXA.out]; rfl
      have hx0 : ((wr.alloc (.cells #[.string ⟨#[]⟩, .string ⟨#[]⟩] 43)).setRow wr.heap.size (extE x).toArray).cell? ⟨wr.heap.size, 0, none⟩ = some (.string x.1) := HX0.out
      have hx1 : ((wr.alloc (.cells #[.string ⟨#[]⟩, .string ⟨#[]⟩] 43)).setRow wr.heap.size (extE x).toArray).cell? ⟨wr.heap.size, 1, none⟩ = some (.string x.2) := HX1.out
      have HEQ : Hid (∀ W, (binOp .eql 9 (.string x.1) (.string K)).run Tryd.prog W = .ok (.bool (decide (x.1 = K))) W) := fun W => by rw [str_eql, str_same]
      have HBW3 := Lib.hid (HBW.out.trans (HBS.out.mono HBW.out.size))
      clear hp hbl hc hkn
      unfold zextA at hze HZX HXA HBS HX0 HX1 HBW3
      clear hx0 hx1
      have hx0 := HX0.out
      have hx1 := HX1.out
      by_cases he : x.1 = K
      · have HLK := Lib.hid (lookK_here HOK.out HP.out he)
        rw [decide_eq_true he] at HEQ
        clear he
        go_wp2_with (first
          | refine wpList_load_mid rfl 43 _ rfl b (off + k * 2) rfl (extE x) _ HRX.out Tryd.underlying43 rfl (info_ext x) ?_
          | refine wpList_store_row rfl 43 _ _ rfl wr.heap.size (extE x).toArray rfl rfl 43 #[.string ⟨#[]⟩, .string ⟨#[]⟩] HZX.out (info_extA x) rfl (extA_one x) ?_
          | refine wpList_eql (by rfl) .eql 9 _ _ _ rfl (.string x.1) (.string K) rfl rfl (.bool true) (guard_eq _ _ _ _) (fun W => HEQ.out W) ?_)
        go_ret2
        rw [HLK.out]
        exact ⟨rfl, HBW3.out⟩
      · have HNO : Hid (∀ i x', i < k + 1 → c.xs[i]? = some x' → x'.1 ≠ K) := fun i x' hi hx' => by
          by_cases h2 : i < k
          · exact HOK.out i x' h2 hx'
          · obtain rfl : i = k := by omega
            rw [HP.out] at hx'
            obtain rfl : x = x' := by simpa using hx'
            exact he
        rw [decide_eq_false he] at HEQ
        clear he
        go_wp2_with (first
          | refine wpList_load_mid rfl 43 _ rfl b (off + k * 2) rfl (extE x) _ HRX.out Tryd.underlying43 rfl (info_ext x) ?_
          | refine wpList_store_row rfl 43 _ _ rfl wr.heap.size (extE x).toArray rfl rfl 43 #[.string ⟨#[]⟩, .string ⟨#[]⟩] HZX.out (info_extA x) rfl (extA_one x) ?_
          | refine wpList_eql (by rfl) .eql 9 _ _ _ rfl (.string x.1) (.string K) rfl rfl (.bool false) (guard_eq _ _ _ _) (fun W => HEQ.out W) ?_)
        rw [WK.out ((k : Int) + 1) rfl]
        exact ⟨⟨k + 1, HKN.out, rfl, HNO.out, HBW3.out⟩, by simp [intOf]; have := HKN.out; omega⟩
    · obtain rfl : k = n := by omega
      have HLK : Hid (lookK c.xs K = (⟨#[]⟩, false)) := lookK_none (by rw [HN.out]; exact HOK.out)
      go_wp2_with fail
      go_ret2
      rw [HLK.out]
      exact ⟨rfl, HBW.out⟩
end Go.Proofs.YthokcdjmhhlcdaaDoor
