/- A text as a sum: the walk. -/
import Derived.Test.YtcbjadecocggjaaDoorHex
import Derived.Test.YtcbjadecocggjaaDoorEq
import Derived.Deep.QuietTactic
import Derived.BigQuiet
import Derived.Laws.ResultCell
namespace Go.Proofs.YtcbjadecocggjaaDoor
open Go.RowKit Plain
set_option linter.unusedVariables false
theorem results_row_tmp {P : Program} {fn : Func} {p u : Tmp} {ty : TypeId} (h : fn.results = #[.cell p ty, .tmp u]) (tmps : Array Value) (w : World) (g : Nat) (t : TypeId) (cs : Array Value) (fr : Nat × Nat) (d : TypeDesc)
    (hp : tmps.getD p undef = .pointer (some ⟨g, 0, none⟩)) (hg : w.heap[g]? = some (.cells cs t fr))
    (hu : P.underlying ty = some d) (hd : (match d with | .struct _ | .array _ _ => true | _ => false) = true) (hi : (P.info? ty).map (·.size) = some cs.size) :
    (results fn tmps).run P w = .ok (.tuple #[.agg cs, tmps.getD u undef]) w := by
  have hp' : tmps[p]?.getD undef = .pointer (some ⟨g, 0, none⟩) := by simpa using hp
  simp [results, h, hp', asAddr, run_loadVar_row w g t ty cs fr d hg hu hd hi]
/-- What a digit is worth; below 0: it is none. -/
def nib (c : Nat) : Int := if 48 ≤ c ∧ c ≤ 57 then (c : Int) - 48 else if 97 ≤ c ∧ c ≤ 102 then (c : Int) - 87 else -1
theorem nib_le (c : Nat) : -1 ≤ nib c ∧ nib c ≤ 15 := by unfold nib; split <;> (try split) <;> omega
theorem nib_index : ∀ c : Fin 256, Lib.indexByte hexBytes.data.toList (c.val.toUInt8) = nib c.val := by decide +kernel
theorem index_any (c : Nat) (hc : c < 256) (w : World) : Calls Tryd.prog 47 #[.string hexBytes, .int .u8 (c : Int)] w fun e w' => e = .returned (.int .i64 (nib c)) ∧ w' = w := by
  refine (Tryd.strings_IndexByte hexBytes (c : Int) w).mono ?_
  rintro e w' ⟨rfl, rfl⟩
  have := nib_index ⟨c, hc⟩
  rw [← this]
  exact ⟨rfl, rfl⟩
/-- A text's byte. -/
def at8 (s : ByteArray) (i : Nat) : Nat := (s.data.toList[i]?.getD 0).toNat
theorem at8_lt (s : ByteArray) (i : Nat) : at8 s i < 256 := UInt8.toNat_lt _
def goodTo (s : ByteArray) (k : Nat) : Bool := (List.range k).all fun i => decide (0 ≤ nib (at8 s (2 * i))) && decide (0 ≤ nib (at8 s (2 * i + 1)))
def valAt (s : ByteArray) (i : Nat) : Int := 16 * nib (at8 s (2 * i)) + nib (at8 s (2 * i + 1))
def valsTo (s : ByteArray) (k : Nat) : List Int := (List.range 20).map fun i => if i < k then valAt s i else 0
def isHex (s : ByteArray) : Bool := decide (s.size = 40) && goodTo s 20
def parsed (s : ByteArray) : List Int := if isHex s = true then valsTo s 20 else List.replicate 20 0
def parsedE (s : ByteArray) : Int := if isHex s = true then 0 else 4
theorem valsTo_length (s : ByteArray) (k : Nat) : (valsTo s k).length = 20 := by simp [valsTo]
theorem goodTo_snoc (s : ByteArray) (k : Nat) : goodTo s (k + 1) = (goodTo s k && (decide (0 ≤ nib (at8 s (2 * k))) && decide (0 ≤ nib (at8 s (2 * k + 1))))) := by
  unfold goodTo; rw [List.range_succ, List.all_append]; simp
theorem goodTo_le (s : ByteArray) (k n : Nat) (h : k ≤ n) (hn : goodTo s n = true) : goodTo s k = true := by
  unfold goodTo at hn ⊢
  rw [List.all_eq_true] at hn ⊢
  intro i hi
  exact hn i (List.mem_range.2 (by have := List.mem_range.1 hi; omega))
theorem index_text (s : ByteArray) (i : Nat) (h : i < s.size) (x : Int) (hx : x = (i : Int)) (w : World) : (Instr.index 9 (.string s) (.int .i64 x)).run Tryd.prog w = .ok (.int .u8 (at8 s i : Nat)) w := by
  subst hx
  rw [run_index_string w 9 s .i64 _ Tryd.underlying9, dif_pos (by omega)]
  have h1 : i < s.data.toList.length := by simpa using h
  have : at8 s i = (s[i]'h).toNat := by unfold at8; rw [List.getElem?_eq_getElem h1]; rfl
  rw [this]
  rfl
theorem valsTo_set (s : ByteArray) (k : Nat) (hk : k < 20) (x : Int) (hx : x = valAt s k) : (V8 (valsTo s k)).setIfInBounds k (.int .u8 x) = V8 (valsTo s (k + 1)) := by
  subst hx
  apply Array.ext
  · simp [V8_size, valsTo_length]
  · intro j h1 h2
    have hj : j < 20 := by simpa [V8_size, valsTo_length] using h2
    rw [Array.getElem_setIfInBounds (by simpa using h1)]
    by_cases hjk : k = j
    · subst hjk; simp [V8, U8, valsTo]
    · rw [if_neg hjk]
      simp only [V8, U8, valsTo, List.getElem_toArray, List.getElem_map, List.getElem_range]
      by_cases hlt : j < k
      · rw [if_pos hlt, if_pos (by omega)]
      · rw [if_neg hlt, if_neg (by omega)]
def zeros20 : List Int := List.replicate 20 0
theorem zero_id (w : World) : (zeroValue 30).run Tryd.prog w = .ok (.agg (V8 zeros20)) w := by
  show _ = Result.ok (Value.agg (List.replicate 20 (Value.int .u8 0)).toArray) w
  kernel_rfl
theorem valsTo_zero (s : ByteArray) : valsTo s 0 = zeros20 := by simp [valsTo, zeros20]; rfl
theorem id_info (xs : List Int) (h : xs.length = 20) : (Tryd.prog.info? 30).map (·.size) = some (V8 xs).size := by
  rw [V8_size, h]; kernel_rfl
theorem or_shl (a b : Int) (ha : 0 ≤ a ∧ a ≤ 15) (hb : 0 ≤ b ∧ b ≤ 15) : bits .or .i64 (a * 16) b % 256 = 16 * a + b := by
  obtain ⟨m, rfl⟩ := Int.eq_ofNat_of_zero_le ha.1
  obtain ⟨n, rfl⟩ := Int.eq_ofNat_of_zero_le hb.1
  have key : ∀ x y : Fin 16, bits .or .i64 ((x.val : Int) * 16) (y.val : Int) % 256 = 16 * (x.val : Int) + (y.val : Int) := by decide +kernel
  exact key ⟨m, by omega⟩ ⟨n, by omega⟩
theorem zeros20_set (w : World) (g : Nat) (cs : Array Value) (fz : Nat × Nat) (t : TypeId) (h : w.heap[g]? = some (.cells cs t fz)) (xs : List Int) : (w.setRow g (V8 xs)).heap[g]? = some (.cells (V8 xs) t fz) := setRow_heap w g _ _ _ _ h
set_option maxRecDepth 100000 in
set_option maxHeartbeats 4000000 in
theorem parse_any (s : ByteArray) (w : World) (hs : s.size ≤ 9223372036854775807) :
    Calls Tryd.prog 28 #[.string s] w fun e w' => e = .returned (.tuple #[.agg (V8 (parsed s)), .int .i64 (parsedE s)]) ∧ Below w.heap.size w w' := by
  have hz := zero_id
  obtain ⟨h0, h1, hbl, hsz⟩ := two_blocks w (.cells (V8 zeros20) 30) (.cells (V8 zeros20) 30)
  have H0 : Hid (((w.alloc (.cells (V8 zeros20) 30)).alloc (.cells (V8 zeros20) 30)).heap[w.heap.size]? = some (.cells (V8 zeros20) 30 (0, 0))) := h0
  have H1 : Hid (((w.alloc (.cells (V8 zeros20) 30)).alloc (.cells (V8 zeros20) 30)).heap[w.heap.size + 1]? = some (.cells (V8 zeros20) 30 (0, 0))) := h1
  have HBL : Hid (Below w.heap.size w ((w.alloc (.cells (V8 zeros20) 30)).alloc (.cells (V8 zeros20) 30))) := hbl
  clear h0 h1 hbl hsz
  have I20 : Hid (∀ xs : List Int, xs.length = 20 → (Tryd.prog.info? 30).map (·.size) = some (V8 xs).size) := id_info
  have HZL : Hid (zeros20.length = 20) := rfl
  by_cases h40 : s.size = 40
  · have t40 : ((s.size : Int) != 40) = false := by simp; omega
    have H40 : Hid (s.size = 40) := h40
    clear h40
    go_enter Tryd.func28, Tryd.ntmps28
    go_wp2_with fail
    generalize ((w.alloc (.cells (V8 zeros20) 30)).alloc (.cells (V8 zeros20) 30)) = w0 at *
    clear t40
    go_loopw [12] (fun i wr => ∃ k : Nat, k ≤ 20 ∧ i = .int .i64 k ∧ goodTo s k = true ∧ wr.heap[w.heap.size]? = some (.cells (V8 zeros20) 30 (0, 0)) ∧ wr.heap[w.heap.size + 1]? = some (.cells (V8 (valsTo s k)) 30 (0, 0)) ∧ Below w.heap.size w wr) (fun i _ => 20 - (intOf i).toNat)
    case atStart => exact ⟨0, by omega, rfl, rfl, H0.out, by rw [valsTo_zero]; exact H1.out, HBL.out⟩
    case round =>
      obtain ⟨k, hk, rfl, hg, h0, h1, hbel⟩ := hrel
      have G : Hid (goodTo s k = true) := hg
      have G0 : Hid (wr.heap[w.heap.size]? = some (.cells (V8 zeros20) 30 (0, 0))) := h0
      have G1 : Hid (wr.heap[w.heap.size + 1]? = some (.cells (V8 (valsTo s k)) 30 (0, 0))) := h1
      have GB : Hid (Below w.heap.size w wr) := hbel
      clear hg h0 h1 hbel H0 H1 HBL
      by_cases hlt : k < 20
      · have hi0 := index_text s (2 * k) (by rw [H40.out]; omega) (2 * (k : Int)) (by omega)
        have hi1 := index_text s (2 * k + 1) (by rw [H40.out]; omega) (2 * (k : Int) + 1) (by omega)
        have hc0 := at8_lt s (2 * k)
        have hc1 := at8_lt s (2 * k + 1)
        have n0 := nib_le (at8 s (2 * k))
        have n1 := nib_le (at8 s (2 * k + 1))
        have HGS : Hid (goodTo s (k + 1) = (goodTo s k && (decide (0 ≤ nib (at8 s (2 * k))) && decide (0 ≤ nib (at8 s (2 * k + 1)))))) := goodTo_snoc s k
        have HVA : Hid (valAt s k = 16 * nib (at8 s (2 * k)) + nib (at8 s (2 * k + 1))) := rfl
        generalize at8 s (2 * k) = c0 at *
        generalize at8 s (2 * k + 1) = c1 at *
        have m1 : IntKind.i64.wrap (2 * (k : Int)) = 2 * (k : Int) := IntWalk.i64_in _ (by omega)
        have m2 : IntKind.i64.wrap (2 * (k : Int) + 1) = 2 * (k : Int) + 1 := IntWalk.i64_in _ (by omega)
        have hlt' : (k : Int) < 20 := by omega
        go_wp2_with fail
        go_quiet ((first
          | (go_at_call 47; exact Calls.quiet_of_same (index_any c0 hc0 _))
          | (go_at_call 47; exact Calls.quiet_of_same (index_any c1 hc1 _))))
        have D0 : Hid ((wr.drewN nq).heap[w.heap.size]? = some (.cells (V8 zeros20) 30 (0, 0))) := by
          show (wr.drewN nq).heap[w.heap.size]? = _
          simpa using G0.out
        have D1 : Hid ((wr.drewN nq).heap[w.heap.size + 1]? = some (.cells (V8 (valsTo s k)) 30 (0, 0))) := by
          show (wr.drewN nq).heap[w.heap.size + 1]? = _
          simpa using G1.out
        have DB : Hid (Below w.heap.size w (wr.drewN nq)) := ⟨GB.out.os, GB.out.tape, GB.out.output, GB.out.size, GB.out.block⟩
        generalize wr.drewN nq = wd at *
        clear hi0 hi1 m1 m2 hc0 hc1 G0 G1 GB
        have HN0 : Hid (-1 ≤ nib c0 ∧ nib c0 ≤ 15) := n0
        have HN1 : Hid (-1 ≤ nib c1 ∧ nib c1 ≤ 15) := n1
        generalize nib c0 = x0 at *
        generalize nib c1 = x1 at *
        by_cases hx : 0 ≤ x0 ∧ 0 ≤ x1
        · obtain ⟨hx0, hx1⟩ := hx
          obtain ⟨ov, ho⟩ : ∃ ov, wd.cell? ⟨w.heap.size + 1, k, none⟩ = some ov := ⟨_, by rw [cell_of_row wd _ _ _ _ _ D1.out, Array.getElem?_eq_getElem (by rw [V8_size, valsTo_length]; omega)]⟩
          have fo := frozen_of_row wd (w.heap.size + 1) k (V8 (valsTo s k)) 30 D1.out
          go_wp2_with fail
          rw [or_shl x0 x1 ⟨hx0, HN0.out.2⟩ ⟨hx1, HN1.out.2⟩]
          refine ⟨⟨k + 1, by omega, by go_num, ?_, (Below.heap_setCell wd _ _ _ (by show w.heap.size ≠ w.heap.size + 1; omega)).trans D0.out, (heap_setCell_same wd (w.heap.size + 1) _ _ _ _ D1.out).trans ?_, DB.out.setCell (by show w.heap.size ≤ w.heap.size + 1; omega) _⟩, by simp [intOf]; omega⟩
          · rw [HGS.out, G.out]; simp [hx0, hx1]
          · rw [valsTo_set s k (by omega) _ HVA.out.symm]
        · have hbad : x0 < 0 ∨ (0 ≤ x0 ∧ x1 < 0) := by omega
          have HP : Hid (parsed s = zeros20 ∧ parsedE s = 4) := by
            show _ ∧ _
            have hb : goodTo s 20 = false := by
              cases hgt : goodTo s 20
              · rfl
              · have h2 := goodTo_le s (k + 1) 20 (by omega) hgt
                rw [HGS.out] at h2
                simp at h2
                omega
            have : isHex s = false := by simp [isHex, hb]
            simp [parsed, parsedE, this, zeros20]
          clear hx HGS HVA G n0 n1
          rcases hbad with hb | ⟨hb1, hb⟩
          all_goals
            go_wp2_with (refine wpList_store_row rfl 30 (.tmp 2) (.tmp 32) rfl w.heap.size (V8 zeros20) rfl rfl 30 (V8 zeros20) D0.out (I20.out _ HZL.out) rfl (V8_one _) ?_)
            refine bodyPost_ret (results_row_tmp Tryd.results28 _ _ w.heap.size 30 (V8 zeros20) (0, 0) (.array 20 5) rfl (setRow_heap _ _ _ _ _ _ D0.out) Tryd.underlying30 rfl (I20.out _ HZL.out)) rfl ⟨by rw [HP.out.1, HP.out.2]; rfl, ?_⟩
            exact below_setRow DB.out (Nat.le_refl _) _
      · obtain rfl : k = 20 := by omega
        have HV : Hid (valsTo s 20 = parsed s ∧ parsedE s = 0) := by
          show _ ∧ _
          have : isHex s = true := by simp [isHex, H40.out, G.out]
          simp [parsed, parsedE, this]
        have HPL : Hid ((parsed s).length = 20) := by show _ = _; rw [← HV.out.1]; exact valsTo_length s 20
        rw [HV.out.1] at G1
        clear hlt hk
        have tok1 : True := trivial
        go_wp2_with (first
          | (have _t := tok1; refine wpList_load_row rfl 30 _ rfl (w.heap.size + 1) rfl 30 (V8 (parsed s)) (0, 0) (.array 20 5) G1.out Tryd.underlying30 rfl (I20.out _ HPL.out) ?_; clear tok1)
          | (refine wpList_store_row rfl 30 (.tmp 2) (.tmp 41) rfl w.heap.size (V8 (parsed s)) rfl rfl 30 (V8 zeros20) G0.out (I20.out _ HPL.out) (by rw [V8_size, V8_size, HPL.out]; rfl) (V8_one _) ?_))
        refine bodyPost_ret (results_row_tmp Tryd.results28 _ _ w.heap.size 30 (V8 (parsed s)) (0, 0) (.array 20 5) rfl (setRow_heap _ _ _ _ _ _ G0.out) Tryd.underlying30 rfl (I20.out _ HPL.out)) rfl ⟨by rw [HV.out.2]; rfl, ?_⟩
        exact below_setRow GB.out (Nat.le_refl _) _
  · have t40 : ((s.size : Int) != 40) = true := by simp; omega
    have HP : Hid (parsed s = zeros20 ∧ parsedE s = 4) := by
      show _ ∧ _
      have : isHex s = false := by simp [isHex, h40]
      simp [parsed, parsedE, this, zeros20]
    clear h40
    go_enter Tryd.func28, Tryd.ntmps28
    go_wp2_with (refine wpList_store_row rfl 30 (.tmp 2) (.tmp 11) rfl w.heap.size (V8 zeros20) rfl rfl 30 (V8 zeros20) H0.out (I20.out _ HZL.out) rfl (V8_one _) ?_)
    refine bodyPost_ret (results_row_tmp Tryd.results28 _ _ w.heap.size 30 (V8 zeros20) (0, 0) (.array 20 5) rfl (setRow_heap _ _ _ _ _ _ H0.out) Tryd.underlying30 rfl (I20.out _ HZL.out)) rfl ⟨by rw [HP.out.1, HP.out.2]; rfl, ?_⟩
    exact below_setRow HBL.out (Nat.le_refl _) _
end Go.Proofs.YtcbjadecocggjaaDoor
