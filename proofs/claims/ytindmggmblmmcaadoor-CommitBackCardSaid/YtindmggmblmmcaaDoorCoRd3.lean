/- The reader of a commit: endOfExtra, message, extras: the walks. -/
import Derived.Test.YtindmggmblmmcaaDoorCoRd2
namespace Go.Proofs.YtindmggmblmmcaaDoor
open Go.RowKit Plain Go.ChangeShapes Go.WideShapes Go.ChangeAt Go.Great
set_option linter.unusedVariables false
set_option linter.unusedSimpArgs false
theorem slice_G1 {α : Type} {k : Nat} {enc : α → List Value} {SL e : TypeId} {by' : Nat} (hE : Elem SL e k by') (hk0 : 0 < k) (hk1 : k ≤ 1000) (hby : by' ≤ 64) (hk : ∀ x, (enc x).length = k) (x : α) (v : Value) (hv : v.cells = (enc x).toArray) (W : World) :
    (Instr.buildSlice SL 1 #[(0, v)]).run Tryd.prog W = .ok (.slice (some ⟨W.heap.size, 0, none⟩) 1 1) (W.alloc (.cells (enc x).toArray e)) := by
  obtain ⟨hu, i, z, hi, hz, h1, h2, h3⟩ := hE
  refine run_buildSlice W _ _ _ _ _ i _ hu hi hz (by rw [h1]; omega) (by rw [h1]; omega) ?_
  rw [h1]
  have := Go.Great.fill_whole (s := k) hk0 [v] (Array.map (fun x => z.cells[x % z.cells.size]!) (Array.range (1 * k))) (fun u hu => by rw [List.mem_singleton.1 hu, hv, List.size_toArray, hk]) (by simp)
  rw [show #[(0, v)].toList = [(0, v)] from rfl]
  simpa [hv] using this
theorem one_G {α : Type} {k : Nat} {enc : α → List Value} (W : World) (e : TypeId) (x : α) : ∀ (j : Nat) y, [x][j]? = some y → (W.alloc (.cells (enc x).toArray e)).rangeAt W.heap.size (0 + j * k) (enc y) := fun j y hj => by
  have h0 : j = 0 := by
    have := (List.getElem?_eq_some_iff.1 hj).1
    simp at this; omega
  subst h0
  obtain rfl : x = y := by simpa using hj
  intro i v hv
  rw [cell_of_row _ _ _ _ _ _ (heap_alloc_new W _), show 0 + 0 * k + i = i by omega, ← hv]
  simp
def endX : List UInt8 → Option Nat
  | [] => none
  | c :: r => if c = 10 ∧ Lib.hasPrefix r [32] = false then some 0 else (endX r).map (· + 1)
theorem endX_miss {l : List UInt8} (h : Lib.indexByte l 10 < 0) : endX l = none := by
  induction l with
  | nil => rfl
  | cons c l ih =>
    unfold Lib.indexByte at h
    by_cases hc : (c == 10) = true
    · rw [if_pos hc] at h; omega
    · rw [if_neg hc] at h
      have hge := Lib.indexByte_ge l 10
      by_cases hm : (Lib.indexByte l 10 == -1) = true
      · unfold endX
        rw [if_neg fun hh => hc (by rw [hh.1]; rfl), ih (by rw [eq_of_beq hm]; decide)]; rfl
      · rw [if_neg hm] at h; omega
theorem endX_hit : ∀ {l : List UInt8} {n : Nat}, Lib.indexByte l 10 = (n : Int) → (Lib.hasPrefix (l.drop (n + 1)) [32] = false → endX l = some n) ∧ (Lib.hasPrefix (l.drop (n + 1)) [32] = true → endX l = (endX (l.drop (n + 1))).map (· + (n + 1)))
  | [], n, h => by simp [Lib.indexByte] at h
  | c :: l, n, h => by
    unfold Lib.indexByte at h
    by_cases hc : (c == 10) = true
    · rw [if_pos hc] at h
      obtain rfl : n = 0 := by omega
      have hc' : c = 10 := eq_of_beq hc
      refine ⟨fun hp => ?_, fun hp => ?_⟩
      · unfold endX; rw [if_pos ⟨hc', by simpa using hp⟩]
      · have hp' : Lib.hasPrefix l [32] = true := by simpa using hp
        conv => lhs; unfold endX
        rw [if_neg fun hh => by rw [hp'] at hh; exact absurd hh.2 (by decide)]
        rfl
    · rw [if_neg hc] at h
      by_cases hm : (Lib.indexByte l 10 == -1) = true
      · rw [if_pos hm] at h; omega
      · rw [if_neg hm] at h
        obtain ⟨m, rfl⟩ : ∃ m, n = m + 1 := ⟨n - 1, by have := Lib.indexByte_ge l 10; have : ¬ Lib.indexByte l 10 = -1 := fun e => hm (beq_iff_eq.2 e); omega⟩
        have ih := endX_hit (l := l) (n := m) (by omega)
        have e : endX (c :: l) = (endX l).map (· + 1) := by
          conv => lhs; unfold endX
          rw [if_neg fun hh => hc (by rw [hh.1]; rfl)]
        rw [e]
        refine ⟨fun hp => ?_, fun hp => ?_⟩
        · rw [ih.1 (by simpa using hp)]; rfl
        · rw [ih.2 (by simpa using hp), Option.map_map]
          rw [List.drop_succ_cons]
          congr 1
theorem endX_lt : ∀ {l : List UInt8} {n : Nat}, endX l = some n → n < l.length
  | [], n, h => by simp [endX] at h
  | c :: l, n, h => by
    unfold endX at h
    split at h
    · simp only [Option.some.injEq] at h; subst h; simp
    · obtain ⟨m, hm, rfl⟩ := Option.map_eq_some_iff.1 h
      have := endX_lt hm
      rw [List.length_cons]; omega
def endI (l : List UInt8) : Int := match endX l with | some n => (n : Int) | none => -1
theorem map_add (o : Option Nat) (a b : Nat) : (o.map (· + a)).map (· + b) = o.map (· + (b + a)) := by
  cases o with
  | none => rfl
  | some n => simp only [Option.map_some, Option.some.injEq]; omega
set_option maxRecDepth 100000 in
set_option maxHeartbeats 8000000 in
theorem endof_any (l : List UInt8) (w : World) (hl : l.length ≤ 1000000) : Calls Tryd.prog 35 #[.string (txt l)] w fun e w' => e = .returned (.int .i64 (endI l)) ∧ w' = w := by
  have HL := Lib.hid hl
  have hix := fun (r : List UInt8) W => Tryd.strings_IndexByte (txt r) 10 W
  simp only [txt_list] at hix
  have HIX : Hid (∀ (r : List UInt8) W, Calls Tryd.prog 44 #[.string (txt r), .int .u8 10] W fun e w' => e = .returned (.int .i64 (Lib.indexByte r 10)) ∧ w' = W) := fun r W => hix r W
  have hpp := fun (r : List UInt8) W => Tryd.strings_HasPrefix (txt r) ⟨#[32]⟩ W
  simp only [txt_list] at hpp
  have HPP : Hid (∀ (r : List UInt8) W, Calls Tryd.prog 34 #[.string (txt r), .string ⟨#[32]⟩] W fun e w' => e = .returned (.bool (Lib.hasPrefix r [32])) ∧ w' = W) := fun r W => hpp r W
  clear hl hix hpp
  go_enter Tryd.func35, Tryd.ntmps35
  go_wp2_with fail
  go_loopw [3] (fun i wr => ∃ k : Nat, k ≤ l.length ∧ i = .int .i64 (k : Int) ∧ wr = w ∧ endX l = (endX (l.drop k)).map (· + k)) (fun i _ => l.length - (intOf i).toNat)
  case atStart => exact ⟨0, Nat.zero_le _, rfl, rfl, by simp⟩
  case round =>
    obtain ⟨k, hk, rfl, rfl, he⟩ := hrel
    have HEX := Lib.hid he
    have HK := Lib.hid hk
    have hle : k ≤ (txt l).size := by rw [txt_size]; exact hk
    have hex : (txt l).extract k (txt l).size = txt (l.drop k) := txt_drop l k
    clear he hk
    go_wp2_with fail
    clear hle hex
    refine (HIX.out (l.drop k) _).mono ?_
    rintro e w2 ⟨rfl, rfl⟩
    by_cases hn : Lib.indexByte (l.drop k) 10 < 0
    · have HF : Hid (endI l = -1) := by show _ = _; unfold endI; rw [HEX.out, endX_miss hn]; rfl
      generalize Lib.indexByte (l.drop k) 10 = ix at *
      go_wp2_with fail
      (try simp only [Exit.inBlock, Exit.then])
      go_ret
      exact ⟨by rw [HF.out] <;> rfl, by trivial⟩
    · obtain ⟨n, hnn⟩ : ∃ n : Nat, Lib.indexByte (l.drop k) 10 = (n : Int) := ⟨(Lib.indexByte (l.drop k) 10).toNat, by omega⟩
      have HH := Lib.hid (endX_hit hnn)
      have hnl := (nl_lt (l := l.drop k) (by omega)).1
      rw [hnn, List.length_drop] at hnl
      have hnl : n < l.length - k := by simpa using hnl
      rw [hnn]
      obtain ⟨a2, ha2⟩ : ∃ a, k + n = a := ⟨_, rfl⟩
      have HA2 := Lib.hid ha2
      have hnlt : ¬ (n : Int) < 0 := by omega
      have hw0 : wrap64 ((k : Int) + (n : Int)) = (a2 : Int) := by rw [show (k : Int) + (n : Int) = (a2 : Int) by omega]; exact IntWalk.wrap64_in _ (by have := HL.out; omega)
      have hw1 : wrap64 ((a2 : Int) + 1) = ((a2 + 1 : Nat) : Int) := next_int a2 (by have := HL.out; omega) _ rfl
      have HAL : Hid (a2 + 1 ≤ l.length) := by show _ ≤ _; omega
      have hle : a2 + 1 ≤ (txt l).size := by rw [txt_size]; exact HAL.out
      have hex : (txt l).extract (a2 + 1) (txt l).size = txt (l.drop (a2 + 1)) := txt_drop l (a2 + 1)
      have HDD : Hid ((l.drop k).drop (n + 1) = l.drop (a2 + 1)) := by show _ = _; rw [List.drop_drop, ← Nat.add_assoc, HA2.out]
      rw [HDD.out] at HH
      clear hn hnn hnl ha2
      go_wp2_with fail
      clear hle hex
      refine (HPP.out (l.drop (a2 + 1)) _).mono ?_
      rintro e w3 ⟨rfl, rfl⟩
      cases hp : Lib.hasPrefix (l.drop (a2 + 1)) [32]
      · have HF : Hid (endI l = (a2 : Int)) := by show _ = _; unfold endI; rw [HEX.out, HH.out.1 hp, ← HA2.out, Nat.add_comm k n]; rfl
        clear hp
        go_wp2_with fail
        (try simp only [Exit.inBlock, Exit.then])
        go_ret
        exact ⟨by rw [HF.out] <;> rfl, by trivial⟩
      · have HF : Hid (endX l = (endX (l.drop (a2 + 1))).map (· + (a2 + 1))) := by
          show _ = _
          rw [HEX.out, HH.out.2 hp, map_add, show k + (n + 1) = a2 + 1 by have := HA2.out; omega]
        clear hp
        go_wp2_with fail
        exact ⟨⟨a2 + 1, HAL.out, by first | rfl | trivial | rw [hw1], by trivial, HF.out⟩, by have := HAL.out; have := HA2.out; have := HK.out; (try simp only [hw1]); simp [intOf]; omega⟩
theorem ne_lit (l : List UInt8) (W : World) : (binOp .neq 9 (.string (txt l)) (.string ⟨#[]⟩)).run Tryd.prog W = .ok (.bool (!l.isEmpty)) W := by
  refine ne_str (txt l) ⟨#[]⟩ l.isEmpty ?_ W
  cases l with
  | nil => show ((⟨#[]⟩ : ByteArray).toList == (⟨#[]⟩ : ByteArray).toList) = true; exact beq_self_eq_true _
  | cons c t =>
    show (_ == _) = false
    rw [Bool.eq_false_iff]
    intro hh
    have h1 := toList_inj' _ _ (eq_of_beq hh)
    have h2 := congrArg (fun b : ByteArray => b.data.toList) h1
    simp only [txt_list] at h2
    cases h2
theorem eq_lit (l : List UInt8) (W : World) : (binOp .eql 9 (.string (txt l)) (.string ⟨#[]⟩)).run Tryd.prog W = .ok (.bool l.isEmpty) W := by
  rw [str_eql, txt_list]
  cases l <;> rfl
/-- What stands behind the empty line. -/
def msgS (s : St) : List UInt8 × St := match s.1 with
  | c :: r => if c = 10 then (r, (r, s.2)) else ([], ([], true))
  | [] => ([], ([], true))
theorem first_byte (c : UInt8) (t : List UInt8) (W : World) : (Instr.index 9 (.string (txt (c :: t))) (.int .i64 0)).run Tryd.prog W = .ok (.int .u8 (c.toNat : Int)) W := by
  have h := index_text (txt (c :: t)) 0 (by rw [txt_size]; simp) 0 rfl W
  rw [at8_txt] at h
  exact h
set_option maxRecDepth 100000 in
set_option maxHeartbeats 8000000 in
theorem message_any (r : Nat) (s : St) (w : World) (h : RdAt w r s) (hl : s.1.length ≤ 1000000) :
    Calls Tryd.prog 22 #[.pointer (some ⟨r, 0, none⟩)] w fun e w' => e = .returned (.string (txt (msgS s).1)) ∧ RdAt w' r (msgS s).2 ∧ FrR r w w' := by
  have HR := Lib.hid h
  have hcl := h.left
  obtain ⟨l, b⟩ := s
  dsimp only at hcl hl
  have HLL := Lib.hid hl
  clear h hl
  cases l with
  | nil =>
    have HE : Hid (∀ W, (binOp .eql 9 (.string (txt [])) (.string ⟨#[]⟩)).run Tryd.prog W = .ok (.bool true) W) := fun W => eq_lit [] W
    go_enter Tryd.func22, Tryd.ntmps22
    go_wp2_with (first
      | refine wpList_eql (by rfl) .eql 9 _ _ _ rfl (.string (txt [])) (.string ⟨#[]⟩) rfl rfl (.bool true) (guard_eq _ _ _ _) HE.out ?_)
    refine (fail_any r _ w HR.out).mono ?_
    rintro e w3 ⟨rfl, hr, hf⟩
    have HR3 := Lib.hid hr
    have HF3 := Lib.hid hf
    clear hr hf hcl
    go_wp2_with fail
    go_ret
    exact ⟨rfl, HR3.out, HF3.out⟩
  | cons c t =>
    have HE : Hid (∀ W, (binOp .eql 9 (.string (txt (c :: t))) (.string ⟨#[]⟩)).run Tryd.prog W = .ok (.bool false) W) := fun W => eq_lit (c :: t) W
    have hfb := fun W => first_byte c t W
    by_cases hc : c = 10
    · subst hc
      have hfb : ∀ W, (Instr.index 9 (.string (txt (10 :: t))) (.int .i64 0)).run Tryd.prog W = .ok (.int .u8 10) W := hfb
      go_enter Tryd.func22, Tryd.ntmps22
      go_wp2_with (first
        | refine wpList_eql (by rfl) .eql 9 _ _ _ rfl (.string (txt (10 :: t))) (.string ⟨#[]⟩) rfl rfl (.bool false) (guard_eq _ _ _ _) HE.out ?_)
      clear hcl
      refine (take_any r 0 (10 :: t, b) w HR.out (by simp) HLL.out).mono ?_
      rintro e w3 ⟨rfl, hr, hf⟩
      have HR3 : Hid (RdAt w3 r (t, b)) := hr
      have HF3 := Lib.hid hf
      have hcl3 := HR3.out.left
      clear hr hf
      go_wp2_with fail
      go_ret
      exact ⟨rfl, HR3.out, HF3.out⟩
    · have HM : Hid (msgS (c :: t, b) = ([], ([], true))) := by show _ = _; unfold msgS; dsimp only; rw [if_neg hc]
      rw [HM.out]
      have i1 : ¬ (c.toNat : Int) = 10 := fun h => hc (UInt8.toNat_inj.1 (by show c.toNat = 10; omega))
      have b1 : ((c.toNat : Int) != 10) = true := bne_iff_ne.2 i1
      clear hc
      generalize (c.toNat : Int) = ci at *
      go_enter Tryd.func22, Tryd.ntmps22
      go_wp2_with (first
        | refine wpList_eql (by rfl) .eql 9 _ _ _ rfl (.string (txt (c :: t))) (.string ⟨#[]⟩) rfl rfl (.bool false) (guard_eq _ _ _ _) HE.out ?_)
      refine (fail_any r _ w HR.out).mono ?_
      rintro e w3 ⟨rfl, hr, hf⟩
      have HR3 := Lib.hid hr
      have HF3 := Lib.hid hf
      clear hr hf hcl
      go_wp2_with fail
      go_ret
      exact ⟨rfl, HR3.out, HF3.out⟩
end Go.Proofs.YtindmggmblmmcaaDoor
