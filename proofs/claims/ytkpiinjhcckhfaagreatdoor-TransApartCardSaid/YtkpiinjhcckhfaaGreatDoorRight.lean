/- Where a text is cut at a byte. -/
import Derived.Test.YtkpiinjhcckhfaaGreatDoorRows
import Derived.Lib.IndexMore
import Derived.Test.YtkpiinjhcckhfaaGreatDoorHex
import Derived.Test.YtkpiinjhcckhfaaGreatDoorShelf
import Derived.Lib.Split
import Derived.Lib.IndexAny
import Derived.Laws.RangeAny
import Derived.Laws.Runes
import Derived.Lib.OthersKept
import Derived.Lib.Small
import Derived.Lib.SplitLaws
/-! Where a text is cut at a byte. -/
namespace Go.Proofs.YtkpiinjhcckhfaaGreatDoor
set_option linter.unusedVariables false
theorem index_at (A B : List UInt8) (c : UInt8) (hA : c ∉ A) : Lib.index (A ++ c :: B) [c] = (A.length : Int) := by
  refine Lib.index_first (by simp) ?_ ?_
  · unfold Lib.occAt
    rw [List.drop_left]
    simp
  · intro j hj
    unfold Lib.occAt
    rw [Bool.eq_false_iff]
    intro h
    obtain ⟨t, ht⟩ := List.isPrefixOf_iff_prefix.1 h
    have h3 := congrArg (·[0]?) ht
    simp only [List.cons_append, List.nil_append, List.getElem?_cons_zero, List.getElem?_drop, Nat.add_zero] at h3
    rw [List.getElem?_append_left hj] at h3
    exact hA (List.mem_of_getElem? h3.symm)
theorem index_not (l : List UInt8) (c : UInt8) (h : c ∉ l) : Lib.index l [c] = -1 := by
  refine Lib.index_none fun j hj => ?_
  unfold Lib.occAt
  rw [Bool.eq_false_iff]
  intro h2
  obtain ⟨t, ht⟩ := List.isPrefixOf_iff_prefix.1 h2
  exact h (List.mem_of_mem_drop (ht ▸ (by simp : c ∈ [c] ++ t)))
theorem cut_at (A B : List UInt8) (c : UInt8) (hA : c ∉ A) : Lib.cut (A ++ c :: B) [c] = (A, B, true) := by
  unfold Lib.cut
  rw [index_at A B c hA, if_pos (by omega), Int.toNat_natCast, List.take_left]
  rw [← List.drop_drop, List.drop_left]
  rfl
theorem cut_not (l : List UInt8) (c : UInt8) (h : c ∉ l) : Lib.cut l [c] = (l, [], false) := by
  unfold Lib.cut
  rw [index_not l c h, if_neg (by omega)]
theorem cut_or (c : UInt8) : ∀ l : List UInt8, c ∉ l ∨ ∃ A B, l = A ++ c :: B ∧ c ∉ A
  | [] => .inl (by simp)
  | x :: l => by
    by_cases hx : x = c
    · exact .inr ⟨[], l, by rw [hx]; rfl, by simp⟩
    · rcases cut_or c l with h | ⟨A, B, rfl, h⟩
      · exact .inl (by simp [h, Ne.symm hx])
      · exact .inr ⟨x :: A, B, rfl, by simp [h, Ne.symm hx]⟩
theorem cut_true {l : List UInt8} {c : UInt8} (h : (Lib.cut l [c]).2.2 = true) : l = (Lib.cut l [c]).1 ++ c :: (Lib.cut l [c]).2.1 ∧ c ∉ (Lib.cut l [c]).1 := by
  rcases cut_or c l with hn | ⟨A, B, rfl, hA⟩
  · rw [cut_not l c hn] at h; cases h
  · rw [cut_at A B c hA]; exact ⟨rfl, hA⟩
theorem cut_len (l : List UInt8) (c : UInt8) : (Lib.cut l [c]).1.length ≤ l.length ∧ (Lib.cut l [c]).2.1.length ≤ l.length := by
  rcases cut_or c l with hn | ⟨A, B, rfl, hA⟩
  · rw [cut_not l c hn]; simp
  · rw [cut_at A B c hA]; simp; omega
end Go.Proofs.YtkpiinjhcckhfaaGreatDoor
/-! Paths: their parts; which are right: plainly. -/
namespace Go.Proofs.YtkpiinjhcckhfaaGreatDoor
open Go.RowKit Plain
set_option linter.unusedVariables false
/-- What stands between slashes. -/
def partsL : List UInt8 → List (List UInt8)
  | [] => [[]]
  | b :: l => if b = 47 then [] :: partsL l else (b :: (partsL l).headD []) :: (partsL l).tail
theorem partsL_slash (l : List UInt8) : partsL (47 :: l) = [] :: partsL l := by rw [partsL, if_pos rfl]
theorem partsL_other (b : UInt8) (l : List UInt8) (h : b ≠ 47) : partsL (b :: l) = (b :: (partsL l).headD []) :: (partsL l).tail := by rw [partsL, if_neg h]
theorem partsL_none : ∀ {l : List UInt8}, (∀ b ∈ l, b ≠ 47) → partsL l = [l]
  | [], _ => rfl
  | b :: l, h => by
    unfold partsL
    rw [if_neg (h b (by simp)), partsL_none (l := l) fun x hx => h x (by simp [hx])]
    rfl
theorem partsL_hit : ∀ {l : List UInt8} {i : Nat}, l[i]? = some 47 → (∀ j, j < i → l[j]? ≠ some 47) → partsL l = l.take i :: partsL (l.drop (i + 1))
  | [], i, h, _ => by simp at h
  | b :: l, 0, h, _ => by
    have hb : b = 47 := by simpa using h
    subst hb
    rw [partsL_slash]
    rfl
  | b :: l, i + 1, h, hn => by
    have hb : b ≠ 47 := fun e => hn 0 (by omega) (by rw [e]; rfl)
    have ih := partsL_hit (l := l) (i := i) (by simpa using h) fun j hj => by
      have := hn (j + 1) (by omega)
      simpa using this
    rw [partsL_other b l hb, ih]
    rfl
theorem occ_iff (l : List UInt8) (i : Nat) : Lib.occAt l [47] i = true ↔ l[i]? = some 47 := by
  unfold Lib.occAt
  by_cases h : i < l.length
  · rw [List.drop_eq_getElem_cons h, List.getElem?_eq_getElem h]
    simp only [List.isPrefixOf, Bool.and_true, beq_iff_eq, Option.some.injEq]
    exact eq_comm
  · rw [List.drop_eq_nil_of_le (by omega), List.getElem?_eq_none (by omega)]
    simp [List.isPrefixOf]
theorem split_parts : ∀ (n : Nat) (l : List UInt8), l.length ≤ n → Lib.split l [47] = partsL l := by
  intro n
  induction n with
  | zero =>
    intro l hl
    obtain rfl : l = [] := List.eq_nil_of_length_eq_zero (by omega)
    rfl
  | succ n ih =>
    intro l hl
    unfold Lib.split
    rcases Lib.index_spec l [47] with ⟨h, hn⟩ | ⟨i, h, hi, ho, hn⟩
    · rw [Lib.count_miss h]
      rw [partsL_none]
      · rfl
      · intro b hb e
        subst e
        obtain ⟨j, hj, e⟩ := List.mem_iff_getElem.1 hb
        have := hn j (by omega)
        rw [(occ_iff l j).2 (by rw [List.getElem?_eq_getElem hj, e])] at this
        cases this
    · have hi2 := (occ_iff l i).1 ho
      have hil := (List.getElem?_eq_some_iff.1 hi2).1
      rw [Lib.count_hit (by simp) h, Nat.add_comm]
      unfold Lib.splitK
      have hm : ¬ (Lib.index l [47] == -1) = true := fun e => by have := beq_iff_eq.1 e; omega
      rw [if_neg hm, h, partsL_hit hi2 fun j hj e => by
        have := hn j hj
        rw [(occ_iff l j).2 e] at this
        cases this]
      have := ih (l.drop (i + 1)) (by rw [List.length_drop]; omega)
      unfold Lib.split at this
      simp only [Int.toNat_natCast, Nat.add_zero, List.length_singleton]
      rw [this]
theorem splitB_parts (s : ByteArray) : (Lib.splitB ⟨#[47]⟩ 0 (Lib.countB s ⟨#[47]⟩) s).map (·.data.toList) = partsL s.data.toList := by
  rw [Lib.splitB_data]
  exact split_parts _ _ (Nat.le_refl _)
def badPart (p : List UInt8) : Bool := p == [] || p == [46] || p == [46, 46]
def oddByte (b : UInt8) : Bool := b == 0 || b == 10 || b == 13
/-- Is that a path? -/
def rightL (l : List UInt8) : Bool := decide (l.length ≤ 255) && !l.any oddByte && !(partsL l).any badPart
theorem any_idx (l : List UInt8) : Lib.containsAny l [0, 10, 13] = l.any oddByte := by
  unfold Lib.containsAny
  induction l with
  | nil => rfl
  | cons b l ih =>
    have hc : ([0, 10, 13] : List UInt8).contains b = oddByte b := by
      unfold oddByte
      simp only [List.contains_cons, List.contains_nil, Bool.or_false, Bool.or_assoc]
    have hge := Lib.indexAny_ge [0, 10, 13] l
    unfold Lib.indexAny
    rw [List.any_cons, hc, ← ih]
    cases h : oddByte b
    · simp only [Bool.false_eq_true, if_false, Bool.false_or]
      split
      · rename_i e
        rw [beq_iff_eq.1 e]
      · rename_i e
        have : Lib.indexAny l [0, 10, 13] ≠ -1 := fun e2 => e (beq_iff_eq.2 e2)
        rw [decide_eq_decide]
        omega
    · simp
end Go.Proofs.YtkpiinjhcckhfaaGreatDoor
/-! strings.IndexRune at a rune that no ASCII text has; strings.IndexAny, ContainsAny of any text at ASCII bytes: the walks. -/
namespace Go.Proofs.YtkpiinjhcckhfaaGreatDoor
open Go.RowKit Plain
set_option linter.unusedVariables false
theorem drewN_below (w : World) (n : Nat) : Below w.heap.size w (w.drewN n) := ⟨rfl, rfl, rfl, Nat.le_refl _, fun _ _ => rfl⟩
def Ascii (s : ByteArray) : Prop := ∀ b ∈ s.data.toList, b.toNat < 128
theorem Ascii.at {s : ByteArray} (h : Ascii s) {i : Nat} (hi : i < s.size) : (s[i]'hi).toNat < 128 := h _ (List.mem_of_getElem? (Lib.data_getElem? s i hi))
theorem valid_same (r : Int) : Utf8.valid r = Lib.validRune r := by
  unfold Utf8.valid Lib.validRune
  rw [Bool.eq_iff_iff]
  simp
  omega
theorem indexByte_no (l : List UInt8) (c : UInt8) (h : ∀ b ∈ l, b ≠ c) : Lib.indexByte l c = -1 := by
  induction l with
  | nil => rfl
  | cons b l ih =>
    unfold Lib.indexByte
    rw [ih fun x hx => h x (by simp [hx])]
    have : ¬ (b == c) = true := fun e => h b (by simp) (beq_iff_eq.1 e)
    simp [this]
set_option maxRecDepth 100000 in
set_option maxHeartbeats 4000000 in
theorem indexRune_bad (s : ByteArray) (w : World) (hs : s.size ≤ 1000) (ha : Ascii s) :
    Calls Tryz.prog 126 #[.string s, .int .i32 65533] w fun e w' => e = .returned (.int .i64 (-1)) ∧ Below w.heap.size w w' := by
  have HA := Lib.hid ha
  clear ha
  go_enter Tryz.func126, Tryz.ntmps126
  go_wp2_with fail
  go_loopw [5, 6] (fun _ _ wr => ∃ i : Nat, i ≤ s.size ∧ wr = w.iter s i) (fun _ _ wr => s.size - wr.iterPos w.heap.size)
  case atStart => exact ⟨0, by omega, rfl⟩
  case round =>
    obtain ⟨i, hi, rfl⟩ := hrel
    by_cases hie : i = s.size
    · subst hie
      have hnx := fun ty => run_next_end (P := Tryz.prog) w s s.size ty (by omega)
      have HB : Hid (Below w.heap.size w (w.iter s s.size)) := (Below.refl _ _).alloc (Nat.le_refl _) _
      go_wp2_with fail
      go_ret
      exact ⟨rfl, HB.out⟩
    · have hil : i < s.size := by omega
      have hx := HA.out.at hil
      have hnx := fun ty => run_next_ascii (P := Tryz.prog) w s i ty hil hx
      have hne : ¬ (((s[i]'hil).toNat : Nat) : Int) = 65533 := by omega
      have hne2 : ((((s[i]'hil).toNat : Nat) : Int) == 65533) = false := beq_eq_false_iff_ne.2 hne
      generalize (((s[i]'hil).toNat : Nat) : Int) = x at *
      clear hx
      go_wp2_with fail
      exact ⟨⟨i + 1, by omega, rfl⟩, by simp; omega⟩
set_option maxRecDepth 100000 in
set_option maxHeartbeats 4000000 in
theorem indexRune_high (s : ByteArray) (r : Int) (w : World) (hs : s.size ≤ 1000) (ha : Ascii s) (h0 : 128 ≤ r) (h1 : r ≤ 2147483647) :
    Calls Tryz.prog 126 #[.string s, .int .i32 r] w fun e w' => e = .returned (.int .i64 (-1)) ∧ Below w.heap.size w w' := by
  by_cases hbad : r = 65533
  · subst hbad
    exact indexRune_bad s w hs ha
  · have n1 : ¬ r < 128 := by omega
    have n0 : 0 ≤ r := by omega
    have hb2 : (r == 65533) = false := beq_eq_false_iff_ne.2 hbad
    cases hv : Lib.validRune r
    · have hcall := fun W => Tryz.utf8_ValidRune r W
      rw [hv] at hcall
      have HC := Lib.hid hcall
      clear hcall ha hv
      go_enter Tryz.func126, Tryz.ntmps126
      go_wp2_with fail
      refine (HC.out _).mono ?_
      rintro e w' ⟨rfl, rfl⟩
      go_wp2_with fail
      go_ret
      exact ⟨rfl, Below.refl _ _⟩
    · have hcall := fun W => Tryz.utf8_ValidRune r W
      rw [hv] at hcall
      have HC := Lib.hid hcall
      obtain ⟨e1, e2, e3⟩ := encode_facts r (by rw [valid_same]; exact hv) h0
      have hcv := fun W => run_convert_int_string (P := Tryz.prog) W 21 9 .i32 r (by kernel_rfl) Tryz.underlying9
      obtain ⟨rs, hrs⟩ : ∃ rs, Utf8.encode r = rs := ⟨_, rfl⟩
      rw [hrs] at hcv e1 e2 e3
      obtain ⟨l, hl⟩ : ∃ l, rs.size = l + 1 := ⟨rs.size - 1, by omega⟩
      have hll : l < rs.size := by omega
      have h3 : 128 ≤ (rs[l]'hll).toNat := by
        have h4 : rs.size - 1 = l := by omega
        have := e3 (by omega)
        simp only [h4] at this
        exact this
      have HI := Lib.hid (fun W => index_text rs l hll (l : Int) rfl W)
      have hat : at8 rs l = (rs[l]'hll).toNat := by
        unfold at8
        rw [Lib.data_getElem? rs l hll]
        rfl
      rw [hat] at HI
      obtain ⟨c, hc⟩ : ∃ c, (rs[l]'hll) = c := ⟨_, rfl⟩
      rw [hc] at HI h3
      have hls : (rs.size : Int) = (l : Int) + 1 := by omega
      have hl1 : 1 ≤ l := by omega
      have hl3 : l ≤ 3 := by omega
      clear hv hcall e1 e2 e3 hat hc hrs hbad
      have hsi : (s.size : Int) ≤ 1000 := by omega
      by_cases hsz : l < s.size
      · have hszi : (l : Int) < (s.size : Int) := by omega
        have hx := ha.at hsz
        have HS := Lib.hid (fun W => index_text s l hsz (l : Int) rfl W)
        have hat : at8 s l = (s[l]'hsz).toNat := by
          unfold at8
          rw [Lib.data_getElem? s l hsz]
          rfl
        rw [hat] at HS
        have hxc : ¬ (((s[l]'hsz).toNat : Nat) : Int) = ((c.toNat : Nat) : Int) := by omega
        have hxc2 : ((((s[l]'hsz).toNat : Nat) : Int) == ((c.toNat : Nat) : Int)) = false := beq_eq_false_iff_ne.2 hxc
        have HIB : Hid (∀ W, Calls Tryz.prog 120 #[.string (s.extract (l + 1) s.size), .int .u8 ((c.toNat : Nat) : Int)] W fun e w' => e = .returned (.int .i64 (-1)) ∧ w' = W) := fun W => by
          refine (Tryz.strings_IndexByte (s.extract (l + 1) s.size) (c.toNat : Int) W).mono ?_
          rintro e w' ⟨rfl, rfl⟩
          refine ⟨?_, rfl⟩
          rw [indexByte_no _ _ fun b hb e => ?_]
          have hb2 : b ∈ s.data.toList := by
            rw [Lib.extract_data] at hb
            exact List.mem_of_mem_drop (List.mem_of_mem_take hb)
          have := ha b hb2
          rw [e] at this
          simp at this
          omega
        generalize (((s[l]'hsz).toNat : Nat) : Int) = x at *
        clear hx hat ha
        have hs1 := HS.out
        have hr1 := HI.out
        have hwl : IntKind.i64.wrap ((l : Int) + 1) = (l : Int) + 1 := IntWalk.i64_in _ (by omega)
        have hwl0 : IntKind.i64.wrap (l : Int) = (l : Int) := IntWalk.i64_in _ (by omega)
        have hll1 : (l : Int) + 1 ≤ (s.size : Int) := by omega
        have hll2 : (l : Int) < (l : Int) + 1 := by omega
        have hl0 : (0 : Int) ≤ (l : Int) + 1 := by omega
        have htn : ((l : Int) + 1).toNat = l + 1 := by omega
        go_enter Tryz.func126, Tryz.ntmps126
        go_wp2_with fail
        refine (HC.out _).mono ?_
        rintro e w' ⟨rfl, rfl⟩
        go_wp2_with fail
        apply wp_scope_straight
        go_wp2_with fail
        go_loopw [9] (fun i wr => i = .int .i64 (l : Int) ∧ Below w'.heap.size w' wr) (fun _ _ => 0)
        case atStart => exact ⟨rfl, Below.refl _ _⟩
        case round =>
          obtain ⟨rfl, hb⟩ := hrel
          have HB := Lib.hid hb
          clear hb
          go_wp2_with fail
          apply wp_scope_straight
          go_wp2_with fail
          go_quiet (fail)
          have HBD : Hid (Below w'.heap.size w' (wr.drewN nq)) := HB.out.trans (Below.mono (drewN_below _ _) HB.out.size)
          generalize wr.drewN nq = wd at *
          go_wp2_with fail
          go_quiet ((go_at_call 120; exact Calls.quiet_of_same (HIB.out _)))
          go_wp2_with fail
          (try simp only [Exit.noGoto_ret])
          refine bodyPost_ret (P := Tryz.prog) (fn := Tryz.f126) (R := fun e w'' => e = .returned (.int .i64 (-1)) ∧ Below w'.heap.size w' w'') (results_tmp rfl _ _ _) rfl ⟨rfl, ?_⟩
          exact HBD.out.trans (Below.mono (drewN_below _ _) HBD.out.size)
      · have hszi : ¬ (l : Int) < (s.size : Int) := by omega
        go_enter Tryz.func126, Tryz.ntmps126
        go_wp2_with fail
        refine (HC.out _).mono ?_
        rintro e w' ⟨rfl, rfl⟩
        go_wp2_with fail
        apply wp_scope_straight
        go_wp2_with fail
        go_loopw [9] (fun i wr => i = .int .i64 (l : Int) ∧ wr = w') (fun _ _ => 0)
        case atStart => exact ⟨rfl, rfl⟩
        case round =>
          obtain ⟨rfl, rfl⟩ := hrel
          go_wp2_with fail
          (try simp only [Exit.noGoto_ret]); go_ret
          exact ⟨rfl, Below.refl _ _⟩
/-- What a rune's bytes are, where it begins with a high byte. -/
theorem decode_span (s : ByteArray) (p : Nat) (hp : p < s.size) (ha : 128 ≤ (s[p]'hp).toNat) : p + (Utf8.decode s p).2 ≤ s.size ∧ ∀ q b, p ≤ q → q < p + (Utf8.decode s p).2 → s.data.toList[q]? = some b → 128 ≤ b.toNat := by
  have hget : ∀ k, p + k < s.size → ∀ b, s.data.toList[p + k]? = some b → (s.get! (p + k)).toNat = b.toNat := fun k hk b hb => by
    rw [Lib.data_getElem? s (p + k) hk] at hb
    have e : s.get! (p + k) = s[p + k]'hk := by
      simp [ByteArray.get!, getElem!_pos, hk]
      rfl
    rw [e]
    injection hb with hb
    rw [hb]
  have h0 : ∀ b, s.data.toList[p]? = some b → 128 ≤ b.toNat := fun b hb => by
    rw [Lib.data_getElem? s p hp] at hb
    injection hb with hb
    rw [← hb]; exact ha
  have hn : ¬ (s[p]'hp).toNat < 128 := by omega
  have one : ∀ q b, p ≤ q → q < p + 1 → s.data.toList[q]? = some b → 128 ≤ b.toNat := fun q b h1 h2 hb => by
    have : q = p := by omega
    subst this
    exact h0 b hb
  have hcont : ∀ k, (decide (p + k < s.size) && (s.get! (p + k)).toNat / 64 == 2) = true → p + k < s.size ∧ ∀ b, s.data.toList[p + k]? = some b → 128 ≤ b.toNat := fun k hk => by
    rw [Bool.and_eq_true, decide_eq_true_iff, beq_iff_eq] at hk
    refine ⟨hk.1, fun b hb => ?_⟩
    have := hget k hk.1 b hb
    omega
  simp only [Utf8.decode, get_at s p hp, hn, if_false]
  split
  · rename_i h
    rw [Bool.and_eq_true] at h
    obtain ⟨c1, d1⟩ := hcont 1 h.2
    split
    · refine ⟨by show p + 2 ≤ _; omega, fun q b h1 h2 hb => ?_⟩
      have h2' : q < p + 2 := h2
      by_cases e : q = p
      · subst e; exact h0 b hb
      · obtain rfl : q = p + 1 := by omega
        exact d1 b hb
    · exact ⟨by show p + 1 ≤ _; omega, fun q b h1 h2 hb => one q b h1 h2 hb⟩
  · split
    · rename_i h
      rw [Bool.and_eq_true, Bool.and_eq_true] at h
      obtain ⟨c1, d1⟩ := hcont 1 h.1.2
      obtain ⟨c2, d2⟩ := hcont 2 h.2
      split
      · refine ⟨by show p + 3 ≤ _; omega, fun q b h1 h2 hb => ?_⟩
        have h2' : q < p + 3 := h2
        by_cases e : q = p
        · subst e; exact h0 b hb
        · by_cases e1 : q = p + 1
          · subst e1; exact d1 b hb
          · obtain rfl : q = p + 2 := by omega
            exact d2 b hb
      · exact ⟨by show p + 1 ≤ _; omega, fun q b h1 h2 hb => one q b h1 h2 hb⟩
    · split
      · rename_i h
        rw [Bool.and_eq_true, Bool.and_eq_true, Bool.and_eq_true] at h
        obtain ⟨c1, d1⟩ := hcont 1 h.1.1.2
        obtain ⟨c2, d2⟩ := hcont 2 h.1.2
        obtain ⟨c3, d3⟩ := hcont 3 h.2
        split
        · refine ⟨by show p + 4 ≤ _; omega, fun q b h1 h2 hb => ?_⟩
          have h2' : q < p + 4 := h2
          by_cases e : q = p
          · subst e; exact h0 b hb
          · by_cases e1 : q = p + 1
            · subst e1; exact d1 b hb
            · by_cases e2 : q = p + 2
              · subst e2; exact d2 b hb
              · obtain rfl : q = p + 3 := by omega
                exact d3 b hb
        · exact ⟨by show p + 1 ≤ _; omega, fun q b h1 h2 hb => one q b h1 h2 hb⟩
      · exact ⟨by show p + 1 ≤ _; omega, fun q b h1 h2 hb => one q b h1 h2 hb⟩
theorem Below.iterAt {B : Nat} {w0 w : World} (h : Below B w0 w) (k : Nat) (hk : B ≤ k) (s : ByteArray) (p : Nat) : Below B w0 (w.iterAt k s p) := by
  refine ⟨h.os, h.tape, h.output, ?_, fun j hj => ?_⟩
  · unfold World.iterAt
    show _ ≤ (w.heap.setIfInBounds k _).size
    rw [Array.size_setIfInBounds]; exact h.size
  · unfold World.iterAt
    show (w.heap.setIfInBounds k _)[j]? = _
    rw [Array.getElem?_setIfInBounds_ne (by omega)]
    exact h.block j hj
theorem iter_block (w : World) (s : ByteArray) (p : Nat) : (w.iter s p).heap[w.heap.size]? = some (.stringIter s p) := World.iter_heap w s p
def posAt (w : World) (k : Nat) : Nat := match w.heap[k]? with | some (.stringIter _ p) => p | _ => 0
theorem posAt_eq {w : World} {k p : Nat} {s : ByteArray} (h : w.heap[k]? = some (.stringIter s p)) : posAt w k = p := by unfold posAt; rw [h]
theorem NoAny.jump {s chars : List UInt8} {i n : Nat} (h : Lib.NoAny s chars i) (hn : ∀ q b, i ≤ q → q < i + n → s[q]? = some b → 128 ≤ b.toNat) (hc : ∀ b ∈ chars, b.toNat < 128) : Lib.NoAny s chars (i + n) := fun j b hj hb => by
  by_cases e : j < i
  · exact h j b e hb
  · have h1 := hn j b (by omega) hj hb
    cases hm : chars.contains b
    · rfl
    · have := hc b (List.contains_iff_mem.1 hm)
      omega
set_option maxRecDepth 100000 in
set_option maxHeartbeats 4000000 in
theorem indexAny_short (s chars : ByteArray) (w : World) (h2 : 2 ≤ chars.size) (hc9 : chars.size ≤ 1000) (h8 : s.size ≤ 8) (ha : Ascii chars) :
    Calls Tryz.prog 114 #[.string s, .string chars] w fun e w' => e = .returned (.int .i64 (Lib.indexAny s.data.toList chars.data.toList)) ∧ Below w.heap.size w w' := by
  have HA := Lib.hid ha
  have hemp : chars.toList.isEmpty = false := by
    rw [Lib.toList_data]
    cases h : chars.data.toList with
    | nil => have := Lib.size_eq chars; rw [h, List.length_nil] at this; omega
    | cons _ _ => rfl
  have hn1 : ((chars.size : Int) == 1) = false := beq_eq_false_iff_ne.2 (by omega)
  have hsu := fun W => Tryz.strings_shouldUseASCIISet (s.size : Int) W
  rw [show decide ((8 : Int) < (s.size : Int)) = false from decide_eq_false (by omega)] at hsu
  have HSU := Lib.hid hsu
  clear hsu ha
  go_enter Tryz.func114, Tryz.ntmps114
  go_wp2_with fail
  refine (HSU.out _).mono ?_
  rintro e w' ⟨rfl, rfl⟩
  go_wp2_with fail
  go_loopw [9, 10] (fun _ _ wr => ∃ i : Nat, i ≤ s.size ∧ wr.heap[w'.heap.size]? = some (.stringIter s i) ∧ Lib.NoAny s.data.toList chars.data.toList i ∧ Below w'.heap.size w' wr) (fun _ _ wr => s.size - posAt wr w'.heap.size)
  case atStart => exact ⟨0, by omega, iter_block _ _ _, Lib.NoAny.zero _ _, (Below.refl _ _).alloc (Nat.le_refl _) _⟩
  case round =>
    obtain ⟨i, hi, hit, hno, hb⟩ := hrel
    have HIT := Lib.hid hit
    have HNO := Lib.hid hno
    have HB := Lib.hid hb
    have HPOS := Lib.hid (posAt_eq hit)
    clear hno hb
    by_cases hie : i = s.size
    · subst hie
      have hnx := fun ty => Lib.run_next_end_at (P := Tryz.prog) wr w'.heap.size s s.size ty hit (by omega)
      clear hit
      go_wp2_with fail
      go_ret
      exact ⟨by rw [Lib.indexAny_none (by rw [← Lib.size_eq]; exact HNO.out)]; rfl, HB.out⟩
    · have hil : i < s.size := by omega
      have HX := Lib.hid (Lib.data_getElem? s i hil)
      by_cases hx : (s[i]'hil).toNat < 128
      · have hnx := fun ty => Lib.run_next_ascii_at (P := Tryz.prog) wr w'.heap.size s i ty hit hil hx
        have HB1 : Hid (Below w'.heap.size w' (wr.iterAt w'.heap.size s (i + 1))) := Below.iterAt HB.out _ (Nat.le_refl _) _ _
        have HI1 : Hid ((wr.iterAt w'.heap.size s (i + 1)).heap[w'.heap.size]? = some (.stringIter s (i + 1))) := Lib.iterAt_heap _ _ _ _ _ hit
        have hcall := fun W => Tryz.strings_IndexRune_ascii chars (((s[i]'hil).toNat : Nat) : Int) W (by omega) (by omega)
        rw [show (((s[i]'hil).toNat : Nat) : Int).toNat.toUInt8 = s[i]'hil by simp] at hcall
        have hcon := Lib.contains_iff_indexByte chars.data.toList (s[i]'hil)
        generalize s[i]'hil = x at *
        have HC := Lib.hid hcall
        obtain ⟨v, hv⟩ : ∃ v, Lib.indexByte chars.data.toList x = v := ⟨_, rfl⟩
        rw [hv] at HC hcon
        clear hcall hit hx
        generalize wr.iterAt w'.heap.size s (i + 1) = w2 at *
        cases hin : chars.data.toList.contains x
        · rw [hin] at hcon
          have hlt : ¬ ((0 : Int) ≤ v) := of_decide_eq_false hcon.symm
          have HN2 := Lib.hid (HNO.out.succ HX.out hin)
          clear hcon hin hv
          go_wp2_with fail
          refine (HC.out _).mono ?_
          rintro e w3 ⟨rfl, rfl⟩
          go_wp2_with fail
          exact ⟨⟨i + 1, by omega, HI1.out, HN2.out, HB1.out⟩, by rw [posAt_eq HI1.out, HPOS.out]; omega⟩
        · rw [hin] at hcon
          have hge : (0 : Int) ≤ v := of_decide_eq_true hcon.symm
          have HE : Hid (Lib.indexAny s.data.toList chars.data.toList = (i : Int)) := Lib.indexAny_hit HNO.out HX.out hin
          clear hcon hin hv
          go_wp2_with fail
          refine (HC.out _).mono ?_
          rintro e w3 ⟨rfl, rfl⟩
          go_wp2_with fail
          go_ret
          rw [HE.out]
          exact ⟨rfl, HB1.out⟩
      · have hx2 : 128 ≤ (s[i]'hil).toNat := by omega
        have hnx := fun ty => Lib.run_next_any_at (P := Tryz.prog) wr w'.heap.size s i ty hit hil
        obtain ⟨d1, d2⟩ := decode_high s i hil hx2
        have d3 := decode_le s i
        obtain ⟨d4, d5⟩ := decode_span s i hil hx2
        obtain ⟨r, n, hrn⟩ : ∃ r n, Utf8.decode s i = (r, n) := ⟨_, _, rfl⟩
        rw [hrn] at hnx d1 d2 d3 d4 d5
        simp only at hnx d1 d2 d3 d4 d5
        have HB1 : Hid (Below w'.heap.size w' (wr.iterAt w'.heap.size s (i + n))) := Below.iterAt HB.out _ (Nat.le_refl _) _ _
        have HI1 : Hid ((wr.iterAt w'.heap.size s (i + n)).heap[w'.heap.size]? = some (.stringIter s (i + n))) := Lib.iterAt_heap _ _ _ _ _ hit
        have HN2 := Lib.hid (NoAny.jump HNO.out d5 (fun b hb => HA.out b hb))
        have HC := Lib.hid (fun W => indexRune_high chars (r : Int) W hc9 HA.out (by omega) (by omega))
        clear hit hx hx2 d1 d3 d5 hrn
        generalize wr.iterAt w'.heap.size s (i + n) = w2 at *
        go_wp2_with fail
        refine (HC.out _).mono ?_
        rintro e w3 ⟨rfl, hb3⟩
        have HB3 := Lib.hid (HB1.out.trans (hb3.mono HB1.out.size))
        have HI3 : Hid (w3.heap[w'.heap.size]? = some (.stringIter s (i + n))) := (hb3.block _ (Array.getElem?_eq_some_iff.1 HI1.out).1).trans HI1.out
        clear hb3
        go_wp2_with fail
        exact ⟨⟨i + n, d4, HI3.out, HN2.out, HB3.out⟩, by rw [posAt_eq HI3.out, HPOS.out]; omega⟩
end Go.Proofs.YtkpiinjhcckhfaaGreatDoor
/-! strings.ContainsAny of any text at ASCII bytes; names.Right: the walks. -/
namespace Go.Proofs.YtkpiinjhcckhfaaGreatDoor
open Go.RowKit Plain
set_option linter.unusedVariables false
/-- What the start's variables hold. -/
structure Env (w : World) : Prop where
  most : ∃ m, w.cell? ⟨0, 0, none⟩ = some (.int .i64 m)
theorem Env.below {w w' : World} (h : Env w) (hb : Below w.heap.size w w') : Env w' := by
  obtain ⟨m, hm⟩ := h.most
  exact ⟨m, (hb.cell (p := ⟨0, 0, none⟩) (World.block_lt_of_cell? w ⟨0, 0, none⟩ hm)).trans hm⟩
theorem ascii_at {s : ByteArray} (h : Ascii s) : ∀ (j : Nat) b, s.data.toList[j]? = some b → b.toNat < 128 := fun j b hb => h b (List.mem_of_getElem? hb)
theorem indexAny_any (s chars : ByteArray) (w : World) (hs : s.size ≤ 100000) (h2 : 2 ≤ chars.size) (hc9 : chars.size ≤ 1000) (ha : Ascii chars) :
    Calls Tryz.prog 114 #[.string s, .string chars] w fun e w' => e = .returned (.int .i64 (Lib.indexAny s.data.toList chars.data.toList)) ∧ Below w.heap.size w w' := by
  by_cases h8 : s.size ≤ 8
  · exact indexAny_short s chars w h2 hc9 h8 ha
  · refine (Tryz.strings_IndexAny_long (fun W => by kernel_rfl) s chars w h2 (by omega) (by omega) (by omega) (ascii_at ha)).mono ?_
    rintro e w' ⟨rfl, rfl⟩
    exact ⟨rfl, ((Below.refl _ _).alloc (Nat.le_refl _) _).alloc (by simp) _⟩
set_option maxRecDepth 100000 in
set_option maxHeartbeats 1000000 in
theorem containsAny_any (s chars : ByteArray) (w : World) (hs : s.size ≤ 100000) (h2 : 2 ≤ chars.size) (hc9 : chars.size ≤ 1000) (ha : Ascii chars) :
    Calls Tryz.prog 95 #[.string s, .string chars] w fun e w' => e = .returned (.bool (Lib.containsAny s.data.toList chars.data.toList)) ∧ Below w.heap.size w w' := by
  have HC := Lib.hid (indexAny_any s chars w hs h2 hc9 ha)
  obtain ⟨v, hv⟩ : ∃ v, Lib.indexAny s.data.toList chars.data.toList = v := ⟨_, rfl⟩
  have HE : Hid (Lib.containsAny s.data.toList chars.data.toList = decide ((0 : Int) ≤ v)) := by show _ = _; unfold Lib.containsAny; rw [hv]
  rw [hv] at HC
  clear ha hs h2 hc9 hv
  go_enter Tryz.func95, Tryz.ntmps95
  go_wp2_with fail
  refine HC.out.mono ?_
  rintro e w' ⟨rfl, hb⟩
  go_wp2_with fail
  go_ret
  rw [HE.out]
  exact ⟨rfl, hb⟩
theorem str_eql (a b : ByteArray) (w : World) : (binOp .eql 9 (.string a) (.string b)).run Tryz.prog w = .ok (.bool (a.data.toList == b.data.toList)) w := by
  rw [binOp_string_eql, Lib.toList_data, Lib.toList_data]
  rfl
/-- Strings that lie in a row. -/
def StrsAt (w : World) (g : Nat) (ps : List ByteArray) : Prop := ∀ k p, ps[k]? = some p → w.cell? ⟨g, k, none⟩ = some (.string p)
theorem StrsAt.new (w : World) (ps : List ByteArray) (t : TypeId) : StrsAt (w.alloc (.cells (ps.map Value.string).toArray t)) w.heap.size ps := fun k p hp => by
  rw [cell_of_row _ _ _ _ _ _ (heap_alloc_new w _), List.getElem?_toArray, List.getElem?_map, hp]
  rfl
theorem next_int (k : Nat) (h : k ≤ 100000000000) : ∀ x : Int, x = (k : Int) + 1 → wrap64 x = ((k + 1 : Nat) : Int) := fun x hx => by
  subst hx
  rw [show ((k : Int) + 1) = ((k + 1 : Nat) : Int) by omega]
  exact IntWalk.wrap64_in _ (by omega)
theorem any_take_snoc {α : Type} {f : α → Bool} {l : List α} {k : Nat} {x : α} (h : l[k]? = some x) : (l.take (k + 1)).any f = ((l.take k).any f || f x) := by
  rw [List.take_add_one, h, List.any_append]
  simp
theorem any_of_take {α : Type} {f : α → Bool} {l : List α} {k : Nat} (h : (l.take k).any f = true) : l.any f = true := by
  rw [List.any_eq_true] at h ⊢
  obtain ⟨x, hx, hf⟩ := h
  exact ⟨x, List.mem_of_mem_take hx, hf⟩
set_option maxRecDepth 100000 in
set_option maxHeartbeats 8000000 in
theorem right_any (s : ByteArray) (w : World) (hE : Env w) :
    Calls Tryz.prog 85 #[.string s] w fun e w' => e = .returned (.bool (rightL s.data.toList)) ∧ Below w.heap.size w w' := by
  have hsz := Lib.size_eq s
  by_cases h255 : s.size ≤ 255
  · have hgt : ¬ (255 : Int) < (s.size : Int) := by omega
    have HC := Lib.hid (containsAny_any s ⟨#[0, 10, 13]⟩ w (by omega) (by decide) (by decide) (by unfold Ascii; decide))
    have hca : Lib.containsAny s.data.toList (⟨#[0, 10, 13]⟩ : ByteArray).data.toList = s.data.toList.any oddByte := any_idx _
    rw [hca] at HC
    cases hodd : s.data.toList.any oddByte
    · rw [hodd] at HC
      have HR : Hid (rightL s.data.toList = !(partsL s.data.toList).any badPart) := by
        show _ = _
        unfold rightL
        rw [hodd, decide_eq_true (by rw [← hsz]; exact h255)]
        rfl
      have HE := Lib.hid hE
      have HSZ := Lib.hid hsz
      clear hE hca hodd hsz
      go_enter Tryz.func85, Tryz.ntmps85
      go_wp2_with fail
      refine HC.out.mono ?_
      rintro e w1 ⟨rfl, hb1⟩
      have HB1 := Lib.hid hb1
      obtain ⟨m, hm⟩ := (HE.out.below hb1).most
      clear hb1
      go_wp2_with fail
      refine (Tryz.strings_Split s ⟨#[47]⟩ m w1 (by omega) hm (by decide)).mono ?_
      rintro e w2 ⟨rfl, hw2⟩
      have HLEN := Lib.hid (Lib.splitB_all ⟨#[47]⟩ (by decide) 0 (Lib.countB s ⟨#[47]⟩) s rfl)
      have HPS := Lib.hid (splitB_parts s)
      obtain ⟨ps, hps⟩ : ∃ ps, Lib.splitB ⟨#[47]⟩ 0 (Lib.countB s ⟨#[47]⟩) s = ps := ⟨_, rfl⟩
      rw [hps] at HLEN HPS hw2
      obtain ⟨n, hn⟩ : ∃ n, Lib.countB s ⟨#[47]⟩ + 1 = n := ⟨_, rfl⟩
      rw [hn] at HLEN
      rw [hn]
      have HST := Lib.hid (StrsAt.new w1 ps 9)
      have HB2 : Hid (Below w.heap.size w w2) := by show Below _ _ _; rw [hw2]; exact HB1.out.alloc HB1.out.size _
      rw [← hw2] at HST
      obtain ⟨g, hg⟩ : ∃ g, w1.heap.size = g := ⟨_, rfl⟩
      rw [hg] at HST
      rw [hg]
      have hnb : n ≤ 1000 := by
        have := Lib.count_le s.data.toList [47]
        have hsz := HSZ.out
        have e : Lib.countB s ⟨#[47]⟩ = Lib.count s.data.toList [47] := rfl
        omega
      clear hps hn hw2 hg hm
      go_wp2_with fail
      go_loop [15] (fun i => ∃ k : Nat, k ≤ n ∧ i = .int .i64 (k : Int) ∧ ((partsL s.data.toList).take k).any badPart = false) (fun i => n - (intOf i).toNat)
      case atStart => exact ⟨0, by omega, rfl, by simp⟩
      case round =>
        obtain ⟨k, hk, rfl, hbad⟩ := hrel
        have HBD := Lib.hid hbad
        clear hbad
        have wk := next_int k (by omega)
        by_cases hkn : k = n
        · have hkn2 : n = k := hkn.symm
          subst hkn2
          have HE2 : Hid (rightL s.data.toList = true) := by
            have h1 := HBD.out
            have h2 : (partsL s.data.toList).length = n := by rw [← HPS.out, List.length_map]; exact HLEN.out
            rw [List.take_of_length_le (by omega)] at h1
            show _ = _
            rw [HR.out, h1]
            rfl
          go_wp2_with fail
          go_ret
          rw [HE2.out]
          exact ⟨rfl, HB2.out⟩
        · have hkl : k < n := by omega
          have hki : (k : Int) < (n : Int) := by omega
          have hgp : ps[k]? = some (ps[k]'(by rw [HLEN.out]; exact hkl)) := List.getElem?_eq_getElem _
          obtain ⟨p, hp⟩ : ∃ p, ps[k]? = some p := ⟨_, hgp⟩
          have hcell := HST.out k p hp
          have HPK : Hid ((partsL s.data.toList)[k]? = some p.data.toList) := by
            show _ = _
            rw [← HPS.out, List.getElem?_map, hp]
            rfl
          have HSN := Lib.hid (any_take_snoc (f := badPart) HPK.out)
          obtain ⟨b1, hb1⟩ : ∃ b, p.toList.isEmpty = b := ⟨_, rfl⟩
          obtain ⟨b2, hb2⟩ : ∃ b, (p.toList == [46]) = b := ⟨_, rfl⟩
          obtain ⟨b3, hb3⟩ : ∃ b, (p.toList == [46, 46]) = b := ⟨_, rfl⟩
          have HBQ : Hid (badPart p.data.toList = (b1 || b2 || b3)) := by
            show _ = _
            rw [← hb1, ← hb2, ← hb3, Lib.toList_data]
            unfold badPart
            cases p.data.toList <;> rfl
          clear hgp hp
          have hfin : ∀ b : Bool, (b1 || b2 || b3) = b → Hid ((((partsL s.data.toList).take (k + 1)).any badPart = b) ∧ (b = true → rightL s.data.toList = false)) := fun b hb => by
            show _ ∧ _
            have e : ((partsL s.data.toList).take (k + 1)).any badPart = b := by rw [HSN.out, HBD.out, HBQ.out, hb]; rfl
            refine ⟨e, fun h => ?_⟩
            rw [HR.out, any_of_take (by rw [e]; exact h)]
            rfl
          cases b1
          · cases b2
            · cases b3
              · have HF := hfin false rfl
                have n2 : ¬ p.toList = [46] := beq_eq_false_iff_ne.1 hb2
                have n3 : ¬ p.toList = [46, 46] := beq_eq_false_iff_ne.1 hb3
                clear hfin
                go_wp2_with fail
                exact ⟨⟨k + 1, by omega, by first | rfl | exact congrArg (Value.int .i64) (wk _ rfl), HF.out.1⟩, by simp [intOf]; omega⟩
              · have HF := Lib.hid ((hfin true rfl).out.2 rfl)
                have n2 : ¬ p.toList = [46] := beq_eq_false_iff_ne.1 hb2
                clear hfin
                go_wp2_with fail
                go_ret
                rw [HF.out]
                exact ⟨rfl, HB2.out⟩
            · have HF := Lib.hid ((hfin true rfl).out.2 rfl)
              clear hfin
              go_wp2_with fail
              go_ret
              rw [HF.out]
              exact ⟨rfl, HB2.out⟩
          · have HF := Lib.hid ((hfin true rfl).out.2 rfl)
            clear hfin
            go_wp2_with fail
            go_ret
            rw [HF.out]
            exact ⟨rfl, HB2.out⟩
    · rw [hodd] at HC
      have HR : Hid (rightL s.data.toList = false) := by
        show _ = _
        unfold rightL
        rw [hodd]
        simp
      clear hE hca hodd hsz
      go_enter Tryz.func85, Tryz.ntmps85
      go_wp2_with fail
      refine HC.out.mono ?_
      rintro e w1 ⟨rfl, hb1⟩
      go_wp2_with fail
      go_ret
      rw [HR.out]
      exact ⟨rfl, hb1⟩
  · have hgt : (255 : Int) < (s.size : Int) := by omega
    have HR : Hid (rightL s.data.toList = false) := by
      show _ = _
      unfold rightL
      rw [decide_eq_false (by rw [← hsz]; exact h255)]
      rfl
    clear hE h255 hsz
    go_enter Tryz.func85, Tryz.ntmps85
    go_wp2_with fail
    go_ret
    rw [HR.out]
    exact ⟨rfl, Below.refl _ _⟩
end Go.Proofs.YtkpiinjhcckhfaaGreatDoor
