/- strings.IndexRune at a rune that no ASCII text has; strings.IndexAny, ContainsAny of any text at ASCII bytes: the walks. -/
import Derived.Test.YtcbjadecocggjaaDoorPathMath
import Derived.Test.YtcbjadecocggjaaDoorParse
import Derived.Laws.RangeAny
import Derived.Laws.Runes
import Derived.Lib.OthersKept
import Derived.Lib.Small
namespace Go.Proofs.YtcbjadecocggjaaDoor
open Go.RowKit Plain
set_option linter.unusedVariables false
theorem drewN_below (w : World) (n : Nat) : Below w.heap.size w (w.drewN n) := ⟨rfl, rfl, rfl, Nat.le_refl _, fun _ _ => rfl⟩
def Ascii (s : ByteArray) : Prop := ∀ b ∈ s.data.toList, b.toNat < 128
theorem Ascii.at {s : ByteArray} (h : Ascii s) {i : Nat} (hi : i < s.size) : (s[i]'hi).toNat < 128 := h _ (List.mem_of_getElem? (Lib.data_getElem? s i hi))
theorem valid_same (r : Int) : Utf8.valid r = Lib.validRune r := by
  unfold Utf8.valid Lib.validRune
  rw [Bool.eq_iff_iff]
  simp
  omega
theorem indexByte_no (l : List UInt8) (c : UInt8) (h : ∀ b ∈ l, b ≠ c) : Lib.indexByte l c = -1 := by
  induction l with
  | nil => rfl
  | cons b l ih =>
    unfold Lib.indexByte
    rw [ih fun x hx => h x (by simp [hx])]
    have : ¬ (b == c) = true := fun e => h b (by simp) (beq_iff_eq.1 e)
    simp [this]
set_option maxRecDepth 100000 in
set_option maxHeartbeats 4000000 in
theorem indexRune_bad (s : ByteArray) (w : World) (hs : s.size ≤ 1000) (ha : Ascii s) :
    Calls Tryd.prog 71 #[.string s, .int .i32 65533] w fun e w' => e = .returned (.int .i64 (-1)) ∧ Below w.heap.size w w' := by
  have HA := Lib.hid ha
  clear ha
  go_enter Tryd.func71, Tryd.ntmps71
  go_wp2_with fail
  go_loopw [5, 6] (fun _ _ wr => ∃ i : Nat, i ≤ s.size ∧ wr = w.iter s i) (fun _ _ wr => s.size - wr.iterPos w.heap.size)
  case atStart => exact ⟨0, by omega, rfl⟩
  case round =>
    obtain ⟨i, hi, rfl⟩ := hrel
    by_cases hie : i = s.size
    · subst hie
      have hnx := fun ty => run_next_end (P := Tryd.prog) w s s.size ty (by omega)
      have HB : Hid (Below w.heap.size w (w.iter s s.size)) := (Below.refl _ _).alloc (Nat.le_refl _) _
      go_wp2_with fail
      go_ret
      exact ⟨rfl, HB.out⟩
    · have hil : i < s.size := by omega
      have hx := HA.out.at hil
      have hnx := fun ty => run_next_ascii (P := Tryd.prog) w s i ty hil hx
      have hne : ¬ (((s[i]'hil).toNat : Nat) : Int) = 65533 := by omega
      have hne2 : ((((s[i]'hil).toNat : Nat) : Int) == 65533) = false := beq_eq_false_iff_ne.2 hne
      generalize (((s[i]'hil).toNat : Nat) : Int) = x at *
      clear hx
      go_wp2_with fail
      exact ⟨⟨i + 1, by omega, rfl⟩, by simp; omega⟩
set_option maxRecDepth 100000 in
set_option maxHeartbeats 4000000 in
theorem indexRune_high (s : ByteArray) (r : Int) (w : World) (hs : s.size ≤ 1000) (ha : Ascii s) (h0 : 128 ≤ r) (h1 : r ≤ 2147483647) :
    Calls Tryd.prog 71 #[.string s, .int .i32 r] w fun e w' => e = .returned (.int .i64 (-1)) ∧ Below w.heap.size w w' := by
  by_cases hbad : r = 65533
  · subst hbad
    exact indexRune_bad s w hs ha
  · have n1 : ¬ r < 128 := by omega
    have n0 : 0 ≤ r := by omega
    have hb2 : (r == 65533) = false := beq_eq_false_iff_ne.2 hbad
    cases hv : Lib.validRune r
    · have hcall := fun W => Tryd.utf8_ValidRune r W
      rw [hv] at hcall
      have HC := Lib.hid hcall
      clear hcall ha hv
      go_enter Tryd.func71, Tryd.ntmps71
      go_wp2_with fail
      refine (HC.out _).mono ?_
      rintro e w' ⟨rfl, rfl⟩
      go_wp2_with fail
      go_ret
      exact ⟨rfl, Below.refl _ _⟩
    · have hcall := fun W => Tryd.utf8_ValidRune r W
      rw [hv] at hcall
      have HC := Lib.hid hcall
      obtain ⟨e1, e2, e3⟩ := encode_facts r (by rw [valid_same]; exact hv) h0
      have hcv := fun W => run_convert_int_string (P := Tryd.prog) W 21 9 .i32 r (by kernel_rfl) Tryd.underlying9
      obtain ⟨rs, hrs⟩ : ∃ rs, Utf8.encode r = rs := ⟨_, rfl⟩
      rw [hrs] at hcv e1 e2 e3
      obtain ⟨l, hl⟩ : ∃ l, rs.size = l + 1 := ⟨rs.size - 1, by omega⟩
      have hll : l < rs.size := by omega
      have h3 : 128 ≤ (rs[l]'hll).toNat := by
        have h4 : rs.size - 1 = l := by omega
        have := e3 (by omega)
        simp only [h4] at this
        exact this
      have HI := Lib.hid (fun W => index_text rs l hll (l : Int) rfl W)
      have hat : at8 rs l = (rs[l]'hll).toNat := by
        unfold at8
        rw [Lib.data_getElem? rs l hll]
        rfl
      rw [hat] at HI
      obtain ⟨c, hc⟩ : ∃ c, (rs[l]'hll) = c := ⟨_, rfl⟩
      rw [hc] at HI h3
      have hls : (rs.size : Int) = (l : Int) + 1 := by omega
      have hl1 : 1 ≤ l := by omega
      have hl3 : l ≤ 3 := by omega
      clear hv hcall e1 e2 e3 hat hc hrs hbad
      have hsi : (s.size : Int) ≤ 1000 := by omega
      by_cases hsz : l < s.size
      · have hszi : (l : Int) < (s.size : Int) := by omega
        have hx := ha.at hsz
        have HS := Lib.hid (fun W => index_text s l hsz (l : Int) rfl W)
        have hat : at8 s l = (s[l]'hsz).toNat := by
          unfold at8
          rw [Lib.data_getElem? s l hsz]
          rfl
        rw [hat] at HS
        have hxc : ¬ (((s[l]'hsz).toNat : Nat) : Int) = ((c.toNat : Nat) : Int) := by omega
        have hxc2 : ((((s[l]'hsz).toNat : Nat) : Int) == ((c.toNat : Nat) : Int)) = false := beq_eq_false_iff_ne.2 hxc
        have HIB : Hid (∀ W, Calls Tryd.prog 47 #[.string (s.extract (l + 1) s.size), .int .u8 ((c.toNat : Nat) : Int)] W fun e w' => e = .returned (.int .i64 (-1)) ∧ w' = W) := fun W => by
          refine (Tryd.strings_IndexByte (s.extract (l + 1) s.size) (c.toNat : Int) W).mono ?_
          rintro e w' ⟨rfl, rfl⟩
          refine ⟨?_, rfl⟩
          rw [indexByte_no _ _ fun b hb e => ?_]
          have hb2 : b ∈ s.data.toList := by
            rw [Lib.extract_data] at hb
            exact List.mem_of_mem_drop (List.mem_of_mem_take hb)
          have := ha b hb2
          rw [e] at this
          simp at this
          omega
        generalize (((s[l]'hsz).toNat : Nat) : Int) = x at *
        clear hx hat ha
        have hs1 := HS.out
        have hr1 := HI.out
        have hwl : IntKind.i64.wrap ((l : Int) + 1) = (l : Int) + 1 := IntWalk.i64_in _ (by omega)
        have hwl0 : IntKind.i64.wrap (l : Int) = (l : Int) := IntWalk.i64_in _ (by omega)
        have hll1 : (l : Int) + 1 ≤ (s.size : Int) := by omega
        have hll2 : (l : Int) < (l : Int) + 1 := by omega
        have hl0 : (0 : Int) ≤ (l : Int) + 1 := by omega
        have htn : ((l : Int) + 1).toNat = l + 1 := by omega
        go_enter Tryd.func71, Tryd.ntmps71
        go_wp2_with fail
        refine (HC.out _).mono ?_
        rintro e w' ⟨rfl, rfl⟩
        go_wp2_with fail
        apply wp_scope_straight
        go_wp2_with fail
        go_loopw [9] (fun i wr => i = .int .i64 (l : Int) ∧ Below w'.heap.size w' wr) (fun _ _ => 0)
        case atStart => exact ⟨rfl, Below.refl _ _⟩
        case round =>
          obtain ⟨rfl, hb⟩ := hrel
          have HB := Lib.hid hb
          clear hb
          go_wp2_with fail
          apply wp_scope_straight
          go_wp2_with fail
          go_quiet (fail)
          have HBD : Hid (Below w'.heap.size w' (wr.drewN nq)) := HB.out.trans (Below.mono (drewN_below _ _) HB.out.size)
          generalize wr.drewN nq = wd at *
          go_wp2_with fail
          go_quiet ((go_at_call 47; exact Calls.quiet_of_same (HIB.out _)))
          go_wp2_with fail
          (try simp only [Exit.noGoto_ret])
          refine bodyPost_ret (P := Tryd.prog) (fn := Tryd.f71) (R := fun e w'' => e = .returned (.int .i64 (-1)) ∧ Below w'.heap.size w' w'') (results_tmp rfl _ _ _) rfl ⟨rfl, ?_⟩
          exact HBD.out.trans (Below.mono (drewN_below _ _) HBD.out.size)
      · have hszi : ¬ (l : Int) < (s.size : Int) := by omega
        go_enter Tryd.func71, Tryd.ntmps71
        go_wp2_with fail
        refine (HC.out _).mono ?_
        rintro e w' ⟨rfl, rfl⟩
        go_wp2_with fail
        apply wp_scope_straight
        go_wp2_with fail
        go_loopw [9] (fun i wr => i = .int .i64 (l : Int) ∧ wr = w') (fun _ _ => 0)
        case atStart => exact ⟨rfl, rfl⟩
        case round =>
          obtain ⟨rfl, rfl⟩ := hrel
          go_wp2_with fail
          (try simp only [Exit.noGoto_ret]); go_ret
          exact ⟨rfl, Below.refl _ _⟩
/-- What a rune's bytes are, where it begins with a high byte. -/
theorem decode_span (s : ByteArray) (p : Nat) (hp : p < s.size) (ha : 128 ≤ (s[p]'hp).toNat) : p + (Utf8.decode s p).2 ≤ s.size ∧ ∀ q b, p ≤ q → q < p + (Utf8.decode s p).2 → s.data.toList[q]? = some b → 128 ≤ b.toNat := by
  have hget : ∀ k, p + k < s.size → ∀ b, s.data.toList[p + k]? = some b → (s.get! (p + k)).toNat = b.toNat := fun k hk b hb => by
    rw [Lib.data_getElem? s (p + k) hk] at hb
    have e : s.get! (p + k) = s[p + k]'hk := by
      simp [ByteArray.get!, getElem!_pos, hk]
      rfl
    rw [e]
    injection hb with hb
    rw [hb]
  have h0 : ∀ b, s.data.toList[p]? = some b → 128 ≤ b.toNat := fun b hb => by
    rw [Lib.data_getElem? s p hp] at hb
    injection hb with hb
    rw [← hb]; exact ha
  have hn : ¬ (s[p]'hp).toNat < 128 := by omega
  have one : ∀ q b, p ≤ q → q < p + 1 → s.data.toList[q]? = some b → 128 ≤ b.toNat := fun q b h1 h2 hb => by
    have : q = p := by omega
    subst this
    exact h0 b hb
  have hcont : ∀ k, (decide (p + k < s.size) && (s.get! (p + k)).toNat / 64 == 2) = true → p + k < s.size ∧ ∀ b, s.data.toList[p + k]? = some b → 128 ≤ b.toNat := fun k hk => by
    rw [Bool.and_eq_true, decide_eq_true_iff, beq_iff_eq] at hk
    refine ⟨hk.1, fun b hb => ?_⟩
    have := hget k hk.1 b hb
    omega
  simp only [Utf8.decode, get_at s p hp, hn, if_false]
  split
  · rename_i h
    rw [Bool.and_eq_true] at h
    obtain ⟨c1, d1⟩ := hcont 1 h.2
    split
    · refine ⟨by show p + 2 ≤ _; omega, fun q b h1 h2 hb => ?_⟩
      have h2' : q < p + 2 := h2
      by_cases e : q = p
      · subst e; exact h0 b hb
      · obtain rfl : q = p + 1 := by omega
        exact d1 b hb
    · exact ⟨by show p + 1 ≤ _; omega, fun q b h1 h2 hb => one q b h1 h2 hb⟩
  · split
    · rename_i h
      rw [Bool.and_eq_true, Bool.and_eq_true] at h
      obtain ⟨c1, d1⟩ := hcont 1 h.1.2
      obtain ⟨c2, d2⟩ := hcont 2 h.2
      split
      · refine ⟨by show p + 3 ≤ _; omega, fun q b h1 h2 hb => ?_⟩
        have h2' : q < p + 3 := h2
        by_cases e : q = p
        · subst e; exact h0 b hb
        · by_cases e1 : q = p + 1
          · subst e1; exact d1 b hb
          · obtain rfl : q = p + 2 := by omega
            exact d2 b hb
      · exact ⟨by show p + 1 ≤ _; omega, fun q b h1 h2 hb => one q b h1 h2 hb⟩
    · split
      · rename_i h
        rw [Bool.and_eq_true, Bool.and_eq_true, Bool.and_eq_true] at h
        obtain ⟨c1, d1⟩ := hcont 1 h.1.1.2
        obtain ⟨c2, d2⟩ := hcont 2 h.1.2
        obtain ⟨c3, d3⟩ := hcont 3 h.2
        split
        · refine ⟨by show p + 4 ≤ _; omega, fun q b h1 h2 hb => ?_⟩
          have h2' : q < p + 4 := h2
          by_cases e : q = p
          · subst e; exact h0 b hb
          · by_cases e1 : q = p + 1
            · subst e1; exact d1 b hb
            · by_cases e2 : q = p + 2
              · subst e2; exact d2 b hb
              · obtain rfl : q = p + 3 := by omega
                exact d3 b hb
        · exact ⟨by show p + 1 ≤ _; omega, fun q b h1 h2 hb => one q b h1 h2 hb⟩
      · exact ⟨by show p + 1 ≤ _; omega, fun q b h1 h2 hb => one q b h1 h2 hb⟩
theorem Below.iterAt {B : Nat} {w0 w : World} (h : Below B w0 w) (k : Nat) (hk : B ≤ k) (s : ByteArray) (p : Nat) : Below B w0 (w.iterAt k s p) := by
  refine ⟨h.os, h.tape, h.output, ?_, fun j hj => ?_⟩
  · unfold World.iterAt
    show _ ≤ (w.heap.setIfInBounds k _).size
    rw [Array.size_setIfInBounds]; exact h.size
  · unfold World.iterAt
    show (w.heap.setIfInBounds k _)[j]? = _
    rw [Array.getElem?_setIfInBounds_ne (by omega)]
    exact h.block j hj
theorem iter_block (w : World) (s : ByteArray) (p : Nat) : (w.iter s p).heap[w.heap.size]? = some (.stringIter s p) := World.iter_heap w s p
def posAt (w : World) (k : Nat) : Nat := match w.heap[k]? with | some (.stringIter _ p) => p | _ => 0
theorem posAt_eq {w : World} {k p : Nat} {s : ByteArray} (h : w.heap[k]? = some (.stringIter s p)) : posAt w k = p := by unfold posAt; rw [h]
theorem NoAny.jump {s chars : List UInt8} {i n : Nat} (h : Lib.NoAny s chars i) (hn : ∀ q b, i ≤ q → q < i + n → s[q]? = some b → 128 ≤ b.toNat) (hc : ∀ b ∈ chars, b.toNat < 128) : Lib.NoAny s chars (i + n) := fun j b hj hb => by
  by_cases e : j < i
  · exact h j b e hb
  · have h1 := hn j b (by omega) hj hb
    cases hm : chars.contains b
    · rfl
    · have := hc b (List.contains_iff_mem.1 hm)
      omega
set_option maxRecDepth 100000 in
set_option maxHeartbeats 4000000 in
theorem indexAny_short (s chars : ByteArray) (w : World) (h2 : 2 ≤ chars.size) (hc9 : chars.size ≤ 1000) (h8 : s.size ≤ 8) (ha : Ascii chars) :
    Calls Tryd.prog 62 #[.string s, .string chars] w fun e w' => e = .returned (.int .i64 (Lib.indexAny s.data.toList chars.data.toList)) ∧ Below w.heap.size w w' := by
  have HA := Lib.hid ha
  have hemp : chars.toList.isEmpty = false := by
    rw [Lib.toList_data]
    cases h : chars.data.toList with
    | nil => have := Lib.size_eq chars; rw [h, List.length_nil] at this; omega
    | cons _ _ => rfl
  have hn1 : ((chars.size : Int) == 1) = false := beq_eq_false_iff_ne.2 (by omega)
  have hsu := fun W => Tryd.strings_shouldUseASCIISet (s.size : Int) W
  rw [show decide ((8 : Int) < (s.size : Int)) = false from decide_eq_false (by omega)] at hsu
  have HSU := Lib.hid hsu
  clear hsu ha
  go_enter Tryd.func62, Tryd.ntmps62
  go_wp2_with fail
  refine (HSU.out _).mono ?_
  rintro e w' ⟨rfl, rfl⟩
  go_wp2_with fail
  go_loopw [9, 10] (fun _ _ wr => ∃ i : Nat, i ≤ s.size ∧ wr.heap[w'.heap.size]? = some (.stringIter s i) ∧ Lib.NoAny s.data.toList chars.data.toList i ∧ Below w'.heap.size w' wr) (fun _ _ wr => s.size - posAt wr w'.heap.size)
  case atStart => exact ⟨0, by omega, iter_block _ _ _, Lib.NoAny.zero _ _, (Below.refl _ _).alloc (Nat.le_refl _) _⟩
  case round =>
    obtain ⟨i, hi, hit, hno, hb⟩ := hrel
    have HIT := Lib.hid hit
    have HNO := Lib.hid hno
    have HB := Lib.hid hb
    have HPOS := Lib.hid (posAt_eq hit)
    clear hno hb
    by_cases hie : i = s.size
    · subst hie
      have hnx := fun ty => Lib.run_next_end_at (P := Tryd.prog) wr w'.heap.size s s.size ty hit (by omega)
      clear hit
      go_wp2_with fail
      go_ret
      exact ⟨by rw [Lib.indexAny_none (by rw [← Lib.size_eq]; exact HNO.out)]; rfl, HB.out⟩
    · have hil : i < s.size := by omega
      have HX := Lib.hid (Lib.data_getElem? s i hil)
      by_cases hx : (s[i]'hil).toNat < 128
      · have hnx := fun ty => Lib.run_next_ascii_at (P := Tryd.prog) wr w'.heap.size s i ty hit hil hx
        have HB1 : Hid (Below w'.heap.size w' (wr.iterAt w'.heap.size s (i + 1))) := Below.iterAt HB.out _ (Nat.le_refl _) _ _
        have HI1 : Hid ((wr.iterAt w'.heap.size s (i + 1)).heap[w'.heap.size]? = some (.stringIter s (i + 1))) := Lib.iterAt_heap _ _ _ _ _ hit
        have hcall := fun W => Tryd.strings_IndexRune_ascii chars (((s[i]'hil).toNat : Nat) : Int) W (by omega) (by omega)
        rw [show (((s[i]'hil).toNat : Nat) : Int).toNat.toUInt8 = s[i]'hil by simp] at hcall
        have hcon := Lib.contains_iff_indexByte chars.data.toList (s[i]'hil)
        generalize s[i]'hil = x at *
        have HC := Lib.hid hcall
        obtain ⟨v, hv⟩ : ∃ v, Lib.indexByte chars.data.toList x = v := ⟨_, rfl⟩
        rw [hv] at HC hcon
        clear hcall hit hx
        generalize wr.iterAt w'.heap.size s (i + 1) = w2 at *
        cases hin : chars.data.toList.contains x
        · rw [hin] at hcon
          have hlt : ¬ ((0 : Int) ≤ v) := of_decide_eq_false hcon.symm
          have HN2 := Lib.hid (HNO.out.succ HX.out hin)
          clear hcon hin hv
          go_wp2_with fail
          refine (HC.out _).mono ?_
          rintro e w3 ⟨rfl, rfl⟩
          go_wp2_with fail
          exact ⟨⟨i + 1, by omega, HI1.out, HN2.out, HB1.out⟩, by rw [posAt_eq HI1.out, HPOS.out]; omega⟩
        · rw [hin] at hcon
          have hge : (0 : Int) ≤ v := of_decide_eq_true hcon.symm
          have HE : Hid (Lib.indexAny s.data.toList chars.data.toList = (i : Int)) := Lib.indexAny_hit HNO.out HX.out hin
          clear hcon hin hv
          go_wp2_with fail
          refine (HC.out _).mono ?_
          rintro e w3 ⟨rfl, rfl⟩
          go_wp2_with fail
          go_ret
          rw [HE.out]
          exact ⟨rfl, HB1.out⟩
      · have hx2 : 128 ≤ (s[i]'hil).toNat := by omega
        have hnx := fun ty => Lib.run_next_any_at (P := Tryd.prog) wr w'.heap.size s i ty hit hil
        obtain ⟨d1, d2⟩ := decode_high s i hil hx2
        have d3 := decode_le s i
        obtain ⟨d4, d5⟩ := decode_span s i hil hx2
        obtain ⟨r, n, hrn⟩ : ∃ r n, Utf8.decode s i = (r, n) := ⟨_, _, rfl⟩
        rw [hrn] at hnx d1 d2 d3 d4 d5
        simp only at hnx d1 d2 d3 d4 d5
        have HB1 : Hid (Below w'.heap.size w' (wr.iterAt w'.heap.size s (i + n))) := Below.iterAt HB.out _ (Nat.le_refl _) _ _
        have HI1 : Hid ((wr.iterAt w'.heap.size s (i + n)).heap[w'.heap.size]? = some (.stringIter s (i + n))) := Lib.iterAt_heap _ _ _ _ _ hit
        have HN2 := Lib.hid (NoAny.jump HNO.out d5 (fun b hb => HA.out b hb))
        have HC := Lib.hid (fun W => indexRune_high chars (r : Int) W hc9 HA.out (by omega) (by omega))
        clear hit hx hx2 d1 d3 d5 hrn
        generalize wr.iterAt w'.heap.size s (i + n) = w2 at *
        go_wp2_with fail
        refine (HC.out _).mono ?_
        rintro e w3 ⟨rfl, hb3⟩
        have HB3 := Lib.hid (HB1.out.trans (hb3.mono HB1.out.size))
        have HI3 : Hid (w3.heap[w'.heap.size]? = some (.stringIter s (i + n))) := (hb3.block _ (Array.getElem?_eq_some_iff.1 HI1.out).1).trans HI1.out
        clear hb3
        go_wp2_with fail
        exact ⟨⟨i + n, d4, HI3.out, HN2.out, HB3.out⟩, by rw [posAt_eq HI3.out, HPOS.out]; omega⟩
end Go.Proofs.YtcbjadecocggjaaDoor
