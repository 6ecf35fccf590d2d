/- Numbers as texts. -/
import Derived.Test.YtindmggmblmmcaaGreatDoorChRow
import Derived.WalkSmall
import Derived.StillTactics
import Derived.Deep.RegionWith
import Derived.Lib.AtoiAllCases
import Derived.Lib.ItoaMem
namespace Go.Proofs.YtindmggmblmmcaaGreatDoor
open Go.RowKit Plain
set_option linter.unusedVariables false
theorem below_grow (w : World) (k : Nat) (os : Array Obj) : Below w.heap.size w (Sort.grow (w.drewN k) os) := by
  refine ⟨rfl, rfl, rfl, ?_, fun i hi => ?_⟩
  · show w.heap.size ≤ (w.heap ++ os).size
    simp
  · show (w.heap ++ os)[i]? = w.heap[i]?
    exact Array.getElem?_append_left hi
theorem dec_any (n : Nat) (hn : n ≤ 4611686018427387903) (w : World) (htab : Lib.TabIs Tryz.prog w "internal/strconv.uint64pow10" .u64 Lib.pow10Tab) :
    Calls Tryz.prog 62 #[.int .i64 (n : Int)] w fun e w' => e = .returned (.string ⟨(Lib.itoa (n : Int)).toArray⟩) ∧ Below w.heap.size w w' := by
  go_enter Tryz.func62, Tryz.ntmps62
  go_wp2_with fail
  refine (Tryz.strconv_Itoa (n : Int) (by omega) (by omega) w htab).mono ?_
  rintro e w2 ⟨rfl, k, os, rfl⟩
  have HB : Hid (Below w.heap.size w (Sort.grow (w.drewN k) os)) := below_grow w k os
  go_wp2_with fail
  go_ret
  exact ⟨rfl, HB.out⟩
/-- A text's number, and the error. -/
def decF (l : List UInt8) : Nat × Nat :=
  match Lib.atoiAll l with
  | .ok v => if 0 ≤ v ∧ v ≤ 4611686018427387903 ∧ Lib.itoa v = l then (v.toNat, 0) else (0, 4)
  | _ => (0, 4)
theorem decF_yes {l : List UInt8} {v : Int} (h : Lib.atoiAll l = .ok v) (h0 : 0 ≤ v) (h1 : v ≤ 4611686018427387903) (h2 : Lib.itoa v = l) : decF l = (v.toNat, 0) := by
  unfold decF
  rw [h]
  exact if_pos ⟨h0, h1, h2⟩
theorem decF_no {l : List UInt8} {v : Int} (h : Lib.atoiAll l = .ok v) (h3 : ¬ (0 ≤ v ∧ v ≤ 4611686018427387903 ∧ Lib.itoa v = l)) : decF l = (0, 4) := by
  unfold decF
  rw [h]
  exact if_neg h3
theorem decF_none {l : List UInt8} (h : ∀ u, Lib.atoiAll l ≠ .ok u) : decF l = (0, 4) := by
  unfold decF
  split
  · rename_i v hv; exact absurd hv (h v)
  · rfl
theorem pair_of {c d r1 r2 : Nat} (h : (r1, r2) = (c, d)) : r1 = c ∧ r2 = d := by simpa using h
/-- Both variables hold errors. -/
def ErrVars (w : World) : Prop := (∃ t p, w.var? Tryz.prog "strconv.ErrSyntax" = some #[.iface t p]) ∧ (∃ t p, w.var? Tryz.prog "strconv.ErrRange" = some #[.iface t p])
theorem tab_below {w w' : World} (h : Lib.TabIs Tryz.prog w "internal/strconv.uint64pow10" .u64 Lib.pow10Tab) (hb : Below w.heap.size w w') : Lib.TabIs Tryz.prog w' "internal/strconv.uint64pow10" .u64 Lib.pow10Tab := by
  unfold Lib.TabIs at *
  have hg : Tryz.prog.globalNamed "internal/strconv.uint64pow10" = some 5 := by kernel_rfl
  refine var?_below hb hg (World.block_lt_of_cell? w ⟨5, 0, none⟩ (u := .int .u64 1) ((World.var?_cell hg h 0).trans (by kernel_rfl))) h
theorem errVars_below {w w' : World} (h : ErrVars w) (hb : Below w.heap.size w w') : ErrVars w' := by
  obtain ⟨⟨t0, p0, h0⟩, ⟨t1, p1, h1⟩⟩ := h
  have g0 : Tryz.prog.globalNamed "strconv.ErrSyntax" = some 3 := by kernel_rfl
  have g1 : Tryz.prog.globalNamed "strconv.ErrRange" = some 4 := by kernel_rfl
  exact ⟨⟨t0, p0, var?_below hb g0 (World.block_lt_of_cell? w ⟨3, 0, none⟩ (u := .iface t0 p0) ((World.var?_cell g0 h0 0).trans rfl)) h0⟩, ⟨t1, p1, var?_below hb g1 (World.block_lt_of_cell? w ⟨4, 0, none⟩ (u := .iface t1 p1) ((World.var?_cell g1 h1 0).trans rfl)) h1⟩⟩
theorem toList_inj0 : ∀ (s t : ByteArray), s.data.toList = t.data.toList → s = t
  | ⟨⟨a⟩⟩, ⟨⟨b⟩⟩, h => by
    have : a = b := h
    rw [this]
theorem loopN (bs : ByteArray) : ∀ (n i : Nat) (r : List UInt8), bs.size - i = n → ByteArray.toList.loop bs i r = r.reverse ++ bs.data.toList.drop i
  | 0, i, r, h => by
    rw [ByteArray.toList.loop, if_neg (by omega)]
    have : bs.data.toList.length ≤ i := by show bs.size ≤ i; omega
    rw [List.drop_of_length_le this, List.append_nil]
  | n + 1, i, r, h => by
    have hi : i < bs.data.toList.length := by show i < bs.size; omega
    rw [ByteArray.toList.loop, if_pos (by omega), loopN bs n (i + 1) _ (by omega), List.drop_eq_getElem_cons hi]
    have hg : bs.get! i = bs.data.toList[i] := by
      show bs.data[i]! = _
      have : i < bs.data.size := by simpa using hi
      rw [getElem!_pos bs.data i this]
      simp
    rw [hg]
    simp
theorem toList_inj' (a b : ByteArray) (h : a.toList = b.toList) : a = b := by
  unfold ByteArray.toList at h
  rw [loopN a _ 0 [] rfl, loopN b _ 0 [] rfl] at h
  apply ByteArray.ext
  apply Array.toList_inj.1
  simpa using h
/-- Atoi, at every text. -/
theorem atoi_any (s : ByteArray) (hs : s.size ≤ 281474976710656) (w : World) (hv : ErrVars w) :
    Calls Tryz.prog 86 #[.string s] w fun e w' => (∃ v x, e = .returned (.tuple #[.int .i64 v, x]) ∧ ((x = .nilIface ∧ Lib.atoiAll s.data.toList = .ok v) ∨ ((∃ t p, x = .iface t p) ∧ ∀ u, Lib.atoiAll s.data.toList ≠ .ok u))) ∧ Below w.heap.size w w' := by
  obtain ⟨⟨t0, p0, h0⟩, ⟨t1, p1, h1⟩⟩ := hv
  cases h : Lib.atoiAll s.data.toList with
  | ok v =>
    refine (Tryz.strconv_Atoi_ok s (by omega) v h w).mono ?_
    rintro e w' ⟨rfl, hw⟩
    refine ⟨⟨v, .nilIface, rfl, .inl ⟨rfl, rfl⟩⟩, ?_⟩
    rcases hw with rfl | ⟨t, rfl⟩
    · exact Below.refl _ _
    · exact Lib.bytesWorld_below _ _ _
  | «syntax» =>
    refine (Tryz.strconv_Atoi_syntax_var s hs h t0 p0 w h0).mono ?_
    rintro e w' ⟨N, rfl, -, -, hb⟩
    exact ⟨⟨_, _, rfl, .inr ⟨⟨_, _, rfl⟩, fun u => by simp⟩⟩, hb⟩
  | range =>
    refine (Tryz.strconv_Atoi_range_var s hs h t1 p1 w h1).mono ?_
    rintro e w' ⟨N, rfl, -, -, hb⟩
    exact ⟨⟨_, _, rfl, .inr ⟨⟨_, _, rfl⟩, fun u => by simp⟩⟩, hb⟩
set_option maxRecDepth 100000 in
theorem decz_any (n : Int) (h0 : -9223372036854775808 ≤ n) (h1 : n ≤ 9223372036854775807) (w : World) (htab : Lib.TabIs Tryz.prog w "internal/strconv.uint64pow10" .u64 Lib.pow10Tab) :
    Calls Tryz.prog 62 #[.int .i64 n] w fun e w' => e = .returned (.string (txt (Lib.itoa n))) ∧ Below w.heap.size w w' := by
  go_enter Tryz.func62, Tryz.ntmps62
  go_wp2_with fail
  refine (Tryz.strconv_Itoa n h0 h1 w htab).mono ?_
  rintro e w2 ⟨rfl, k, os, rfl⟩
  have HB : Hid (Below w.heap.size w (Sort.grow (w.drewN k) os)) := below_grow w k os
  go_wp2_with fail
  go_ret
  exact ⟨rfl, HB.out⟩
set_option maxRecDepth 100000 in
set_option maxHeartbeats 4000000 in
theorem fromDec_any (s : ByteArray) (hs : s.size ≤ 281474976710656) (w : World) (htab : Lib.TabIs Tryz.prog w "internal/strconv.uint64pow10" .u64 Lib.pow10Tab) (hv : ErrVars w) :
    Calls Tryz.prog 77 #[.string s] w fun e w' => e = .returned (.tuple #[.int .i64 ((decF s.data.toList).1 : Nat), .int .i64 ((decF s.data.toList).2 : Nat)]) ∧ Below w.heap.size w w' := by
  have HT : Hid (Lib.TabIs Tryz.prog w "internal/strconv.uint64pow10" .u64 Lib.pow10Tab) := htab
  clear htab
  obtain ⟨r1, r2, hr⟩ : ∃ r1 r2, decF s.data.toList = (r1, r2) := ⟨_, _, rfl⟩
  have HR : Hid (decF s.data.toList = (r1, r2)) := hr
  rw [hr]
  clear hr
  go_enter Tryz.func77, Tryz.ntmps77
  go_wp2_with fail
  refine (atoi_any s hs w hv).mono ?_
  rintro e w1 ⟨⟨v, x, rfl, hx⟩, hb⟩
  have HB : Hid (Below w.heap.size w w1) := hb
  clear hb hv
  rcases hx with ⟨rfl, hok⟩ | ⟨⟨t, p, rfl⟩, hno⟩
  · have HOK : Hid (Lib.atoiAll s.data.toList = .ok v) := hok
    clear hok
    by_cases hneg : v < 0
    · have HE : Hid (r1 = 0 ∧ r2 = 4) := by
        have := HR.out.symm.trans (decF_no HOK.out (fun h => by omega))
        exact pair_of this
      go_wp2_with fail
      go_ret2
      obtain ⟨rfl, rfl⟩ := HE.out
      exact ⟨rfl, HB.out⟩
    · by_cases hbig : 4611686018427387903 < v
      · have HE : Hid (r1 = 0 ∧ r2 = 4) := by
          have := HR.out.symm.trans (decF_no HOK.out (fun h => by omega))
          exact pair_of this
        go_wp2_with fail
        go_ret2
        obtain ⟨rfl, rfl⟩ := HE.out
        exact ⟨rfl, HB.out⟩
      · obtain ⟨n, rfl⟩ : ∃ n : Nat, v = n := ⟨v.toNat, by omega⟩
        have hn : n ≤ 4611686018427387903 := by omega
        go_wp2_with fail
        refine (dec_any n hn w1 (tab_below HT.out HB.out)).mono ?_
        rintro e w2 ⟨rfl, hb⟩
        have HB2 : Hid (Below w.heap.size w w2) := HB.out.trans (hb.mono HB.out.size)
        clear hb
        by_cases hsame : Lib.itoa (n : Int) = s.data.toList
        · have HE : Hid (r1 = n ∧ r2 = 0) := by
            have := HR.out.symm.trans (decF_yes HOK.out (by omega) (by omega) hsame)
            exact pair_of this
          have hs1 : (⟨(Lib.itoa (n : Int)).toArray⟩ : ByteArray) = s := toList_inj0 _ _ hsame
          rw [hs1]
          go_wp2_with fail
          go_ret2
          obtain ⟨rfl, rfl⟩ := HE.out
          exact ⟨rfl, HB2.out⟩
        · have HE : Hid (r1 = 0 ∧ r2 = 4) := by
            have := HR.out.symm.trans (decF_no HOK.out (fun h => hsame h.2.2))
            exact pair_of this
          obtain ⟨S1, hS1⟩ : ∃ S : ByteArray, S = ⟨(Lib.itoa (n : Int)).toArray⟩ := ⟨_, rfl⟩
          rw [← hS1]
          have hne : ¬ S1 = s := fun h => hsame (by rw [← h, hS1])
          have hne2 : ¬ S1.toList = s.toList := fun h => hne (toList_inj' _ _ h)
          have hne3 : (S1.toList == s.toList) = false := by simpa using hne2
          clear hS1 hsame
          go_wp2_with fail
          go_ret2
          obtain ⟨rfl, rfl⟩ := HE.out
          exact ⟨rfl, HB2.out⟩
  · have HE : Hid (r1 = 0 ∧ r2 = 4) := by
      have := HR.out.symm.trans (decF_none hno)
      exact pair_of this
    clear hno
    go_wp2_with fail
    go_ret2
    obtain ⟨rfl, rfl⟩ := HE.out
    exact ⟨rfl, HB.out⟩
theorem digit_nat (d : Nat) (h : d < 10) : (UInt8.ofNat (48 + d)).toNat = 48 + d := by
  show (48 + d) % 256 = 48 + d
  omega
theorem dec_digit : ∀ (k u : Nat), u ≤ k → ∀ c ∈ Lib.decDigits u, 48 ≤ c.toNat ∧ c.toNat ≤ 57
  | 0, u, hk, c, hc => by
    have hu : u < 10 := by omega
    rw [Lib.decDigits, dif_pos hu, List.mem_singleton] at hc
    rw [hc, digit_nat u hu]; omega
  | k + 1, u, hk, c, hc => by
    rw [Lib.decDigits] at hc
    split at hc
    · rename_i hu
      rw [List.mem_singleton] at hc
      rw [hc, digit_nat u hu]; omega
    · rcases List.mem_append.1 hc with hc | hc
      · exact dec_digit k (u / 10) (by omega) c hc
      · rw [List.mem_singleton] at hc
        rw [hc, digit_nat _ (by omega)]; omega
theorem dec_ne_nil (u : Nat) : Lib.decDigits u ≠ [] := by
  rw [Lib.decDigits]
  split <;> simp
theorem dec_head : ∀ (k u : Nat), u ≤ k → u ≠ 0 → ∃ c r, Lib.decDigits u = c :: r ∧ c.toNat ≠ 48
  | 0, u, hk, h0 => by omega
  | k + 1, u, hk, h0 => by
    rw [Lib.decDigits]
    split
    · rename_i hu
      exact ⟨_, [], rfl, by rw [digit_nat u hu]; omega⟩
    · obtain ⟨c, r, hr, hc⟩ := dec_head k (u / 10) (by omega) (by omega)
      exact ⟨c, _, by rw [hr]; rfl, hc⟩
theorem parse_append : ∀ (l r : List UInt8) (acc v : Nat), Lib.parseUint10 acc l = .ok v → Lib.parseUint10 acc (l ++ r) = Lib.parseUint10 v r
  | [], r, acc, v, h => by
    simp only [Lib.parseUint10] at h
    injection h with h
    rw [h]; rfl
  | c :: l, r, acc, v, h => by
    rw [List.cons_append]
    simp only [Lib.parseUint10] at h ⊢
    split at h
    · rename_i hd
      rw [if_pos hd]
      split at h
      · cases h
      · rename_i h1
        rw [if_neg h1]
        split at h
        · cases h
        · rename_i h2
          rw [if_neg h2]
          exact parse_append l r _ v h
    · cases h
theorem parse_one (acc d : Nat) (hd : d < 10) (h : acc * 10 + d ≤ 9223372036854775807) : Lib.parseUint10 acc [UInt8.ofNat (48 + d)] = .ok (acc * 10 + d) := by
  simp only [Lib.parseUint10, digit_nat d hd]
  rw [if_pos (by omega), if_neg (by omega), if_neg (by omega)]
  congr 1
  omega
theorem parse_dec : ∀ (k u : Nat), u ≤ k → u ≤ 9223372036854775807 → Lib.parseUint10 0 (Lib.decDigits u) = .ok u
  | 0, u, hk, h => by
    have hu : u < 10 := by omega
    rw [Lib.decDigits, dif_pos hu, parse_one 0 u hu (by omega)]
    simp
  | k + 1, u, hk, h => by
    rw [Lib.decDigits]
    split
    · rename_i hu
      rw [parse_one 0 u hu (by omega)]
      simp
    · rw [parse_append _ _ 0 _ (parse_dec k (u / 10) (by omega) (by omega)), parse_one _ _ (by omega) (by omega)]
      congr 1
      omega
theorem itoa_nat (n : Nat) : Lib.itoa (n : Int) = Lib.decDigits n := Lib.itoa_nonneg n
theorem atoi_dec (n : Nat) (hn : n ≤ 4611686018427387903) : Lib.atoiAll (Lib.decDigits n) = .ok (n : Int) := by
  cases h : Lib.decDigits n with
  | nil => exact absurd h (dec_ne_nil n)
  | cons c r =>
    have hc := dec_digit n n (Nat.le_refl _) c (by rw [h]; simp)
    rw [Lib.atoiAll_plain c r (by omega) (by omega), ← h]
    unfold Lib.parseMag
    rw [if_neg (dec_ne_nil n), parse_dec n n (Nat.le_refl _) (by omega)]
    simp only [Lib.signless]
    rw [if_neg (by omega)]
theorem decF_dec (n : Nat) (hn : n ≤ 4611686018427387903) : decF (Lib.decDigits n) = (n, 0) := by
  have := decF_yes (atoi_dec n hn) (by omega) (by omega) (itoa_nat n)
  simpa using this
theorem decF_other {l : List UInt8} (h : ∀ n : Nat, n ≤ 4611686018427387903 → Lib.decDigits n ≠ l) : decF l = (0, 4) := by
  cases hl : Lib.atoiAll l with
  | ok v =>
    refine decF_no hl fun ⟨h0, h1, h2⟩ => ?_
    obtain ⟨n, rfl⟩ : ∃ n : Nat, v = n := ⟨v.toNat, by omega⟩
    exact h n (by omega) ((itoa_nat n).symm.trans h2)
  | «syntax» => exact decF_none fun u => by rw [hl]; simp
  | range => exact decF_none fun u => by rw [hl]; simp
theorem below_drewN' {B : Nat} {a w : World} (h : Below B a w) (n : Nat) : Below B a (w.drewN n) := h.trans ⟨rfl, rfl, rfl, Nat.le_refl _, fun _ _ => rfl⟩
theorem cut_any (l : List UInt8) (c : UInt8) (w : World) (hE : Env w) (hs : l.length ≤ 1000000000) :
    Calls Tryz.prog 70 #[.string (txt l), .string ⟨#[c]⟩] w fun e w' => e = .returned (.tuple #[.string (txt (Lib.cut l [c]).1), .string (txt (Lib.cut l [c]).2.1), .bool (Lib.cut l [c]).2.2]) ∧ Below w.heap.size w w' := by
  obtain ⟨m, hm⟩ := hE.most
  refine (Tryz.strings_Cut (txt l) ⟨#[c]⟩ m w (by rw [txt_size]; omega) hm).mono ?_
  rintro e w' ⟨rfl, q, rfl⟩
  refine ⟨?_, below_drewN' (Below.refl _ _) q⟩
  rw [txt_list]
  rfl
/-- What the start's variables hold. -/
structure EnvC (w : World) : Prop where
  tab : Lib.TabIs Tryz.prog w "internal/strconv.uint64pow10" .u64 Lib.pow10Tab
  errs : ErrVars w
  env : Env w
theorem EnvC.below {w w' : World} (h : EnvC w) (hb : Below w.heap.size w w') : EnvC w' := ⟨tab_below h.tab hb, errVars_below h.errs hb, h.env.below hb⟩
end Go.Proofs.YtindmggmblmmcaaGreatDoor
