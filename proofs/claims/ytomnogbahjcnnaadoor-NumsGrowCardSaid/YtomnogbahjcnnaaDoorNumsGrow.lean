/- The program's statement NumsGrow holds: for every input it returns true and leaves its arguments as they were. No further condition. -/
import Derived.Test.YtomnogbahjcnnaaDoorRows
import Derived.Test.YtomnogbahjcnnaaDoorCards
import Derived.Test.YtomnogbahjcnnaaDoorTie
import Derived.LaidMore
import Derived.Stop.Joined
import Derived.Stop.LaidErr
import Derived.SevenTiedAt
import Derived.Lib.LaidTab
import Derived.WalkSmall
import Derived.WalkKit
import Derived.ProofKit
import Derived.OpenShut
import Derived.ShutString
import Derived.ChangeOld
import Derived.Below
import Derived.StillTailTactics
import Derived.Deep.RegionHeld3
import Derived.Deep.AppendLies
import Derived.StillTactics
import Derived.Deep.RegionWith
import Derived.WalkSpells
import Derived.Outline
import Derived.Test.YtomnogbahjcnnaaDoorGrow
import Derived.Test.YtomnogbahjcnnaaDoorSub
import Derived.Test.YtomnogbahjcnnaaDoorKnown
namespace Go.Proofs.YtomnogbahjcnnaaDoor.numsGrow
open Go.ChangeShapes Go.WideShapes Go.ChangeAt Go.RowKit
open Go.ChangeMaps (open_string shut_string)
set_option linter.unusedVariables false

theorem own : ownKnob Tryd.prog.godebug = none := by kernel_rfl
theorem laidOut : laidOutB Tryd.prog = true := by kernel_rfl

/-- A slice of integers that came in: nil, or a row of cells. -/
def IsRow (k : IntKind) (w : World) (a : Option Addr) (len cap : Nat) (zs : List Int) : Prop :=
  (a = none ∧ len = 0 ∧ cap = 0 ∧ zs = []) ∨
  ∃ x, a = some x ∧ len ≤ cap ∧ cap ≤ maxLen ∧ zs.length = cap ∧ (∀ i, i < zs.length → w.cell? (x.add i) = some (.int k (zs.getD i 0))) ∧ ∀ n ∈ zs, (Lit.int k n).wf = true
open Plain
theorem nil_row {k : IntKind} {w : World} {a : Option Addr} {len cap : Nat} {zs : List Int} (h : IsRow k w a len cap zs) : a = none → cap = 0 := by
  rcases h with ⟨-, -, h, -⟩ | ⟨x, rfl, -⟩
  · exact fun _ => h
  · exact fun e => by cases e
theorem run_min2 {P : Program} (ts : Array TypeId) (t : TypeId) (k k1 : IntKind) (x y : Int) (w : World) : (Builtin.min_ ts t #[.int k x, .int k1 y]).run P w = .ok (.int k (min x y)) w := by
  have e : ∀ p q : Int, (if q < p then q else p) = min p q := fun p q => by split <;> omega
  simp [Builtin.min_, Builtin.min2, e]
theorem getD_bytes4 {w : World} {a : Option Addr} {m : Nat} {xs : List Int} (h : Bytes w a m xs) : ∀ x ∈ xs, 0 ≤ x ∧ x ≤ 255 := by
  intro x hx
  obtain ⟨j, hj, rfl⟩ := List.mem_iff_getElem.1 hx
  have := h.2.2.1 j
  rwa [List.getElem?_eq_getElem hj] at this
theorem and_most (x : Int) : ∃ n : Nat, n ≤ 4611686018427387903 ∧ bits .and .i64 x 4611686018427387903 = (n : Int) := by
  refine ⟨(BitVec.ofInt 64 x).toNat % 2 ^ 62, by omega, ?_⟩
  show IntKind.i64.wrap ((BitVec.ofInt 64 _ &&& BitVec.ofInt 64 _ : BitVec 64).toNat : Int) = _
  rw [BitVec.toNat_and]
  have e2 : (BitVec.ofInt 64 (4611686018427387903 : Int)).toNat = 2 ^ 62 - 1 := by decide
  rw [e2, Nat.and_two_pow_sub_one_eq_mod, IntKind.wrap_i64]
  omega
theorem tab_below {w w' : World} (h : Lib.TabIs Tryd.prog w "internal/strconv.uint64pow10" .u64 Lib.pow10Tab) (hb : Below w.heap.size w w') : Lib.TabIs Tryd.prog w' "internal/strconv.uint64pow10" .u64 Lib.pow10Tab := by
  unfold Lib.TabIs at *
  have hg : Tryd.prog.globalNamed "internal/strconv.uint64pow10" = some 2 := by kernel_rfl
  refine var?_below hb hg (World.block_lt_of_cell? w ⟨2, 0, none⟩ (u := .int .u64 1) ((World.var?_cell hg h 0).trans (by kernel_rfl))) h
theorem step_text {W : World} {ops : Array Oper} {o : Oper} {ac : Act} {K : Act → World → Prop} {Q : Exit → Act → World → Prop} {E : Prop} (x : Operand) (ho : o.op = .convert 23 9 x)
    (hw : Region.wanted o (yielded ops ac.tmps) = true) (a : Option Addr) (n c : Nat) (xs : List Int) (hx : ac.eval x = .slice a n c) (HB : Bytes W a n xs) (h : K (ac.put o.dst (.string (strOfNums xs))) W) :
    if Region.wanted o (yielded ops ac.tmps) = true then Oper.wp Tryd.prog o ac W K Q else E := by
  rw [if_pos hw]
  unfold Oper.wp
  simp [execOp, ho, hx, text_run W a n c xs HB, Result.andThen]
  exact h
theorem wp_via {P : Program} {c : Code} {Q : Exit → Act → World → Prop} {a : Act} {w : World} (A : Act) (W : World) (h1 : c.wp P (fun e a' w' => e = .normal ∧ a' = A ∧ w' = W) a w) (h2 : Q .normal A W) : c.wp P Q a w := by
  refine wp_mono h1 fun e a' w' ⟨he, ha, hw⟩ => ?_
  subst he ha hw
  exact h2
def ViaPost (A : Value → Act) (R : World → Prop) : Exit → Act → World → Prop
  | .normal, a, w => ∃ v, a = A v ∧ R w
  | _, _, _ => False
theorem wp_via_v {P : Program} {c : Code} {Q : Exit → Act → World → Prop} {a : Act} {w : World} {R : World → Prop} (A : Value → Act) (h1 : c.wp P (ViaPost A R) a w) (h2 : ∀ v W, R W → Q .normal (A v) W) : c.wp P Q a w := by
  refine wp_mono h1 fun e a' w' h => ?_
  cases e with
  | normal =>
    obtain ⟨v, ha, hr⟩ := h
    subst ha
    exact h2 v w' hr
  | _ => exact h.elim
/-! ### The walk -/
set_option maxRecDepth 100000 in
set_option maxHeartbeats 8000000 in
theorem walk (a0 : Int) (a1 : Int) (a2 : Option Addr) (len2 cap2 : Nat) (z2 : List Int) (w : World) (htab : Lib.TabIs Tryd.prog w "internal/strconv.uint64pow10" .u64 Lib.pow10Tab) (w0 : (Lit.int .i64 a0).wf = true) (w1 : (Lit.int .i64 a1).wf = true) (w2 : IsRow .u8 w a2 len2 cap2 z2) :
    Calls Tryd.prog 6 #[.int .i64 a0, .int .i64 a1, .slice a2 len2 cap2] w fun e w' => e = .returned (.bool true) ∧ Below w.heap.size w w' := by
  have HT : Hid (Lib.TabIs Tryd.prog w "internal/strconv.uint64pow10" .u64 Lib.pow10Tab) := htab
  have HN2 : Hid (a2 = none → cap2 = 0) := nil_row w2
  obtain ⟨hb2, hlc2, hcm2⟩ := bytes_of w2
  have HB2 : Hid (Bytes w a2 (min len2 12) ((z2.take len2).take 12)) := hb2.first 12
  clear w0 w1 w2 hb2 htab
  generalize (z2.take len2).take 12 = bs at *
  obtain ⟨q, hq⟩ : ∃ q, min len2 12 = q := ⟨_, rfl⟩
  have hq5 : q ≤ 12 := by omega
  have hqc : q ≤ cap2 := by omega
  have hmn : ∀ (ts : Array TypeId) (t : TypeId) (W : World), (Builtin.min_ ts t #[.int .i64 (len2 : Int), .int .i64 12]).run Tryd.prog W = .ok (.int .i64 (q : Int)) W := fun ts t W => by
    rw [show (q : Int) = min (len2 : Int) 12 by omega]; exact run_min2 ts t .i64 .i64 len2 12 W
  rw [hq] at HB2
  clear hq
  obtain ⟨n0, hn0, hand0⟩ := and_most a0
  obtain ⟨m0, hm0, hand1⟩ := and_most a1
  -- the lesser one and the greater one
  obtain ⟨k, i, e, hof⟩ : ∃ k i e, ofsOf bs = (k, i, e) := ⟨_, _, _, rfl⟩
  have HOF : Hid (ofsOf bs = (k, i, e)) := hof
  have her : e = 0 ∨ e = 2 ∨ e = 3 := by have := ofsGo_err bs 0 0; rw [show ofsGo bs 0 0 = (k, i, e) from hof] at this; exact this
  have HOE : Hid (e = 0 → ofsBytes k = bs.take i ∧ k ≤ 4611686018427387903 ∧ i ≤ q) := fun h => by
    have := ofsOf_bytes bs (getD_bytes4 HB2.out) (by rw [hof]; exact h)
    rw [hof, HB2.out.1] at this
    exact this
  clear hof
  go_enter Tryd.func6, Tryd.ntmps6
  by_cases hgt : m0 < n0
  · have hgi : (m0 : Int) < n0 := by omega
    have hle : m0 ≤ n0 := by omega
    go_wp2_with fail
    refine (fromOfs_any a2 q cap2 bs w HB2.out).mono ?_
    rw [HOF.out]
    rintro e' w1 ⟨rfl, hb1⟩
    dsimp only
    have HW1 : Hid (Below w.heap.size w w1) := hb1
    clear hb1
    by_cases he : e = 0
    · subst he
      obtain ⟨hob, hk, hi⟩ := HOE.out rfl
      have HOB : Hid (ofsBytes k = bs.take i) := hob
      have HBI : Hid (Bytes w a2 i (bs.take i)) := by
        have := HB2.out.first i
        rwa [show min q i = i by omega] at this
      have hic : i ≤ cap2 := by omega
      have s1 := fun W => slice_to a2 q cap2 i hic W
      have HWD : Hid (Below w.heap.size w w1.drew) := HW1.out.drew
      have tb := text_run w1.drew a2 i cap2 _ (HBI.out.below HWD.out)
      clear hob
      go_wp2_with fail
      apply wp_via_v (R := fun W => Below w.heap.size w W)
      · go_region_with (first | (go_at_call 13; refine (ofs_any k hk _).mono ?_; rintro e2 w2 ⟨⟨xa, xk, xc, rfl, xo⟩, xb⟩; have HWC : Below w.heap.size w w2 := HWD.out.trans (xb.mono HWD.out.size); have tx := text_run w2 xa xk xc _ (xo.bytes (range_of_mem (ofsBytes_bytes k))); rw [HOB.out] at tx; have tb := text_run w2 a2 i cap2 _ (HBI.out.below HWC)))
        all_goals (obtain ⟨vv, hvv⟩ : ∃ v, v = Value.slice xa xk xc := ⟨_, rfl⟩; rw [← hvv]; exact ⟨vv, rfl, HWC⟩)
      intro vv w2 hw2
      have HW2 : Hid (Below w.heap.size w w2) := hw2
      clear hw2 tb s1 HWD
      go_wp2_with fail
      refine (known_any w2).mono ?_
      rintro e' w3 ⟨rfl, hb3⟩
      have HW3 : Hid (Below w.heap.size w w3) := HW2.out.trans (hb3.mono HW2.out.size)
      clear hb3
      go_wp2_with fail
      refine (leb_any m0 hm0 w3).mono ?_
      rintro e' w4 ⟨⟨x1, k1, y1, rfl, ho1⟩, hb4⟩
      have l1 : Hid (k1 = (lebBytes m0).length) := (own_len ho1).symm
      have HW4 : Hid (Below w.heap.size w w4) := HW3.out.trans (hb4.mono HW3.out.size)
      clear ho1 hb4
      go_wp2_with fail
      refine (leb_any n0 hn0 w4).mono ?_
      rintro e' w5 ⟨⟨x2, k2, y2, rfl, ho2⟩, hb5⟩
      have HC1 : Hid (k1 ≤ k2) := by show _ ≤ _; rw [l1.out, ← own_len ho2]; exact lebF_mono 10 m0 n0 hle
      have HW5 : Hid (Below w.heap.size w w5) := HW4.out.trans (hb5.mono HW4.out.size)
      have c1 : (k1 : Int) ≤ k2 := by have := HC1.out; omega
      clear ho2 hb5 l1
      go_wp2_with fail
      refine (ofs_any m0 hm0 w5).mono ?_
      rintro e' w6 ⟨⟨x3, k3, y3, rfl, ho3⟩, hb6⟩
      have l3 : Hid (k3 = (ofsBytes m0).length) := (own_len ho3).symm
      have HW6 : Hid (Below w.heap.size w w6) := HW5.out.trans (hb6.mono HW5.out.size)
      clear ho3 hb6
      go_wp2_with fail
      refine (ofs_any n0 hn0 w6).mono ?_
      rintro e' w7 ⟨⟨x4, k4, y4, rfl, ho4⟩, hb7⟩
      have HC2 : Hid (k3 ≤ k4) := by show _ ≤ _; rw [l3.out, ← own_len ho4]; exact ofsBytes_mono m0 n0 hle
      have HW7 : Hid (Below w.heap.size w w7) := HW6.out.trans (hb7.mono HW6.out.size)
      have c2 : (k3 : Int) ≤ k4 := by have := HC2.out; omega
      clear ho4 hb7 l3
      go_wp2_with fail
      refine (head_any 1 m0 (by omega) hm0 w7).mono ?_
      rintro e' w8 ⟨⟨x5, k5, y5, rfl, ho5⟩, hb8⟩
      have l5 : Hid (k5 = (headBytes 1 m0).length) := (own_len ho5).symm
      have HW8 : Hid (Below w.heap.size w w8) := HW7.out.trans (hb8.mono HW7.out.size)
      clear ho5 hb8
      go_wp2_with fail
      refine (head_any 1 n0 (by omega) hn0 w8).mono ?_
      rintro e' w9 ⟨⟨x6, k6, y6, rfl, ho6⟩, hb9⟩
      have HC3 : Hid (k5 ≤ k6) := by show _ ≤ _; rw [l5.out, ← own_len ho6]; exact headBytes_mono 1 m0 n0 hle
      have HW9 : Hid (Below w.heap.size w w9) := HW8.out.trans (hb9.mono HW8.out.size)
      have c3 : (k5 : Int) ≤ k6 := by have := HC3.out; omega
      clear ho6 hb9 l5
      go_wp2_with fail
      refine (dec_any m0 hm0 w9 (tab_below HT.out HW9.out)).mono ?_
      rintro e' w10 ⟨rfl, hb10⟩
      have HW10 : Hid (Below w.heap.size w w10) := HW9.out.trans (hb10.mono HW9.out.size)
      clear hb10
      have HD : Hid ((⟨(Lib.itoa (m0 : Int)).toArray⟩ : ByteArray).size ≤ (⟨(Lib.itoa (n0 : Int)).toArray⟩ : ByteArray).size) := by
        have := itoa_mono m0 n0 hle
        show _ ≤ _
        simpa [ByteArray.size] using this
      generalize (⟨(Lib.itoa (m0 : Int)).toArray⟩ : ByteArray) = S1 at *
      go_wp2_with fail
      refine (dec_any n0 hn0 w10 (tab_below HT.out HW10.out)).mono ?_
      rintro e' w11 ⟨rfl, hb11⟩
      have HW11 : Hid (Below w.heap.size w w11) := HW10.out.trans (hb11.mono HW10.out.size)
      clear hb11
      generalize (⟨(Lib.itoa (n0 : Int)).toArray⟩ : ByteArray) = S2 at *
      have c4 : (S1.size : Int) ≤ S2.size := by have := HD.out; omega
      go_wp2_with fail
      go_ret
      exact ⟨rfl, HW11.out⟩
    · have he2 : e = 2 ∨ e = 3 := by omega
      rcases he2 with rfl | rfl
      all_goals
        go_wp2_with fail
        apply wp_via
        · go_region
          all_goals exact ⟨rfl, rfl, rfl⟩
        have HW2 : Hid (Below w.heap.size w w1.drew) := HW1.out.drew
        generalize w1.drew = w2 at *
        go_wp2_with fail
        refine (known_any w2).mono ?_
        rintro e' w3 ⟨rfl, hb3⟩
        have HW3 : Hid (Below w.heap.size w w3) := HW2.out.trans (hb3.mono HW2.out.size)
        clear hb3
        go_wp2_with fail
        refine (leb_any m0 hm0 w3).mono ?_
        rintro e' w4 ⟨⟨x1, k1, y1, rfl, ho1⟩, hb4⟩
        have l1 : Hid (k1 = (lebBytes m0).length) := (own_len ho1).symm
        have HW4 : Hid (Below w.heap.size w w4) := HW3.out.trans (hb4.mono HW3.out.size)
        clear ho1 hb4
        go_wp2_with fail
        refine (leb_any n0 hn0 w4).mono ?_
        rintro e' w5 ⟨⟨x2, k2, y2, rfl, ho2⟩, hb5⟩
        have HC1 : Hid (k1 ≤ k2) := by show _ ≤ _; rw [l1.out, ← own_len ho2]; exact lebF_mono 10 m0 n0 hle
        have HW5 : Hid (Below w.heap.size w w5) := HW4.out.trans (hb5.mono HW4.out.size)
        have c1 : (k1 : Int) ≤ k2 := by have := HC1.out; omega
        clear ho2 hb5 l1
        go_wp2_with fail
        refine (ofs_any m0 hm0 w5).mono ?_
        rintro e' w6 ⟨⟨x3, k3, y3, rfl, ho3⟩, hb6⟩
        have l3 : Hid (k3 = (ofsBytes m0).length) := (own_len ho3).symm
        have HW6 : Hid (Below w.heap.size w w6) := HW5.out.trans (hb6.mono HW5.out.size)
        clear ho3 hb6
        go_wp2_with fail
        refine (ofs_any n0 hn0 w6).mono ?_
        rintro e' w7 ⟨⟨x4, k4, y4, rfl, ho4⟩, hb7⟩
        have HC2 : Hid (k3 ≤ k4) := by show _ ≤ _; rw [l3.out, ← own_len ho4]; exact ofsBytes_mono m0 n0 hle
        have HW7 : Hid (Below w.heap.size w w7) := HW6.out.trans (hb7.mono HW6.out.size)
        have c2 : (k3 : Int) ≤ k4 := by have := HC2.out; omega
        clear ho4 hb7 l3
        go_wp2_with fail
        refine (head_any 1 m0 (by omega) hm0 w7).mono ?_
        rintro e' w8 ⟨⟨x5, k5, y5, rfl, ho5⟩, hb8⟩
        have l5 : Hid (k5 = (headBytes 1 m0).length) := (own_len ho5).symm
        have HW8 : Hid (Below w.heap.size w w8) := HW7.out.trans (hb8.mono HW7.out.size)
        clear ho5 hb8
        go_wp2_with fail
        refine (head_any 1 n0 (by omega) hn0 w8).mono ?_
        rintro e' w9 ⟨⟨x6, k6, y6, rfl, ho6⟩, hb9⟩
        have HC3 : Hid (k5 ≤ k6) := by show _ ≤ _; rw [l5.out, ← own_len ho6]; exact headBytes_mono 1 m0 n0 hle
        have HW9 : Hid (Below w.heap.size w w9) := HW8.out.trans (hb9.mono HW8.out.size)
        have c3 : (k5 : Int) ≤ k6 := by have := HC3.out; omega
        clear ho6 hb9 l5
        go_wp2_with fail
        refine (dec_any m0 hm0 w9 (tab_below HT.out HW9.out)).mono ?_
        rintro e' w10 ⟨rfl, hb10⟩
        have HW10 : Hid (Below w.heap.size w w10) := HW9.out.trans (hb10.mono HW9.out.size)
        clear hb10
        have HD : Hid ((⟨(Lib.itoa (m0 : Int)).toArray⟩ : ByteArray).size ≤ (⟨(Lib.itoa (n0 : Int)).toArray⟩ : ByteArray).size) := by
          have := itoa_mono m0 n0 hle
          show _ ≤ _
          simpa [ByteArray.size] using this
        generalize (⟨(Lib.itoa (m0 : Int)).toArray⟩ : ByteArray) = S1 at *
        go_wp2_with fail
        refine (dec_any n0 hn0 w10 (tab_below HT.out HW10.out)).mono ?_
        rintro e' w11 ⟨rfl, hb11⟩
        have HW11 : Hid (Below w.heap.size w w11) := HW10.out.trans (hb11.mono HW10.out.size)
        clear hb11
        generalize (⟨(Lib.itoa (n0 : Int)).toArray⟩ : ByteArray) = S2 at *
        have c4 : (S1.size : Int) ≤ S2.size := by have := HD.out; omega
        go_wp2_with fail
        go_ret
        exact ⟨rfl, HW11.out⟩
  · have hgi : ¬ (m0 : Int) < n0 := by omega
    have hle : n0 ≤ m0 := by omega
    go_wp2_with fail
    refine (fromOfs_any a2 q cap2 bs w HB2.out).mono ?_
    rw [HOF.out]
    rintro e' w1 ⟨rfl, hb1⟩
    dsimp only
    have HW1 : Hid (Below w.heap.size w w1) := hb1
    clear hb1
    by_cases he : e = 0
    · subst he
      obtain ⟨hob, hk, hi⟩ := HOE.out rfl
      have HOB : Hid (ofsBytes k = bs.take i) := hob
      have HBI : Hid (Bytes w a2 i (bs.take i)) := by
        have := HB2.out.first i
        rwa [show min q i = i by omega] at this
      have hic : i ≤ cap2 := by omega
      have s1 := fun W => slice_to a2 q cap2 i hic W
      have HWD : Hid (Below w.heap.size w w1.drew) := HW1.out.drew
      have tb := text_run w1.drew a2 i cap2 _ (HBI.out.below HWD.out)
      clear hob
      go_wp2_with fail
      apply wp_via_v (R := fun W => Below w.heap.size w W)
      · go_region_with (first | (go_at_call 13; refine (ofs_any k hk _).mono ?_; rintro e2 w2 ⟨⟨xa, xk, xc, rfl, xo⟩, xb⟩; have HWC : Below w.heap.size w w2 := HWD.out.trans (xb.mono HWD.out.size); have tx := text_run w2 xa xk xc _ (xo.bytes (range_of_mem (ofsBytes_bytes k))); rw [HOB.out] at tx; have tb := text_run w2 a2 i cap2 _ (HBI.out.below HWC)))
        all_goals (obtain ⟨vv, hvv⟩ : ∃ v, v = Value.slice xa xk xc := ⟨_, rfl⟩; rw [← hvv]; exact ⟨vv, rfl, HWC⟩)
      intro vv w2 hw2
      have HW2 : Hid (Below w.heap.size w w2) := hw2
      clear hw2 tb s1 HWD
      go_wp2_with fail
      refine (known_any w2).mono ?_
      rintro e' w3 ⟨rfl, hb3⟩
      have HW3 : Hid (Below w.heap.size w w3) := HW2.out.trans (hb3.mono HW2.out.size)
      clear hb3
      go_wp2_with fail
      refine (leb_any n0 hn0 w3).mono ?_
      rintro e' w4 ⟨⟨x1, k1, y1, rfl, ho1⟩, hb4⟩
      have l1 : Hid (k1 = (lebBytes n0).length) := (own_len ho1).symm
      have HW4 : Hid (Below w.heap.size w w4) := HW3.out.trans (hb4.mono HW3.out.size)
      clear ho1 hb4
      go_wp2_with fail
      refine (leb_any m0 hm0 w4).mono ?_
      rintro e' w5 ⟨⟨x2, k2, y2, rfl, ho2⟩, hb5⟩
      have HC1 : Hid (k1 ≤ k2) := by show _ ≤ _; rw [l1.out, ← own_len ho2]; exact lebF_mono 10 n0 m0 hle
      have HW5 : Hid (Below w.heap.size w w5) := HW4.out.trans (hb5.mono HW4.out.size)
      have c1 : (k1 : Int) ≤ k2 := by have := HC1.out; omega
      clear ho2 hb5 l1
      go_wp2_with fail
      refine (ofs_any n0 hn0 w5).mono ?_
      rintro e' w6 ⟨⟨x3, k3, y3, rfl, ho3⟩, hb6⟩
      have l3 : Hid (k3 = (ofsBytes n0).length) := (own_len ho3).symm
      have HW6 : Hid (Below w.heap.size w w6) := HW5.out.trans (hb6.mono HW5.out.size)
      clear ho3 hb6
      go_wp2_with fail
      refine (ofs_any m0 hm0 w6).mono ?_
      rintro e' w7 ⟨⟨x4, k4, y4, rfl, ho4⟩, hb7⟩
      have HC2 : Hid (k3 ≤ k4) := by show _ ≤ _; rw [l3.out, ← own_len ho4]; exact ofsBytes_mono n0 m0 hle
      have HW7 : Hid (Below w.heap.size w w7) := HW6.out.trans (hb7.mono HW6.out.size)
      have c2 : (k3 : Int) ≤ k4 := by have := HC2.out; omega
      clear ho4 hb7 l3
      go_wp2_with fail
      refine (head_any 1 n0 (by omega) hn0 w7).mono ?_
      rintro e' w8 ⟨⟨x5, k5, y5, rfl, ho5⟩, hb8⟩
      have l5 : Hid (k5 = (headBytes 1 n0).length) := (own_len ho5).symm
      have HW8 : Hid (Below w.heap.size w w8) := HW7.out.trans (hb8.mono HW7.out.size)
      clear ho5 hb8
      go_wp2_with fail
      refine (head_any 1 m0 (by omega) hm0 w8).mono ?_
      rintro e' w9 ⟨⟨x6, k6, y6, rfl, ho6⟩, hb9⟩
      have HC3 : Hid (k5 ≤ k6) := by show _ ≤ _; rw [l5.out, ← own_len ho6]; exact headBytes_mono 1 n0 m0 hle
      have HW9 : Hid (Below w.heap.size w w9) := HW8.out.trans (hb9.mono HW8.out.size)
      have c3 : (k5 : Int) ≤ k6 := by have := HC3.out; omega
      clear ho6 hb9 l5
      go_wp2_with fail
      refine (dec_any n0 hn0 w9 (tab_below HT.out HW9.out)).mono ?_
      rintro e' w10 ⟨rfl, hb10⟩
      have HW10 : Hid (Below w.heap.size w w10) := HW9.out.trans (hb10.mono HW9.out.size)
      clear hb10
      have HD : Hid ((⟨(Lib.itoa (n0 : Int)).toArray⟩ : ByteArray).size ≤ (⟨(Lib.itoa (m0 : Int)).toArray⟩ : ByteArray).size) := by
        have := itoa_mono n0 m0 hle
        show _ ≤ _
        simpa [ByteArray.size] using this
      generalize (⟨(Lib.itoa (n0 : Int)).toArray⟩ : ByteArray) = S1 at *
      go_wp2_with fail
      refine (dec_any m0 hm0 w10 (tab_below HT.out HW10.out)).mono ?_
      rintro e' w11 ⟨rfl, hb11⟩
      have HW11 : Hid (Below w.heap.size w w11) := HW10.out.trans (hb11.mono HW10.out.size)
      clear hb11
      generalize (⟨(Lib.itoa (m0 : Int)).toArray⟩ : ByteArray) = S2 at *
      have c4 : (S1.size : Int) ≤ S2.size := by have := HD.out; omega
      go_wp2_with fail
      go_ret
      exact ⟨rfl, HW11.out⟩
    · have he2 : e = 2 ∨ e = 3 := by omega
      rcases he2 with rfl | rfl
      all_goals
        go_wp2_with fail
        apply wp_via
        · go_region
          all_goals exact ⟨rfl, rfl, rfl⟩
        have HW2 : Hid (Below w.heap.size w w1.drew) := HW1.out.drew
        generalize w1.drew = w2 at *
        go_wp2_with fail
        refine (known_any w2).mono ?_
        rintro e' w3 ⟨rfl, hb3⟩
        have HW3 : Hid (Below w.heap.size w w3) := HW2.out.trans (hb3.mono HW2.out.size)
        clear hb3
        go_wp2_with fail
        refine (leb_any n0 hn0 w3).mono ?_
        rintro e' w4 ⟨⟨x1, k1, y1, rfl, ho1⟩, hb4⟩
        have l1 : Hid (k1 = (lebBytes n0).length) := (own_len ho1).symm
        have HW4 : Hid (Below w.heap.size w w4) := HW3.out.trans (hb4.mono HW3.out.size)
        clear ho1 hb4
        go_wp2_with fail
        refine (leb_any m0 hm0 w4).mono ?_
        rintro e' w5 ⟨⟨x2, k2, y2, rfl, ho2⟩, hb5⟩
        have HC1 : Hid (k1 ≤ k2) := by show _ ≤ _; rw [l1.out, ← own_len ho2]; exact lebF_mono 10 n0 m0 hle
        have HW5 : Hid (Below w.heap.size w w5) := HW4.out.trans (hb5.mono HW4.out.size)
        have c1 : (k1 : Int) ≤ k2 := by have := HC1.out; omega
        clear ho2 hb5 l1
        go_wp2_with fail
        refine (ofs_any n0 hn0 w5).mono ?_
        rintro e' w6 ⟨⟨x3, k3, y3, rfl, ho3⟩, hb6⟩
        have l3 : Hid (k3 = (ofsBytes n0).length) := (own_len ho3).symm
        have HW6 : Hid (Below w.heap.size w w6) := HW5.out.trans (hb6.mono HW5.out.size)
        clear ho3 hb6
        go_wp2_with fail
        refine (ofs_any m0 hm0 w6).mono ?_
        rintro e' w7 ⟨⟨x4, k4, y4, rfl, ho4⟩, hb7⟩
        have HC2 : Hid (k3 ≤ k4) := by show _ ≤ _; rw [l3.out, ← own_len ho4]; exact ofsBytes_mono n0 m0 hle
        have HW7 : Hid (Below w.heap.size w w7) := HW6.out.trans (hb7.mono HW6.out.size)
        have c2 : (k3 : Int) ≤ k4 := by have := HC2.out; omega
        clear ho4 hb7 l3
        go_wp2_with fail
        refine (head_any 1 n0 (by omega) hn0 w7).mono ?_
        rintro e' w8 ⟨⟨x5, k5, y5, rfl, ho5⟩, hb8⟩
        have l5 : Hid (k5 = (headBytes 1 n0).length) := (own_len ho5).symm
        have HW8 : Hid (Below w.heap.size w w8) := HW7.out.trans (hb8.mono HW7.out.size)
        clear ho5 hb8
        go_wp2_with fail
        refine (head_any 1 m0 (by omega) hm0 w8).mono ?_
        rintro e' w9 ⟨⟨x6, k6, y6, rfl, ho6⟩, hb9⟩
        have HC3 : Hid (k5 ≤ k6) := by show _ ≤ _; rw [l5.out, ← own_len ho6]; exact headBytes_mono 1 n0 m0 hle
        have HW9 : Hid (Below w.heap.size w w9) := HW8.out.trans (hb9.mono HW8.out.size)
        have c3 : (k5 : Int) ≤ k6 := by have := HC3.out; omega
        clear ho6 hb9 l5
        go_wp2_with fail
        refine (dec_any n0 hn0 w9 (tab_below HT.out HW9.out)).mono ?_
        rintro e' w10 ⟨rfl, hb10⟩
        have HW10 : Hid (Below w.heap.size w w10) := HW9.out.trans (hb10.mono HW9.out.size)
        clear hb10
        have HD : Hid ((⟨(Lib.itoa (n0 : Int)).toArray⟩ : ByteArray).size ≤ (⟨(Lib.itoa (m0 : Int)).toArray⟩ : ByteArray).size) := by
          have := itoa_mono n0 m0 hle
          show _ ≤ _
          simpa [ByteArray.size] using this
        generalize (⟨(Lib.itoa (n0 : Int)).toArray⟩ : ByteArray) = S1 at *
        go_wp2_with fail
        refine (dec_any m0 hm0 w10 (tab_below HT.out HW10.out)).mono ?_
        rintro e' w11 ⟨rfl, hb11⟩
        have HW11 : Hid (Below w.heap.size w w11) := HW10.out.trans (hb11.mono HW10.out.size)
        clear hb11
        generalize (⟨(Lib.itoa (m0 : Int)).toArray⟩ : ByteArray) = S2 at *
        have c4 : (S1.size : Int) ≤ S2.size := by have := HD.out; omega
        go_wp2_with fail
        go_ret
        exact ⟨rfl, HW11.out⟩

def laidRow : List (String × DataW Unit) := [("math/bits.deBruijn32tab", Rows.laid_math_bits_deBruijn32tab), ("math/bits.deBruijn64tab", Rows.laid_math_bits_deBruijn64tab), ("internal/strconv.uint64pow10", Rows.laid_internal_strconv_uint64pow10)]
theorem tab_of {W : World} (h : laidMetH Tryd.prog laidRow W) : Lib.TabIs Tryd.prog W "internal/strconv.uint64pow10" .u64 Lib.pow10Tab := by
  rw [MakeChecks.laidMetH_plain _ _ _ (by kernel_rfl)] at h
  exact Lib.tabIs_of_head (g := 2) (t := 72) (e := 25) (n := 20) (by kernel_rfl) (by kernel_rfl) Tryd.underlying72 Tryd.underlying25 (by kernel_rfl) (by kernel_rfl) (laidMet.tail (laidMet.tail h))
/-! ### The row's step -/
theorem door_met {H : Type} {enc : TypeId × Value → H} (os : Os) (args : Array Value) : laidMetH Tryd.prog laidRow ((World.doorLaid Tryd.prog 400 os).forCall (fun _ _ => 0) ⟨#[], args, []⟩).memory :=
  laidMetH_of_parts3 (fuel := 8) (laidMet_of_run' 8 (by kernel_rfl) (by kernel_rfl)) (by kernel_rfl) (by kernel_rfl)
set_option maxRecDepth 100000 in
theorem lifted (os : Os) (started : os.Started) (H : Type) (enc : TypeId × Value → H) :
    ReturnsInHanded {} Tryd.checked os 6 .any (fun w args => (Rows.numsGrowSpec.pre enc Tryd.prog Tryd.f6 [] false w args ∧ laidMetH Tryd.prog laidRow w) ∧ sizedMet enc Tryd.prog Tryd.f6 (OpenSpec.ofChange Rows.numsGrowSpec) false w args) (Rows.numsGrowSpec.post enc Tryd.prog Tryd.f6 false true false false) := by
  refine returnsInHanded_of_change_and (C := Tryd.checked) (X := fun w _ => laidMetH Tryd.prog laidRow w) (fun _ _ _ hh h => h.of_heap hh) own started (by kernel_rfl) Tryd.func6
    (ChangeSpec.witness_shaped (enc := enc) (C := Tryd.checked) (os := os) (X := fun w _ => laidMetH Tryd.prog laidRow w) false (World.doorLaid Tryd.prog 400 os) #[.int .i64 0, .int .i64 0, .slice none 0 0] 8 rfl (World.shaped_of_RefB (by kernel_rfl) (by kernel_rfl)) (by kernel_rfl) (by kernel_rfl) (by kernel_rfl) (door_met (enc := enc) os _)) ?_
  intro W base args ds gs before hval0 hW _ _ hL _
  have htab : Lib.TabIs Tryd.prog W "internal/strconv.uint64pow10" .u64 Lib.pow10Tab := tab_of hL
  have hval : ∀ (j : Nat) t v, Tryd.f6.params[j]? = some t → args[j]? = some v → Value.okWide Tryd.prog W .any base t v := hval0
  have hW' := hW
  obtain ⟨p, q, hA0, hV, rfl, hfz, hnd⟩ := hW
  have hA : DataW.TrodAll enc Tryd.prog W 0 (fun _ => true) true Tryd.f6.params.toList args.toList ds p := hA0
  rw [Tryd.params6] at hA hval
  obtain ⟨v0, vs0, d0, ds0, p0, q0, hargs, rfl, rfl, h0, r0⟩ := trodAll_cons hA
  obtain ⟨v1, vs1, d1, ds1, p1, q1, rfl, rfl, rfl, h1, r1⟩ := trodAll_cons r0
  obtain ⟨v2, vs2, d2, ds2, p2, q2, rfl, rfl, rfl, h2, r2⟩ := trodAll_cons r1
  obtain ⟨rfl, rfl, rfl⟩ := trodAll_nil r2
  obtain rfl : args = #[v0, v1, v2] := by cases args; simp_all
  obtain ⟨rfl, rfl⟩ := trodVars_none hV
  obtain ⟨a0, rfl, rfl, rfl, w0⟩ := open_int Tryd.underlying3 (hval 0 3 v0 rfl rfl) h0
  obtain ⟨a1, rfl, rfl, rfl, w1⟩ := open_int Tryd.underlying3 (hval 1 3 v1 rfl rfl) h1
  obtain ⟨a2, len2, cap2, rfl⟩ := okWide_slice Tryd.underlying23 (hval 2 23 v2 rfl rfl)
  have k2 := h2
  have lt2 : ∀ x ∈ p2, x.block < W.heap.size := by obtain ⟨m, hm⟩ := k2; exact DataW.trod_lt m _ _ _ hm
  obtain ⟨z2, w2⟩ : ∃ zs, IsRow .u8 W a2 len2 cap2 zs := by
    obtain ⟨fuel, hf⟩ := h2
    rcases open_ints Tryd.underlying23 Tryd.underlying5 (by kernel_rfl) hf with ⟨hcs, _⟩ | ⟨x, l, c, zs, hcs, _, hl, hm, hz, _, hcell, hwz⟩
    · simp [Value.cells] at hcs
      obtain ⟨rfl, rfl, rfl⟩ := hcs
      exact ⟨[], .inl ⟨rfl, rfl, rfl, rfl⟩⟩
    · simp [Value.cells] at hcs
      obtain ⟨rfl, rfl, rfl⟩ := hcs
      exact ⟨zs, .inr ⟨_, rfl, hl, hm, by simpa using hz, hcell, hwz⟩⟩
  refine (walk a0 a1 a2 len2 cap2 z2 W htab w0 w1 w2).mono fun e W' ⟨he, bel⟩ => ?_
  subst he
  exact ⟨_, rfl, _, _, _, [], _, [], hW', trodAll_mk1 (shut_bool Tryd.underlying4 _), (trodAll_cons_mk (shut_int Tryd.underlying3 w0) (trodAll_cons_mk (shut_int Tryd.underlying3 w1) (trodAll_cons_mk (Below.trod laidOut (by kernel_rfl) (of_decide_eq_true (by kernel_rfl)) k2 bel lt2) trodAll_mk0))), rfl, bel.frame _, fun h => by cases h⟩

theorem over : Rows.numsGrowRow.holds Tryd.pinned (OpenSpec.ofChange Rows.numsGrowSpec) :=
  OpenClaim.holds_of_wide 6 Tryd.f6 rfl rfl rfl rfl rfl rfl rfl ⟨rfl, rfl, rfl, rfl, rfl⟩ rfl rfl rfl rfl rfl (by kernel_rfl) Tryd.func6 (by kernel_rfl)
    (of_decide_eq_true (by kernel_rfl)) (by unfold Func.isWrapper; first | (rw [if_pos (by decide +kernel)]; kernel_rfl) | (rw [if_neg (by decide +kernel)]; exact ⟨rfl, rfl⟩))
    (fun os started H enc _ => lifted os started H enc)

/-- The statement. -/
theorem proved : Rows.NumsGrowCardSaid :=
  Claim7.holds_tied_plain_at .later [] [.data, .data, .data] true (true, "b01af69ca4c87df8c48274261dfe4d67f38ad4550381c1a4e15be4a9215544f5") true
    over (fun _ h => by cases h) (by kernel_rfl) (fun _ h => by cases h) numsGrow_row_tie rfl ⟨rfl, rfl⟩ (by kernel_rfl) rfl
    (fun f fn hf hfn => by
      obtain rfl : f = 6 := Option.some.inj ((show Tryd.prog.funcNamed "tramway/tramwaylaw06.NumsGrow" = some 6 by kernel_rfl).symm.trans hf) |>.symm
      obtain rfl : fn = Tryd.f6 := (Option.some.inj (Tryd.func6.symm.trans hfn)).symm
      exact ⟨by kernel_rfl, fun j t ht => by
        rw [Tryd.params6] at ht
        have hm : t ∈ [3, 3, 23] := by simpa using Array.mem_of_getElem? ht
        have hall : ([3, 3, 23].all fun u => !Tryd.prog.wantsStandIn u) = true := by kernel_rfl
        exact (show Tryd.prog.wantsStandIn t = false by simpa using List.all_eq_true.1 hall t hm)⟩)
    (by kernel_rfl)
#print axioms proved
end Go.Proofs.YtomnogbahjcnnaaDoor.numsGrow
