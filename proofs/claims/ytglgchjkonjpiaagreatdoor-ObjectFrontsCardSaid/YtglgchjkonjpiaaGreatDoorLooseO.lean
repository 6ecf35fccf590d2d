/- Loose, Open: the walks. -/
import Derived.Test.YtglgchjkonjpiaaGreatDoorLoose
import Derived.Test.YtglgchjkonjpiaaGreatDoorOpen
namespace Go.Proofs.YtglgchjkonjpiaaGreatDoor
open Go.RowKit Plain
set_option linter.unusedVariables false
theorem frontOf_sizeO (k : Int) (m : Nat) (hm : m ≤ 4611686018427387903) : 2 ≤ (frontOf k m).size ∧ (frontOf k m).size ≤ 30 := by
  have h1 := wordAt_size k
  have h2 := dec_len m hm
  unfold frontOf
  simp only [ByteArray.size_append]
  have e1 : (⟨#[32]⟩ : ByteArray).size = 1 := rfl
  have e2 : (⟨#[0]⟩ : ByteArray).size = 1 := rfl
  have e3 : (⟨(Lib.decDigits m).toArray⟩ : ByteArray).size = (Lib.decDigits m).length := rfl
  omega
theorem whole_len (k : Int) (m : Nat) (xs : List Int) : (wholeOf k m xs).length = (frontOf k m).size + xs.length := by
  unfold wholeOf
  rw [List.length_append, numsOf_length]
theorem whole_mem (k : Int) (m : Nat) {xs : List Int} (h : ∀ x ∈ xs, 0 ≤ x ∧ x ≤ 255) : ∀ x ∈ wholeOf k m xs, 0 ≤ x ∧ x ≤ 255 := by
  unfold wholeOf
  intro x hx
  rcases List.mem_append.1 hx with hx | hx
  · exact numsOf_bytes _ x hx
  · exact h x hx
theorem two_cells (w : World) (t : TypeId) (A B : Value) : (w.alloc (.cells #[A, B] t)).cell? ⟨w.heap.size, 0, none⟩ = some A ∧ (w.alloc (.cells #[A, B] t)).cell? ⟨w.heap.size, 1, none⟩ = some B := by
  have h := heap_alloc_new w (.cells #[A, B] t)
  constructor
  · show (match (w.alloc (.cells #[A, B] t)).heap[w.heap.size]? with | some (.cells cs _ _) => cs[0]? | _ => none) = some A
    rw [h]; rfl
  · show (match (w.alloc (.cells #[A, B] t)).heap[w.heap.size]? with | some (.cells cs _ _) => cs[1]? | _ => none) = some B
    rw [h]; rfl
/-- What Loose tells. -/
def LooseQ (k : Int) (m : Nat) (xs : List Int) (e : Ending) (w' : World) : Prop :=
  (wordAt k = wNone ∧ e = .returned (.tuple #[.slice none 0 0, .int .i64 1])) ∨
  (wordAt k ≠ wNone ∧ ∃ (va : Option Addr) (l vc : Nat), e = .returned (.tuple #[.slice va l vc, .int .i64 0]) ∧ RowB w' va l vc (wrapN (wholeOf k m xs)))
set_option maxRecDepth 100000 in
set_option maxHeartbeats 4000000 in
theorem loose_any (k : Int) (a : Option Addr) (m c : Nat) (xs : List Int) (w : World) (H : RowB w a m c xs) (hm : m ≤ 20000) (hE : Env w) :
    Calls Tryz.prog 8 #[.int .i64 k, .slice a m c] w fun e w' => LooseQ k m xs e w' ∧ Below w.heap.size w w' := by
  have HX := Lib.hid H
  have hl := H.len
  have HF := Lib.hid (frontOf_sizeO k m (by omega))
  have HWL := Lib.hid (whole_len k m xs)
  have HWM := Lib.hid (whole_mem k m H.mem)
  have HWE : Hid (wholeOf k m xs = numsOf (frontOf k m) ++ xs) := rfl
  clear H
  go_enter Tryz.func8, Tryz.ntmps8
  go_wp2_with fail
  refine (front_any k a m c (by omega) w hE.tab).mono ?_
  rintro e w1 ⟨⟨h0, rfl⟩ | ⟨h0, hbig, rfl⟩ | ⟨h0, -, fa, fc, rfl, hfc, hfb⟩, hb⟩
  · have H0 := Lib.hid h0
    have HB := Lib.hid hb
    clear h0 hb
    go_wp2_with fail
    go_ret2
    exact ⟨.inl ⟨H0.out, rfl⟩, HB.out⟩
  · omega
  · have H0 := Lib.hid h0
    have HB := Lib.hid hb
    have HFB := Lib.hid hfb
    clear h0 hb hfb
    rw [hl] at HWL
    have hf1 := HF.out
    generalize numsOf (frontOf k m) = fl at *
    generalize (frontOf k m).size = fs at *
    obtain ⟨W, hW⟩ : ∃ W, wholeOf k m xs = W := ⟨_, rfl⟩
    have HWW := Lib.hid hW
    rw [hW] at HWL HWM HWE
    clear hW
    have k01 := two_cells w1 22 (.slice fa fs fc) (.slice a m c)
    have B1 : Hid (∀ o, Below w1.heap.size w1 (w1.alloc o)) := fun o => (Below.refl _ _).alloc (Nat.le_refl _) o
    have K01 := Lib.hid k01
    clear k01 HF
    go_wp2_with fail
    refine (concat_any w1.heap.size fa a fs m fc c fl xs _ K01.out.1 K01.out.2 (HFB.out.below (B1.out _)) ((HX.out.below HB.out).bytes.below (B1.out _)) (by omega) (by omega) (by omega)).mono ?_
    rintro e w2 ⟨⟨va, vc, rfl, hmid⟩, hb⟩
    rw [← HWE.out] at hmid
    have HR := Lib.hid (hmid.row (range_of_mem0 HWM.out))
    have HB2 : Hid (Below w.heap.size w w2) := HB.out.trans (((B1.out _).trans (hb.mono (B1.out _).size)).mono HB.out.size)
    obtain ⟨t, ht⟩ : ∃ t, fs + m = t := ⟨_, rfl⟩
    rw [ht] at HR ⊢
    have ht2 : t ≤ 30000 := by omega
    clear hmid hb K01 HFB B1 ht
    go_wp2_with fail
    refine (wrap_any va t vc W w2 HR.out ht2).mono ?_
    rintro e w3 ⟨⟨ra, rc, rfl, hrow, -⟩, hb⟩
    have HB3 : Hid (Below w.heap.size w w3) := HB2.out.trans (hb.mono HB2.out.size)
    have HRW := Lib.hid hrow
    generalize (wrapN W).length = wl at *
    clear hb hrow
    go_wp2_with fail
    go_ret2
    exact ⟨.inr ⟨H0.out, ra, wl, rc, rfl, by rw [HWW.out]; exact HRW.out⟩, HB3.out⟩
/-- What Open tells. -/
def OpenO (bs : List Int) (e : Ending) (w' : World) : Prop :=
  (∃ k : Nat, openN bs 16777236 = .error k ∧ k ≠ 0 ∧ e = .returned (.tuple #[.int .i64 0, .slice none 0 0, .int .i64 (k : Int)])) ∨
  (∃ n m, openN bs 16777236 = .ok (n, m) ∧ (n ≠ bs.length ∨ ∀ k ys, ¬ IsObj m k ys) ∧ e = .returned (.tuple #[.int .i64 0, .slice none 0 0, .int .i64 4])) ∨
  (∃ m k ys, openN bs 16777236 = .ok (bs.length, m) ∧ IsObj m k ys ∧ 16777216 < ys.length ∧ e = .returned (.tuple #[.int .i64 0, .slice none 0 0, .int .i64 2])) ∨
  (∃ (m : List Int) (k : Nat) (ys : List Int) (va : Option Addr) (vl vc : Nat), openN bs 16777236 = .ok (bs.length, m) ∧ IsObj m k ys ∧ e = .returned (.tuple #[.int .i64 (k : Int), .slice va vl vc, .int .i64 0]) ∧ RowB w' va vl vc ys)
set_option maxRecDepth 100000 in
set_option maxHeartbeats 4000000 in
theorem openO_any (a : Option Addr) (n c : Nat) (bs : List Int) (w : World) (H : RowB w a n c bs) (hn : n ≤ 1000000) (hE : Env w) :
    Calls Tryz.prog 11 #[.slice a n c] w fun e w' => OpenO bs e w' ∧ Below w.heap.size w w' := by
  have HEE := Lib.hid hE
  have HL : Hid (bs.length = n) := H.len
  go_enter Tryz.func11, Tryz.ntmps11
  go_wp2_with fail
  refine (open_any a n c bs 16777236 16777236 w H (by omega) rfl (by omega)).mono ?_
  rintro e w1 (⟨q, m, va, vc, ho, rfl, hrow, hmm, hb, hq⟩ | ⟨k, ho, hk, rfl, hb⟩)
  · have HO := Lib.hid ho
    have HR := Lib.hid hrow
    have HB := Lib.hid hb
    have HQ := Lib.hid hq
    have hml : m.length ≤ 1000000000 := by omega
    clear ho hrow hb hq hmm H hE
    obtain ⟨ml, hml2⟩ : ∃ ml, m.length = ml := ⟨_, rfl⟩
    rw [hml2] at HR hml ⊢
    clear hml2
    go_wp2_with fail
    refine (split_any va ml vc m w1 HR.out hml (HEE.out.below HB.out)).mono ?_
    rintro e w2 ⟨⟨k, ys, ya, yl, yc, hobj, rfl, hrow, -⟩ | ⟨hno, k, ya, yl, yc, rfl⟩, hb⟩
    · have HB2 : Hid (Below w.heap.size w w2) := HB.out.trans (hb.mono HB.out.size)
      have HOB := Lib.hid hobj
      have HRY := Lib.hid hrow
      have HYL : Hid (ys.length = yl) := hrow.len
      clear hb hobj hrow
      by_cases h1 : q = n
      · subst h1
        have HO2 : Hid (openN bs 16777236 = .ok (bs.length, m)) := by show _ = _; rw [HL.out]; exact HO.out
        by_cases h2 : 16777216 < yl
        · have h2i : (16777216 : Int) < (yl : Int) := by omega
          go_wp2_with fail
          go_ret3
          exact ⟨.inr (.inr (.inl ⟨m, k, ys, HO2.out, HOB.out, by rw [HYL.out]; exact h2, rfl⟩)), HB2.out⟩
        · have h2i : ¬ (16777216 : Int) < (yl : Int) := by omega
          go_wp2_with fail
          go_ret3
          exact ⟨.inr (.inr (.inr ⟨m, k, ys, ya, yl, yc, HO2.out, HOB.out, rfl, HRY.out⟩)), HB2.out⟩
      · have e1 : ¬ (q : Int) = (n : Int) := by omega
        have e2 : ((q : Int) == (n : Int)) = false := beq_eq_false_iff_ne.2 e1
        have e3 : ((q : Int) != (n : Int)) = true := by simp; omega
        have H1 : Hid (q ≠ bs.length) := by show _ ≠ _; rw [HL.out]; exact h1
        go_wp2_with fail
        go_ret3
        exact ⟨.inr (.inl ⟨q, m, HO.out, .inl H1.out, rfl⟩), HB2.out⟩
    · have HB2 : Hid (Below w.heap.size w w2) := HB.out.trans (hb.mono HB.out.size)
      have HNO : Hid (∀ k ys, ¬ IsObj m k ys) := hno
      clear hb hno
      by_cases h1 : q = n
      · subst h1
        go_wp2_with fail
        go_ret3
        exact ⟨.inr (.inl ⟨q, m, HO.out, .inr HNO.out, rfl⟩), HB2.out⟩
      · have e1 : ¬ (q : Int) = (n : Int) := by omega
        have e2 : ((q : Int) == (n : Int)) = false := beq_eq_false_iff_ne.2 e1
        have e3 : ((q : Int) != (n : Int)) = true := by simp; omega
        go_wp2_with fail
        go_ret3
        exact ⟨.inr (.inl ⟨q, m, HO.out, .inr HNO.out, rfl⟩), HB2.out⟩
  · have hki : ¬ ((k : Int) = 0) := by omega
    have hkb : ((k : Int) == 0) = false := by simp; omega
    have hkc : ((k : Int) != 0) = true := by simp; omega
    have HO := Lib.hid ho
    have HK := Lib.hid hk
    have HB := Lib.hid hb
    clear ho hk hb
    go_wp2_with fail
    go_ret3
    exact ⟨.inl ⟨k, HO.out, HK.out, rfl⟩, HB.out⟩
end Go.Proofs.YtglgchjkonjpiaaGreatDoor
