/- Bytes cut in two at a byte; front and body told apart: the walks. -/
import Derived.Test.YtglgchjkonjpiaaGreatDoorSplitMath
import Derived.Test.YtglgchjkonjpiaaGreatDoorInfE
namespace Go.Proofs.YtglgchjkonjpiaaGreatDoor
open Go.RowKit Plain
set_option linter.unusedVariables false
theorem in_of {w : World} {a : Option Addr} {n : Nat} {xs : List Int} (h : Bytes w a n xs) : Lib.BytesIn w a n xs := fun hn => by
  rcases h.2.2.2 with h0 | ⟨b, o, rfl, hc⟩
  · omega
  · exact ⟨b, o, rfl, fun i hi => by rw [List.getD_eq_getElem?_getD]; exact hc i hi⟩
theorem cut_any (a : Option Addr) (n c : Nat) (xs : List Int) (p : Option Addr) (k2 : Nat) (z : Int) (w : World) (H : RowB w a n c xs) (hn : n ≤ 1000000000) (hy : Bytes w p 1 [z]) (hE : Env w) :
    Calls Tryz.prog 44 #[.slice a n c, .slice p 1 k2] w fun e w' => ((z ∉ xs ∧ e = .returned (.tuple #[.slice a n c, .slice none 0 0, .bool false])) ∨
      ∃ i, i < n ∧ xs[i]? = some z ∧ z ∉ xs.take i ∧ e = .returned (.tuple #[.slice a i c, .slice (subA a c (i + 1)) (n - (i + 1)) (c - (i + 1)), .bool true])) ∧ Below w.heap.size w w' := by
  obtain ⟨m, hm⟩ := hE.most
  have hz : 0 ≤ z ∧ z ≤ 255 := hy.2.2.1 0
  have hl := H.len
  refine (Tryz.bytes_Cut_all a p n c 1 k2 xs [z] m w hl rfl (fun x hx => by have := H.mem x hx; omega) (fun y hy => by simp at hy; omega) (in_of H.bytes) (in_of hy) H.nil H.le (by omega) (by omega) hm).mono ?_
  rintro e w' ⟨rfl, q, rfl⟩
  refine ⟨?_, below_drewN w q⟩
  rcases cut_at xs z H.mem hz with ⟨h1, h2⟩ | ⟨i, h1, h2, h3, h4⟩
  · left
    refine ⟨h2, ?_⟩
    rw [h1]
    rfl
  · right
    refine ⟨i, by omega, h3, h4, ?_⟩
    rw [h1]
    unfold Lib.cutV Lib.fromV subA
    rw [if_pos (by omega)]
    rfl
/-- What split tells. -/
def SplitQ (xs : List Int) (e : Ending) (w' : World) : Prop :=
  (∃ (k : Nat) (ys : List Int) (ya : Option Addr) (yl yc : Nat), IsObj xs k ys ∧ e = .returned (.tuple #[.int .i64 (k : Int), .slice ya yl yc, .bool true]) ∧ RowB w' ya yl yc ys ∧ yl ≤ xs.length) ∨
  ((∀ k ys, ¬ IsObj xs k ys) ∧ ∃ (k : Int) (ya : Option Addr) (yl yc : Nat), e = .returned (.tuple #[.int .i64 k, .slice ya yl yc, .bool false]))
theorem RowB.front {w : World} {a : Option Addr} {n c : Nat} {xs : List Int} (h : RowB w a n c xs) (k : Nat) (hk : k ≤ n) : RowB w a k c (xs.take k) :=
  ⟨by have := h.le; omega, h.cap, h.nil, h.first k hk⟩
set_option maxRecDepth 100000 in
set_option maxHeartbeats 4000000 in
theorem split_any (a : Option Addr) (n c : Nat) (xs : List Int) (w : World) (H : RowB w a n c xs) (hn : n ≤ 1000000000) (hE : Env w) :
    Calls Tryz.prog 23 #[.slice a n c] w fun e w' => SplitQ xs e w' ∧ Below w.heap.size w w' := by
  have hcv := fun (w : World) (C : Array Value) (n c g : Nat) (hg : g = w.heap.size) => Joins.run_convert_bytes_const_at (P := Tryz.prog) w 22 5 C n c g hg Tryz.underlying22 Tryz.underlying5
  have HH := Lib.hid H
  have HEE := Lib.hid hE
  have HL : Hid (xs.length = n) := H.len
  have HM : Hid (∀ x ∈ xs, 0 ≤ x ∧ x ≤ 255) := H.mem
  clear H hE
  have B0 : Hid (∀ o, Below w.heap.size w (w.alloc o)) := fun o => (Below.refl _ _).alloc (Nat.le_refl _) o
  go_enter Tryz.func23, Tryz.ntmps23
  go_wp2_with fail
  refine (cut_any a n c xs _ _ 0 _ (HH.out.below (B0.out _)) hn (Bytes.lit w w.heap.size rfl [0] 5 (0, 0) 1 rfl (by omega) (by intro y hy; simp at hy; omega)) (HEE.out.below (B0.out _))).mono ?_
  rintro e w1 ⟨⟨h0, rfl⟩ | ⟨i, hi, hx0, hno, rfl⟩, hb⟩
  · have HQ : Hid (∀ k ys, ¬ IsObj xs k ys) := fun k ys => obj_zero h0 k ys
    have HB : Hid (Below w.heap.size w w1) := (B0.out _).trans (hb.mono (B0.out _).size)
    clear h0 hb B0
    go_wp2_with fail
    go_ret3
    exact ⟨.inr ⟨HQ.out, _, _, _, _, rfl⟩, HB.out⟩
  · have HB : Hid (Below w.heap.size w w1) := (B0.out _).trans (hb.mono (B0.out _).size)
    have HX0 := Lib.hid hx0
    have HNO := Lib.hid hno
    have hin : i ≤ n := by omega
    have HF : Hid (RowB w1 a i c (xs.take i)) := (HH.out.below HB.out).front i hin
    have HY : Hid (RowB w1 (subA a c (i + 1)) (n - (i + 1)) (c - (i + 1)) (xs.drop (i + 1))) := (HH.out.below HB.out).part (i + 1) (by omega)
    have HYL : Hid ((xs.drop (i + 1)).length = n - (i + 1)) := HY.out.len
    obtain ⟨yl, hyl⟩ : ∃ yl, n - (i + 1) = yl := ⟨_, rfl⟩
    obtain ⟨yc, hyc⟩ : ∃ yc, c - (i + 1) = yc := ⟨_, rfl⟩
    obtain ⟨ya, hya⟩ : ∃ ya, subA a c (i + 1) = ya := ⟨_, rfl⟩
    rw [hyl, hyc, hya] at HY
    rw [hyl] at HYL
    rw [hyl, hyc, hya]
    have hyn : yl ≤ n := by omega
    clear hb hx0 hno B0 hyc hya hyl
    have B1 : Hid (∀ o, Below w1.heap.size w1 (w1.alloc o)) := fun o => (Below.refl _ _).alloc (Nat.le_refl _) o
    go_wp2_with fail
    refine (cut_any a i c (xs.take i) _ _ 32 _ (HF.out.below (B1.out _)) (by omega) (Bytes.lit w1 w1.heap.size rfl [32] 5 (1, 2) 1 rfl (by omega) (by intro y hy; simp at hy; omega)) ((HEE.out.below HB.out).below (B1.out _))).mono ?_
    rintro e w2 ⟨⟨h0, rfl⟩ | ⟨j, hj, hx1, hnj, rfl⟩, hb⟩
    · have HQ : Hid (∀ k ys, ¬ IsObj xs k ys) := fun k ys => obj_blank HX0.out HNO.out h0 k ys
      have HB2 : Hid (Below w.heap.size w w2) := HB.out.trans (((B1.out _).trans (hb.mono (B1.out _).size)).mono HB.out.size)
      clear h0 hb B1
      go_wp2_with fail
      go_ret3
      exact ⟨.inr ⟨HQ.out, _, _, _, _, rfl⟩, HB2.out⟩
    · have HB12 : Hid (Below w1.heap.size w1 w2) := (B1.out _).trans (hb.mono (B1.out _).size)
      have HB2 : Hid (Below w.heap.size w w2) := HB.out.trans (HB12.out.mono HB.out.size)
      have HI : Hid (∀ k ys, IsObj xs k ys ↔ (k ≠ 0 ∧ kindUpto (strOfNums ((xs.take i).take j)) 4 = k ∧ ys = xs.drop (i + 1) ∧ decF (Lib.bytesOf ((xs.take i).drop (j + 1))) = ((xs.drop (i + 1)).length, 0))) :=
        fun k ys => obj_iff HM.out HX0.out HNO.out hx1 hnj (by rw [HL.out]; omega) k ys
      have HF2 := HF.out.below HB12.out
      have t1 := text_run w2 a j c _ (HF2.front j (by omega)).bytes
      have HP := Lib.hid (HF2.part (j + 1) (by omega))
      have hdl : i - (j + 1) ≤ 1000000000 := by omega
      obtain ⟨dl, hdl⟩ : ∃ dl, i - (j + 1) = dl := ⟨_, rfl⟩
      obtain ⟨dc, hdc⟩ : ∃ dc, c - (j + 1) = dc := ⟨_, rfl⟩
      obtain ⟨da, hda⟩ : ∃ da, subA a c (j + 1) = da := ⟨_, rfl⟩
      rw [hdl, hdc, hda] at HP
      rw [hdl, hdc, hda]
      have hdm : dl ≤ 1000000000 := by omega
      rw [HYL.out] at HI
      have HDL : Hid (((xs.take i).drop (j + 1)).length = dl) := HP.out.len
      clear hb hx1 hnj B1 HF HF2 HX0 HNO hdl hdc hda
      generalize (xs.take i).drop (j + 1) = D at *
      generalize (xs.take i).take j = W at *
      generalize xs.drop (i + 1) = Y at *
      generalize strOfNums W = sw at *
      go_wp2_with fail
      refine (kind_any sw w2).mono ?_
      rintro e w3 ⟨rfl, hb⟩
      have HB3 : Hid (Below w.heap.size w w3) := HB2.out.trans (hb.mono HB2.out.size)
      have HB14 : Hid (Below w1.heap.size w1 w3) := HB12.out.trans (hb.mono HB12.out.size)
      have t2 := text_run w3 da dl dc D (HP.out.below hb).bytes
      have HSD : Hid ((strOfNums D).data.toList = Lib.bytesOf D) := str_data D
      have hss : (strOfNums D).size ≤ 281474976710656 := by rw [strOfNums_size, HDL.out]; omega
      clear hb t1 HP
      generalize strOfNums D = sd at *
      go_wp2_with fail
      refine (fromDec_any sd hss w3 (HEE.out.below HB3.out).tab (HEE.out.below HB3.out).errs).mono ?_
      rintro e w4 ⟨rfl, hb⟩
      rw [HSD.out]
      have HB4 : Hid (Below w.heap.size w w4) := HB3.out.trans (hb.mono HB3.out.size)
      have HY4 : Hid (RowB w4 ya yl yc Y) := HY.out.below (HB14.out.trans (hb.mono HB14.out.size))
      obtain ⟨d1, d2, hd⟩ : ∃ d1 d2, decF (Lib.bytesOf D) = (d1, d2) := ⟨_, _, rfl⟩
      rw [hd] at HI ⊢
      clear hb t2 HSD HB14 hss hd
      generalize hK : kindUpto sw 4 = K at *
      have HYL2 := Lib.hid HYL.out
      by_cases h1 : K = 0
      · have HQ : Hid (∀ k ys, ¬ IsObj xs k ys) := fun k ys h => by
          have := (HI.out k ys).1 h
          omega
        subst h1
        clear HI
        go_wp2_with fail
        go_ret3
        exact ⟨.inr ⟨HQ.out, _, _, _, _, rfl⟩, HB4.out⟩
      · have k1 : ¬ (K : Int) = 0 := by omega
        have k2 : ((K : Int) == 0) = false := beq_eq_false_iff_ne.2 k1
        have k3 : ((K : Int) != 0) = true := by simp; omega
        by_cases h2 : d2 = 0
        · subst h2
          by_cases h3 : d1 = yl
          · subst h3
            have HQ : Hid (IsObj xs K Y) := (HI.out K Y).2 ⟨h1, rfl, rfl, rfl⟩
            clear HI
            go_wp2_with fail
            go_ret3
            exact ⟨.inl ⟨K, Y, _, _, _, HQ.out, rfl, HY4.out, by rw [HL.out]; exact hyn⟩, HB4.out⟩
          · have HQ : Hid (∀ k ys, ¬ IsObj xs k ys) := fun k ys h => by
              have := ((HI.out k ys).1 h).2.2.2
              simp only [Prod.mk.injEq] at this
              exact h3 this.1
            have e1 : ¬ (d1 : Int) = (yl : Int) := by omega
            have e2 : ((d1 : Int) == (yl : Int)) = false := beq_eq_false_iff_ne.2 e1
            clear HI
            go_wp2_with fail
            go_ret3
            exact ⟨.inr ⟨HQ.out, _, _, _, _, rfl⟩, HB4.out⟩
        · have HQ : Hid (∀ k ys, ¬ IsObj xs k ys) := fun k ys h => by
            have := ((HI.out k ys).1 h).2.2.2
            simp only [Prod.mk.injEq] at this
            exact h2 this.2
          have e1 : ¬ (d2 : Int) = 0 := by omega
          have e2 : ((d2 : Int) == 0) = false := beq_eq_false_iff_ne.2 e1
          clear HI
          go_wp2_with fail
          go_ret3
          exact ⟨.inr ⟨HQ.out, _, _, _, _, rfl⟩, HB4.out⟩
end Go.Proofs.YtglgchjkonjpiaaGreatDoor
