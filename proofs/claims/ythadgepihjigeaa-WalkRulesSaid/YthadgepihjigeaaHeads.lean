/- Heads: the walk. -/
import Derived.Test.YthadgepihjigeaaThose
namespace Go.Proofs.Ythadgepihjigeaa
open Go.RowKit Plain
set_option linter.unusedVariables false
/-- Is a node a parent of one? -/
def usedN (G : List (List Int)) (x : Nat) : Bool := G.any fun l => hasN l (x : Int)
theorem MarkF.congr {f g : Nat → Bool} {n : Nat} {ms : List Bool} (h : MarkF f n ms) (e : ∀ x, x < n → f x = g x) : MarkF g n ms := fun y hy => by rw [h y hy, e y hy]
theorem MarkF.set {f : Nat → Bool} {n x : Nat} {ms : List Bool} (h : MarkF f n ms) (hx : x < n) (hl : ms.length = n) : MarkF (fun y => f y || (x : Int) == (y : Int)) n (ms.set x true) := fun y hy => by
  by_cases e : y = x
  · subst e
    rw [List.getElem?_set_self (by omega)]
    simp
  · rw [List.getElem?_set_ne (Ne.symm e), h y hy]
    have : ((x : Int) == (y : Int)) = false := beq_eq_false_iff_ne.2 (by omega)
    show _ = some (f y || ((x : Int) == (y : Int)))
    rw [this, Bool.or_false]
theorem MarkF.none (n : Nat) : MarkF (fun _ => false) n (List.replicate n false) := fun y hy => by rw [List.getElem?_replicate, if_pos hy]
/-- The marks with the first k rows and j of the next. -/
def usedTo (G : List (List Int)) (k j : Nat) (x : Nat) : Bool := (G.take k).any (fun l => hasN l (x : Int)) || hasN ((row G k).take j) (x : Int)
theorem used_start (G : List (List Int)) (x : Nat) : usedTo G 0 0 x = false := by
  unfold usedTo hasN
  simp
theorem used_one {G : List (List Int)} {k j : Nat} {q : Int} (h : (row G k)[j]? = some q) (x : Nat) : usedTo G k (j + 1) x = (usedTo G k j x || q == (x : Int)) := by
  unfold usedTo
  rw [hasN_succ h, Bool.or_assoc]
theorem used_row {G : List (List Int)} {k : Nat} (hk : k < G.length) (x : Nat) : usedTo G (k + 1) 0 x = usedTo G k (row G k).length x := by
  have hr : G[k]? = some (row G k) := by
    unfold row
    rw [List.getElem?_eq_getElem hk]
    rfl
  unfold usedTo
  rw [any_take_succ _ _ _ _ hr, List.take_zero, List.take_length]
  show (_ || hasN [] _) = _
  have : hasN [] (x : Int) = false := rfl
  rw [this, Bool.or_false]
theorem used_end {G : List (List Int)} {n : Nat} (h : G.length = n) (x : Nat) : usedTo G n 0 x = usedN G x := by
  unfold usedTo usedN
  rw [List.take_of_length_le (by omega), List.take_zero]
  have : hasN [] (x : Int) = false := rfl
  rw [this, Bool.or_false]
/-- What Heads tells. -/
def HeadsQ (w : World) (G : List (List Int)) (f : Nat → Bool) (e : Ending) (w' : World) : Prop :=
  (orderN G = none ∧ e = .returned (.tuple #[.slice none 0 0, .int .i64 4])) ∨
  (orderN G ≠ none ∧ ∃ a l c, e = .returned (.tuple #[.slice a l c, .int .i64 0]) ∧ l = (whereN f G.length).length ∧ IntsAt w' a (whereN f G.length))
set_option maxRecDepth 100000 in
set_option maxHeartbeats 8000000 in
theorem heads_any (a : Option Addr) (n c : Nat) (ps : List Rw) (w : World) (h : Graph w a n ps) (hn : n ≤ 1000) (hl : ∀ p ∈ ps, p.xs.length ≤ 1000) :
    Calls Try.prog 14 #[.slice a n c] w fun e w' => HeadsQ w (gr ps) (fun x => usedN (gr ps) x == false) e w' ∧ Below w.heap.size w w' := by
  have HG := Lib.hid h
  have HL := Lib.hid hl
  have HOR := Lib.hid (order_any a n c ps w h hn hl)
  have HN : Hid ((gr ps).length = n) := (gr_len ps).trans h.len
  obtain ⟨ib, hib, hb0, hb1, hb8⟩ := info_parts boolinfo
  clear h hl
  go_enter Try.func14, Try.ntmps14
  go_wp2_with fail
  refine HOR.out.mono ?_
  rintro e w1 ⟨hq, hb⟩
  have HB1 := Lib.hid hb
  clear hb HOR
  cases ho : orderN (gr ps) with
  | none =>
    obtain rfl := ord_no hq ho
    have HO := Lib.hid ho
    clear hq ho hib hb0 hb1 hb8
    go_wp2_with fail
    go_ret2
    exact ⟨.inl ⟨HO.out, rfl⟩, HB1.out⟩
  | some o =>
    obtain ⟨xa, xc, rfl, -⟩ := ord_yes hq ho
    have HRT : Hid (∀ x, x < n → ∀ p ∈ row (gr ps) x, ∃ y : Nat, y < n ∧ p = (y : Int)) := by
      have h1 := order_right (order_some ho).1 (order_some ho).2
      rwa [HN.out] at h1
    have HO : Hid (orderN (gr ps) ≠ none) := by rw [ho]; exact fun e => by cases e
    clear hq ho
    go_wp2_with (at_make; go_loud (refine wpList_make_full _ rfl _ _ 45 rfl w1.heap.size 4 ib (.bool false) 1 Try.underlying45 hib hb0 hb1 .i64 .i64 _ _ n rfl rfl rfl rfl (by rw [hb8]; omega) (by unfold maxLen; omega) (Nat.le_refl _) ?_); intro w2 hown1 hg1; refine Hid.out ?_)
    refine unhid ?_
    rw [made_bools] at hown1
    have HR0 : Hid (BoolRow w2 w1.heap.size w1.heap.size n (List.replicate n false)) := ⟨by simp, hown1⟩
    have HB0 : Hid (Below w1.heap.size w1 w2) := (Below.refl _ _).grown hg1 (Nat.le_refl _) (fun k e => by cases e)
    clear hown1 hg1 hib hb0 hb1 hb8
    have HB2 := Lib.hid (HB1.out.trans (HB0.out.mono HB1.out.size))
    have hM := HB1.out.size
    go_wp2_with fail
    go_loopw [24] (fun v wr => ∃ (k : Nat) (ms : List Bool), k ≤ n ∧ v = .int .i64 (k : Int) ∧ BoolRow wr w1.heap.size w1.heap.size n ms ∧ MarkF (usedTo (gr ps) k 0) n ms ∧ Below w.heap.size w wr) (fun v _ => n - (intOf v).toNat)
    case atStart => exact ⟨0, _, by omega, rfl, HR0.out, (MarkF.none n).congr fun x hx => (used_start _ x).symm, HB2.out⟩
    case round =>
      clear HR0 HB2 HB0
      obtain ⟨k, ms, hk, rfl, hr, hmk, hb⟩ := hrel
      have HR := Lib.hid hr
      have HK := Lib.hid hmk
      have HB := Lib.hid hb
      clear hr hmk hb
      have wk := next_int k (by omega)
      by_cases hkn : k = n
      · subst hkn
        have HK2 := Lib.hid (HK.out.congr fun x hx => used_end HN.out x)
        go_wp2_with fail
        refine (those_any _ _ _ ms _ false wr HR.out HK2.out hn).mono ?_
        rintro e w3 ⟨⟨ya, yl, yc, rfl, hy, hyl⟩, hb⟩
        have HB3 := Lib.hid (HB.out.trans (hb.mono HB.out.size))
        have HY := Lib.hid (ints_own hy)
        have HYL := Lib.hid hyl
        clear hb hy hyl
        go_wp2_with fail
        go_ret2
        exact ⟨.inr ⟨HO.out, ya, yl, yc, rfl, by rw [HN.out]; exact HYL.out, by rw [HN.out]; exact HY.out⟩, HB3.out⟩
      · have hkl : k < n := by omega
        have hki : (k : Int) < (n : Int) := by omega
        obtain ⟨b, off, pa, pc, px, rfl, hp1, hcell0, hpi, hrow⟩ := graph_at HG.out hkl
        have hcell := (HB.out.cell (p := ⟨b, off + k, none⟩) (cell_lt hcell0)).trans hcell0
        have HPI := Lib.hid hpi
        have HRW := Lib.hid hrow
        have hpl : px.length ≤ 1000 := HL.out _ (List.mem_of_getElem? hp1)
        obtain ⟨q, hq⟩ : ∃ q, px.length = q := ⟨_, rfl⟩
        rw [hq] at hcell hpl
        have HQ := Lib.hid hq
        clear hcell0 hpi hrow hp1 hq
        go_wp2_with fail
        go_loopw [30] (fun v ws => ∃ (j : Nat) (ms : List Bool), j ≤ q ∧ v = .int .i64 (j : Int) ∧ BoolRow ws w1.heap.size w1.heap.size n ms ∧ MarkF (usedTo (gr ps) k j) n ms ∧ Below w.heap.size w ws) (fun v _ => q - (intOf v).toNat)
        case atStart => exact ⟨0, ms, by omega, rfl, HR.out, HK.out, HB.out⟩
        case round =>
          clear HR HK HB hcell
          obtain ⟨j, ms, hj, rfl, hr, hmk, hb⟩ := hrel
          have HR := Lib.hid hr
          have HK := Lib.hid hmk
          have HB := Lib.hid hb
          clear hr hmk hb
          by_cases hjq : j = q
          · subst hjq
            have HK1 : Hid (MarkF (usedTo (gr ps) (k + 1) 0) n ms) := HK.out.congr fun x hx => by
              rw [used_row (by rw [HN.out]; exact hkl), HRW.out, HQ.out]
            go_wp2_with fail
            exact ⟨⟨k + 1, ms, by omega, by first | rfl | exact congrArg (Value.int .i64) (wk _ rfl), HR.out, HK1.out, HB.out⟩, by simp [intOf] <;> omega⟩
          · have hjl : j < q := by omega
            have hji : (j : Int) < (q : Int) := by omega
            obtain ⟨b2, off2, rfl, hc0⟩ := ints_at HPI.out (j := j) (by rw [HQ.out]; exact hjl)
            have hc2 := (HB.out.cell (p := ⟨b2, off2 + j, none⟩) (cell_lt hc0)).trans hc0
            have HA := Lib.hid (at_some (xs := px) (j := j) (by rw [HQ.out]; exact hjl))
            have wj := next_int j (by omega)
            generalize at0 px j = r at *
            obtain ⟨y, hyn, rfl⟩ := HRT.out k hkl r (by rw [HRW.out]; exact List.mem_of_getElem? HA.out)
            obtain ⟨hcy, hfy⟩ := HR.out.at_ (HK.out y hyn) hyn
            have hyi : (y : Int) < (n : Int) := by omega
            have HK1 : Hid (MarkF (usedTo (gr ps) k (j + 1)) n (ms.set y true)) := (HK.out.set hyn HR.out.1).congr fun x hx => (used_one (by rw [HRW.out]; exact HA.out) x).symm
            have HR1 := Lib.hid (HR.out.set y true)
            have HB3 := Lib.hid (HB.out.setCell (p := ⟨w1.heap.size, y, none⟩) hM (.bool true))
            clear hc0
            go_wp2_with fail
            exact ⟨⟨j + 1, _, by omega, by first | rfl | exact congrArg (Value.int .i64) (wj _ rfl), HR1.out, HK1.out, HB3.out⟩, by simp [intOf] <;> omega⟩
end Go.Proofs.Ythadgepihjigeaa
