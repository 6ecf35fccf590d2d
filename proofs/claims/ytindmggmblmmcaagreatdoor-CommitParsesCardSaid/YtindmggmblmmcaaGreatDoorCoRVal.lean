/- The document's value, extra, Right: the walks. -/
import Derived.Test.YtindmggmblmmcaaGreatDoorCoSame
import Derived.Test.YtindmggmblmmcaaGreatDoorCoRPer
namespace Go.Proofs.YtindmggmblmmcaaGreatDoor
open Go.RowKit Plain Go.ChangeShapes Go.WideShapes Go.ChangeAt Go.Great
set_option linter.unusedVariables false
set_option linter.unusedSimpArgs false
theorem nums_cat (a b : List UInt8) : numsOf (txt (a ++ b)) = numsOf (txt a) ++ numsOf (txt b) := by
  unfold numsOf
  rw [txt_list, txt_list, txt_list, List.map_append]
theorem nums_good (l : List UInt8) : ∀ j : Nat, 0 ≤ (numsOf (txt l))[j]?.getD 0 ∧ (numsOf (txt l))[j]?.getD 0 ≤ 255 := fun j => by
  unfold numsOf
  rw [List.getElem?_map]
  cases h : (txt l).data.toList[j]? with
  | none => simp
  | some b => have := b.toNat_lt; simp; omega
theorem nlB_app : ∀ a b : List UInt8, nlB (a ++ b) = nlB a ++ nlB b
  | [], b => rfl
  | c :: a, b => by
    have ih := nlB_app a b
    by_cases h : c = 10
    · simp [nlB, h, ih]
    · simp [nlB, h, ih]
theorem nlB_snoc {l : List UInt8} {m : Nat} {q : UInt8} (h : l[m]? = some q) : nlB (l.take (m + 1)) = nlB (l.take m) ++ nlB [q] := by
  rw [take_snoc h, nlB_app]
theorem nlB_size : ∀ l : List UInt8, (nlB l).length ≤ 2 * l.length
  | [] => Nat.le_refl _
  | c :: r => by
    have := nlB_size r
    unfold nlB
    split
    · simp only [List.length_cons]; omega
    · simp only [List.length_cons]; omega
theorem str_neq (a b : ByteArray) (w : World) : (binOp .neq 9 (.string a) (.string b)).run Tryz.prog w = .ok (.bool (!(a.data.toList == b.data.toList))) w := by
  have h := str_eql a b w
  rw [binOp_string_neq]
  rw [binOp_string_eql] at h
  have e : (a.toList == b.toList) = (a.data.toList == b.data.toList) := by
    have : Result.ok (Value.bool (a.toList == b.toList)) w = .ok (.bool (a.data.toList == b.data.toList)) w := by simpa using h
    simpa using this
  rw [e]
  rfl
set_option maxRecDepth 100000 in
set_option maxHeartbeats 16000000 in
theorem rvalue_any (l : List UInt8) (w : World) (hl : l.length ≤ 1000000) :
    Calls Tryz.prog 40 #[.string (txt l)] w fun e w' => e = .returned (.string (txt (nlB l))) ∧ Below w.heap.size w w' := by
  obtain ⟨n, hn⟩ : ∃ n, (txt l).size = n := ⟨_, rfl⟩
  have HN := Lib.hid hn
  have HNL : Hid (l.length = n) := by rw [← hn, txt_size]; rfl
  have HNB : Hid (n ≤ 1000000) := by rw [← HNL.out]; exact hl
  have hlen : (txt l).size = n := hn
  clear hl hn
  go_enter Tryz.func40, Tryz.ntmps40
  go_wp2_with fail
  go_loopw [3, 4] (fun b i wr => ∃ (m : Nat) (a : Option Addr) (cp vn : Nat), m ≤ n ∧ (nlB (l.take m)).length = vn ∧ i = .int .i64 (m : Int) ∧ b = .slice a vn cp ∧ Mid wr w.heap.size (.slice a vn cp) vn (numsOf (txt (nlB (l.take m)))) ∧ Below w.heap.size w wr) (fun _ i _ => n - (intOf i).toNat)
  case atStart => exact ⟨0, none, 0, 0, Nat.zero_le _, rfl, rfl, rfl, Mid.nil _ _, Below.refl _ _⟩
  case round =>
    obtain ⟨m, a, cp, vn, hm, hvn, rfl, rfl, hmid, hb⟩ := hrel
    have HM := Lib.hid hmid
    have HBW := Lib.hid hb
    have HVN := Lib.hid hvn
    have WM := Lib.hid (next_int m (by have := HNB.out; omega))
    clear hmid hb hvn
    by_cases hms : m < n
    · have hmi : (m : Int) < (n : Int) := by omega
      have HMS := Lib.hid hms
      obtain ⟨q, hq⟩ : ∃ b, l[m]? = some b := ⟨_, List.getElem?_eq_getElem (by rw [HNL.out]; exact hms)⟩
      have hix := fun W => index_text (txt l) m (by rw [HN.out]; exact hms) (m : Int) rfl W
      rw [at8_txt, hq, Option.getD_some] at hix
      have HTV := Lib.hid (nlB_snoc hq)
      have HVB : Hid (vn ≤ 2000000) := by
        show _ ≤ _
        have h1 := nlB_size (l.take m)
        rw [List.length_take, HNL.out, HVN.out] at h1
        have := HNB.out
        omega
      obtain ⟨v1, hv1⟩ : ∃ n, vn + 1 = n := ⟨_, rfl⟩
      have HV1 := Lib.hid hv1
      have HBD1 : Hid (v1 ≤ 70368744177664) := by show _ ≤ _; have := HVB.out; omega
      have HAL : Hid (Below w.heap.size wr (wr.alloc (.cells #[] 5))) := (Below.refl _ _).alloc HBW.out.size _
      by_cases hq10 : q = 10
      · subst hq10
        have hix' : ∀ W, (Instr.index 9 (.string (txt l)) (.int .i64 (m : Int))).run Tryz.prog W = .ok (.int .u8 10) W := hix
        obtain ⟨v2, hv2⟩ : ∃ n, v1 + 1 = n := ⟨_, rfl⟩
        have HV2 := Lib.hid hv2
        have HBD2 : Hid (v2 ≤ 70368744177664) := by show _ ≤ _; have := HVB.out; omega
        have HZ1 : Hid (numsOf (txt (nlB (l.take m))) ++ [10] = numsOf (txt (nlB (l.take m) ++ [10]))) := by show _ = _; rw [nums_cat]; rfl
        have HZ2 : Hid (numsOf (txt (nlB (l.take m) ++ [10])) ++ [32] = numsOf (txt (nlB (l.take (m + 1))))) := by show _ = _; rw [HTV.out, show nlB [10] = [10] ++ [32] from rfl, ← List.append_assoc, nums_cat (nlB (l.take m) ++ [10])]; rfl
        have HVE : Hid ((nlB (l.take (m + 1))).length = v2) := by show _ = _; rw [HTV.out, List.length_append, HVN.out]; show vn + 2 = v2; omega
        clear hix hq hv1 hv2 hms hm
        go_wp2_with (first
          | (refine wpList_append_to rfl _ _ 37 rfl w.heap.size _ vn (numsOf (txt (nlB (l.take m)))) rfl (HM.out.below ((Below.refl _ _).alloc (Nat.le_refl _) _)) _ 1 [10] rfl (src_bytes (Bytes.lit wr wr.heap.size rfl [10] 5 (0, 0) 1 rfl (by omega) (by first | (simp; done) | decide))) v1 _ HV1.out HZ1.out HBD1.out (Nat.le_trans HBW.out.size (by simp)) ?_; rintro a1 c1 w1 hm hb; have HM1 := Lib.hid hm; have HB1 := Lib.hid (HBW.out.trans ((Below.alloc (Below.refl w.heap.size _) HBW.out.size _).trans hb)); have HAL2 := Lib.hid HB1.out.size; clear hm hb)
          | (refine wpList_append_to rfl _ _ 37 rfl w.heap.size _ v1 (numsOf (txt (nlB (l.take m) ++ [10]))) rfl (HM1.out.below ((Below.refl _ _).alloc (Nat.le_refl _) _)) _ 1 [32] rfl (src_bytes (Bytes.lit w1 w1.heap.size rfl [32] 5 (0, 0) 1 rfl (by omega) (by first | (simp; done) | decide))) v2 _ HV2.out HZ2.out HBD2.out (Nat.le_trans HB1.out.size (by simp)) ?_; rintro a2 c2 w2 hm hb; have HM2 := Lib.hid hm; have HB2 := Lib.hid (HB1.out.trans ((Below.alloc (Below.refl w.heap.size _) HB1.out.size _).trans hb)); have HAL2 := Lib.hid HB2.out.size; clear hm hb))
        exact ⟨⟨m + 1, a2, c2, v2, HMS.out, HVE.out, by first | rw [WM.out _ rfl] | rfl, by first | rfl | trivial, HM2.out, HB2.out⟩, by have := HMS.out; (first | rw [WM.out _ rfl] | skip); simp [intOf]; omega⟩
      · have hi10 : ¬ ((q.toNat : Nat) : Int) = 10 := fun h => hq10 (UInt8.toNat_inj.1 (by show q.toNat = 10; omega))
        have hb10 : (((q.toNat : Nat) : Int) == 10) = false := beq_eq_false_iff_ne.2 hi10
        have HZ1 : Hid (numsOf (txt (nlB (l.take m))) ++ [(q.toNat : Int)] = numsOf (txt (nlB (l.take (m + 1))))) := by
          show _ = _
          rw [HTV.out, nums_cat, show nlB [q] = [q] by unfold nlB; rw [if_neg hq10]; rfl]
          rfl
        have HVE : Hid ((nlB (l.take (m + 1))).length = v1) := by show _ = _; rw [HTV.out, List.length_append, HVN.out, show nlB [q] = [q] by unfold nlB; rw [if_neg hq10]; rfl]; exact hv1
        have HLB : Hid (0 ≤ (q.toNat : Int) ∧ (q.toNat : Int) ≤ 255) := by have := q.toNat_lt; show _ ∧ _; omega
        clear hq10 hq hv1 hms hm
        generalize ((q.toNat : Nat) : Int) = qi at *
        go_wp2_with (first
          | (refine wpList_append_to rfl _ _ 37 rfl w.heap.size _ vn (numsOf (txt (nlB (l.take m)))) rfl (HM.out.below ((Below.refl _ _).alloc (Nat.le_refl _) _)) _ 1 [qi] rfl (src_bytes (Bytes.lit wr wr.heap.size rfl [qi] 5 (0, 0) 1 rfl (by omega) (by simpa using HLB.out))) v1 _ HV1.out HZ1.out HBD1.out (Nat.le_trans HBW.out.size (by simp)) ?_; rintro a1 c1 w1 hm hb; have HM1 := Lib.hid hm; have HB1 := Lib.hid (HBW.out.trans ((Below.alloc (Below.refl w.heap.size _) HBW.out.size _).trans hb)); have HAL2 := Lib.hid HB1.out.size; clear hm hb))
        exact ⟨⟨m + 1, a1, c1, v1, HMS.out, HVE.out, by first | rw [WM.out _ rfl] | rfl, by first | rfl | trivial, HM1.out, HB1.out⟩, by have := HMS.out; (first | rw [WM.out _ rfl] | skip); simp [intOf]; omega⟩
    · have hmi : ¬ (m : Int) < (n : Int) := by omega
      have hmn : m = n := by omega
      have HE : Hid (l.take m = l) := by show _ = _; rw [List.take_of_length_le (by rw [HNL.out]; omega)]
      rw [HE.out] at HM
      have ht := text_run wr a vn cp _ (HM.out.bytes (nums_good _))
      rw [str_nums] at ht
      clear hmn hms hm
      go_wp2_with fail
      go_ret
      exact ⟨rfl, HBW.out⟩
set_option maxRecDepth 100000 in
set_option maxHeartbeats 16000000 in
theorem rextra_any (x : ByteArray × ByteArray) (w : World) (hs : x.1.size ≤ 1000000) :
    Calls Tryz.prog 38 #[.agg (extE x).toArray] w fun e w' => e = .returned (.bool (extR x)) ∧ Below w.heap.size w w' := by
  have HB0 : Hid (Below w.heap.size w (w.alloc (.cells (extE x).toArray 75))) := (Below.refl _ _).alloc (Nat.le_refl _) _
  have hck : (w.alloc (.cells (extE x).toArray 75)).cell? ⟨w.heap.size, 0, none⟩ = some (.string x.1) := by rw [cell_of_row _ _ _ _ _ _ (heap_alloc_new _ _)]; rfl
  obtain ⟨e0, he0⟩ : ∃ b, (x.1.data.toList == []) = b := ⟨_, rfl⟩
  have HQ0 : Hid (∀ W, (binOp .neq 9 (.string x.1) (.string ⟨#[]⟩)).run Tryz.prog W = .ok (.bool (!e0)) W) := fun W => by rw [str_neq]; exact congrArg (fun b => Result.ok (Value.bool (!b)) W) he0
  obtain ⟨e2, he2⟩ : ∃ b, (x.1.data.toList == [116, 114, 101, 101]) = b := ⟨_, rfl⟩
  have HQ2 : Hid (∀ W, (binOp .neq 9 (.string x.1) (.string ⟨#[116, 114, 101, 101]⟩)).run Tryz.prog W = .ok (.bool (!e2)) W) := fun W => by rw [str_neq]; exact congrArg (fun b => Result.ok (Value.bool (!b)) W) he2
  obtain ⟨e3, he3⟩ : ∃ b, (x.1.data.toList == [112, 97, 114, 101, 110, 116]) = b := ⟨_, rfl⟩
  have HQ3 : Hid (∀ W, (binOp .neq 9 (.string x.1) (.string ⟨#[112, 97, 114, 101, 110, 116]⟩)).run Tryz.prog W = .ok (.bool (!e3)) W) := fun W => by rw [str_neq]; exact congrArg (fun b => Result.ok (Value.bool (!b)) W) he3
  obtain ⟨e4, he4⟩ : ∃ b, (x.1.data.toList == [97, 117, 116, 104, 111, 114]) = b := ⟨_, rfl⟩
  have HQ4 : Hid (∀ W, (binOp .neq 9 (.string x.1) (.string ⟨#[97, 117, 116, 104, 111, 114]⟩)).run Tryz.prog W = .ok (.bool (!e4)) W) := fun W => by rw [str_neq]; exact congrArg (fun b => Result.ok (Value.bool (!b)) W) he4
  obtain ⟨e5, he5⟩ : ∃ b, (x.1.data.toList == [99, 111, 109, 109, 105, 116, 116, 101, 114]) = b := ⟨_, rfl⟩
  have HQ5 : Hid (∀ W, (binOp .neq 9 (.string x.1) (.string ⟨#[99, 111, 109, 109, 105, 116, 116, 101, 114]⟩)).run Tryz.prog W = .ok (.bool (!e5)) W) := fun W => by rw [str_neq]; exact congrArg (fun b => Result.ok (Value.bool (!b)) W) he5
  obtain ⟨hh, hhe⟩ : ∃ b, hasB [32, 10] x.1.data.toList = b := ⟨_, rfl⟩
  have HCA : Hid (∀ W, Calls Tryz.prog 55 #[.string x.1, .string ⟨#[32, 10]⟩] W fun e w' => e = .returned (.bool hh) ∧ Below W.heap.size W w') := fun W => by
    have h := has_any x.1.data.toList [32, 10] W (by rw [← Lib.size_eq]; exact hs) (by decide)
    rw [txt_of, hhe] at h
    exact h
  have HR : Hid (extR x = (!(e0 || e2 || e3 || e4 || e5) && !hh)) := by show _ = _; unfold extR noAny; rw [he0, he2, he3, he4, he5, ← hhe]; rfl
  clear he0 he2 he3 he4 he5 hhe hs
  go_enter Tryz.func38, Tryz.ntmps38
  cases e0
  rotate_left
  · have HF : Hid (extR x = false) := by show _ = _; rw [HR.out]; rfl
    go_wp2_with (first
      | refine wpList_eql (by rfl) .neq 9 _ _ _ rfl (.string x.1) (.string ⟨#[]⟩) rfl rfl (.bool false) (guard_ne _ _ _ _) HQ0.out ?_)
    go_ret
    exact ⟨by rw [HF.out] <;> rfl, HB0.out⟩
  go_wp2_with (first
    | refine wpList_eql (by rfl) .neq 9 _ _ _ rfl (.string x.1) (.string ⟨#[]⟩) rfl rfl (.bool true) (guard_ne _ _ _ _) HQ0.out ?_)
  refine (HCA.out _).mono ?_
  rintro e w2 ⟨rfl, hb⟩
  have hc2 := (hb.cell (p := ⟨w.heap.size, 0, none⟩) (by simp)).trans hck
  have HB2 := Lib.hid (HB0.out.trans (hb.mono HB0.out.size))
  clear hb hck HCA
  cases hh
  rotate_left
  · have HF : Hid (extR x = false) := by show _ = _; rw [HR.out]; simp
    go_wp2_with fail
    go_ret
    exact ⟨by rw [HF.out] <;> rfl, HB2.out⟩
  cases e2
  rotate_left
  · have HF : Hid (extR x = false) := by show _ = _; rw [HR.out]; simp
    go_wp2_with (first
      | refine wpList_eql (by rfl) .neq 9 _ _ _ rfl (.string x.1) (.string ⟨#[116, 114, 101, 101]⟩) rfl rfl (.bool false) (guard_ne _ _ _ _) HQ2.out ?_)
    go_ret
    exact ⟨by rw [HF.out] <;> rfl, HB2.out⟩
  cases e3
  rotate_left
  · have HF : Hid (extR x = false) := by show _ = _; rw [HR.out]; simp
    go_wp2_with (first
      | refine wpList_eql (by rfl) .neq 9 _ _ _ rfl (.string x.1) (.string ⟨#[116, 114, 101, 101]⟩) rfl rfl (.bool true) (guard_ne _ _ _ _) HQ2.out ?_
      | refine wpList_eql (by rfl) .neq 9 _ _ _ rfl (.string x.1) (.string ⟨#[112, 97, 114, 101, 110, 116]⟩) rfl rfl (.bool false) (guard_ne _ _ _ _) HQ3.out ?_)
    go_ret
    exact ⟨by rw [HF.out] <;> rfl, HB2.out⟩
  cases e4
  rotate_left
  · have HF : Hid (extR x = false) := by show _ = _; rw [HR.out]; simp
    go_wp2_with (first
      | refine wpList_eql (by rfl) .neq 9 _ _ _ rfl (.string x.1) (.string ⟨#[116, 114, 101, 101]⟩) rfl rfl (.bool true) (guard_ne _ _ _ _) HQ2.out ?_
      | refine wpList_eql (by rfl) .neq 9 _ _ _ rfl (.string x.1) (.string ⟨#[112, 97, 114, 101, 110, 116]⟩) rfl rfl (.bool true) (guard_ne _ _ _ _) HQ3.out ?_
      | refine wpList_eql (by rfl) .neq 9 _ _ _ rfl (.string x.1) (.string ⟨#[97, 117, 116, 104, 111, 114]⟩) rfl rfl (.bool false) (guard_ne _ _ _ _) HQ4.out ?_)
    go_ret
    exact ⟨by rw [HF.out] <;> rfl, HB2.out⟩
  cases e5
  rotate_left
  · have HF : Hid (extR x = false) := by show _ = _; rw [HR.out]; simp
    go_wp2_with (first
      | refine wpList_eql (by rfl) .neq 9 _ _ _ rfl (.string x.1) (.string ⟨#[116, 114, 101, 101]⟩) rfl rfl (.bool true) (guard_ne _ _ _ _) HQ2.out ?_
      | refine wpList_eql (by rfl) .neq 9 _ _ _ rfl (.string x.1) (.string ⟨#[112, 97, 114, 101, 110, 116]⟩) rfl rfl (.bool true) (guard_ne _ _ _ _) HQ3.out ?_
      | refine wpList_eql (by rfl) .neq 9 _ _ _ rfl (.string x.1) (.string ⟨#[97, 117, 116, 104, 111, 114]⟩) rfl rfl (.bool true) (guard_ne _ _ _ _) HQ4.out ?_
      | refine wpList_eql (by rfl) .neq 9 _ _ _ rfl (.string x.1) (.string ⟨#[99, 111, 109, 109, 105, 116, 116, 101, 114]⟩) rfl rfl (.bool false) (guard_ne _ _ _ _) HQ5.out ?_)
    go_ret
    exact ⟨by rw [HF.out] <;> rfl, HB2.out⟩
  have HF : Hid (extR x = true) := by show _ = _; rw [HR.out]; rfl
  go_wp2_with (first
    | refine wpList_eql (by rfl) .neq 9 _ _ _ rfl (.string x.1) (.string ⟨#[116, 114, 101, 101]⟩) rfl rfl (.bool true) (guard_ne _ _ _ _) HQ2.out ?_
    | refine wpList_eql (by rfl) .neq 9 _ _ _ rfl (.string x.1) (.string ⟨#[112, 97, 114, 101, 110, 116]⟩) rfl rfl (.bool true) (guard_ne _ _ _ _) HQ3.out ?_
    | refine wpList_eql (by rfl) .neq 9 _ _ _ rfl (.string x.1) (.string ⟨#[97, 117, 116, 104, 111, 114]⟩) rfl rfl (.bool true) (guard_ne _ _ _ _) HQ4.out ?_
    | refine wpList_eql (by rfl) .neq 9 _ _ _ rfl (.string x.1) (.string ⟨#[99, 111, 109, 109, 105, 116, 116, 101, 114]⟩) rfl rfl (.bool true) (guard_ne _ _ _ _) HQ5.out ?_)
  go_ret
  exact ⟨by rw [HF.out] <;> rfl, HB2.out⟩
set_option maxRecDepth 100000 in
set_option maxHeartbeats 16000000 in
theorem rright_any (c : CC) (pa : Option Addr) (pc : Nat) (xa : Option Addr) (xc : Nat) (w : World) (h20 : c.tr.length = 20) (hx : RowAt 2 extE w xa c.xs) (hn : c.xs.length ≤ 1000000) (hxs : ∀ x ∈ c.xs, x.1.size ≤ 1000000) (ha : WhoSmall c.a) (hc : WhoSmall c.c) :
    Calls Tryz.prog 11 #[.agg (coV c pa pc xa xc)] w fun e w' => e = .returned (.bool (coR c)) ∧ Below w.heap.size w w' := by
  have HAX := Lib.hid hx
  have HSA := Lib.hid ha
  have HSC := Lib.hid hc
  have HXS0 := Lib.hid hxs
  obtain ⟨n, hN⟩ : ∃ n, c.xs.length = n := ⟨_, rfl⟩
  have HN := Lib.hid hN
  have HNB : Hid (n ≤ 1000000) := by rw [← hN]; exact hn
  unfold coV
  rw [hN]
  obtain ⟨pv, hpv⟩ : ∃ v, Value.slice pa c.ps.length pc = v := ⟨_, rfl⟩
  rw [hpv]
  obtain ⟨xv, hxv⟩ : ∃ v, Value.slice xa n xc = v := ⟨_, rfl⟩
  rw [hxv]
  have HB0 : Hid (Below w.heap.size w (w.alloc (.cells (coA c pv xv) 28))) := (Below.refl _ _).alloc (Nat.le_refl _) _
  have HCW0 : Hid (CoRow (w.alloc (.cells (coA c pv xv) 28)) w.heap.size c pv xv) := CoRow.of (heap_alloc_new _ _) h20
  have HSZ0 : Hid (w.heap.size < (w.alloc (.cells (coA c pv xv) 28)).heap.size) := by show _ < _; simp
  clear hN h20 hx hn hxs ha hc hpv
  go_enter Tryz.func11, Tryz.ntmps11
  subst hxv
  go_wp2_with fail
  generalize w.alloc (.cells (coA c pv (.slice xa n xc)) 28) = w0 at *
  have HCW : Hid (∀ W, Below w0.heap.size w0 W → CoRow W w.heap.size c pv (.slice xa n xc)) := fun W hW => HCW0.out.below HSZ0.out hW
  obtain ⟨p0, hp0⟩ : ∃ p, w.heap.size = p := ⟨_, rfl⟩
  simp only [hp0] at HCW ⊢
  have HPE := Lib.hid hp0
  clear HCW0 HSZ0 hp0
  go_loopw [3] (fun i wr => ∃ k : Nat, k ≤ n ∧ i = .int .i64 (k : Int) ∧ (∀ x ∈ c.xs.take k, extR x = true) ∧ Below w0.heap.size w0 wr) (fun i _ => n - (intOf i).toNat)
  case atStart => exact ⟨0, Nat.zero_le _, rfl, fun x hx => by simp at hx, Below.refl _ _⟩
  case round =>
    obtain ⟨k, hk, rfl, hok, hb⟩ := hrel
    have HOK := Lib.hid hok
    have HBW := Lib.hid hb
    have WK := Lib.hid (next_int k (by have := HNB.out; omega))
    have hxv := (HCW.out wr hb).exts
    clear hok hb
    by_cases hkn : k < n
    · have hki : (k : Int) < (n : Int) := by omega
      have HKN := Lib.hid hkn
      rcases HAX.out with h0 | ⟨b, off, rfl, hbl, hc⟩
      · rw [HN.out] at h0; omega
      obtain ⟨x, hp⟩ : ∃ x, c.xs[k]? = some x := ⟨_, List.getElem?_eq_getElem (by rw [HN.out]; exact hkn)⟩
      have HP := Lib.hid hp
      have HXM := Lib.hid (List.mem_of_getElem? hp)
      have HXS := Lib.hid (HXS0.out x HXM.out)
      have HRX := Lib.hid (range_below (hc k x hp) (HB0.out.trans (HBW.out.mono HB0.out.size)) hbl)
      clear hp hbl hc hkn hk
      go_wp2_with (first
        | refine wpList_load_mid rfl 75 _ rfl b (off + k * 2) rfl (extE x) _ HRX.out Tryz.underlying75 rfl (info_rext x) ?_)
      refine (rextra_any x wr HXS.out).mono ?_
      rintro e w4 ⟨rfl, hb⟩
      have HB4 := Lib.hid (HBW.out.trans (hb.mono HBW.out.size))
      clear hb HRX
      cases hr : extR x
      · have HF : Hid (coR c = false) := by
          show _ = _
          unfold coR
          rw [List.all_eq_false.2 ⟨x, HXM.out, by rw [hr]; decide⟩]; rfl
        clear hr
        go_wp2_with fail
        (try simp only [Exit.inBlock, Exit.then])
        go_ret
        exact ⟨by rw [HF.out] <;> rfl, HB0.out.trans (HB4.out.mono HB0.out.size)⟩
      · have HGO : Hid (∀ y ∈ c.xs.take (k + 1), extR y = true) := fun y hy => by
          rw [List.take_add_one, HP.out] at hy
          rcases List.mem_append.1 hy with hy | hy
          · exact HOK.out y hy
          · simp at hy; rw [hy]; exact hr
        clear hr
        go_wp2_with fail
        exact ⟨⟨k + 1, HKN.out, by first | rw [WK.out _ rfl] | rfl, HGO.out, HB4.out⟩, by have := HKN.out; (first | rw [WK.out _ rfl] | skip); simp [intOf]; omega⟩
    · have hki : ¬ (k : Int) < (n : Int) := by omega
      have HAL : Hid (c.xs.all extR = true) := by
        show _ = _
        rw [List.all_eq_true]
        intro x hx
        exact HOK.out x (by rw [List.take_of_length_le (by rw [HN.out]; omega)]; exact hx)
      have HCO : Hid (coR c = (whoB c.a && whoB c.c)) := by show _ = _; unfold coR; rw [HAL.out]; simp
      have HRW := Lib.hid (HCW.out wr HBW.out)
      clear hkn hk
      go_wp2_with (first
        | refine wpList_load_mid rfl 25 _ rfl p0 21 rfl (whoL c.a) _ HRW.out.author Tryz.underlying25 rfl (info_rwhoL c.a) ?_)
      refine (rperson_any c.a wr HSA.out).mono ?_
      rintro e w4 ⟨rfl, hb⟩
      have HB4 := Lib.hid (HBW.out.trans (hb.mono HBW.out.size))
      have HRW4 := Lib.hid (HCW.out w4 HB4.out)
      clear hb HRW hxv
      cases hr : whoB c.a
      · have HF : Hid (coR c = false) := by show _ = _; rw [HCO.out, hr]; rfl
        clear hr
        go_wp2_with fail
        go_ret
        exact ⟨by rw [HF.out] <;> rfl, HB0.out.trans (HB4.out.mono HB0.out.size)⟩
      · have HF : Hid (coR c = whoB c.c) := by show _ = _; rw [HCO.out, hr]; rfl
        clear hr
        go_wp2_with (first
          | refine wpList_load_mid_g rfl 25 _ rfl p0 25 rfl (whoL c.c) _ HRW4.out.committer Tryz.underlying25 rfl (info_rwhoL c.c) ?_)
        refine (rperson_any c.c w4 HSC.out).mono ?_
        rintro e w5 ⟨rfl, hb⟩
        have HB5 := Lib.hid (HB4.out.trans (hb.mono HB4.out.size))
        clear hb
        go_wp2_with fail
        go_ret
        exact ⟨by rw [HF.out] <;> rfl, HB0.out.trans (HB5.out.mono HB0.out.size)⟩
end Go.Proofs.YtindmggmblmmcaaGreatDoor
