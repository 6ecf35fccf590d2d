/- The writer of bits: any number. -/
import Derived.Test.YteaaoigeopekiaaPack
import Derived.Test.YteaaoigeopekiaaBitsMath
import Derived.Lib.Hide
namespace Go.Proofs.Yteaaoigeopekiaa
open Go.RowKit Plain
set_option linter.unusedVariables false
/-- T bits were put, which are V. -/
def Wrt (w : World) (base B V T : Nat) : Prop := V < 2 ^ T ∧ WAt w base B (bytesN V (T / 8)) ((V / 2 ^ (8 * (T / 8)) : Nat) : Int) ((T % 8 : Nat) : Int)
theorem Wrt.below {w w' : World} {base B V T : Nat} (H : Wrt w base B V T) (hb : Below w.heap.size w w') : Wrt w' base B V T := ⟨H.1, H.2.below hb⟩
theorem Wrt.size {w : World} {base B V T : Nat} (H : Wrt w base B V T) : B < base ∧ base ≤ w.heap.size := by
  obtain ⟨-, v, h1, h2, h3, h4⟩ := H
  exact ⟨h3, h4⟩
/-- A call of the writer's changes its block, and what lies from block 'base' on. -/
structure FrW (B base : Nat) (w w' : World) : Prop where
  below : Below B w w'
  keep : ∀ g, g ≠ B → g < base → w'.heap[g]? = w.heap[g]?
theorem FrW.refl (B base : Nat) (w : World) : FrW B base w w := ⟨Below.refl _ _, fun _ _ _ => rfl⟩
theorem FrW.trans {B base : Nat} {w w' w'' : World} (h : FrW B base w w') (h' : FrW B base w' w'') : FrW B base w w'' := ⟨h.below.trans h'.below, fun g a b => (h'.keep g a b).trans (h.keep g a b)⟩
theorem FrW.set {B base : Nat} {w w' : World} (h : FrW B base w w') (k : Nat) (v : Value) : FrW B base w (w'.setCell ⟨B, k, none⟩ v) := ⟨h.below.setCell (Nat.le_refl _) _, fun g a b => (Below.heap_setCell _ _ _ _ (by show g ≠ B; exact a)).trans (h.keep g a b)⟩
theorem FrW.drew {B base : Nat} {w w' : World} (h : FrW B base w w') : FrW B base w w'.drew := ⟨h.below.drew, h.keep⟩
theorem FrW.grow {B base : Nat} {w w' w'' : World} (h : FrW B base w w') (hB : B ≤ base) (hb : Below base w' w'') : FrW B base w w'' := ⟨h.below.trans (hb.mono hB), fun g a b => (hb.block g b).trans (h.keep g a b)⟩
theorem FrW.of {B base : Nat} {w w' : World} (hB : B ≤ base) (hs : base ≤ w.heap.size) (hb : Below w.heap.size w w') : FrW B base w w' := (FrW.refl B base w).grow hB (hb.mono hs)
def leftOf (B : Nat) (w : World) : Nat := match w.cell? ⟨B, 2, none⟩ with
  | some (.int _ n) => n.toNat
  | _ => 0
theorem leftOf_of {w : World} {base B : Nat} {ys : List Int} {h n : Int} (H : WAt w base B ys h n) : leftOf B w = n.toNat := by
  obtain ⟨v, hb, -⟩ := H
  unfold leftOf
  rw [(cells3 hb).2.2.1]
set_option maxRecDepth 100000 in
set_option maxHeartbeats 8000000 in
theorem wnumber_any (base B V T x n : Nat) (w : World) (H : Wrt w base B V T) (hx : x < 2 ^ n) (hn : n ≤ 32) (hT : T ≤ 1000000) :
    Calls Try.prog 29 #[.pointer (some ⟨B, 0, none⟩), .int .i64 (x : Int), .int .i64 (n : Int)] w fun e w' => e = .returned (.tuple #[]) ∧ Wrt w' base B (V + x * 2 ^ T) (T + n) ∧ FrW B base w w' := by
  obtain ⟨hV, HW0⟩ := H
  obtain ⟨r, hr⟩ : ∃ r, T % 8 = r := ⟨_, rfl⟩
  obtain ⟨q, hq⟩ : ∃ q, T / 8 = q := ⟨_, rfl⟩
  have hTqr : T = 8 * q + r := by omega
  have hr8 : r < 8 := by omega
  have hh := held_lt hV
  have hmore := held_more V T x
  have hlt := more_lt hV hx
  have hby := bytesN_more V T x (T / 8) (by omega)
  rw [hq, hr] at HW0 hh hmore
  rw [hq] at hby
  have hx32 : x < 4294967296 := Nat.lt_of_lt_of_le hx (Nat.pow_le_pow_right (n := 2) (by omega) hn)
  obtain ⟨V', hV'⟩ : ∃ V', V + x * 2 ^ T = V' := ⟨_, rfl⟩
  rw [hV'] at hmore hlt hby ⊢
  have hor := or_held2 (V / 2 ^ (8 * q)) x r hh hx32 (by omega)
  rw [← hmore] at hor
  rw [← hby] at HW0
  obtain ⟨h0, eh0⟩ : ∃ h0, V / 2 ^ (8 * q) = h0 := ⟨_, rfl⟩
  obtain ⟨h1, eh1⟩ : ∃ h1, V' / 2 ^ (8 * q) = h1 := ⟨_, rfl⟩
  rw [eh0] at HW0 hor
  rw [eh1] at hor
  have HH1 := Lib.hid eh1
  have HLT := Lib.hid hlt
  have HW : Hid (WAt w base B (bytesN V' q) (h0 : Int) (r : Int)) := HW0
  have hBs : B < base ∧ base ≤ w.heap.size := by obtain ⟨v, _, _, h3, h4⟩ := HW0; exact ⟨h3, h4⟩
  obtain ⟨v, hb, hown, -, -⟩ := HW0
  obtain ⟨c0, c1, c2, f0, f1, f2⟩ := cells3 hb
  clear hb hown hV hh hmore hlt hby hV' eh0 eh1 hx hTqr
  go_enter Try.func29, Try.ntmps29
  go_wp2_with fail
  go_region
  try rw [hor]
  go_wp2_with fail
  have HA : Hid (WAt ((w.setCell ⟨B, 1, none⟩ (.int .u64 (h1 : Int))).setCell ⟨B, 2, none⟩ (.int .i64 ((r : Int) + (n : Int)))).drew base B (bytesN V' q) (h1 : Int) ((r : Int) + (n : Int))) := (HW.out.set12 _ _).drew
  have HBA : Hid (FrW B base w ((w.setCell ⟨B, 1, none⟩ (.int .u64 (h1 : Int))).setCell ⟨B, 2, none⟩ (.int .i64 ((r : Int) + (n : Int)))).drew) := (((FrW.refl B base w).set _ _).set _ _).drew
  generalize ((w.setCell ⟨B, 1, none⟩ (.int .u64 (h1 : Int))).setCell ⟨B, 2, none⟩ (.int .i64 ((r : Int) + (n : Int)))).drew = wa at *
  clear c0 c1 c2 f0 f1 f2 hor HW
  go_loopw [] (fun wr => ∃ k, 8 * k ≤ T + n ∧ WAt wr base B (bytesN V' k) ((V' / 2 ^ (8 * k) : Nat) : Int) ((T + n - 8 * k : Nat) : Int) ∧ FrW B base w wr) (fun wr => leftOf B wr)
  case atStart =>
    refine ⟨q, by omega, ?_, HBA.out⟩
    rw [HH1.out, show ((T + n - 8 * q : Nat) : Int) = (r : Int) + (n : Int) by omega]
    exact HA.out
  case round =>
    obtain ⟨k, hk, hat, hb⟩ := hrel
    have HBR := Lib.hid hb
    obtain ⟨cn, ecn⟩ : ∃ cn, T + n - 8 * k = cn := ⟨_, rfl⟩
    rw [ecn] at hat
    obtain ⟨hd, ehd⟩ : ∃ hd, V' / 2 ^ (8 * k) = hd := ⟨_, rfl⟩
    rw [ehd] at hat
    have HHD := Lib.hid ehd
    have HAT := Lib.hid hat
    have HYL : Hid ((bytesN V' k).length = k) := bytesN_len V' k
    have HYN : Hid (bytesN V' (k + 1) = bytesN V' k ++ [IntKind.u8.wrap (hd : Int)]) := by
      show _ = _
      rw [bytesN_succ, ehd, IntKind.wrap_u8]
      congr 2
    have HNX : Hid (hd / 256 = V' / 2 ^ (8 * (k + 1))) := by show _ = _; rw [← ehd]; exact held_next V' k
    have hk1 : k ≤ 1000000 := by omega
    obtain ⟨v, hbk, hown, h1', h2'⟩ := hat
    obtain ⟨c0, c1, c2, f0, f1, f2⟩ := cells3 hbk
    obtain ⟨ys, hys⟩ : ∃ ys, bytesN V' k = ys := ⟨_, rfl⟩
    rw [hys] at hown HYL HYN HAT
    have HO := Lib.hid hown
    have HBB := Lib.hid hbk
    have hyl1 : ys.length ≤ 1000000 := by rw [HYL.out]; exact hk1
    clear hbk hown hb ehd HA HBA
    by_cases h8 : 8 ≤ cn
    · have h8i : (8 : Int) ≤ (cn : Int) := by omega
      have hlt : B < wr.heap.size := by omega
      go_wp2_with fail
      go_region_law (refine step_append_bytes rfl _ _ (by rfl) base _ ys.length ys (by rfl) (HO.out.below (by repeat (first | exact (Below.refl _ _).alloc (Nat.le_refl _) _ | refine Below.drew ?_))) _ 1 1 [_] (by rfl) ((Bytes.lit wr _ rfl [_] 5 (0, 0) 1 rfl (by omega) (by intro x hx; rw [List.mem_singleton.1 hx]; exact bounds_u8 (wf_wrap .u8 _))).below ((Below.refl _ _).drew)) (fun e => by cases e) (by omega) (by simp; omega) ?_; intro v1 w1 hown1 hg1; have hk1 := (HO.out.below (((Below.refl _ _).alloc (Nat.le_refl _) _).drew)).kept (by simp; omega) hg1; have hb2 := (hk1.block B h1').trans ((Below.heap_alloc wr _ B (by omega)).trans HBB.out); obtain ⟨d0, d1, d2, e0, e1, e2⟩ := cells3 hb2; obtain ⟨av, cv, rfl, hcv, hnv, hcw⟩ := hown1.shape)
      all_goals
        have H3 : Hid (WAt (w1.setCell ⟨B, 0, none⟩ (.slice av (ys.length + 1) cv)) base B (ys ++ [IntKind.u8.wrap (hd : Int)]) (hd : Int) (cn : Int)) := WAt.put hb2 hown1 (by simp) h1' (by have := hk1.size; simp at this; omega)
        have hb3 : FrW B base w (w1.setCell ⟨B, 0, none⟩ (.slice av (ys.length + 1) cv)) := (HBR.out.grow (by omega) (((Below.refl base wr).alloc (by omega) _).drew.trans hk1)).set _ _
        clear d0 d1 d2 e0 e1 e2 c0 c1 c2 f0 f1 f2 hk1 hg1 hb2 hown1
        generalize w1.setCell ⟨B, 0, none⟩ (.slice av (ys.length + 1) cv) = wc at *
        obtain ⟨v3, hc3, hown3, -, hz3⟩ := H3.out
        obtain ⟨c0, c1, c2, f0, f1, f2⟩ := cells3 hc3
        clear hc3 hown3
        go_wp2_with fail
        go_roundw
        case rel =>
          refine ⟨k + 1, by omega, ?_, (hb3.set _ _).set _ _⟩
          rw [HYN.out, ← HNX.out, show ((T + n - 8 * (k + 1) : Nat) : Int) = (cn : Int) - 8 by omega, show ((hd / 256 : Nat) : Int) = (hd : Int) / 256 by omega]
          exact H3.out.set12 _ _
        case measure =>
          rw [leftOf_of (H3.out.set12 _ _), leftOf_of HAT.out]
          omega
    · have h8i : ¬ (8 : Int) ≤ (cn : Int) := by omega
      go_wp2_with fail
      go_end0
      have hk8 : k = (T + n) / 8 := by omega
      have hc8 : cn = (T + n) % 8 := by omega
      subst hk8 hc8
      refine ⟨rfl, ⟨HLT.out, ?_⟩, HBR.out⟩
      rw [hys, HHD.out]
      exact HAT.out
end Go.Proofs.Yteaaoigeopekiaa
