/- The writer of bits: any number. -/
import Derived.Test.YtglgchjkonjpiaaGreatDoorPck
import Derived.Test.YtglgchjkonjpiaaGreatDoorBitsMath
import Derived.Lib.Hide
/-! The writer of bits: any number. -/
namespace Go.Proofs.YtglgchjkonjpiaaGreatDoor
open Go.RowKit Plain
set_option linter.unusedVariables false
/-- T bits were put, which are V. -/
def Wrt (w : World) (base B V T : Nat) : Prop := V < 2 ^ T ∧ WAt w base B (bytesN V (T / 8)) ((V / 2 ^ (8 * (T / 8)) : Nat) : Int) ((T % 8 : Nat) : Int)
theorem Wrt.below {w w' : World} {base B V T : Nat} (H : Wrt w base B V T) (hb : Below w.heap.size w w') : Wrt w' base B V T := ⟨H.1, H.2.below hb⟩
theorem Wrt.size {w : World} {base B V T : Nat} (H : Wrt w base B V T) : B < base ∧ base ≤ w.heap.size := by
  obtain ⟨-, v, h1, h2, h3, h4⟩ := H
  exact ⟨h3, h4⟩
/-- A call of the writer's changes its block, and what lies from block 'base' on. -/
structure FrW (B base : Nat) (w w' : World) : Prop where
  below : Below B w w'
  keep : ∀ g, g ≠ B → g < base → w'.heap[g]? = w.heap[g]?
theorem FrW.refl (B base : Nat) (w : World) : FrW B base w w := ⟨Below.refl _ _, fun _ _ _ => rfl⟩
theorem FrW.trans {B base : Nat} {w w' w'' : World} (h : FrW B base w w') (h' : FrW B base w' w'') : FrW B base w w'' := ⟨h.below.trans h'.below, fun g a b => (h'.keep g a b).trans (h.keep g a b)⟩
theorem FrW.set {B base : Nat} {w w' : World} (h : FrW B base w w') (k : Nat) (v : Value) : FrW B base w (w'.setCell ⟨B, k, none⟩ v) := ⟨h.below.setCell (Nat.le_refl _) _, fun g a b => (Below.heap_setCell _ _ _ _ (by show g ≠ B; exact a)).trans (h.keep g a b)⟩
theorem FrW.drew {B base : Nat} {w w' : World} (h : FrW B base w w') : FrW B base w w'.drew := ⟨h.below.drew, h.keep⟩
theorem FrW.grow {B base : Nat} {w w' w'' : World} (h : FrW B base w w') (hB : B ≤ base) (hb : Below base w' w'') : FrW B base w w'' := ⟨h.below.trans (hb.mono hB), fun g a b => (hb.block g b).trans (h.keep g a b)⟩
theorem FrW.of {B base : Nat} {w w' : World} (hB : B ≤ base) (hs : base ≤ w.heap.size) (hb : Below w.heap.size w w') : FrW B base w w' := (FrW.refl B base w).grow hB (hb.mono hs)
def leftOf (B : Nat) (w : World) : Nat := match w.cell? ⟨B, 2, none⟩ with
  | some (.int _ n) => n.toNat
  | _ => 0
theorem leftOf_of {w : World} {base B : Nat} {ys : List Int} {h n : Int} (H : WAt w base B ys h n) : leftOf B w = n.toNat := by
  obtain ⟨v, hb, -⟩ := H
  unfold leftOf
  rw [(cells3 hb).2.2.1]
set_option maxRecDepth 100000 in
set_option maxHeartbeats 8000000 in
theorem wnumber_any (base B V T x n : Nat) (w : World) (H : Wrt w base B V T) (hx : x < 2 ^ n) (hn : n ≤ 32) (hT : T ≤ 1000000) :
    Calls Tryz.prog 72 #[.pointer (some ⟨B, 0, none⟩), .int .i64 (x : Int), .int .i64 (n : Int)] w fun e w' => e = .returned (.tuple #[]) ∧ Wrt w' base B (V + x * 2 ^ T) (T + n) ∧ FrW B base w w' := by
  obtain ⟨hV, HW0⟩ := H
  obtain ⟨r, hr⟩ : ∃ r, T % 8 = r := ⟨_, rfl⟩
  obtain ⟨q, hq⟩ : ∃ q, T / 8 = q := ⟨_, rfl⟩
  have hTqr : T = 8 * q + r := by omega
  have hr8 : r < 8 := by omega
  have hh := held_lt hV
  have hmore := held_more V T x
  have hlt := more_lt hV hx
  have hby := bytesN_more V T x (T / 8) (by omega)
  rw [hq, hr] at HW0 hh hmore
  rw [hq] at hby
  have hx32 : x < 4294967296 := Nat.lt_of_lt_of_le hx (Nat.pow_le_pow_right (n := 2) (by omega) hn)
  obtain ⟨V', hV'⟩ : ∃ V', V + x * 2 ^ T = V' := ⟨_, rfl⟩
  rw [hV'] at hmore hlt hby ⊢
  have hor := or_held2 (V / 2 ^ (8 * q)) x r hh hx32 (by omega)
  rw [← hmore] at hor
  rw [← hby] at HW0
  obtain ⟨h0, eh0⟩ : ∃ h0, V / 2 ^ (8 * q) = h0 := ⟨_, rfl⟩
  obtain ⟨h1, eh1⟩ : ∃ h1, V' / 2 ^ (8 * q) = h1 := ⟨_, rfl⟩
  rw [eh0] at HW0 hor
  rw [eh1] at hor
  have HH1 := Lib.hid eh1
  have HLT := Lib.hid hlt
  have HW : Hid (WAt w base B (bytesN V' q) (h0 : Int) (r : Int)) := HW0
  have hBs : B < base ∧ base ≤ w.heap.size := by obtain ⟨v, _, _, h3, h4⟩ := HW0; exact ⟨h3, h4⟩
  obtain ⟨v, hb, hown, -, -⟩ := HW0
  obtain ⟨c0, c1, c2, f0, f1, f2⟩ := cells3 hb
  clear hb hown hV hh hmore hlt hby hV' eh0 eh1 hx hTqr
  go_enter Tryz.func72, Tryz.ntmps72
  go_wp2_with fail
  go_region
  try rw [hor]
  go_wp2_with fail
  have HA : Hid (WAt ((w.setCell ⟨B, 1, none⟩ (.int .u64 (h1 : Int))).setCell ⟨B, 2, none⟩ (.int .i64 ((r : Int) + (n : Int)))).drew base B (bytesN V' q) (h1 : Int) ((r : Int) + (n : Int))) := (HW.out.set12 _ _).drew
  have HBA : Hid (FrW B base w ((w.setCell ⟨B, 1, none⟩ (.int .u64 (h1 : Int))).setCell ⟨B, 2, none⟩ (.int .i64 ((r : Int) + (n : Int)))).drew) := (((FrW.refl B base w).set _ _).set _ _).drew
  generalize ((w.setCell ⟨B, 1, none⟩ (.int .u64 (h1 : Int))).setCell ⟨B, 2, none⟩ (.int .i64 ((r : Int) + (n : Int)))).drew = wa at *
  clear c0 c1 c2 f0 f1 f2 hor HW
  go_loopw [] (fun wr => ∃ k, 8 * k ≤ T + n ∧ WAt wr base B (bytesN V' k) ((V' / 2 ^ (8 * k) : Nat) : Int) ((T + n - 8 * k : Nat) : Int) ∧ FrW B base w wr) (fun wr => leftOf B wr)
  case atStart =>
    refine ⟨q, by omega, ?_, HBA.out⟩
    rw [HH1.out, show ((T + n - 8 * q : Nat) : Int) = (r : Int) + (n : Int) by omega]
    exact HA.out
  case round =>
    obtain ⟨k, hk, hat, hb⟩ := hrel
    have HBR := Lib.hid hb
    obtain ⟨cn, ecn⟩ : ∃ cn, T + n - 8 * k = cn := ⟨_, rfl⟩
    rw [ecn] at hat
    obtain ⟨hd, ehd⟩ : ∃ hd, V' / 2 ^ (8 * k) = hd := ⟨_, rfl⟩
    rw [ehd] at hat
    have HHD := Lib.hid ehd
    have HAT := Lib.hid hat
    have HYL : Hid ((bytesN V' k).length = k) := bytesN_len V' k
    have HYN : Hid (bytesN V' (k + 1) = bytesN V' k ++ [IntKind.u8.wrap (hd : Int)]) := by
      show _ = _
      rw [bytesN_succ, ehd, IntKind.wrap_u8]
      congr 2
    have HNX : Hid (hd / 256 = V' / 2 ^ (8 * (k + 1))) := by show _ = _; rw [← ehd]; exact held_next V' k
    have hk1 : k ≤ 1000000 := by omega
    obtain ⟨v, hbk, hown, h1', h2'⟩ := hat
    obtain ⟨c0, c1, c2, f0, f1, f2⟩ := cells3 hbk
    obtain ⟨ys, hys⟩ : ∃ ys, bytesN V' k = ys := ⟨_, rfl⟩
    rw [hys] at hown HYL HYN HAT
    have HO := Lib.hid hown
    have HBB := Lib.hid hbk
    have hyl1 : ys.length ≤ 1000000 := by rw [HYL.out]; exact hk1
    clear hbk hown hb ehd HA HBA
    by_cases h8 : 8 ≤ cn
    · have h8i : (8 : Int) ≤ (cn : Int) := by omega
      have hlt : B < wr.heap.size := by omega
      go_wp2_with fail
      go_region_law (refine step_append_bytes rfl _ _ (by rfl) base _ ys.length ys (by rfl) (HO.out.below (by repeat (first | exact (Below.refl _ _).alloc (Nat.le_refl _) _ | refine Below.drew ?_))) _ 1 1 [_] (by rfl) ((Bytes.lit wr _ rfl [_] 5 (0, 0) 1 rfl (by omega) (by intro x hx; rw [List.mem_singleton.1 hx]; exact bounds_u8 (wf_wrap .u8 _))).below ((Below.refl _ _).drew)) (fun e => by cases e) (by omega) (by simp; omega) ?_; intro v1 w1 hown1 hg1; have hk1 := (HO.out.below (((Below.refl _ _).alloc (Nat.le_refl _) _).drew)).kept (by simp; omega) hg1; have hb2 := (hk1.block B h1').trans ((Below.heap_alloc wr _ B (by omega)).trans HBB.out); obtain ⟨d0, d1, d2, e0, e1, e2⟩ := cells3 hb2; obtain ⟨av, cv, rfl, hcv, hnv, hcw⟩ := hown1.shape)
      all_goals
        have H3 : Hid (WAt (w1.setCell ⟨B, 0, none⟩ (.slice av (ys.length + 1) cv)) base B (ys ++ [IntKind.u8.wrap (hd : Int)]) (hd : Int) (cn : Int)) := WAt.put hb2 hown1 (by simp) h1' (by have := hk1.size; simp at this; omega)
        have hb3 : FrW B base w (w1.setCell ⟨B, 0, none⟩ (.slice av (ys.length + 1) cv)) := (HBR.out.grow (by omega) (((Below.refl base wr).alloc (by omega) _).drew.trans hk1)).set _ _
        clear d0 d1 d2 e0 e1 e2 c0 c1 c2 f0 f1 f2 hk1 hg1 hb2 hown1
        generalize w1.setCell ⟨B, 0, none⟩ (.slice av (ys.length + 1) cv) = wc at *
        obtain ⟨v3, hc3, hown3, -, hz3⟩ := H3.out
        obtain ⟨c0, c1, c2, f0, f1, f2⟩ := cells3 hc3
        clear hc3 hown3
        go_wp2_with fail
        go_roundw
        case rel =>
          refine ⟨k + 1, by omega, ?_, (hb3.set _ _).set _ _⟩
          rw [HYN.out, ← HNX.out, show ((T + n - 8 * (k + 1) : Nat) : Int) = (cn : Int) - 8 by omega, show ((hd / 256 : Nat) : Int) = (hd : Int) / 256 by omega]
          exact H3.out.set12 _ _
        case measure =>
          rw [leftOf_of (H3.out.set12 _ _), leftOf_of HAT.out]
          omega
    · have h8i : ¬ (8 : Int) ≤ (cn : Int) := by omega
      go_wp2_with fail
      go_end0
      have hk8 : k = (T + n) / 8 := by omega
      have hc8 : cn = (T + n) % 8 := by omega
      subst hk8 hc8
      refine ⟨rfl, ⟨HLT.out, ?_⟩, HBR.out⟩
      rw [hys, HHD.out]
      exact HAT.out
end Go.Proofs.YtglgchjkonjpiaaGreatDoor
/-! A code's bits, the highest first: Reverse16, code. -/
namespace Go.Proofs.YtglgchjkonjpiaaGreatDoor
open Go.RowKit Plain
set_option linter.unusedVariables false
set_option maxRecDepth 100000 in
theorem rev_tab : ∀ i, i < 256 → (({ data := #[0, 128, 64, 192, 32, 160, 96, 224, 16, 144, 80, 208, 48, 176, 112, 240, 8, 136, 72, 200, 40, 168, 104, 232, 24, 152, 88, 216, 56, 184, 120, 248, 4, 132, 68, 196, 36, 164, 100, 228, 20, 148, 84, 212, 52, 180, 116, 244, 12, 140, 76, 204, 44, 172, 108, 236, 28, 156, 92, 220, 60, 188, 124, 252, 2, 130, 66, 194, 34, 162, 98, 226, 18, 146, 82, 210, 50, 178, 114, 242, 10, 138, 74, 202, 42, 170, 106, 234, 26, 154, 90, 218, 58, 186, 122, 250, 6, 134, 70, 198, 38, 166, 102, 230, 22, 150, 86, 214, 54, 182, 118, 246, 14, 142, 78, 206, 46, 174, 110, 238, 30, 158, 94, 222, 62, 190, 126, 254, 1, 129, 65, 193, 33, 161, 97, 225, 17, 145, 81, 209, 49, 177, 113, 241, 9, 137, 73, 201, 41, 169, 105, 233, 25, 153, 89, 217, 57, 185, 121, 249, 5, 133, 69, 197, 37, 165, 101, 229, 21, 149, 85, 213, 53, 181, 117, 245, 13, 141, 77, 205, 45, 173, 109, 237, 29, 157, 93, 221, 61, 189, 125, 253, 3, 131, 67, 195, 35, 163, 99, 227, 19, 147, 83, 211, 51, 179, 115, 243, 11, 139, 75, 203, 43, 171, 107, 235, 27, 155, 91, 219, 59, 187, 123, 251, 7, 135, 71, 199, 39, 167, 103, 231, 23, 151, 87, 215, 55, 183, 119, 247, 15, 143, 79, 207, 47, 175, 111, 239, 31, 159, 95, 223, 63, 191, 127, 255] } : ByteArray).data[i]?.map UInt8.toNat) = some (rev 8 i) := by decide +kernel
set_option maxRecDepth 100000 in
theorem rev_at (a : Nat) (h : a < (({ data := #[0, 128, 64, 192, 32, 160, 96, 224, 16, 144, 80, 208, 48, 176, 112, 240, 8, 136, 72, 200, 40, 168, 104, 232, 24, 152, 88, 216, 56, 184, 120, 248, 4, 132, 68, 196, 36, 164, 100, 228, 20, 148, 84, 212, 52, 180, 116, 244, 12, 140, 76, 204, 44, 172, 108, 236, 28, 156, 92, 220, 60, 188, 124, 252, 2, 130, 66, 194, 34, 162, 98, 226, 18, 146, 82, 210, 50, 178, 114, 242, 10, 138, 74, 202, 42, 170, 106, 234, 26, 154, 90, 218, 58, 186, 122, 250, 6, 134, 70, 198, 38, 166, 102, 230, 22, 150, 86, 214, 54, 182, 118, 246, 14, 142, 78, 206, 46, 174, 110, 238, 30, 158, 94, 222, 62, 190, 126, 254, 1, 129, 65, 193, 33, 161, 97, 225, 17, 145, 81, 209, 49, 177, 113, 241, 9, 137, 73, 201, 41, 169, 105, 233, 25, 153, 89, 217, 57, 185, 121, 249, 5, 133, 69, 197, 37, 165, 101, 229, 21, 149, 85, 213, 53, 181, 117, 245, 13, 141, 77, 205, 45, 173, 109, 237, 29, 157, 93, 221, 61, 189, 125, 253, 3, 131, 67, 195, 35, 163, 99, 227, 19, 147, 83, 211, 51, 179, 115, 243, 11, 139, 75, 203, 43, 171, 107, 235, 27, 155, 91, 219, 59, 187, 123, 251, 7, 135, 71, 199, 39, 167, 103, 231, 23, 151, 87, 215, 55, 183, 119, 247, 15, 143, 79, 207, 47, 175, 111, 239, 31, 159, 95, 223, 63, 191, 127, 255] } : ByteArray)).size) : (({ data := #[0, 128, 64, 192, 32, 160, 96, 224, 16, 144, 80, 208, 48, 176, 112, 240, 8, 136, 72, 200, 40, 168, 104, 232, 24, 152, 88, 216, 56, 184, 120, 248, 4, 132, 68, 196, 36, 164, 100, 228, 20, 148, 84, 212, 52, 180, 116, 244, 12, 140, 76, 204, 44, 172, 108, 236, 28, 156, 92, 220, 60, 188, 124, 252, 2, 130, 66, 194, 34, 162, 98, 226, 18, 146, 82, 210, 50, 178, 114, 242, 10, 138, 74, 202, 42, 170, 106, 234, 26, 154, 90, 218, 58, 186, 122, 250, 6, 134, 70, 198, 38, 166, 102, 230, 22, 150, 86, 214, 54, 182, 118, 246, 14, 142, 78, 206, 46, 174, 110, 238, 30, 158, 94, 222, 62, 190, 126, 254, 1, 129, 65, 193, 33, 161, 97, 225, 17, 145, 81, 209, 49, 177, 113, 241, 9, 137, 73, 201, 41, 169, 105, 233, 25, 153, 89, 217, 57, 185, 121, 249, 5, 133, 69, 197, 37, 165, 101, 229, 21, 149, 85, 213, 53, 181, 117, 245, 13, 141, 77, 205, 45, 173, 109, 237, 29, 157, 93, 221, 61, 189, 125, 253, 3, 131, 67, 195, 35, 163, 99, 227, 19, 147, 83, 211, 51, 179, 115, 243, 11, 139, 75, 203, 43, 171, 107, 235, 27, 155, 91, 219, 59, 187, 123, 251, 7, 135, 71, 199, 39, 167, 103, 231, 23, 151, 87, 215, 55, 183, 119, 247, 15, 143, 79, 207, 47, 175, 111, 239, 31, 159, 95, 223, 63, 191, 127, 255] } : ByteArray)[a]'h).toNat = rev 8 a := by
  have h1 := rev_tab a h
  have : (({ data := #[0, 128, 64, 192, 32, 160, 96, 224, 16, 144, 80, 208, 48, 176, 112, 240, 8, 136, 72, 200, 40, 168, 104, 232, 24, 152, 88, 216, 56, 184, 120, 248, 4, 132, 68, 196, 36, 164, 100, 228, 20, 148, 84, 212, 52, 180, 116, 244, 12, 140, 76, 204, 44, 172, 108, 236, 28, 156, 92, 220, 60, 188, 124, 252, 2, 130, 66, 194, 34, 162, 98, 226, 18, 146, 82, 210, 50, 178, 114, 242, 10, 138, 74, 202, 42, 170, 106, 234, 26, 154, 90, 218, 58, 186, 122, 250, 6, 134, 70, 198, 38, 166, 102, 230, 22, 150, 86, 214, 54, 182, 118, 246, 14, 142, 78, 206, 46, 174, 110, 238, 30, 158, 94, 222, 62, 190, 126, 254, 1, 129, 65, 193, 33, 161, 97, 225, 17, 145, 81, 209, 49, 177, 113, 241, 9, 137, 73, 201, 41, 169, 105, 233, 25, 153, 89, 217, 57, 185, 121, 249, 5, 133, 69, 197, 37, 165, 101, 229, 21, 149, 85, 213, 53, 181, 117, 245, 13, 141, 77, 205, 45, 173, 109, 237, 29, 157, 93, 221, 61, 189, 125, 253, 3, 131, 67, 195, 35, 163, 99, 227, 19, 147, 83, 211, 51, 179, 115, 243, 11, 139, 75, 203, 43, 171, 107, 235, 27, 155, 91, 219, 59, 187, 123, 251, 7, 135, 71, 199, 39, 167, 103, 231, 23, 151, 87, 215, 55, 183, 119, 247, 15, 143, 79, 207, 47, 175, 111, 239, 31, 159, 95, 223, 63, 191, 127, 255] } : ByteArray).data[a]?) = some (({ data := #[0, 128, 64, 192, 32, 160, 96, 224, 16, 144, 80, 208, 48, 176, 112, 240, 8, 136, 72, 200, 40, 168, 104, 232, 24, 152, 88, 216, 56, 184, 120, 248, 4, 132, 68, 196, 36, 164, 100, 228, 20, 148, 84, 212, 52, 180, 116, 244, 12, 140, 76, 204, 44, 172, 108, 236, 28, 156, 92, 220, 60, 188, 124, 252, 2, 130, 66, 194, 34, 162, 98, 226, 18, 146, 82, 210, 50, 178, 114, 242, 10, 138, 74, 202, 42, 170, 106, 234, 26, 154, 90, 218, 58, 186, 122, 250, 6, 134, 70, 198, 38, 166, 102, 230, 22, 150, 86, 214, 54, 182, 118, 246, 14, 142, 78, 206, 46, 174, 110, 238, 30, 158, 94, 222, 62, 190, 126, 254, 1, 129, 65, 193, 33, 161, 97, 225, 17, 145, 81, 209, 49, 177, 113, 241, 9, 137, 73, 201, 41, 169, 105, 233, 25, 153, 89, 217, 57, 185, 121, 249, 5, 133, 69, 197, 37, 165, 101, 229, 21, 149, 85, 213, 53, 181, 117, 245, 13, 141, 77, 205, 45, 173, 109, 237, 29, 157, 93, 221, 61, 189, 125, 253, 3, 131, 67, 195, 35, 163, 99, 227, 19, 147, 83, 211, 51, 179, 115, 243, 11, 139, 75, 203, 43, 171, 107, 235, 27, 155, 91, 219, 59, 187, 123, 251, 7, 135, 71, 199, 39, 167, 103, 231, 23, 151, 87, 215, 55, 183, 119, 247, 15, 143, 79, 207, 47, 175, 111, 239, 31, 159, 95, 223, 63, 191, 127, 255] } : ByteArray)[a]'h) := Array.getElem?_eq_getElem h
  rw [this] at h1
  simpa using h1
def rev16 (x : Nat) : Nat := rev 8 (x / 256) + 256 * rev 8 (x % 256)
theorem rev16_table : ∀ x, x < 512 → bits .or .u16 ((rev 8 (x / 256) : Nat) : Int) (((rev 8 (x % 256) : Nat) : Int) * 256) = ((rev16 x : Nat) : Int) ∧ bits .and .u16 (x : Int) 255 = ((x % 256 : Nat) : Int) := by decide +kernel
set_option maxRecDepth 100000 in
set_option maxHeartbeats 2000000 in
theorem wreverse_any (x : Nat) (hx : x < 512) (w : World) : Calls Tryz.prog 125 #[.int .u16 (x : Int)] w fun e w' => e = .returned (.int .u16 ((rev16 x : Nat) : Int)) ∧ Below w.heap.size w w' := by
  obtain ⟨e3, e2⟩ := rev16_table x hx
  obtain ⟨a, ea⟩ : ∃ a, x / 256 = a := ⟨_, rfl⟩
  obtain ⟨b, eb⟩ : ∃ b, x % 256 = b := ⟨_, rfl⟩
  have e1 : (x : Int) / 256 = (a : Int) := by omega
  have ha : a < 256 := by omega
  have hb : b < 256 := by omega
  have hra : rev 8 a < 256 := rev_lt 8 a
  have hrb : rev 8 b < 256 := rev_lt 8 b
  rw [ea, eb] at e3
  rw [eb] at e2
  obtain ⟨z, ez⟩ : ∃ z, rev16 x = z := ⟨_, rfl⟩
  rw [ez] at e3 ⊢
  have ew : IntKind.u16.wrap (((rev 8 b : Nat) : Int) * 256) = ((rev 8 b : Nat) : Int) * 256 := by rw [IntKind.wrap_u16]; omega
  have HF : ∀ c, c < 256 → rev 8 c < 256 := fun c _ => rev_lt 8 c
  have hai : (a : Int) < 256 := by omega
  have hbi : (b : Int) < 256 := by omega
  have hTa := rev_at a
  have hTb := rev_at b
  clear ez
  go_enter Tryz.func125, Tryz.ntmps125
  go_wp2_with fail
  go_region
  go_wp2_with fail
  go_ret
  exact ⟨rfl, (Below.refl _ _).drew⟩
theorem rev_code_5 : ∀ x, x < 2 ^ 5 → rev16 x / 2 ^ 11 = rev 5 x := by decide +kernel
set_option maxRecDepth 100000 in
set_option maxHeartbeats 2000000 in
theorem wcode_5 (base B V T x : Nat) (w : World) (H : Wrt w base B V T) (hx : x < 2 ^ 5) (hT : T ≤ 1000000) :
    Calls Tryz.prog 103 #[.pointer (some ⟨B, 0, none⟩), .int .i64 (x : Int), .int .i64 5] w fun e w' => e = .returned (.tuple #[]) ∧ Wrt w' base B (V + rev 5 x * 2 ^ T) (T + 5) ∧ FrW B base w w' := by
  have HW := Lib.hid H
  have hBs := H.size
  have hx5 : x < 512 := by omega
  have hdv : ((rev16 x : Nat) : Int) / 2048 = ((rev 5 x : Nat) : Int) := by rw [← rev_code_5 x hx]; rfl
  have hr := rev_lt 5 x
  have hwx : IntKind.u16.wrap (x : Int) = (x : Int) := by rw [IntKind.wrap_u16]; omega
  have HREV := Lib.hid (fun W => wreverse_any x hx5 W)
  obtain ⟨y, ey⟩ : ∃ y, rev 5 x = y := ⟨_, rfl⟩
  obtain ⟨z, ez⟩ : ∃ z, rev16 x = z := ⟨_, rfl⟩
  rw [ey] at hr hdv ⊢
  rw [ez] at HREV hdv
  clear H ez ey hx
  go_enter Tryz.func103, Tryz.ntmps103
  go_wp2_with fail
  refine (HREV.out w).mono ?_
  rintro e w1 ⟨rfl, hb1⟩
  have HW1 := Lib.hid (HW.out.below hb1)
  have HB1 := Lib.hid hb1
  clear hb1 HW HREV
  go_wp2_with fail
  refine (wnumber_any base B V T y 5 w1 HW1.out hr (by omega) hT).mono ?_
  rintro e w2 ⟨rfl, H2, hb2⟩
  have HH := Lib.hid H2
  have HB2 := Lib.hid hb2
  clear H2 hb2
  go_wp2_with fail
  go_end0
  exact ⟨rfl, HH.out, (FrW.of (by omega) (by omega) HB1.out).trans HB2.out⟩
theorem rev_code_7 : ∀ x, x < 2 ^ 7 → rev16 x / 2 ^ 9 = rev 7 x := by decide +kernel
set_option maxRecDepth 100000 in
set_option maxHeartbeats 2000000 in
theorem wcode_7 (base B V T x : Nat) (w : World) (H : Wrt w base B V T) (hx : x < 2 ^ 7) (hT : T ≤ 1000000) :
    Calls Tryz.prog 103 #[.pointer (some ⟨B, 0, none⟩), .int .i64 (x : Int), .int .i64 7] w fun e w' => e = .returned (.tuple #[]) ∧ Wrt w' base B (V + rev 7 x * 2 ^ T) (T + 7) ∧ FrW B base w w' := by
  have HW := Lib.hid H
  have hBs := H.size
  have hx5 : x < 512 := by omega
  have hdv : ((rev16 x : Nat) : Int) / 512 = ((rev 7 x : Nat) : Int) := by rw [← rev_code_7 x hx]; rfl
  have hr := rev_lt 7 x
  have hwx : IntKind.u16.wrap (x : Int) = (x : Int) := by rw [IntKind.wrap_u16]; omega
  have HREV := Lib.hid (fun W => wreverse_any x hx5 W)
  obtain ⟨y, ey⟩ : ∃ y, rev 7 x = y := ⟨_, rfl⟩
  obtain ⟨z, ez⟩ : ∃ z, rev16 x = z := ⟨_, rfl⟩
  rw [ey] at hr hdv ⊢
  rw [ez] at HREV hdv
  clear H ez ey hx
  go_enter Tryz.func103, Tryz.ntmps103
  go_wp2_with fail
  refine (HREV.out w).mono ?_
  rintro e w1 ⟨rfl, hb1⟩
  have HW1 := Lib.hid (HW.out.below hb1)
  have HB1 := Lib.hid hb1
  clear hb1 HW HREV
  go_wp2_with fail
  refine (wnumber_any base B V T y 7 w1 HW1.out hr (by omega) hT).mono ?_
  rintro e w2 ⟨rfl, H2, hb2⟩
  have HH := Lib.hid H2
  have HB2 := Lib.hid hb2
  clear H2 hb2
  go_wp2_with fail
  go_end0
  exact ⟨rfl, HH.out, (FrW.of (by omega) (by omega) HB1.out).trans HB2.out⟩
theorem rev_code_8 : ∀ x, x < 2 ^ 8 → rev16 x / 2 ^ 8 = rev 8 x := by decide +kernel
set_option maxRecDepth 100000 in
set_option maxHeartbeats 2000000 in
theorem wcode_8 (base B V T x : Nat) (w : World) (H : Wrt w base B V T) (hx : x < 2 ^ 8) (hT : T ≤ 1000000) :
    Calls Tryz.prog 103 #[.pointer (some ⟨B, 0, none⟩), .int .i64 (x : Int), .int .i64 8] w fun e w' => e = .returned (.tuple #[]) ∧ Wrt w' base B (V + rev 8 x * 2 ^ T) (T + 8) ∧ FrW B base w w' := by
  have HW := Lib.hid H
  have hBs := H.size
  have hx5 : x < 512 := by omega
  have hdv : ((rev16 x : Nat) : Int) / 256 = ((rev 8 x : Nat) : Int) := by rw [← rev_code_8 x hx]; rfl
  have hr := rev_lt 8 x
  have hwx : IntKind.u16.wrap (x : Int) = (x : Int) := by rw [IntKind.wrap_u16]; omega
  have HREV := Lib.hid (fun W => wreverse_any x hx5 W)
  obtain ⟨y, ey⟩ : ∃ y, rev 8 x = y := ⟨_, rfl⟩
  obtain ⟨z, ez⟩ : ∃ z, rev16 x = z := ⟨_, rfl⟩
  rw [ey] at hr hdv ⊢
  rw [ez] at HREV hdv
  clear H ez ey hx
  go_enter Tryz.func103, Tryz.ntmps103
  go_wp2_with fail
  refine (HREV.out w).mono ?_
  rintro e w1 ⟨rfl, hb1⟩
  have HW1 := Lib.hid (HW.out.below hb1)
  have HB1 := Lib.hid hb1
  clear hb1 HW HREV
  go_wp2_with fail
  refine (wnumber_any base B V T y 8 w1 HW1.out hr (by omega) hT).mono ?_
  rintro e w2 ⟨rfl, H2, hb2⟩
  have HH := Lib.hid H2
  have HB2 := Lib.hid hb2
  clear H2 hb2
  go_wp2_with fail
  go_end0
  exact ⟨rfl, HH.out, (FrW.of (by omega) (by omega) HB1.out).trans HB2.out⟩
theorem rev_code_9 : ∀ x, x < 2 ^ 9 → rev16 x / 2 ^ 7 = rev 9 x := by decide +kernel
set_option maxRecDepth 100000 in
set_option maxHeartbeats 2000000 in
theorem wcode_9 (base B V T x : Nat) (w : World) (H : Wrt w base B V T) (hx : x < 2 ^ 9) (hT : T ≤ 1000000) :
    Calls Tryz.prog 103 #[.pointer (some ⟨B, 0, none⟩), .int .i64 (x : Int), .int .i64 9] w fun e w' => e = .returned (.tuple #[]) ∧ Wrt w' base B (V + rev 9 x * 2 ^ T) (T + 9) ∧ FrW B base w w' := by
  have HW := Lib.hid H
  have hBs := H.size
  have hx5 : x < 512 := by omega
  have hdv : ((rev16 x : Nat) : Int) / 128 = ((rev 9 x : Nat) : Int) := by rw [← rev_code_9 x hx]; rfl
  have hr := rev_lt 9 x
  have hwx : IntKind.u16.wrap (x : Int) = (x : Int) := by rw [IntKind.wrap_u16]; omega
  have HREV := Lib.hid (fun W => wreverse_any x hx5 W)
  obtain ⟨y, ey⟩ : ∃ y, rev 9 x = y := ⟨_, rfl⟩
  obtain ⟨z, ez⟩ : ∃ z, rev16 x = z := ⟨_, rfl⟩
  rw [ey] at hr hdv ⊢
  rw [ez] at HREV hdv
  clear H ez ey hx
  go_enter Tryz.func103, Tryz.ntmps103
  go_wp2_with fail
  refine (HREV.out w).mono ?_
  rintro e w1 ⟨rfl, hb1⟩
  have HW1 := Lib.hid (HW.out.below hb1)
  have HB1 := Lib.hid hb1
  clear hb1 HW HREV
  go_wp2_with fail
  refine (wnumber_any base B V T y 9 w1 HW1.out hr (by omega) hT).mono ?_
  rintro e w2 ⟨rfl, H2, hb2⟩
  have HH := Lib.hid H2
  have HB2 := Lib.hid hb2
  clear H2 hb2
  go_wp2_with fail
  go_end0
  exact ⟨rfl, HH.out, (FrW.of (by omega) (by omega) HB1.out).trans HB2.out⟩
end Go.Proofs.YtglgchjkonjpiaaGreatDoor
/-! How many bits a number has: bits.Len. -/
namespace Go.Proofs.YtglgchjkonjpiaaGreatDoor
open Go.RowKit Plain
set_option linter.unusedVariables false
def bl (x : Nat) : Nat := if x = 0 then 0 else x.log2 + 1
set_option maxRecDepth 100000 in
theorem len_tab : ∀ i, i < 256 → (({ data := #[0, 1, 2, 2, 3, 3, 3, 3, 4, 4, 4, 4, 4, 4, 4, 4, 5, 5, 5, 5, 5, 5, 5, 5, 5, 5, 5, 5, 5, 5, 5, 5, 6, 6, 6, 6, 6, 6, 6, 6, 6, 6, 6, 6, 6, 6, 6, 6, 6, 6, 6, 6, 6, 6, 6, 6, 6, 6, 6, 6, 6, 6, 6, 6, 7, 7, 7, 7, 7, 7, 7, 7, 7, 7, 7, 7, 7, 7, 7, 7, 7, 7, 7, 7, 7, 7, 7, 7, 7, 7, 7, 7, 7, 7, 7, 7, 7, 7, 7, 7, 7, 7, 7, 7, 7, 7, 7, 7, 7, 7, 7, 7, 7, 7, 7, 7, 7, 7, 7, 7, 7, 7, 7, 7, 7, 7, 7, 7, 8, 8, 8, 8, 8, 8, 8, 8, 8, 8, 8, 8, 8, 8, 8, 8, 8, 8, 8, 8, 8, 8, 8, 8, 8, 8, 8, 8, 8, 8, 8, 8, 8, 8, 8, 8, 8, 8, 8, 8, 8, 8, 8, 8, 8, 8, 8, 8, 8, 8, 8, 8, 8, 8, 8, 8, 8, 8, 8, 8, 8, 8, 8, 8, 8, 8, 8, 8, 8, 8, 8, 8, 8, 8, 8, 8, 8, 8, 8, 8, 8, 8, 8, 8, 8, 8, 8, 8, 8, 8, 8, 8, 8, 8, 8, 8, 8, 8, 8, 8, 8, 8, 8, 8, 8, 8, 8, 8, 8, 8, 8, 8, 8, 8, 8, 8, 8, 8, 8, 8, 8, 8, 8, 8, 8, 8, 8, 8] } : ByteArray).data[i]?.map UInt8.toNat) = some (bl i) := by decide +kernel
set_option maxRecDepth 100000 in
theorem len_at (a : Nat) (h : a < (({ data := #[0, 1, 2, 2, 3, 3, 3, 3, 4, 4, 4, 4, 4, 4, 4, 4, 5, 5, 5, 5, 5, 5, 5, 5, 5, 5, 5, 5, 5, 5, 5, 5, 6, 6, 6, 6, 6, 6, 6, 6, 6, 6, 6, 6, 6, 6, 6, 6, 6, 6, 6, 6, 6, 6, 6, 6, 6, 6, 6, 6, 6, 6, 6, 6, 7, 7, 7, 7, 7, 7, 7, 7, 7, 7, 7, 7, 7, 7, 7, 7, 7, 7, 7, 7, 7, 7, 7, 7, 7, 7, 7, 7, 7, 7, 7, 7, 7, 7, 7, 7, 7, 7, 7, 7, 7, 7, 7, 7, 7, 7, 7, 7, 7, 7, 7, 7, 7, 7, 7, 7, 7, 7, 7, 7, 7, 7, 7, 7, 8, 8, 8, 8, 8, 8, 8, 8, 8, 8, 8, 8, 8, 8, 8, 8, 8, 8, 8, 8, 8, 8, 8, 8, 8, 8, 8, 8, 8, 8, 8, 8, 8, 8, 8, 8, 8, 8, 8, 8, 8, 8, 8, 8, 8, 8, 8, 8, 8, 8, 8, 8, 8, 8, 8, 8, 8, 8, 8, 8, 8, 8, 8, 8, 8, 8, 8, 8, 8, 8, 8, 8, 8, 8, 8, 8, 8, 8, 8, 8, 8, 8, 8, 8, 8, 8, 8, 8, 8, 8, 8, 8, 8, 8, 8, 8, 8, 8, 8, 8, 8, 8, 8, 8, 8, 8, 8, 8, 8, 8, 8, 8, 8, 8, 8, 8, 8, 8, 8, 8, 8, 8, 8, 8, 8, 8, 8, 8] } : ByteArray)).size) : (({ data := #[0, 1, 2, 2, 3, 3, 3, 3, 4, 4, 4, 4, 4, 4, 4, 4, 5, 5, 5, 5, 5, 5, 5, 5, 5, 5, 5, 5, 5, 5, 5, 5, 6, 6, 6, 6, 6, 6, 6, 6, 6, 6, 6, 6, 6, 6, 6, 6, 6, 6, 6, 6, 6, 6, 6, 6, 6, 6, 6, 6, 6, 6, 6, 6, 7, 7, 7, 7, 7, 7, 7, 7, 7, 7, 7, 7, 7, 7, 7, 7, 7, 7, 7, 7, 7, 7, 7, 7, 7, 7, 7, 7, 7, 7, 7, 7, 7, 7, 7, 7, 7, 7, 7, 7, 7, 7, 7, 7, 7, 7, 7, 7, 7, 7, 7, 7, 7, 7, 7, 7, 7, 7, 7, 7, 7, 7, 7, 7, 8, 8, 8, 8, 8, 8, 8, 8, 8, 8, 8, 8, 8, 8, 8, 8, 8, 8, 8, 8, 8, 8, 8, 8, 8, 8, 8, 8, 8, 8, 8, 8, 8, 8, 8, 8, 8, 8, 8, 8, 8, 8, 8, 8, 8, 8, 8, 8, 8, 8, 8, 8, 8, 8, 8, 8, 8, 8, 8, 8, 8, 8, 8, 8, 8, 8, 8, 8, 8, 8, 8, 8, 8, 8, 8, 8, 8, 8, 8, 8, 8, 8, 8, 8, 8, 8, 8, 8, 8, 8, 8, 8, 8, 8, 8, 8, 8, 8, 8, 8, 8, 8, 8, 8, 8, 8, 8, 8, 8, 8, 8, 8, 8, 8, 8, 8, 8, 8, 8, 8, 8, 8, 8, 8, 8, 8, 8, 8] } : ByteArray)[a]'h).toNat = bl a := by
  have h1 := len_tab a h
  have : (({ data := #[0, 1, 2, 2, 3, 3, 3, 3, 4, 4, 4, 4, 4, 4, 4, 4, 5, 5, 5, 5, 5, 5, 5, 5, 5, 5, 5, 5, 5, 5, 5, 5, 6, 6, 6, 6, 6, 6, 6, 6, 6, 6, 6, 6, 6, 6, 6, 6, 6, 6, 6, 6, 6, 6, 6, 6, 6, 6, 6, 6, 6, 6, 6, 6, 7, 7, 7, 7, 7, 7, 7, 7, 7, 7, 7, 7, 7, 7, 7, 7, 7, 7, 7, 7, 7, 7, 7, 7, 7, 7, 7, 7, 7, 7, 7, 7, 7, 7, 7, 7, 7, 7, 7, 7, 7, 7, 7, 7, 7, 7, 7, 7, 7, 7, 7, 7, 7, 7, 7, 7, 7, 7, 7, 7, 7, 7, 7, 7, 8, 8, 8, 8, 8, 8, 8, 8, 8, 8, 8, 8, 8, 8, 8, 8, 8, 8, 8, 8, 8, 8, 8, 8, 8, 8, 8, 8, 8, 8, 8, 8, 8, 8, 8, 8, 8, 8, 8, 8, 8, 8, 8, 8, 8, 8, 8, 8, 8, 8, 8, 8, 8, 8, 8, 8, 8, 8, 8, 8, 8, 8, 8, 8, 8, 8, 8, 8, 8, 8, 8, 8, 8, 8, 8, 8, 8, 8, 8, 8, 8, 8, 8, 8, 8, 8, 8, 8, 8, 8, 8, 8, 8, 8, 8, 8, 8, 8, 8, 8, 8, 8, 8, 8, 8, 8, 8, 8, 8, 8, 8, 8, 8, 8, 8, 8, 8, 8, 8, 8, 8, 8, 8, 8, 8, 8, 8, 8] } : ByteArray).data[a]?) = some (({ data := #[0, 1, 2, 2, 3, 3, 3, 3, 4, 4, 4, 4, 4, 4, 4, 4, 5, 5, 5, 5, 5, 5, 5, 5, 5, 5, 5, 5, 5, 5, 5, 5, 6, 6, 6, 6, 6, 6, 6, 6, 6, 6, 6, 6, 6, 6, 6, 6, 6, 6, 6, 6, 6, 6, 6, 6, 6, 6, 6, 6, 6, 6, 6, 6, 7, 7, 7, 7, 7, 7, 7, 7, 7, 7, 7, 7, 7, 7, 7, 7, 7, 7, 7, 7, 7, 7, 7, 7, 7, 7, 7, 7, 7, 7, 7, 7, 7, 7, 7, 7, 7, 7, 7, 7, 7, 7, 7, 7, 7, 7, 7, 7, 7, 7, 7, 7, 7, 7, 7, 7, 7, 7, 7, 7, 7, 7, 7, 7, 8, 8, 8, 8, 8, 8, 8, 8, 8, 8, 8, 8, 8, 8, 8, 8, 8, 8, 8, 8, 8, 8, 8, 8, 8, 8, 8, 8, 8, 8, 8, 8, 8, 8, 8, 8, 8, 8, 8, 8, 8, 8, 8, 8, 8, 8, 8, 8, 8, 8, 8, 8, 8, 8, 8, 8, 8, 8, 8, 8, 8, 8, 8, 8, 8, 8, 8, 8, 8, 8, 8, 8, 8, 8, 8, 8, 8, 8, 8, 8, 8, 8, 8, 8, 8, 8, 8, 8, 8, 8, 8, 8, 8, 8, 8, 8, 8, 8, 8, 8, 8, 8, 8, 8, 8, 8, 8, 8, 8, 8, 8, 8, 8, 8, 8, 8, 8, 8, 8, 8, 8, 8, 8, 8, 8, 8, 8, 8] } : ByteArray)[a]'h) := Array.getElem?_eq_getElem h
  rw [this] at h1
  simpa using h1
theorem bl_high (x : Nat) (h : 256 ≤ x) : bl x = 8 + bl (x / 256) := by
  have h1 : x / 256 ≠ 0 := by omega
  unfold bl
  rw [if_neg (by omega), if_neg h1]
  have e : x.log2 = (x / 256).log2 + 8 := by
    have l1 := Nat.log2_self_le h1
    have l2 : x / 256 < 2 ^ ((x / 256).log2 + 1) := Nat.lt_log2_self
    refine (Nat.log2_eq_iff (by omega)).2 ⟨?_, ?_⟩
    · rw [Nat.pow_add]
      have : 2 ^ (x / 256).log2 * 2 ^ 8 ≤ x / 256 * 256 := Nat.mul_le_mul_right _ l1
      omega
    · rw [show (x / 256).log2 + 8 + 1 = ((x / 256).log2 + 1) + 8 by omega, Nat.pow_add]
      have : (x / 256 + 1) * 256 ≤ 2 ^ ((x / 256).log2 + 1) * 2 ^ 8 := Nat.mul_le_mul_right _ l2
      omega
  omega
theorem bl_le (x : Nat) (h : x < 65536) : bl x ≤ 16 := by
  unfold bl
  split
  · omega
  · rename_i h0
    have := (Nat.log2_lt h0 (k := 16)).2 h
    omega
set_option maxRecDepth 100000 in
set_option maxHeartbeats 2000000 in
theorem len64_any (x : Nat) (hx : x < 65536) (w : World) : Calls Tryz.prog 127 #[.int .u64 (x : Int)] w fun e w' => e = .returned (.int .i64 ((bl x : Nat) : Int)) ∧ w = w' := by
  have h1 : ¬ (4294967296 : Int) ≤ (x : Int) := by omega
  have h2 : ¬ (65536 : Int) ≤ (x : Int) := by omega
  by_cases h3 : 256 ≤ x
  · have h3i : (256 : Int) ≤ (x : Int) := by omega
    obtain ⟨a, ea⟩ : ∃ a, x / 256 = a := ⟨_, rfl⟩
    have HL : Hid (bl x = 8 + bl a) := by show _ = _; rw [bl_high x h3, ea]
    have e1 : (x : Int) / 256 = (a : Int) := by omega
    have hai : (a : Int) < 256 := by omega
    have hw : IntKind.u8.wrap (a : Int) = (a : Int) := by rw [IntKind.wrap_u8]; omega
    have hT := len_at a
    have hbl := bl_le a (by omega)
    go_enter Tryz.func127, Tryz.ntmps127
    go_wp2_with fail
    go_ret
    exact ⟨by rw [HL.out]; rfl, rfl⟩
  · have h3i : ¬ (256 : Int) ≤ (x : Int) := by omega
    have hai : (x : Int) < 256 := by omega
    have hw : IntKind.u8.wrap (x : Int) = (x : Int) := by rw [IntKind.wrap_u8]; omega
    have hT := len_at x
    have hbl := bl_le x (by omega)
    go_enter Tryz.func127, Tryz.ntmps127
    go_wp2_with fail
    go_ret
    exact ⟨rfl, rfl⟩
set_option maxHeartbeats 2000000 in
theorem len_any (x : Nat) (hx : x < 65536) (w : World) : Calls Tryz.prog 104 #[.int .u64 (x : Int)] w fun e w' => e = .returned (.int .i64 ((bl x : Nat) : Int)) ∧ w = w' := by
  have hw : IntKind.u64.wrap (x : Int) = (x : Int) := by rw [IntKind.wrap_u64]; omega
  go_enter Tryz.func104, Tryz.ntmps104
  go_wp2_with fail
  refine (len64_any x hx w).mono ?_
  rintro e w' ⟨rfl, rfl⟩
  go_wp2_with fail
  go_ret
  exact ⟨rfl, rfl⟩
end Go.Proofs.YtglgchjkonjpiaaGreatDoor
/-! Signs, lengths and distances: what is put. -/
namespace Go.Proofs.YtglgchjkonjpiaaGreatDoor
open Go.RowKit Plain
set_option linter.unusedVariables false
namespace Plain
/-- A sign's code, and how many bits it has. -/
def fixC (s : Nat) : Nat × Nat := if s ≤ 143 then (48 + s, 8) else if s ≤ 255 then (400 + s - 144, 9) else if s ≤ 279 then (s - 256, 7) else (192 + s - 280, 8)
/-- n bits more. -/
def put (x n : Nat) (v : Nat × Nat) : Nat × Nat := (v.1 + x * 2 ^ v.2, v.2 + n)
def putC (c n : Nat) (v : Nat × Nat) : Nat × Nat := put (rev n c) n v
def putS (s : Nat) (v : Nat × Nat) : Nat × Nat := putC (fixC s).1 (fixC s).2 v
def putLen (n : Nat) (v : Nat × Nat) : Nat × Nat :=
  if n = 258 then putS 285 v else if n ≤ 10 then putS (254 + n) v
  else put ((n - 3) % 2 ^ (bl (n - 3) - 3)) (bl (n - 3) - 3) (putS (261 + 4 * (bl (n - 3) - 3) + (n - 3) / 2 ^ (bl (n - 3) - 3) % 4) v)
def putDist (d : Nat) (v : Nat × Nat) : Nat × Nat :=
  if d - 1 ≤ 3 then putC (d - 1) 5 v
  else put ((d - 1) % 2 ^ (bl (d - 1) - 2)) (bl (d - 1) - 2) (putC (2 + 2 * (bl (d - 1) - 2) + (d - 1) / 2 ^ (bl (d - 1) - 2) % 2) 5 v)
theorem bl_pos {x : Nat} {k : Nat} (h : 2 ^ k ≤ x) : k + 1 ≤ bl x := by
  have h0 : x ≠ 0 := by have := Nat.two_pow_pos k; omega
  unfold bl
  rw [if_neg h0]
  have := (Nat.le_log2 h0).2 h
  omega
theorem bl_div {x : Nat} (j : Nat) (h0 : x ≠ 0) (hj : j ≤ bl x) (h1 : 1 ≤ j) : 2 ^ (j - 1) ≤ x / 2 ^ (bl x - j) ∧ x / 2 ^ (bl x - j) < 2 ^ j := by
  unfold bl at *
  rw [if_neg h0] at *
  constructor
  · rw [Nat.le_div_iff_mul_le (Nat.two_pow_pos _), ← Nat.pow_add, show j - 1 + (x.log2 + 1 - j) = x.log2 by omega]
    exact Nat.log2_self_le h0
  · rw [Nat.div_lt_iff_lt_mul (Nat.two_pow_pos _), ← Nat.pow_add, show j + (x.log2 + 1 - j) = x.log2 + 1 by omega]
    exact Nat.lt_log2_self
end Plain
/-- The writer has put what v is. -/
def WP (w : World) (base B : Nat) (v : Nat × Nat) : Prop := Wrt w base B v.1 v.2
theorem WP.below {w w' : World} {base B : Nat} {v : Nat × Nat} (H : WP w base B v) (hb : Below w.heap.size w w') : WP w' base B v := Wrt.below H hb
theorem and_low3 (x : Nat) (k : Nat) (hk : k ≤ 20) : bits .and .i64 (x : Int) ((2 : Int) ^ k - 1) = ((x % 2 ^ k : Nat) : Int) ∨ 4294967296 ≤ x := by
  by_cases hx : 4294967296 ≤ x
  · exact .inr hx
  · refine .inl ?_
    have hp : 2 ^ k ≤ 1048576 := by have := Nat.pow_le_pow_right (n := 2) (by omega) hk; simpa using this
    have hp0 := Nat.two_pow_pos k
    have e : (2 : Int) ^ k - 1 = ((2 ^ k - 1 : Nat) : Int) := by
      have : (2 : Int) ^ k = ((2 ^ k : Nat) : Int) := by simp
      omega
    rw [e]
    show IntKind.i64.wrap ((BitVec.ofInt 64 _ &&& BitVec.ofInt 64 _ : BitVec 64).toNat : Int) = _
    rw [BitVec.toNat_and, BitVec.toNat_ofInt, BitVec.toNat_ofInt]
    have e1 : (((x : Nat) : Int) % ((2 ^ 64 : Nat) : Int)).toNat = x := by omega
    have e2 : (((2 ^ k - 1 : Nat) : Int) % ((2 ^ 64 : Nat) : Int)).toNat = 2 ^ k - 1 := by omega
    rw [e1, e2, Nat.and_two_pow_sub_one_eq_mod, IntKind.wrap_i64]
    have := Nat.mod_lt x hp0
    omega
set_option maxRecDepth 100000 in
set_option maxHeartbeats 4000000 in
theorem wsign_any (base B : Nat) (v : Nat × Nat) (s : Nat) (w : World) (H : WP w base B v) (hs : s ≤ 287) (hT : v.2 ≤ 1000000) :
    Calls Tryz.prog 75 #[.pointer (some ⟨B, 0, none⟩), .int .i64 (s : Int)] w fun e w' => e = .returned (.tuple #[]) ∧ WP w' base B (putS s v) ∧ FrW B base w w' := by
  obtain ⟨V, T⟩ := v
  have HW : Hid (Wrt w base B V T) := H
  simp only at hT
  clear H
  by_cases h0 : s ≤ 143
  · obtain ⟨c, hc⟩ : ∃ c, 48 + s = c := ⟨_, rfl⟩
    have HP : Hid (putS s (V, T) = (V + rev 8 c * 2 ^ T, T + 8)) := by show _ = _; unfold putS fixC; rw [if_pos (by omega)]; subst hc; rfl
    have ci : (48 : Int) + (s : Int) = (c : Int) := by omega
    have p0 : (s : Int) ≤ 143 := by omega
    have hcall := wcode_8 base B V T c w HW.out (by omega) hT
    have HC := Lib.hid hcall
    clear hcall hc HW
    go_enter Tryz.func75, Tryz.ntmps75
    go_wp2_with fail
    refine HC.out.mono ?_
    rintro e w2 ⟨rfl, h2, hb2⟩
    have H2 := Lib.hid h2
    have HB2 := Lib.hid hb2
    clear h2 hb2 HC
    go_wp2_with fail
    go_end0
    refine ⟨rfl, ?_, HB2.out⟩
    rw [HP.out]
    exact H2.out
  · skip
    by_cases h1 : s ≤ 255
    · obtain ⟨c, hc⟩ : ∃ c, 400 + s - 144 = c := ⟨_, rfl⟩
      have HP : Hid (putS s (V, T) = (V + rev 9 c * 2 ^ T, T + 9)) := by show _ = _; unfold putS fixC; rw [if_neg (by omega), if_pos (by omega)]; subst hc; rfl
      have ci : (400 : Int) + (s : Int) - 144 = (c : Int) := by omega
      have n0 : ¬ (s : Int) ≤ 143 := by omega
      have p0 : (s : Int) ≤ 255 := by omega
      have hcall := wcode_9 base B V T c w HW.out (by omega) hT
      have HC := Lib.hid hcall
      clear hcall hc HW
      go_enter Tryz.func75, Tryz.ntmps75
      go_wp2_with fail
      refine HC.out.mono ?_
      rintro e w2 ⟨rfl, h2, hb2⟩
      have H2 := Lib.hid h2
      have HB2 := Lib.hid hb2
      clear h2 hb2 HC
      go_wp2_with fail
      go_end0
      refine ⟨rfl, ?_, HB2.out⟩
      rw [HP.out]
      exact H2.out
    · skip
      by_cases h2 : s ≤ 279
      · obtain ⟨c, hc⟩ : ∃ c, s - 256 = c := ⟨_, rfl⟩
        have HP : Hid (putS s (V, T) = (V + rev 7 c * 2 ^ T, T + 7)) := by show _ = _; unfold putS fixC; rw [if_neg (by omega), if_neg (by omega), if_pos (by omega)]; subst hc; rfl
        have ci : (s : Int) - 256 = (c : Int) := by omega
        have n0 : ¬ (s : Int) ≤ 143 := by omega
        have n1 : ¬ (s : Int) ≤ 255 := by omega
        have p0 : (s : Int) ≤ 279 := by omega
        have hcall := wcode_7 base B V T c w HW.out (by omega) hT
        have HC := Lib.hid hcall
        clear hcall hc HW
        go_enter Tryz.func75, Tryz.ntmps75
        go_wp2_with fail
        refine HC.out.mono ?_
        rintro e w2 ⟨rfl, h2, hb2⟩
        have H2 := Lib.hid h2
        have HB2 := Lib.hid hb2
        clear h2 hb2 HC
        go_wp2_with fail
        go_end0
        refine ⟨rfl, ?_, HB2.out⟩
        rw [HP.out]
        exact H2.out
      · skip
        obtain ⟨c, hc⟩ : ∃ c, 192 + s - 280 = c := ⟨_, rfl⟩
        have HP : Hid (putS s (V, T) = (V + rev 8 c * 2 ^ T, T + 8)) := by show _ = _; unfold putS fixC; rw [if_neg (by omega), if_neg (by omega), if_neg (by omega)]; subst hc; rfl
        have ci : (192 : Int) + (s : Int) - 280 = (c : Int) := by omega
        have n0 : ¬ (s : Int) ≤ 143 := by omega
        have n1 : ¬ (s : Int) ≤ 255 := by omega
        have n2 : ¬ (s : Int) ≤ 279 := by omega
        have hcall := wcode_8 base B V T c w HW.out (by omega) hT
        have HC := Lib.hid hcall
        clear hcall hc HW
        go_enter Tryz.func75, Tryz.ntmps75
        go_wp2_with fail
        refine HC.out.mono ?_
        rintro e w2 ⟨rfl, h2, hb2⟩
        have H2 := Lib.hid h2
        have HB2 := Lib.hid hb2
        clear h2 hb2 HC
        go_wp2_with fail
        go_end0
        refine ⟨rfl, ?_, HB2.out⟩
        rw [HP.out]
        exact H2.out
end Go.Proofs.YtglgchjkonjpiaaGreatDoor
/-! Lengths and distances: the walks. -/
namespace Go.Proofs.YtglgchjkonjpiaaGreatDoor
open Go.RowKit Plain
set_option linter.unusedVariables false
theorem and3 : ∀ y : Nat, y < 8 → bits .and .i64 (y : Int) 3 = ((y % 4 : Nat) : Int) := by decide +kernel
theorem and1 : ∀ y : Nat, y < 8 → bits .and .i64 (y : Int) 1 = ((y % 2 : Nat) : Int) := by decide +kernel
theorem shl_one (f : Nat) (hf : f ≤ 20) : IntKind.i64.wrap ((2 : Int) ^ f) = (2 : Int) ^ f ∧ IntKind.i64.wrap ((2 : Int) ^ f - 1) = (2 : Int) ^ f - 1 ∧ wrap64 ((2 : Int) ^ f - 1) = (2 : Int) ^ f - 1 ∧ wrap64 ((2 : Int) ^ f) = (2 : Int) ^ f := by
  have hp : 2 ^ f ≤ 1048576 := by have := Nat.pow_le_pow_right (n := 2) (by omega) hf; simpa using this
  have hp0 := Nat.two_pow_pos f
  have e : (2 : Int) ^ f = ((2 ^ f : Nat) : Int) := by simp
  rw [e]
  exact ⟨IntWalk.i64_in _ (by omega), IntWalk.i64_in _ (by omega), IntWalk.wrap64_in _ (by omega), IntWalk.wrap64_in _ (by omega)⟩
set_option maxRecDepth 100000 in
set_option maxHeartbeats 4000000 in
theorem wlength_any (base B : Nat) (v : Nat × Nat) (n : Nat) (w : World) (H : WP w base B v) (h3 : 3 ≤ n) (hn : n ≤ 258) (hT : v.2 ≤ 900000) :
    Calls Tryz.prog 76 #[.pointer (some ⟨B, 0, none⟩), .int .i64 (n : Int)] w fun e w' => e = .returned (.tuple #[]) ∧ WP w' base B (putLen n v) ∧ FrW B base w w' := by
  have HW := Lib.hid H
  have hBs := Wrt.size H
  clear H
  by_cases h258 : n = 258
  · have hni : (n : Int) = 258 := by omega
    have HP : Hid (putLen n v = putS 285 v) := by show _ = _; rw [putLen, if_pos h258]
    have HC := Lib.hid (wsign_any base B v 285 w HW.out (by omega) (by omega))
    subst h258
    go_enter Tryz.func76, Tryz.ntmps76
    go_wp2_with fail
    refine HC.out.mono ?_
    rintro e w2 ⟨rfl, h2, hb2⟩
    have H2 := Lib.hid h2
    have HB2 := Lib.hid hb2
    clear h2 hb2 HC
    go_wp2_with fail
    go_end0
    refine ⟨rfl, ?_, HB2.out⟩
    rw [HP.out]
    exact H2.out
  · have hni : ¬ (n : Int) = 258 := by omega
    by_cases h10 : n ≤ 10
    · have h10i : (n : Int) ≤ 10 := by omega
      have HP : Hid (putLen n v = putS (254 + n) v) := by show _ = _; rw [putLen, if_neg h258, if_pos h10]
      have hc := wsign_any base B v (254 + n) w HW.out (by omega) (by omega)
      obtain ⟨s, es⟩ : ∃ s, 254 + n = s := ⟨_, rfl⟩
      rw [es] at hc HP
      have esi : (254 : Int) + (n : Int) = (s : Int) := by omega
      have HC := Lib.hid hc
      clear hc es
      go_enter Tryz.func76, Tryz.ntmps76
      go_wp2_with fail
      refine HC.out.mono ?_
      rintro e w2 ⟨rfl, h2, hb2⟩
      have H2 := Lib.hid h2
      have HB2 := Lib.hid hb2
      clear h2 hb2 HC
      go_wp2_with fail
      go_end0
      refine ⟨rfl, ?_, HB2.out⟩
      rw [HP.out]
      exact H2.out
    · have h10i : ¬ (n : Int) ≤ 10 := by omega
      obtain ⟨x, ex⟩ : ∃ x, n - 3 = x := ⟨_, rfl⟩
      have exi : (n : Int) - 3 = (x : Int) := by omega
      have hx8 : 8 ≤ x := by omega
      have hb4 : 4 ≤ bl x := bl_pos (k := 3) hx8
      have hb16 := bl_le x (by omega)
      have hdv := bl_div (x := x) 3 (by omega) (by omega) (by omega)
      have HP : Hid (putLen n v = put (x % 2 ^ (bl x - 3)) (bl x - 3) (putS (261 + 4 * (bl x - 3) + x / 2 ^ (bl x - 3) % 4) v)) := by show _ = _; rw [putLen, if_neg h258, if_neg h10, ex]
      have HLEN := Lib.hid (fun W => len_any x (by omega) W)
      obtain ⟨l, el⟩ : ∃ l, bl x = l := ⟨_, rfl⟩
      rw [el] at HLEN HP hdv hb4 hb16
      obtain ⟨f, ef⟩ : ∃ f, l - 3 = f := ⟨_, rfl⟩
      rw [ef] at HP hdv
      have efi : (l : Int) - 3 = (f : Int) := by omega
      have hf : f ≤ 13 := by omega
      obtain ⟨y, ey⟩ : ∃ y, x / 2 ^ f = y := ⟨_, rfl⟩
      rw [ey] at HP hdv
      have eyi : (x : Int) / 2 ^ f = (y : Int) := by rw [← ey]; simp
      have hy8 : y < 8 := hdv.2
      have ha3 := and3 y hy8
      obtain ⟨t, et⟩ : ∃ t, y % 4 = t := ⟨_, rfl⟩
      rw [et] at ha3 HP
      obtain ⟨s, es⟩ : ∃ s, 261 + 4 * f + t = s := ⟨_, rfl⟩
      rw [es] at HP
      have esi : 261 + 4 * (f : Int) + (t : Int) = (s : Int) := by omega
      have hs : s ≤ 287 := by
        have h1 : l ≤ 8 := by
          rw [← el]; unfold bl; rw [if_neg (by omega)]
          have := (Nat.log2_lt (by omega : x ≠ 0) (k := 8)).2 (by omega)
          omega
        omega
      have hlow := (and_low3 x f (by omega)).resolve_right (by omega)
      obtain ⟨z, ez⟩ : ∃ z, x % 2 ^ f = z := ⟨_, rfl⟩
      rw [ez] at hlow HP
      have hz : z < 2 ^ f := by rw [← ez]; exact Nat.mod_lt _ (Nat.two_pow_pos _)
      obtain ⟨g1, g2, g3, g4⟩ := shl_one f (by omega)
      have hux : IntKind.u64.wrap (x : Int) = (x : Int) := by rw [IntKind.wrap_u64]; omega
      have HC := Lib.hid (wsign_any base B v s w HW.out hs (by omega))
      have hf16 : f ≤ 32 := by omega
      clear ex el ef ey et es ez hdv
      go_enter Tryz.func76, Tryz.ntmps76
      go_wp2_with fail
      refine (HLEN.out w).mono ?_
      rintro e w1 ⟨rfl, rfl⟩
      go_wp2_with fail
      refine HC.out.mono ?_
      rintro e w2 ⟨rfl, h2, hb2⟩
      have H2 := Lib.hid h2
      have HB2 := Lib.hid hb2
      have hT2 : (putS s v).2 ≤ 1000000 := by unfold putS putC put fixC; simp only; repeat (first | split | omega)
      clear h2 hb2 HC
      go_wp2_with fail
      refine (wnumber_any base B (putS s v).1 (putS s v).2 z f w2 H2.out hz hf16 hT2).mono ?_
      rintro e w3 ⟨rfl, h3, hb3⟩
      have H3 := Lib.hid h3
      have HB3 := Lib.hid hb3
      clear h3 hb3
      go_wp2_with fail
      go_end0
      refine ⟨rfl, ?_, HB2.out.trans HB3.out⟩
      rw [HP.out]
      exact H3.out
set_option maxRecDepth 100000 in
set_option maxHeartbeats 4000000 in
theorem wdistance_any (base B : Nat) (v : Nat × Nat) (d : Nat) (w : World) (H : WP w base B v) (h1 : 1 ≤ d) (hd : d ≤ 32768) (hT : v.2 ≤ 900000) :
    Calls Tryz.prog 77 #[.pointer (some ⟨B, 0, none⟩), .int .i64 (d : Int)] w fun e w' => e = .returned (.tuple #[]) ∧ WP w' base B (putDist d v) ∧ FrW B base w w' := by
  have HW := Lib.hid H
  have hBs := Wrt.size H
  clear H
  obtain ⟨x, ex⟩ : ∃ x, d - 1 = x := ⟨_, rfl⟩
  have exi : (d : Int) - 1 = (x : Int) := by omega
  by_cases h3 : x ≤ 3
  · have h3i : (x : Int) ≤ 3 := by omega
    have HP : Hid (putDist d v = putC x 5 v) := by show _ = _; rw [putDist, ex, if_pos h3]
    have HC := Lib.hid (wcode_5 base B v.1 v.2 x w HW.out (by omega) (by omega))
    clear ex
    go_enter Tryz.func77, Tryz.ntmps77
    go_wp2_with fail
    refine HC.out.mono ?_
    rintro e w2 ⟨rfl, h2, hb2⟩
    have H2 := Lib.hid h2
    have HB2 := Lib.hid hb2
    clear h2 hb2 HC
    go_wp2_with fail
    refine bodyPost_ret (results_none Tryz.results77 _ _ _) rfl ?_
    refine ⟨rfl, ?_, HB2.out⟩
    rw [HP.out]
    exact H2.out
  · have h3i : ¬ (x : Int) ≤ 3 := by omega
    have hx4 : 4 ≤ x := by omega
    have hb4 : 3 ≤ bl x := bl_pos (k := 2) hx4
    have hb16 : bl x ≤ 15 := by
      unfold bl; rw [if_neg (by omega)]
      have := (Nat.log2_lt (by omega : x ≠ 0) (k := 15)).2 (by omega)
      omega
    have hdv := bl_div (x := x) 2 (by omega) (by omega) (by omega)
    have HP : Hid (putDist d v = put (x % 2 ^ (bl x - 2)) (bl x - 2) (putC (2 + 2 * (bl x - 2) + x / 2 ^ (bl x - 2) % 2) 5 v)) := by show _ = _; rw [putDist, ex, if_neg h3]
    have HLEN := Lib.hid (fun W => len_any x (by omega) W)
    obtain ⟨l, el⟩ : ∃ l, bl x = l := ⟨_, rfl⟩
    rw [el] at HLEN HP hdv hb4 hb16
    obtain ⟨f, ef⟩ : ∃ f, l - 2 = f := ⟨_, rfl⟩
    rw [ef] at HP hdv
    have efi : (l : Int) - 2 = (f : Int) := by omega
    have hf : f ≤ 13 := by omega
    obtain ⟨y, ey⟩ : ∃ y, x / 2 ^ f = y := ⟨_, rfl⟩
    rw [ey] at HP hdv
    have eyi : (x : Int) / 2 ^ f = (y : Int) := by rw [← ey]; simp
    have hy8 : y < 4 := hdv.2
    have ha3 := and1 y (by omega)
    obtain ⟨t, et⟩ : ∃ t, y % 2 = t := ⟨_, rfl⟩
    rw [et] at ha3 HP
    obtain ⟨s, es⟩ : ∃ s, 2 + 2 * f + t = s := ⟨_, rfl⟩
    rw [es] at HP
    have esi : 2 + 2 * (f : Int) + (t : Int) = (s : Int) := by omega
    have hs : s < 32 := by omega
    have hlow := (and_low3 x f (by omega)).resolve_right (by omega)
    obtain ⟨z, ez⟩ : ∃ z, x % 2 ^ f = z := ⟨_, rfl⟩
    rw [ez] at hlow HP
    have hz : z < 2 ^ f := by rw [← ez]; exact Nat.mod_lt _ (Nat.two_pow_pos _)
    obtain ⟨g1, g2, g3, g4⟩ := shl_one f (by omega)
    have hux : IntKind.u64.wrap (x : Int) = (x : Int) := by rw [IntKind.wrap_u64]; omega
    have HC := Lib.hid (wcode_5 base B v.1 v.2 s w HW.out (by omega) (by omega))
    have hf16 : f ≤ 32 := by omega
    clear ex el ef ey et es ez hdv
    go_enter Tryz.func77, Tryz.ntmps77
    go_wp2_with fail
    refine (HLEN.out w).mono ?_
    rintro e w1 ⟨rfl, rfl⟩
    go_wp2_with fail
    refine HC.out.mono ?_
    rintro e w2 ⟨rfl, h2, hb2⟩
    have H2 := Lib.hid h2
    have HB2 := Lib.hid hb2
    have hT2 : (putC s 5 v).2 ≤ 1000000 := by show v.2 + 5 ≤ _; omega
    clear h2 hb2 HC
    go_wp2_with fail
    refine (wnumber_any base B (putC s 5 v).1 (putC s 5 v).2 z f w2 H2.out hz hf16 hT2).mono ?_
    rintro e w3 ⟨rfl, h3, hb3⟩
    have H3 := Lib.hid h3
    have HB3 := Lib.hid hb3
    clear h3 hb3
    go_wp2_with fail
    go_end0
    refine ⟨rfl, ?_, HB2.out.trans HB3.out⟩
    rw [HP.out]
    exact H3.out
end Go.Proofs.YtglgchjkonjpiaaGreatDoor
