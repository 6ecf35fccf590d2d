/- A code's bits, the highest first: Reverse16, code. -/
import Derived.Test.YteaaoigeopekiaaBits
namespace Go.Proofs.Yteaaoigeopekiaa
open Go.RowKit Plain
set_option linter.unusedVariables false
set_option maxRecDepth 100000 in
theorem rev_tab : ∀ i, i < 256 → (({ data := #[0, 128, 64, 192, 32, 160, 96, 224, 16, 144, 80, 208, 48, 176, 112, 240, 8, 136, 72, 200, 40, 168, 104, 232, 24, 152, 88, 216, 56, 184, 120, 248, 4, 132, 68, 196, 36, 164, 100, 228, 20, 148, 84, 212, 52, 180, 116, 244, 12, 140, 76, 204, 44, 172, 108, 236, 28, 156, 92, 220, 60, 188, 124, 252, 2, 130, 66, 194, 34, 162, 98, 226, 18, 146, 82, 210, 50, 178, 114, 242, 10, 138, 74, 202, 42, 170, 106, 234, 26, 154, 90, 218, 58, 186, 122, 250, 6, 134, 70, 198, 38, 166, 102, 230, 22, 150, 86, 214, 54, 182, 118, 246, 14, 142, 78, 206, 46, 174, 110, 238, 30, 158, 94, 222, 62, 190, 126, 254, 1, 129, 65, 193, 33, 161, 97, 225, 17, 145, 81, 209, 49, 177, 113, 241, 9, 137, 73, 201, 41, 169, 105, 233, 25, 153, 89, 217, 57, 185, 121, 249, 5, 133, 69, 197, 37, 165, 101, 229, 21, 149, 85, 213, 53, 181, 117, 245, 13, 141, 77, 205, 45, 173, 109, 237, 29, 157, 93, 221, 61, 189, 125, 253, 3, 131, 67, 195, 35, 163, 99, 227, 19, 147, 83, 211, 51, 179, 115, 243, 11, 139, 75, 203, 43, 171, 107, 235, 27, 155, 91, 219, 59, 187, 123, 251, 7, 135, 71, 199, 39, 167, 103, 231, 23, 151, 87, 215, 55, 183, 119, 247, 15, 143, 79, 207, 47, 175, 111, 239, 31, 159, 95, 223, 63, 191, 127, 255] } : ByteArray).data[i]?.map UInt8.toNat) = some (rev 8 i) := by decide +kernel
set_option maxRecDepth 100000 in
theorem rev_at (a : Nat) (h : a < (({ data := #[0, 128, 64, 192, 32, 160, 96, 224, 16, 144, 80, 208, 48, 176, 112, 240, 8, 136, 72, 200, 40, 168, 104, 232, 24, 152, 88, 216, 56, 184, 120, 248, 4, 132, 68, 196, 36, 164, 100, 228, 20, 148, 84, 212, 52, 180, 116, 244, 12, 140, 76, 204, 44, 172, 108, 236, 28, 156, 92, 220, 60, 188, 124, 252, 2, 130, 66, 194, 34, 162, 98, 226, 18, 146, 82, 210, 50, 178, 114, 242, 10, 138, 74, 202, 42, 170, 106, 234, 26, 154, 90, 218, 58, 186, 122, 250, 6, 134, 70, 198, 38, 166, 102, 230, 22, 150, 86, 214, 54, 182, 118, 246, 14, 142, 78, 206, 46, 174, 110, 238, 30, 158, 94, 222, 62, 190, 126, 254, 1, 129, 65, 193, 33, 161, 97, 225, 17, 145, 81, 209, 49, 177, 113, 241, 9, 137, 73, 201, 41, 169, 105, 233, 25, 153, 89, 217, 57, 185, 121, 249, 5, 133, 69, 197, 37, 165, 101, 229, 21, 149, 85, 213, 53, 181, 117, 245, 13, 141, 77, 205, 45, 173, 109, 237, 29, 157, 93, 221, 61, 189, 125, 253, 3, 131, 67, 195, 35, 163, 99, 227, 19, 147, 83, 211, 51, 179, 115, 243, 11, 139, 75, 203, 43, 171, 107, 235, 27, 155, 91, 219, 59, 187, 123, 251, 7, 135, 71, 199, 39, 167, 103, 231, 23, 151, 87, 215, 55, 183, 119, 247, 15, 143, 79, 207, 47, 175, 111, 239, 31, 159, 95, 223, 63, 191, 127, 255] } : ByteArray)).size) : (({ data := #[0, 128, 64, 192, 32, 160, 96, 224, 16, 144, 80, 208, 48, 176, 112, 240, 8, 136, 72, 200, 40, 168, 104, 232, 24, 152, 88, 216, 56, 184, 120, 248, 4, 132, 68, 196, 36, 164, 100, 228, 20, 148, 84, 212, 52, 180, 116, 244, 12, 140, 76, 204, 44, 172, 108, 236, 28, 156, 92, 220, 60, 188, 124, 252, 2, 130, 66, 194, 34, 162, 98, 226, 18, 146, 82, 210, 50, 178, 114, 242, 10, 138, 74, 202, 42, 170, 106, 234, 26, 154, 90, 218, 58, 186, 122, 250, 6, 134, 70, 198, 38, 166, 102, 230, 22, 150, 86, 214, 54, 182, 118, 246, 14, 142, 78, 206, 46, 174, 110, 238, 30, 158, 94, 222, 62, 190, 126, 254, 1, 129, 65, 193, 33, 161, 97, 225, 17, 145, 81, 209, 49, 177, 113, 241, 9, 137, 73, 201, 41, 169, 105, 233, 25, 153, 89, 217, 57, 185, 121, 249, 5, 133, 69, 197, 37, 165, 101, 229, 21, 149, 85, 213, 53, 181, 117, 245, 13, 141, 77, 205, 45, 173, 109, 237, 29, 157, 93, 221, 61, 189, 125, 253, 3, 131, 67, 195, 35, 163, 99, 227, 19, 147, 83, 211, 51, 179, 115, 243, 11, 139, 75, 203, 43, 171, 107, 235, 27, 155, 91, 219, 59, 187, 123, 251, 7, 135, 71, 199, 39, 167, 103, 231, 23, 151, 87, 215, 55, 183, 119, 247, 15, 143, 79, 207, 47, 175, 111, 239, 31, 159, 95, 223, 63, 191, 127, 255] } : ByteArray)[a]'h).toNat = rev 8 a := by
  have h1 := rev_tab a h
  have : (({ data := #[0, 128, 64, 192, 32, 160, 96, 224, 16, 144, 80, 208, 48, 176, 112, 240, 8, 136, 72, 200, 40, 168, 104, 232, 24, 152, 88, 216, 56, 184, 120, 248, 4, 132, 68, 196, 36, 164, 100, 228, 20, 148, 84, 212, 52, 180, 116, 244, 12, 140, 76, 204, 44, 172, 108, 236, 28, 156, 92, 220, 60, 188, 124, 252, 2, 130, 66, 194, 34, 162, 98, 226, 18, 146, 82, 210, 50, 178, 114, 242, 10, 138, 74, 202, 42, 170, 106, 234, 26, 154, 90, 218, 58, 186, 122, 250, 6, 134, 70, 198, 38, 166, 102, 230, 22, 150, 86, 214, 54, 182, 118, 246, 14, 142, 78, 206, 46, 174, 110, 238, 30, 158, 94, 222, 62, 190, 126, 254, 1, 129, 65, 193, 33, 161, 97, 225, 17, 145, 81, 209, 49, 177, 113, 241, 9, 137, 73, 201, 41, 169, 105, 233, 25, 153, 89, 217, 57, 185, 121, 249, 5, 133, 69, 197, 37, 165, 101, 229, 21, 149, 85, 213, 53, 181, 117, 245, 13, 141, 77, 205, 45, 173, 109, 237, 29, 157, 93, 221, 61, 189, 125, 253, 3, 131, 67, 195, 35, 163, 99, 227, 19, 147, 83, 211, 51, 179, 115, 243, 11, 139, 75, 203, 43, 171, 107, 235, 27, 155, 91, 219, 59, 187, 123, 251, 7, 135, 71, 199, 39, 167, 103, 231, 23, 151, 87, 215, 55, 183, 119, 247, 15, 143, 79, 207, 47, 175, 111, 239, 31, 159, 95, 223, 63, 191, 127, 255] } : ByteArray).data[a]?) = some (({ data := #[0, 128, 64, 192, 32, 160, 96, 224, 16, 144, 80, 208, 48, 176, 112, 240, 8, 136, 72, 200, 40, 168, 104, 232, 24, 152, 88, 216, 56, 184, 120, 248, 4, 132, 68, 196, 36, 164, 100, 228, 20, 148, 84, 212, 52, 180, 116, 244, 12, 140, 76, 204, 44, 172, 108, 236, 28, 156, 92, 220, 60, 188, 124, 252, 2, 130, 66, 194, 34, 162, 98, 226, 18, 146, 82, 210, 50, 178, 114, 242, 10, 138, 74, 202, 42, 170, 106, 234, 26, 154, 90, 218, 58, 186, 122, 250, 6, 134, 70, 198, 38, 166, 102, 230, 22, 150, 86, 214, 54, 182, 118, 246, 14, 142, 78, 206, 46, 174, 110, 238, 30, 158, 94, 222, 62, 190, 126, 254, 1, 129, 65, 193, 33, 161, 97, 225, 17, 145, 81, 209, 49, 177, 113, 241, 9, 137, 73, 201, 41, 169, 105, 233, 25, 153, 89, 217, 57, 185, 121, 249, 5, 133, 69, 197, 37, 165, 101, 229, 21, 149, 85, 213, 53, 181, 117, 245, 13, 141, 77, 205, 45, 173, 109, 237, 29, 157, 93, 221, 61, 189, 125, 253, 3, 131, 67, 195, 35, 163, 99, 227, 19, 147, 83, 211, 51, 179, 115, 243, 11, 139, 75, 203, 43, 171, 107, 235, 27, 155, 91, 219, 59, 187, 123, 251, 7, 135, 71, 199, 39, 167, 103, 231, 23, 151, 87, 215, 55, 183, 119, 247, 15, 143, 79, 207, 47, 175, 111, 239, 31, 159, 95, 223, 63, 191, 127, 255] } : ByteArray)[a]'h) := Array.getElem?_eq_getElem h
  rw [this] at h1
  simpa using h1
def rev16 (x : Nat) : Nat := rev 8 (x / 256) + 256 * rev 8 (x % 256)
theorem rev16_table : ∀ x, x < 512 → bits .or .u16 ((rev 8 (x / 256) : Nat) : Int) (((rev 8 (x % 256) : Nat) : Int) * 256) = ((rev16 x : Nat) : Int) ∧ bits .and .u16 (x : Int) 255 = ((x % 256 : Nat) : Int) := by decide +kernel
set_option maxRecDepth 100000 in
set_option maxHeartbeats 2000000 in
theorem wreverse_any (x : Nat) (hx : x < 512) (w : World) : Calls Try.prog 67 #[.int .u16 (x : Int)] w fun e w' => e = .returned (.int .u16 ((rev16 x : Nat) : Int)) ∧ Below w.heap.size w w' := by
  obtain ⟨e3, e2⟩ := rev16_table x hx
  obtain ⟨a, ea⟩ : ∃ a, x / 256 = a := ⟨_, rfl⟩
  obtain ⟨b, eb⟩ : ∃ b, x % 256 = b := ⟨_, rfl⟩
  have e1 : (x : Int) / 256 = (a : Int) := by omega
  have ha : a < 256 := by omega
  have hb : b < 256 := by omega
  have hra : rev 8 a < 256 := rev_lt 8 a
  have hrb : rev 8 b < 256 := rev_lt 8 b
  rw [ea, eb] at e3
  rw [eb] at e2
  obtain ⟨z, ez⟩ : ∃ z, rev16 x = z := ⟨_, rfl⟩
  rw [ez] at e3 ⊢
  have ew : IntKind.u16.wrap (((rev 8 b : Nat) : Int) * 256) = ((rev 8 b : Nat) : Int) * 256 := by rw [IntKind.wrap_u16]; omega
  have HF : ∀ c, c < 256 → rev 8 c < 256 := fun c _ => rev_lt 8 c
  have hai : (a : Int) < 256 := by omega
  have hbi : (b : Int) < 256 := by omega
  have hTa := rev_at a
  have hTb := rev_at b
  clear ez
  go_enter Try.func67, Try.ntmps67
  go_wp2_with fail
  go_region
  go_wp2_with fail
  go_ret
  exact ⟨rfl, (Below.refl _ _).drew⟩
theorem rev_code_5 : ∀ x, x < 2 ^ 5 → rev16 x / 2 ^ 11 = rev 5 x := by decide +kernel
set_option maxRecDepth 100000 in
set_option maxHeartbeats 2000000 in
theorem wcode_5 (base B V T x : Nat) (w : World) (H : Wrt w base B V T) (hx : x < 2 ^ 5) (hT : T ≤ 1000000) :
    Calls Try.prog 53 #[.pointer (some ⟨B, 0, none⟩), .int .i64 (x : Int), .int .i64 5] w fun e w' => e = .returned (.tuple #[]) ∧ Wrt w' base B (V + rev 5 x * 2 ^ T) (T + 5) ∧ FrW B base w w' := by
  have HW := Lib.hid H
  have hBs := H.size
  have hx5 : x < 512 := by omega
  have hdv : ((rev16 x : Nat) : Int) / 2048 = ((rev 5 x : Nat) : Int) := by rw [← rev_code_5 x hx]; rfl
  have hr := rev_lt 5 x
  have hwx : IntKind.u16.wrap (x : Int) = (x : Int) := by rw [IntKind.wrap_u16]; omega
  have HREV := Lib.hid (fun W => wreverse_any x hx5 W)
  obtain ⟨y, ey⟩ : ∃ y, rev 5 x = y := ⟨_, rfl⟩
  obtain ⟨z, ez⟩ : ∃ z, rev16 x = z := ⟨_, rfl⟩
  rw [ey] at hr hdv ⊢
  rw [ez] at HREV hdv
  clear H ez ey hx
  go_enter Try.func53, Try.ntmps53
  go_wp2_with fail
  refine (HREV.out w).mono ?_
  rintro e w1 ⟨rfl, hb1⟩
  have HW1 := Lib.hid (HW.out.below hb1)
  have HB1 := Lib.hid hb1
  clear hb1 HW HREV
  go_wp2_with fail
  refine (wnumber_any base B V T y 5 w1 HW1.out hr (by omega) hT).mono ?_
  rintro e w2 ⟨rfl, H2, hb2⟩
  have HH := Lib.hid H2
  have HB2 := Lib.hid hb2
  clear H2 hb2
  go_wp2_with fail
  go_end0
  exact ⟨rfl, HH.out, (FrW.of (by omega) (by omega) HB1.out).trans HB2.out⟩
theorem rev_code_7 : ∀ x, x < 2 ^ 7 → rev16 x / 2 ^ 9 = rev 7 x := by decide +kernel
set_option maxRecDepth 100000 in
set_option maxHeartbeats 2000000 in
theorem wcode_7 (base B V T x : Nat) (w : World) (H : Wrt w base B V T) (hx : x < 2 ^ 7) (hT : T ≤ 1000000) :
    Calls Try.prog 53 #[.pointer (some ⟨B, 0, none⟩), .int .i64 (x : Int), .int .i64 7] w fun e w' => e = .returned (.tuple #[]) ∧ Wrt w' base B (V + rev 7 x * 2 ^ T) (T + 7) ∧ FrW B base w w' := by
  have HW := Lib.hid H
  have hBs := H.size
  have hx5 : x < 512 := by omega
  have hdv : ((rev16 x : Nat) : Int) / 512 = ((rev 7 x : Nat) : Int) := by rw [← rev_code_7 x hx]; rfl
  have hr := rev_lt 7 x
  have hwx : IntKind.u16.wrap (x : Int) = (x : Int) := by rw [IntKind.wrap_u16]; omega
  have HREV := Lib.hid (fun W => wreverse_any x hx5 W)
  obtain ⟨y, ey⟩ : ∃ y, rev 7 x = y := ⟨_, rfl⟩
  obtain ⟨z, ez⟩ : ∃ z, rev16 x = z := ⟨_, rfl⟩
  rw [ey] at hr hdv ⊢
  rw [ez] at HREV hdv
  clear H ez ey hx
  go_enter Try.func53, Try.ntmps53
  go_wp2_with fail
  refine (HREV.out w).mono ?_
  rintro e w1 ⟨rfl, hb1⟩
  have HW1 := Lib.hid (HW.out.below hb1)
  have HB1 := Lib.hid hb1
  clear hb1 HW HREV
  go_wp2_with fail
  refine (wnumber_any base B V T y 7 w1 HW1.out hr (by omega) hT).mono ?_
  rintro e w2 ⟨rfl, H2, hb2⟩
  have HH := Lib.hid H2
  have HB2 := Lib.hid hb2
  clear H2 hb2
  go_wp2_with fail
  go_end0
  exact ⟨rfl, HH.out, (FrW.of (by omega) (by omega) HB1.out).trans HB2.out⟩
theorem rev_code_8 : ∀ x, x < 2 ^ 8 → rev16 x / 2 ^ 8 = rev 8 x := by decide +kernel
set_option maxRecDepth 100000 in
set_option maxHeartbeats 2000000 in
theorem wcode_8 (base B V T x : Nat) (w : World) (H : Wrt w base B V T) (hx : x < 2 ^ 8) (hT : T ≤ 1000000) :
    Calls Try.prog 53 #[.pointer (some ⟨B, 0, none⟩), .int .i64 (x : Int), .int .i64 8] w fun e w' => e = .returned (.tuple #[]) ∧ Wrt w' base B (V + rev 8 x * 2 ^ T) (T + 8) ∧ FrW B base w w' := by
  have HW := Lib.hid H
  have hBs := H.size
  have hx5 : x < 512 := by omega
  have hdv : ((rev16 x : Nat) : Int) / 256 = ((rev 8 x : Nat) : Int) := by rw [← rev_code_8 x hx]; rfl
  have hr := rev_lt 8 x
  have hwx : IntKind.u16.wrap (x : Int) = (x : Int) := by rw [IntKind.wrap_u16]; omega
  have HREV := Lib.hid (fun W => wreverse_any x hx5 W)
  obtain ⟨y, ey⟩ : ∃ y, rev 8 x = y := ⟨_, rfl⟩
  obtain ⟨z, ez⟩ : ∃ z, rev16 x = z := ⟨_, rfl⟩
  rw [ey] at hr hdv ⊢
  rw [ez] at HREV hdv
  clear H ez ey hx
  go_enter Try.func53, Try.ntmps53
  go_wp2_with fail
  refine (HREV.out w).mono ?_
  rintro e w1 ⟨rfl, hb1⟩
  have HW1 := Lib.hid (HW.out.below hb1)
  have HB1 := Lib.hid hb1
  clear hb1 HW HREV
  go_wp2_with fail
  refine (wnumber_any base B V T y 8 w1 HW1.out hr (by omega) hT).mono ?_
  rintro e w2 ⟨rfl, H2, hb2⟩
  have HH := Lib.hid H2
  have HB2 := Lib.hid hb2
  clear H2 hb2
  go_wp2_with fail
  go_end0
  exact ⟨rfl, HH.out, (FrW.of (by omega) (by omega) HB1.out).trans HB2.out⟩
theorem rev_code_9 : ∀ x, x < 2 ^ 9 → rev16 x / 2 ^ 7 = rev 9 x := by decide +kernel
set_option maxRecDepth 100000 in
set_option maxHeartbeats 2000000 in
theorem wcode_9 (base B V T x : Nat) (w : World) (H : Wrt w base B V T) (hx : x < 2 ^ 9) (hT : T ≤ 1000000) :
    Calls Try.prog 53 #[.pointer (some ⟨B, 0, none⟩), .int .i64 (x : Int), .int .i64 9] w fun e w' => e = .returned (.tuple #[]) ∧ Wrt w' base B (V + rev 9 x * 2 ^ T) (T + 9) ∧ FrW B base w w' := by
  have HW := Lib.hid H
  have hBs := H.size
  have hx5 : x < 512 := by omega
  have hdv : ((rev16 x : Nat) : Int) / 128 = ((rev 9 x : Nat) : Int) := by rw [← rev_code_9 x hx]; rfl
  have hr := rev_lt 9 x
  have hwx : IntKind.u16.wrap (x : Int) = (x : Int) := by rw [IntKind.wrap_u16]; omega
  have HREV := Lib.hid (fun W => wreverse_any x hx5 W)
  obtain ⟨y, ey⟩ : ∃ y, rev 9 x = y := ⟨_, rfl⟩
  obtain ⟨z, ez⟩ : ∃ z, rev16 x = z := ⟨_, rfl⟩
  rw [ey] at hr hdv ⊢
  rw [ez] at HREV hdv
  clear H ez ey hx
  go_enter Try.func53, Try.ntmps53
  go_wp2_with fail
  refine (HREV.out w).mono ?_
  rintro e w1 ⟨rfl, hb1⟩
  have HW1 := Lib.hid (HW.out.below hb1)
  have HB1 := Lib.hid hb1
  clear hb1 HW HREV
  go_wp2_with fail
  refine (wnumber_any base B V T y 9 w1 HW1.out hr (by omega) hT).mono ?_
  rintro e w2 ⟨rfl, H2, hb2⟩
  have HH := Lib.hid H2
  have HB2 := Lib.hid hb2
  clear H2 hb2
  go_wp2_with fail
  go_end0
  exact ⟨rfl, HH.out, (FrW.of (by omega) (by omega) HB1.out).trans HB2.out⟩
end Go.Proofs.Yteaaoigeopekiaa
