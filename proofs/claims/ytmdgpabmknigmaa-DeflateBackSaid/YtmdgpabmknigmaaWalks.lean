/- The chapter's examples of packing. -/
import Derived.Test.YtmdgpabmknigmaaPck
namespace Go.Proofs.Ytmdgpabmknigmaa
open Go.RowKit
set_option linter.unusedVariables false

theorem storedLen_any (a : Option Addr) (len cap : Nat) (xs : List Int) (w : World) (hlc : len ≤ cap) (hl : len ≤ 1000000) (hcm : cap ≤ 9223372036854775807) (hnil : a = none → cap = 0) (H : Bytes w a len xs) (m : Nat) (em : max 1 (((len : Int) + 65535 - 1) / 65535) = (m : Int)) :
    Calls Try.prog 28 #[.slice a len cap] w fun e w' => (∃ a' c, e = .returned (.slice a' (len + 5 * m) c)) ∧ Below w.heap.size w w' := by
  by_cases h0 : 0 < len
  · refine (stored_some a len cap xs w h0 hlc hl hcm hnil H m em).mono ?_
    rintro e w' ⟨⟨a', c, h1, h2⟩, h3⟩
    exact ⟨⟨a', c, h1⟩, h3⟩
  · obtain rfl : len = 0 := by omega
    obtain rfl : m = 1 := by omega
    refine (stored_zero a cap w hnil).mono ?_
    rintro e w' ⟨⟨a', c, h1, h2⟩, h3⟩
    exact ⟨⟨a', c, h1⟩, h3⟩
theorem stored_a (w : World) (g : Nat) (hg : g = w.heap.size) : Calls Try.prog 28 #[.slice (some ⟨g, 0, none⟩) 1 1] (w.alloc (.cells #[.int .u8 97] 5 (1, 2))) fun e w' =>
    (∃ a' c, e = .returned (.slice a' 6 c) ∧ (∀ cc, (convert 22 9 (.slice a' 6 cc)).run Try.prog w' = .ok (.string ⟨#[1, 1, 0, 254, 255, 97]⟩) w')) ∧ Below w.heap.size w w' := by
  have hb : Below w.heap.size w (w.alloc (.cells #[.int .u8 97] 5 (1, 2))) := (Below.refl _ _).alloc (Nat.le_refl _) _
  refine (stored_some (some ⟨g, 0, none⟩) 1 1 [97] _ (by omega) (by omega) (by omega) (by omega) (fun e => by cases e) (Bytes.lit w g hg [97] 5 (1, 2) 1 rfl (by omega) (by decide)) 1 (by decide)).mono ?_
  rintro e w' ⟨⟨a', c, rfl, hB, -⟩, h3⟩
  refine ⟨⟨a', c, rfl, fun cc => ?_⟩, hb.trans (h3.mono hb.size)⟩
  rw [text_run w' a' 6 cc _ hB, show cont [97] 1 1 = [1, 1, 0, 254, 255, 97] by decide +kernel]
  rfl
theorem stored_n (w : World) : Calls Try.prog 28 #[.slice none 0 0] w fun e w' =>
    (∃ a' c, e = .returned (.slice a' 5 c) ∧ (∀ cc, (convert 22 9 (.slice a' 5 cc)).run Try.prog w' = .ok (.string ⟨#[1, 0, 0, 255, 255]⟩) w')) ∧ Below w.heap.size w w' := by
  refine (stored_zero none 0 w (fun _ => rfl)).mono ?_
  rintro e w' ⟨⟨a', c, rfl, hB, -⟩, h3⟩
  refine ⟨⟨a', c, rfl, fun cc => ?_⟩, h3⟩
  rw [text_run w' a' 5 cc _ hB, show hdr 1 0 = [1, 0, 0, 255, 255] by decide +kernel]
  rfl
theorem known_any (w : World) : Calls Try.prog 14 #[] w fun e w' => e = .returned (.bool true) ∧ Below w.heap.size w w' := by
  have hcv := fun (w : World) (C : Array Value) (n c g : Nat) (hg : g = w.heap.size) => Joins.run_convert_bytes_const_at (P := Try.prog) w 22 5 C n c g hg Try.underlying22 Try.underlying5
  go_enter Try.func14, Try.ntmps14
  go_wp2_with fail
  refine (stored_a w _ rfl).mono ?_
  rintro e w1 ⟨⟨a1, c1, rfl, ht1⟩, hb1⟩
  have hs1 := ht1 c1
  clear ht1
  go_wp2_with fail
  refine (stored_n w1).mono ?_
  rintro e w2 ⟨⟨a2, c2, rfl, ht2⟩, hb2⟩
  have hs2 := ht2 c2
  clear ht2
  go_wp2_with fail
  refine (raw_nil w2).mono ?_
  rintro e w3 ⟨⟨a3, c3, rfl⟩, hb3⟩
  go_wp2_with fail
  go_ret
  exact ⟨rfl, (hb1.trans (hb2.mono hb1.size)).trans (hb3.mono (Nat.le_trans hb1.size hb2.size))⟩
end Go.Proofs.Ytmdgpabmknigmaa
