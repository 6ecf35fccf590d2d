/- A byte is given; lengths and distances: the walks. -/
import Derived.Test.YtkminkeaeclanaaAppend
import Derived.Test.YtkminkeaeclanaaFixed
import Derived.Deep.RegionWith
import Derived.RegionTactic
namespace Go.Proofs.Ytkminkeaeclanaa
open Go.RowKit Plain
set_option linter.unusedVariables false
theorem leave_any {w0 : World} {Ob : Nat} {ba : Option Addr} {bn bc N most : Nat} (w : World) (p : Nat) (mv : Value) (made : List Int) (H : OutL 8 w0 Ob ba bn bc N most w p mv made) :
    Calls Try.prog 40 #[.pointer (some ⟨Ob, 0, none⟩)] w fun e w' => e = .returned (.tuple #[]) ∧ OutL 8 w0 Ob ba bn bc N most w' (8 * ((p + 7) / 8)) mv made ∧ Turn Ob mv mv w w' := by
  have HO := Lib.hid H
  obtain ⟨a, hd, l, hh, h1, h2, h3, h4, -⟩ := H
  obtain ⟨c0, c1, c2, c3, c4, c5⟩ := raw_cells hh
  have f2 := raw_free hh 2
  have f3 := raw_free hh 3
  have HH := Lib.hid hh
  clear hh h4
  go_enter Try.func40, Try.ntmps40
  go_wp2_with fail
  go_end0
  have hh2 : ((w.setCell ⟨Ob, 2, none⟩ (.int .u64 0)).setCell ⟨Ob, 3, none⟩ (.int .i64 0)).heap[Ob]? = some (.cells (cellsO ba bn bc a 0 0 mv most) 41 (0, 0)) :=
    heap_setCell_same _ Ob 3 _ _ _ (heap_setCell_same _ Ob 2 _ _ _ HH.out)
  exact ⟨rfl, HO.out.put (lim' := 8) (p' := 8 * ((p + 7) / 8)) a 0 0 (((OnlyAt.refl Ob w).set 2 _).set 3 _) hh2 (by omega) (by omega) h3 (by simp [Nat.mod_one])⟩
set_option maxRecDepth 100000 in
set_option maxHeartbeats 4000000 in
theorem give_any {w0 : World} {Ob : Nat} {ba : Option Addr} {bn bc N most : Nat} (hmost : most ≤ 1000000000) (w : World) (p : Nat) (mv : Value) (made : List Int) (H : OutL 8 w0 Ob ba bn bc N most w p mv made) (x : Nat) (hx : x ≤ 255) :
    Calls Try.prog 41 #[.pointer (some ⟨Ob, 0, none⟩), .int .u8 (x : Int)] w fun e w' => (made.length < most ∧ e = .returned (.tuple #[]) ∧ ∃ mv', OutL 8 w0 Ob ba bn bc N most w' p mv' (made ++ [(x : Int)]) ∧ Turn Ob mv mv' w w') ∨ (most ≤ made.length ∧ e = thrown 2 ∧ Turn Ob mv mv w w') := by
  have HO := Lib.hid H
  obtain ⟨a, hd, l, hh, h1, h2, h3, h4, hmid, hO, hbel, hge, hlen, hr⟩ := H
  obtain ⟨va, vc, rfl, -, -, -⟩ := hmid.shape
  have HMID := Lib.hid hmid
  have HR := Lib.hid hr
  have HH := Lib.hid hh
  obtain ⟨n, hn⟩ : ∃ n, made.length = n := ⟨_, rfl⟩
  have HN := Lib.hid hn
  rw [hn] at hlen HMID HH hO HO
  have hsz := hbel.size
  clear hh h4 hr hmid hbel
  rw [hn]
  clear hn
  go_enter Try.func41, Try.ntmps41
  obtain ⟨c0, c1, c2, c3, c4, c5⟩ := raw_cells HH.out
  by_cases hlt : n < most
  · have hlti : ¬ (most : Int) ≤ (n : Int) := by omega
    go_wp2_with fail
    go_quiet (fail)
    have HTd : Hid (Below w.heap.size w (w.drewN nq)) := ⟨rfl, rfl, rfl, Nat.le_refl _, fun _ _ => rfl⟩
    have HOd : Hid (OutL 8 w0 Ob ba bn bc N most (w.drewN nq) p (.slice va n vc) made) := HO.out.below (below_drewN w nq)
    have HHd : Hid ((w.drewN nq).heap[Ob]? = some (.cells (cellsO ba bn bc a hd l (.slice va n vc) most) 41 (0, 0))) := HH.out
    have HMd : Hid (Mid (w.drewN nq) w0.heap.size (.slice va n vc) n made) := HMID.out
    have hsz2 : w0.heap.size ≤ (w.drewN nq).heap.size := hsz
    clear c0 c1 c2 c3 c4 c5
    generalize w.drewN nq = wz at *
    obtain ⟨c0, c1, c2, c3, c4, c5⟩ := raw_cells HHd.out
    have HB4 : Hid (Below wz.heap.size wz (wz.alloc (.cells #[.int .u8 (x : Int)] 5))) := (Below.refl _ _).alloc (Nat.le_refl _) _
    have tok : True := trivial
    go_wp2_with (
      have _t := tok
      at_builtin
      refine wpList_append_mid rfl _ _ 22 rfl w0.heap.size (.slice va n vc) n made rfl (HMd.out.below HB4.out) _ 1 [(x : Int)] rfl (src_bytes (Bytes.lit wz wz.heap.size rfl [(x : Int)] 5 (0, 0) 1 rfl (by omega) (by intro y hy; simp at hy; omega))) (by omega) (by simp; omega) ?_
      intro v5 w5 hm5 hg5 ho5
      have HM5 := Lib.hid hm5
      have HG5 := Lib.hid hg5
      have HO5 := Lib.hid ho5
      clear tok hm5 hg5 ho5
      refine Hid.out ?_)
    refine unhid ?_
    have hnew := HOd.out.grow HB4.out HG5.out (v2 := v5) (m2 := made ++ [(x : Int)]) (by rw [List.length_append, HN.out]; exact HM5.out) HO5.out (by rw [List.length_append, HN.out]; simp; omega) (fun y hy => by
      rcases List.mem_append.1 hy with h | h
      · exact HR.out y h
      · rw [List.mem_singleton] at h; omega)
    obtain ⟨d5, e5, hv5, -⟩ := HM5.out.shape
    have hh5 := hnew.1.trans HHd.out
    obtain ⟨k0, k1, k2, k3, k4, k5⟩ := raw_cells hh5
    have kf := raw_free hh5 4
    subst hv5
    have HNW := Lib.hid hnew.2
    clear hnew hh5 c0 c1 c2 c3 c4 c5
    go_wp2_with fail
    go_end0
    exact .inl ⟨hlt, rfl, _, HNW.out.1, HNW.out.2.after HTd.out⟩
  · have hlti : (most : Int) ≤ (n : Int) := by omega
    go_wp2_with fail
    go_quiet (fail)
    have HTd : Hid (Turn Ob (.slice va n vc) (.slice va n vc) w (w.drewN nq)) := (Turn.refl _ _ _).drewN nq
    clear c0 c1 c2 c3 c4 c5
    generalize w.drewN nq = wz at *
    go_wp2_with fail
    refine (with_any 2 wz).mono ?_
    rintro e w2 ⟨rfl, rfl⟩
    dsimp only [thrown]
    go_wp2_with fail
    exact ⟨rfl, .inr ⟨by omega, rfl, HTd.out⟩⟩
end Go.Proofs.Ytkminkeaeclanaa
