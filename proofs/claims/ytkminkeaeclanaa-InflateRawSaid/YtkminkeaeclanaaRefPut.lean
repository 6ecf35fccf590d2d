/- The document's unpacking: a byte is put. -/
import Derived.Test.YtkminkeaeclanaaRefState
import Derived.Test.YtkminkeaeclanaaGive
namespace Go.Proofs.Ytkminkeaeclanaa
open Go.RowKit Plain
set_option linter.unusedVariables false
section
variable {w0 : World} {Sb : Nat} {ba : Option Addr} {bn bc : Nat} {M : Int} {N : Nat} {bs : List Int}
def PutR (w0 : World) (Sb : Nat) (ba : Option Addr) (bn bc : Nat) (M : Int) (w : World) (p bad : Nat) (mv : Value) (made : List Int) (x : Nat) (e : Ending) (w' : World) : Prop :=
  e = .returned (.tuple #[]) ∧ ∃ (b' : Nat) (mv' : Value) (made' : List Int), RL w0 Sb ba bn bc M w' p b' mv' made' ∧ Turn Sb mv mv' w w' ∧ Tr bad (giveN M.toNat made (x : Int)) b' made'
set_option maxRecDepth 100000 in
set_option maxHeartbeats 4000000 in
theorem rput (HS : SrcW w0 ba bn M N bs) (w : World) (p bad : Nat) (mv : Value) (made : List Int) (H : RL w0 Sb ba bn bc M w p bad mv made) (x : Nat) (hx : x ≤ 255) :
    Calls Try.prog 22 #[.pointer (some ⟨Sb, 0, none⟩), .int .u8 (x : Int)] w (PutR w0 Sb ba bn bc M w p bad mv made x) := by
  have HO := Lib.hid H
  obtain ⟨hrs, hp, hmid, hO, hbel, hge, hlen, hr⟩ := H
  obtain ⟨va, vc, rfl, -, -, -⟩ := hmid.shape
  have HMID := Lib.hid hmid
  have HR := Lib.hid hr
  have HRS := Lib.hid hrs
  have hM := HS.most
  obtain ⟨n, hn⟩ : ∃ n, made.length = n := ⟨_, rfl⟩
  have HN := Lib.hid hn
  rw [hn] at hlen HMID HRS hO HO
  have hn9 : n ≤ 1000000000 := by omega
  have hsz := hbel.size
  clear hrs hr hmid hbel HS
  rw [hn]
  clear hn
  obtain ⟨c0, c1, c2, c3, c4⟩ := rs_cells HRS.out
  by_cases hb : bad = 0
  · subst hb
    by_cases hlt : (n : Int) < M
    · have hlti : ¬ M ≤ (n : Int) := by omega
      have HLT : Hid (n < M.toNat) := by show _ < _; omega
      clear hlen
      go_enter Try.func22, Try.ntmps22
      go_wp2_with fail
      go_quiet (fail)
      have HTd : Hid (Below w.heap.size w (w.drewN nq)) := ⟨rfl, rfl, rfl, Nat.le_refl _, fun _ _ => rfl⟩
      have HOd : Hid (RL w0 Sb ba bn bc M (w.drewN nq) p 0 (.slice va n vc) made) := HO.out.below (below_drewN w nq)
      have HHd : Hid (RS (w.drewN nq) Sb ba bn bc p (.slice va n vc) M 0) := HRS.out
      have HMd : Hid (Mid (w.drewN nq) w0.heap.size (.slice va n vc) n made) := HMID.out
      have hsz2 : w0.heap.size ≤ (w.drewN nq).heap.size := hsz
      clear c0 c1 c2 c3 c4
      generalize w.drewN nq = wz at *
      obtain ⟨c0, c1, c2, c3, c4⟩ := rs_cells HHd.out
      have HB4 : Hid (Below wz.heap.size wz (wz.alloc (.cells #[.int .u8 (x : Int)] 5))) := (Below.refl _ _).alloc (Nat.le_refl _) _
      have tok : True := trivial
      go_wp2_with (
        have _t := tok
        at_builtin
        refine wpList_append_mid rfl _ _ 22 rfl w0.heap.size (.slice va n vc) n made rfl (HMd.out.below HB4.out) _ 1 [(x : Int)] rfl (src_bytes (Bytes.lit wz wz.heap.size rfl [(x : Int)] 5 (0, 0) 1 rfl (by omega) (by intro y hy; simp at hy; omega))) (by omega) (by simp; omega) ?_
        intro v5 w5 hm5 hg5 ho5
        have HM5 := Lib.hid hm5
        have HG5 := Lib.hid hg5
        have HO5 := Lib.hid ho5
        clear tok hm5 hg5 ho5
        refine Hid.out ?_)
      refine unhid ?_
      have hnew := HOd.out.grow HB4.out HG5.out (v2 := v5) (m2 := made ++ [(x : Int)]) (by rw [List.length_append, HN.out]; exact HM5.out) HO5.out (by rw [List.length_append, HN.out]; have := HLT.out; simp; omega) (fun y hy => by
        rcases List.mem_append.1 hy with h | h
        · exact HR.out y h
        · rw [List.mem_singleton] at h; omega)
      obtain ⟨d5, e5, hv5, -⟩ := HM5.out.shape
      have hh5 : RS w5 Sb ba bn bc p (.slice va n vc) M 0 := hnew.1.trans HHd.out
      obtain ⟨k0, k1, k2, k3, k4⟩ := rs_cells hh5
      have kf := rs_free hh5 2
      subst hv5
      have HNW := Lib.hid hnew.2
      clear hnew hh5 c0 c1 c2 c3 c4
      go_wp2_with fail
      go_end0
      refine ⟨rfl, 0, _, _, HNW.out.1, HNW.out.2.after HTd.out, fun _ => .inl ⟨rfl, ?_⟩, fun h => absurd rfl h⟩
      unfold giveN
      rw [if_neg (by have := HLT.out; rw [HN.out]; omega)]
    · have hlti : M ≤ (n : Int) := by omega
      go_enter Try.func22, Try.ntmps22
      go_wp2_with fail
      go_quiet (fail)
      have HTd : Hid (Turn Sb (.slice va n vc) (.slice va n vc) w (w.drewN nq)) := (Turn.refl _ _ _).drewN nq
      have HOd : Hid (RL w0 Sb ba bn bc M (w.drewN nq) p 0 (.slice va n vc) made) := HO.out.below (below_drewN w nq)
      clear c0 c1 c2 c3 c4 HRS HMID HO
      generalize w.drewN nq = wz at *
      go_wp2_with fail
      refine (rstop wz p 0 (.slice va n vc) made 2 HOd.out).mono ?_
      rw [if_pos rfl]
      rintro e w2 ⟨rfl, h1, h2⟩
      have H1 := Lib.hid h1
      have H2 : Hid (Turn Sb (.slice va n vc) (.slice va n vc) w w2) := HTd.out.trans h2
      obtain ⟨c0, c1, c2, c3, c4⟩ := rs_cells h1.1
      clear h1 h2
      go_wp2_with fail
      go_end0
      refine ⟨rfl, 2, _, _, H1.out, H2.out, fun _ => .inr ⟨by omega, ?_⟩, fun h => absurd rfl h⟩
      unfold giveN
      rw [if_pos (by rw [HN.out]; omega)]
  · have hbi : ((bad : Int) == 0) = false := by simp; omega
    have hbj : ¬ ((bad : Int) = 0) := by omega
    go_enter Try.func22, Try.ntmps22
    go_wp2_with fail
    go_quiet (fail)
    have HTd : Hid (Turn Sb (.slice va n vc) (.slice va n vc) w (w.drewN nq)) := (Turn.refl _ _ _).drewN nq
    have HOd : Hid (RL w0 Sb ba bn bc M (w.drewN nq) p bad (.slice va n vc) made) := HO.out.below (below_drewN w nq)
    clear c0 c1 c2 c3 c4 HRS HMID HO
    generalize w.drewN nq = wz at *
    obtain ⟨c0, c1, c2, c3, c4⟩ := rs_cells HOd.out.1
    go_wp2_with fail
    go_end0
    exact ⟨rfl, bad, _, _, HOd.out, HTd.out, Tr.dead hb _ _⟩
end
end Go.Proofs.Ytkminkeaeclanaa
