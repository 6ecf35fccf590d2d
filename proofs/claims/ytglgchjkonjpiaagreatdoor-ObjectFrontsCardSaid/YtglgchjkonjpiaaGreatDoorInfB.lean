/- Lengths and distances of copies: the walks. -/
import Derived.Test.YtglgchjkonjpiaaGreatDoorInfA
import Derived.Deep.RegionHeld3
import Derived.Test.YtglgchjkonjpiaaGreatDoorBase
/-! Lengths and distances of copies: the walks. -/
namespace Go.Proofs.YtglgchjkonjpiaaGreatDoor
open Go.RowKit Plain
set_option linter.unusedVariables false
theorem number_ok {w0 : World} {Ob : Nat} {ba : Option Addr} {bn bc N most : Nat} {bs : List Int} (HS : SrcB w0 ba bn bc N most bs) (w : World) (p : Nat) (mv : Value) (made : List Int) (H : OutL 8 w0 Ob ba bn bc N most w p mv made) (n : Nat) (hn : n ≤ 16) (x q : Nat) (h : num N (8 * bn) p n = .ok (x, q)) :
    Calls Tryz.prog 69 #[.pointer (some ⟨Ob, 0, none⟩), .int .i64 (n : Int)] w fun e w' => e = .returned (.int .i64 (x : Int)) ∧ Turn Ob mv mv w w' ∧ OutL 8 w0 Ob ba bn bc N most w' q mv made :=
  (number_any HS w p mv made H n hn).mono fun e w' hg => by
    obtain ⟨x', q', hr, he, ht, ho⟩ | ⟨k, hr, -⟩ := hg.lift
    · rw [h] at hr; injection hr with hr; injection hr with e1 e2; subst e1 e2; exact ⟨he, ht, ho⟩
    · rw [h] at hr; cases hr
theorem number_err {w0 : World} {Ob : Nat} {ba : Option Addr} {bn bc N most : Nat} {bs : List Int} (HS : SrcB w0 ba bn bc N most bs) (w : World) (p : Nat) (mv : Value) (made : List Int) (H : OutL 8 w0 Ob ba bn bc N most w p mv made) (n : Nat) (hn : n ≤ 16) (k : Nat) (h : num N (8 * bn) p n = .error k) :
    Calls Tryz.prog 69 #[.pointer (some ⟨Ob, 0, none⟩), .int .i64 (n : Int)] w fun e w' => e = .panicked [{ v := .iface 126 (.agg #[.int .i64 (k : Int)]), recovered := false }] ∧ Turn Ob mv mv w w' :=
  (number_any HS w p mv made H n hn).mono fun e w' hg => by
    obtain ⟨x', q', hr, -⟩ | ⟨k', hr, he, ht⟩ := hg.lift
    · rw [h] at hr; cases hr
    · rw [h] at hr; injection hr with hr; subst hr; exact ⟨he, ht⟩
def ViaO (A : Act) (R : World → Prop) : Exit → Act → World → Prop
  | .normal, a, w => a = A ∧ R w
  | _, _, _ => False
theorem wp_via_o {P : Program} {c : Code} {Q : Exit → Act → World → Prop} {a : Act} {w : World} {Ob : Nat} {R : World → Prop} (A : Act) (h1 : c.wp P (ViaO A R) a w) (h2 : ∀ W, R W → Q .normal A W) : c.wp P Q a w := by
  refine wp_mono h1 fun e a' w' h => ?_
  cases e with
  | normal =>
    obtain ⟨ha, hr⟩ := h
    subst ha
    exact h2 w' hr
  | _ => exact h.elim
/-- A piece that panics so. -/
def PanicPost (chain : List PanicEntry) (R : World → Prop) : Exit → Act → World → Prop
  | .panic ch, a, w => ch = chain ∧ a.defers = [] ∧ R w
  | _, _, _ => False
theorem panicPost_put {chain ch : List PanicEntry} {R : World → Prop} {a : Act} {d : Option Tmp} {v : Value} {w : World} (h : PanicPost chain R (.panic ch) (a.put d v) w) : PanicPost chain R (.panic ch) a w := by
  obtain ⟨h1, h2, h3⟩ := h
  exact ⟨h1, by cases d <;> exact h2, h3⟩
theorem wp_panics {P : Program} {c : Code} {Q : Exit → Act → World → Prop} {a : Act} {w : World} (chain : List PanicEntry) (R : World → Prop) (h1 : c.wp P (PanicPost chain R) a w) (h2 : ∀ (a' : Act) (W : World), a'.defers = [] → R W → Q (.panic chain) a' W) : c.wp P Q a w := by
  refine wp_mono h1 fun e a' w' h => ?_
  cases e with
  | panic ch =>
    obtain ⟨rfl, hd, hr⟩ := h
    exact h2 a' w' hd hr
  | _ => exact h.elim
set_option maxRecDepth 100000 in
set_option maxHeartbeats 8000000 in
theorem length_any {w0 : World} {Ob : Nat} {ba : Option Addr} {bn bc N most : Nat} {bs : List Int} (HS : SrcB w0 ba bn bc N most bs) (w : World) (p : Nat) (mv : Value) (made : List Int) (H : OutL 8 w0 Ob ba bn bc N most w p mv made) (s : Nat) (hs1 : 257 ≤ s) (hs2 : s ≤ 285) :
    Calls Tryz.prog 108 #[.pointer (some ⟨Ob, 0, none⟩), .int .i64 (s : Int)] w (Got w0 Ob ba bn bc N most w mv made (lengthN N (8 * bn) p s)) := by
  have HSS := Lib.hid HS
  have HO := Lib.hid H
  clear HS H
  by_cases h1 : s ≤ 264
  · have h1i : (s : Int) ≤ 264 := by omega
    go_enter Tryz.func108, Tryz.ntmps108
    go_wp2_with fail
    go_ret
    refine ⟨Turn.refl _ _ _, .inl ⟨s - 254, p, by unfold lengthN; rw [if_pos h1], congrArg (fun z => Ending.returned (.int .i64 z)) (by omega), HO.out⟩⟩
  · by_cases h2 : s = 285
    · subst h2
      go_enter Tryz.func108, Tryz.ntmps108
      go_wp2_with fail
      go_ret
      exact ⟨Turn.refl _ _ _, .inl ⟨258, p, rfl, rfl, HO.out⟩⟩
    · obtain ⟨f, hf⟩ : ∃ f, (s - 261) / 4 = f := ⟨_, rfl⟩
      obtain ⟨g, hg⟩ : ∃ g, (4 + (s - 261) % 4) * 2 ^ f = g := ⟨_, rfl⟩
      have hf5 : f ≤ 5 := by omega
      have hg2 : g ≤ 224 := by
        have h3 := Nat.pow_le_pow_right (n := 2) (by omega) hf5
        have h4 := Nat.mul_le_mul (show 4 + (s - 261) % 4 ≤ 7 by omega) h3
        omega
      have h1i : ¬ (s : Int) ≤ 264 := by omega
      have h2i : ((s : Int) == 285) = false := by simp; omega
      have hsi : (s : Int) ≤ 284 := by omega
      have hsj : (265 : Int) ≤ s := by omega
      have HF := Lib.hid hf
      have HG := Lib.hid hg
      obtain ⟨k, hk, hs⟩ : ∃ k : Nat, s - 261 = k ∧ (s : Int) - 261 = (k : Int) := ⟨s - 261, rfl, by omega⟩
      obtain ⟨m, hm⟩ : ∃ m, k % 4 = m := ⟨_, rfl⟩
      have hmul : (4 + (m : Int)) * 2 ^ f = (g : Int) := by rw [← hg, hk, hm]; simp
      have hfi : (k : Int) / 4 = (f : Int) := by omega
      have hr0 : IntKind.i64.wrap (k : Int) = (k : Int) := IntWalk.i64_in _ (by omega)
      have hr1 : IntKind.i64.wrap ((s : Int) - 261) = (k : Int) := by rw [hs]; exact hr0
      have hr2 : (k : Int).tmod 4 = (m : Int) := by rw [Int.tmod_eq_emod_of_nonneg (by omega)]; omega
      have hr3 : IntKind.i64.wrap (4 + (m : Int)) = 4 + (m : Int) := IntWalk.i64_in _ (by omega)
      have hr4 : IntKind.i64.wrap (3 + (g : Int)) = 3 + (g : Int) := IntWalk.i64_in _ (by omega)
      have hr5 : IntKind.i64.wrap (g : Int) = (g : Int) := IntWalk.i64_in _ (by omega)
      clear hf hg hk hm
      cases hr : num N (8 * bn) p f with
      | ok v =>
        obtain ⟨x, q⟩ := v
        have hx5 : x ≤ 31 := by
          have := (num_ok hr).1
          have h3 := Nat.pow_le_pow_right (n := 2) (by omega) hf5
          omega
        have HR := Lib.hid hr
        have HCALL : Hid (∀ W, Below w.heap.size w W → Calls Tryz.prog 69 #[.pointer (some ⟨Ob, 0, none⟩), .int .i64 (f : Int)] W fun e w' => e = .returned (.int .i64 (x : Int)) ∧ Turn Ob mv mv W w' ∧ OutL 8 w0 Ob ba bn bc N most w' q mv made) :=
          fun W hW => number_ok HSS.out W p mv made (HO.out.below hW) f (by omega) x q hr
        have hr6 : IntKind.i64.wrap (3 + (g : Int) + (x : Int)) = 3 + (g : Int) + (x : Int) := IntWalk.i64_in _ (by omega)
        clear hr
        go_enter Tryz.func108, Tryz.ntmps108
        go_wp2_with fail
        apply wp_via_o (Ob := Ob) (R := fun W => Turn Ob mv mv w W ∧ OutL 8 w0 Ob ba bn bc N most W q mv made)
        · go_region_with (go_at_call 69; refine (HCALL.out _ ((Below.refl _ _).drew)).mono ?_; rintro e w9 ⟨rfl, ht, ho⟩; have HT := Lib.hid ht; have HO9 := Lib.hid ho; clear ht ho)
          exact ⟨rfl, HT.out.after ((Below.refl _ _).drew), HO9.out⟩
        rintro w9 ⟨ht, ho⟩
        have HT := Lib.hid ht
        have HO9 := Lib.hid ho
        clear ht ho
        go_wp2_with fail
        go_ret
        refine ⟨HT.out, .inl ⟨3 + g + x, q, by unfold lengthN; rw [if_neg h1, if_neg h2, HF.out, HG.out, HR.out], ?_, HO9.out⟩⟩
        exact congrArg (fun z => Ending.returned (.int .i64 z)) (by omega)
      | error er =>
        have HR := Lib.hid hr
        have HCALL : Hid (∀ W, Below w.heap.size w W → Calls Tryz.prog 69 #[.pointer (some ⟨Ob, 0, none⟩), .int .i64 (f : Int)] W fun e w' => e = .panicked [{ v := .iface 126 (.agg #[.int .i64 (er : Int)]), recovered := false }] ∧ Turn Ob mv mv W w') :=
          fun W hW => number_err HSS.out W p mv made (HO.out.below hW) f (by omega) er hr
        clear hr
        go_enter Tryz.func108, Tryz.ntmps108
        go_wp2_with fail
        refine wp_panics [{ v := .iface 126 (.agg #[.int .i64 (er : Int)]), recovered := false }] (fun W => Turn Ob mv mv w W) ?_ (fun a' W hdf ht => ⟨hdf, ht, .inr ⟨er, by unfold lengthN; rw [if_neg h1, if_neg h2, HF.out, HR.out], rfl⟩⟩)
        refine wp_region_held_drew (S := fun W => Below w.heap.size w W) (by kernel_rfl) ?_ (fun hHeld => ?_)
        · exact (Below.refl _ _).drew
        refine wpAnyH_take (i := 0) (v := ?_) (by simp only [List.getElem?_toArray, List.getElem?_cons_zero]; rfl) (by kernel_rfl) (by kernel_rfl) (by kernel_rfl) (fun _ _ _ h => panicPost_put h) (Or.inl ⟨by rfl, ?_⟩) (by assumption) ?_
        rotate_left
        · intro W hSW
          go_simp
          try with_reducible rfl
        try simp only [Act.put, List.setIfInBounds_toArray, List.set_cons_zero, List.set_cons_succ]
        refine wpAnyH_take (i := 1) (v := ?_) (by simp only [List.getElem?_toArray, List.getElem?_cons_succ, List.getElem?_cons_zero]; rfl) (by kernel_rfl) (by kernel_rfl) (by kernel_rfl) (fun _ _ _ h => panicPost_put h) (Or.inl ⟨by rfl, ?_⟩) (by assumption) ?_
        rotate_left
        · intro W hSW
          go_simp
          try with_reducible rfl
        try simp only [Act.put, List.setIfInBounds_toArray, List.set_cons_zero, List.set_cons_succ]
        refine wpAnyH_take (i := 2) (v := ?_) (by simp only [List.getElem?_toArray, List.getElem?_cons_succ, List.getElem?_cons_zero]; rfl) (by kernel_rfl) (by kernel_rfl) (by kernel_rfl) (fun _ _ _ h => panicPost_put h) (Or.inl ⟨by rfl, ?_⟩) (by assumption) ?_
        rotate_left
        · intro W hSW
          go_simp
          try with_reducible rfl
        try simp only [Act.put, List.setIfInBounds_toArray, List.set_cons_zero, List.set_cons_succ]
        refine wpAnyH_take (i := 3) (v := ?_) (by simp only [List.getElem?_toArray, List.getElem?_cons_succ, List.getElem?_cons_zero]; rfl) (by kernel_rfl) (by kernel_rfl) (by kernel_rfl) (fun _ _ _ h => panicPost_put h) (Or.inl ⟨by rfl, ?_⟩) (by assumption) ?_
        rotate_left
        · intro W hSW
          go_simp
          try with_reducible rfl
        try simp only [Act.put, List.setIfInBounds_toArray, List.set_cons_zero, List.set_cons_succ]
        refine wpAnyH_take (i := 4) (v := ?_) (by simp only [List.getElem?_toArray, List.getElem?_cons_succ, List.getElem?_cons_zero]; rfl) (by kernel_rfl) (by kernel_rfl) (by kernel_rfl) (fun _ _ _ h => panicPost_put h) (Or.inl ⟨by rfl, ?_⟩) (by assumption) ?_
        rotate_left
        · intro W hSW
          go_simp
          try with_reducible rfl
        try simp only [Act.put, List.setIfInBounds_toArray, List.set_cons_zero, List.set_cons_succ]
        refine wpAnyH_take (i := 5) (v := ?_) (by simp only [List.getElem?_toArray, List.getElem?_cons_succ, List.getElem?_cons_zero]; rfl) (by kernel_rfl) (by kernel_rfl) (by kernel_rfl) (fun _ _ _ h => panicPost_put h) (Or.inl ⟨by rfl, ?_⟩) (by assumption) ?_
        rotate_left
        · intro W hSW
          go_simp
          try with_reducible rfl
        try simp only [Act.put, List.setIfInBounds_toArray, List.set_cons_zero, List.set_cons_succ]
        refine wpAnyH_take (i := 6) (v := ?_) (by simp only [List.getElem?_toArray, List.getElem?_cons_succ, List.getElem?_cons_zero]; rfl) (by kernel_rfl) (by kernel_rfl) (by kernel_rfl) (fun _ _ _ h => panicPost_put h) (Or.inl ⟨by rfl, ?_⟩) (by assumption) ?_
        rotate_left
        · intro W hSW
          go_simp
          try with_reducible rfl
        try simp only [Act.put, List.setIfInBounds_toArray, List.set_cons_zero, List.set_cons_succ]
        refine wpAnyH_take (i := 7) (v := ?_) (by simp only [List.getElem?_toArray, List.getElem?_cons_succ, List.getElem?_cons_zero]; rfl) (by kernel_rfl) (by kernel_rfl) (by kernel_rfl) (fun _ _ _ h => panicPost_put h) (Or.inl ⟨by rfl, ?_⟩) (by assumption) ?_
        rotate_left
        · intro W hSW
          go_simp
          try with_reducible rfl
        try simp only [Act.put, List.setIfInBounds_toArray, List.set_cons_zero, List.set_cons_succ]
        refine wpAnyH_take (i := 8) (v := ?_) (by simp only [List.getElem?_toArray, List.getElem?_cons_succ, List.getElem?_cons_zero]; rfl) (by kernel_rfl) (by kernel_rfl) (by kernel_rfl) (fun _ _ _ h => panicPost_put h) (Or.inl ⟨by rfl, ?_⟩) (by assumption) ?_
        rotate_left
        · intro W hSW
          go_simp
          try with_reducible rfl
        try simp only [Act.put, List.setIfInBounds_toArray, List.set_cons_zero, List.set_cons_succ]
        refine wpAnyH_take (i := 9) (v := ?_) (by simp only [List.getElem?_toArray, List.getElem?_cons_succ, List.getElem?_cons_zero]; rfl) (by kernel_rfl) (by kernel_rfl) (by kernel_rfl) (fun _ _ _ h => panicPost_put h) (Or.inl ⟨by rfl, ?_⟩) (by assumption) ?_
        rotate_left
        · intro W hSW
          go_simp
          try with_reducible rfl
        try simp only [Act.put, List.setIfInBounds_toArray, List.set_cons_zero, List.set_cons_succ]
        refine wpAnyH_take (i := 10) (v := ?_) (by simp only [List.getElem?_toArray, List.getElem?_cons_succ, List.getElem?_cons_zero]; rfl) (by kernel_rfl) (by kernel_rfl) (by kernel_rfl) (fun _ _ _ h => panicPost_put h) (Or.inl ⟨by rfl, ?_⟩) (by assumption) ?_
        rotate_left
        · intro W hSW
          go_simp
          try with_reducible rfl
        try simp only [Act.put, List.setIfInBounds_toArray, List.set_cons_zero, List.set_cons_succ]
        refine wpAnyH_ready (rs := [11]) (by kernel_rfl) (by simp) ?_
        refine AllReadyH.cons (by simp only [List.getElem?_toArray, List.getElem?_cons_succ, List.getElem?_cons_zero]; rfl) (fun K hK => ?_) AllReadyH.nil
        go_simp
        refine (HCALL.out _ ((Below.refl _ _).drew)).mono ?_
        rintro e w9 ⟨rfl, ht⟩
        have HT := Lib.hid ht
        clear ht hK
        exact ⟨rfl, rfl, HT.out.after ((Below.refl _ _).drew)⟩
set_option maxRecDepth 100000 in
set_option maxHeartbeats 8000000 in
theorem distance_any {w0 : World} {Ob : Nat} {ba : Option Addr} {bn bc N most : Nat} {bs : List Int} (HS : SrcB w0 ba bn bc N most bs) (w : World) (p : Nat) (mv : Value) (made : List Int) (H : OutL 8 w0 Ob ba bn bc N most w p mv made) (s : Nat) (hs2 : s ≤ 100000) :
    Calls Tryz.prog 110 #[.pointer (some ⟨Ob, 0, none⟩), .int .i64 (s : Int)] w (Got w0 Ob ba bn bc N most w mv made (distN N (8 * bn) p s)) := by
  have HSS := Lib.hid HS
  have HO := Lib.hid H
  clear HS H
  by_cases h1 : 30 ≤ s
  · have h1i : (30 : Int) ≤ s := by omega
    go_enter Tryz.func110, Tryz.ntmps110
    go_wp2_with fail
    refine (with_any 4 w).mono ?_
    rintro e w2 ⟨rfl, rfl⟩
    dsimp only [thrown]
    go_wp2_with fail
    exact ⟨rfl, Turn.refl _ _ _, .inr ⟨4, by unfold distN; rw [if_pos h1], rfl⟩⟩
  · have h1i : ¬ (30 : Int) ≤ s := by omega
    by_cases h2 : s ≤ 3
    · have h2i : (s : Int) ≤ 3 := by omega
      go_enter Tryz.func110, Tryz.ntmps110
      go_wp2_with fail
      go_ret
      refine ⟨Turn.refl _ _ _, .inl ⟨s + 1, p, by unfold distN; rw [if_neg h1, if_pos h2], ?_, HO.out⟩⟩
      exact congrArg (fun z => Ending.returned (.int .i64 z)) (by omega)
    · obtain ⟨f, hf⟩ : ∃ f, (s - 2) / 2 = f := ⟨_, rfl⟩
      obtain ⟨g, hg⟩ : ∃ g, (2 + s % 2) * 2 ^ f = g := ⟨_, rfl⟩
      have hf5 : f ≤ 13 := by omega
      have hg2 : g ≤ 24576 := by
        have h3 := Nat.pow_le_pow_right (n := 2) (by omega) hf5
        have h4 := Nat.mul_le_mul (show 2 + s % 2 ≤ 3 by omega) h3
        omega
      have h2i : ¬ (s : Int) ≤ 3 := by omega
      have HF := Lib.hid hf
      have HG := Lib.hid hg
      obtain ⟨k, hk, hs⟩ : ∃ k : Nat, s - 2 = k ∧ (s : Int) - 2 = (k : Int) := ⟨s - 2, rfl, by omega⟩
      obtain ⟨m, hm⟩ : ∃ m, s % 2 = m := ⟨_, rfl⟩
      have hmul : (2 + (m : Int)) * 2 ^ f = (g : Int) := by rw [← hg, hm]; simp
      have hfi : (k : Int) / 2 = (f : Int) := by omega
      have hr2 : (s : Int).tmod 2 = (m : Int) := by rw [Int.tmod_eq_emod_of_nonneg (by omega)]; omega
      have hr3 : IntKind.i64.wrap (2 + (m : Int)) = 2 + (m : Int) := IntWalk.i64_in _ (by omega)
      have hr4 : IntKind.i64.wrap (1 + (g : Int)) = 1 + (g : Int) := IntWalk.i64_in _ (by omega)
      have hr5 : IntKind.i64.wrap (g : Int) = (g : Int) := IntWalk.i64_in _ (by omega)
      clear hf hg hk hm
      cases hr : num N (8 * bn) p f with
      | ok v =>
        obtain ⟨x, q⟩ := v
        have hx5 : x ≤ 8191 := by
          have := (num_ok hr).1
          have h3 := Nat.pow_le_pow_right (n := 2) (by omega) hf5
          omega
        have HR := Lib.hid hr
        have HCALL : Hid (∀ W, Below w.heap.size w W → Calls Tryz.prog 69 #[.pointer (some ⟨Ob, 0, none⟩), .int .i64 (f : Int)] W fun e w' => e = .returned (.int .i64 (x : Int)) ∧ Turn Ob mv mv W w' ∧ OutL 8 w0 Ob ba bn bc N most w' q mv made) :=
          fun W hW => number_ok HSS.out W p mv made (HO.out.below hW) f (by omega) x q hr
        have hr6 : IntKind.i64.wrap (1 + (g : Int) + (x : Int)) = 1 + (g : Int) + (x : Int) := IntWalk.i64_in _ (by omega)
        clear hr
        go_enter Tryz.func110, Tryz.ntmps110
        go_wp2_with fail
        apply wp_via_o (Ob := Ob) (R := fun W => Turn Ob mv mv w W ∧ OutL 8 w0 Ob ba bn bc N most W q mv made)
        · go_region_with (go_at_call 69; refine (HCALL.out _ ((Below.refl _ _).drew)).mono ?_; rintro e w9 ⟨rfl, ht, ho⟩; have HT := Lib.hid ht; have HO9 := Lib.hid ho; clear ht ho)
          exact ⟨rfl, HT.out.after ((Below.refl _ _).drew), HO9.out⟩
        rintro w9 ⟨ht, ho⟩
        have HT := Lib.hid ht
        have HO9 := Lib.hid ho
        clear ht ho
        go_wp2_with fail
        go_ret
        refine ⟨HT.out, .inl ⟨1 + g + x, q, by unfold distN; rw [if_neg h1, if_neg h2, HF.out, HG.out, HR.out], ?_, HO9.out⟩⟩
        exact congrArg (fun z => Ending.returned (.int .i64 z)) (by omega)
      | error er =>
        have HR := Lib.hid hr
        have HCALL : Hid (∀ W, Below w.heap.size w W → Calls Tryz.prog 69 #[.pointer (some ⟨Ob, 0, none⟩), .int .i64 (f : Int)] W fun e w' => e = .panicked [{ v := .iface 126 (.agg #[.int .i64 (er : Int)]), recovered := false }] ∧ Turn Ob mv mv W w') :=
          fun W hW => number_err HSS.out W p mv made (HO.out.below hW) f (by omega) er hr
        clear hr
        go_enter Tryz.func110, Tryz.ntmps110
        go_wp2_with fail
        refine wp_panics [{ v := .iface 126 (.agg #[.int .i64 (er : Int)]), recovered := false }] (fun W => Turn Ob mv mv w W) ?_ (fun a' W hdf ht => ⟨hdf, ht, .inr ⟨er, by unfold distN; rw [if_neg h1, if_neg h2, HF.out, HR.out], rfl⟩⟩)
        refine wp_region_held_drew (S := fun W => Below w.heap.size w W) (by kernel_rfl) ?_ (fun hHeld => ?_)
        · exact (Below.refl _ _).drew
        refine wpAnyH_take (i := 0) (v := ?_) (by simp only [List.getElem?_toArray, List.getElem?_cons_zero]; rfl) (by kernel_rfl) (by kernel_rfl) (by kernel_rfl) (fun _ _ _ h => panicPost_put h) (Or.inl ⟨by rfl, ?_⟩) (by assumption) ?_
        rotate_left
        · intro W hSW
          go_simp
          try with_reducible rfl
        try simp only [Act.put, List.setIfInBounds_toArray, List.set_cons_zero, List.set_cons_succ]
        refine wpAnyH_take (i := 1) (v := ?_) (by simp only [List.getElem?_toArray, List.getElem?_cons_succ, List.getElem?_cons_zero]; rfl) (by kernel_rfl) (by kernel_rfl) (by kernel_rfl) (fun _ _ _ h => panicPost_put h) (Or.inl ⟨by rfl, ?_⟩) (by assumption) ?_
        rotate_left
        · intro W hSW
          go_simp
          try with_reducible rfl
        try simp only [Act.put, List.setIfInBounds_toArray, List.set_cons_zero, List.set_cons_succ]
        refine wpAnyH_take (i := 2) (v := ?_) (by simp only [List.getElem?_toArray, List.getElem?_cons_succ, List.getElem?_cons_zero]; rfl) (by kernel_rfl) (by kernel_rfl) (by kernel_rfl) (fun _ _ _ h => panicPost_put h) (Or.inl ⟨by rfl, ?_⟩) (by assumption) ?_
        rotate_left
        · intro W hSW
          go_simp
          try with_reducible rfl
        try simp only [Act.put, List.setIfInBounds_toArray, List.set_cons_zero, List.set_cons_succ]
        refine wpAnyH_take (i := 3) (v := ?_) (by simp only [List.getElem?_toArray, List.getElem?_cons_succ, List.getElem?_cons_zero]; rfl) (by kernel_rfl) (by kernel_rfl) (by kernel_rfl) (fun _ _ _ h => panicPost_put h) (Or.inl ⟨by rfl, ?_⟩) (by assumption) ?_
        rotate_left
        · intro W hSW
          go_simp
          try with_reducible rfl
        try simp only [Act.put, List.setIfInBounds_toArray, List.set_cons_zero, List.set_cons_succ]
        refine wpAnyH_take (i := 4) (v := ?_) (by simp only [List.getElem?_toArray, List.getElem?_cons_succ, List.getElem?_cons_zero]; rfl) (by kernel_rfl) (by kernel_rfl) (by kernel_rfl) (fun _ _ _ h => panicPost_put h) (Or.inl ⟨by rfl, ?_⟩) (by assumption) ?_
        rotate_left
        · intro W hSW
          go_simp
          try with_reducible rfl
        try simp only [Act.put, List.setIfInBounds_toArray, List.set_cons_zero, List.set_cons_succ]
        refine wpAnyH_take (i := 5) (v := ?_) (by simp only [List.getElem?_toArray, List.getElem?_cons_succ, List.getElem?_cons_zero]; rfl) (by kernel_rfl) (by kernel_rfl) (by kernel_rfl) (fun _ _ _ h => panicPost_put h) (Or.inl ⟨by rfl, ?_⟩) (by assumption) ?_
        rotate_left
        · intro W hSW
          go_simp
          try with_reducible rfl
        try simp only [Act.put, List.setIfInBounds_toArray, List.set_cons_zero, List.set_cons_succ]
        refine wpAnyH_take (i := 6) (v := ?_) (by simp only [List.getElem?_toArray, List.getElem?_cons_succ, List.getElem?_cons_zero]; rfl) (by kernel_rfl) (by kernel_rfl) (by kernel_rfl) (fun _ _ _ h => panicPost_put h) (Or.inl ⟨by rfl, ?_⟩) (by assumption) ?_
        rotate_left
        · intro W hSW
          go_simp
          try with_reducible rfl
        try simp only [Act.put, List.setIfInBounds_toArray, List.set_cons_zero, List.set_cons_succ]
        refine wpAnyH_take (i := 7) (v := ?_) (by simp only [List.getElem?_toArray, List.getElem?_cons_succ, List.getElem?_cons_zero]; rfl) (by kernel_rfl) (by kernel_rfl) (by kernel_rfl) (fun _ _ _ h => panicPost_put h) (Or.inl ⟨by rfl, ?_⟩) (by assumption) ?_
        rotate_left
        · intro W hSW
          go_simp
          try with_reducible rfl
        try simp only [Act.put, List.setIfInBounds_toArray, List.set_cons_zero, List.set_cons_succ]
        refine wpAnyH_take (i := 8) (v := ?_) (by simp only [List.getElem?_toArray, List.getElem?_cons_succ, List.getElem?_cons_zero]; rfl) (by kernel_rfl) (by kernel_rfl) (by kernel_rfl) (fun _ _ _ h => panicPost_put h) (Or.inl ⟨by rfl, ?_⟩) (by assumption) ?_
        rotate_left
        · intro W hSW
          go_simp
          try with_reducible rfl
        try simp only [Act.put, List.setIfInBounds_toArray, List.set_cons_zero, List.set_cons_succ]
        refine wpAnyH_take (i := 9) (v := ?_) (by simp only [List.getElem?_toArray, List.getElem?_cons_succ, List.getElem?_cons_zero]; rfl) (by kernel_rfl) (by kernel_rfl) (by kernel_rfl) (fun _ _ _ h => panicPost_put h) (Or.inl ⟨by rfl, ?_⟩) (by assumption) ?_
        rotate_left
        · intro W hSW
          go_simp
          try with_reducible rfl
        try simp only [Act.put, List.setIfInBounds_toArray, List.set_cons_zero, List.set_cons_succ]
        refine wpAnyH_ready (rs := [10]) (by kernel_rfl) (by simp) ?_
        refine AllReadyH.cons (by simp only [List.getElem?_toArray, List.getElem?_cons_succ, List.getElem?_cons_zero]; rfl) (fun K hK => ?_) AllReadyH.nil
        go_simp
        refine (HCALL.out _ ((Below.refl _ _).drew)).mono ?_
        rintro e w9 ⟨rfl, ht⟩
        have HT := Lib.hid ht
        clear ht hK
        exact ⟨rfl, rfl, HT.out.after ((Below.refl _ _).drew)⟩
end Go.Proofs.YtglgchjkonjpiaaGreatDoor
/-! Bytes again: the walk. -/
namespace Go.Proofs.YtglgchjkonjpiaaGreatDoor
open Go.RowKit Plain
set_option linter.unusedVariables false
/-- What a call that makes tells. -/
def Mad (w0 : World) (Ob : Nat) (ba : Option Addr) (bn bc N most : Nat) (w : World) (mv : Value) (r : Except Nat (Nat × List Int)) (e : Ending) (w' : World) : Prop :=
  (∃ q m mv', r = .ok (q, m) ∧ e = .returned (.tuple #[]) ∧ Turn Ob mv mv' w w' ∧ OutL 8 w0 Ob ba bn bc N most w' q mv' m) ∨ ∃ n, r = .error n ∧ e = .panicked [{ v := .iface 126 (.agg #[.int .i64 (n : Int)]), recovered := false }] ∧ ∃ mv', Turn Ob mv mv' w w'
def atP (p : Nat) : Except Nat (List Int) → Except Nat (Nat × List Int)
  | .ok m => .ok (p, m)
  | .error e => .error e
theorem againGo_ok (most d k : Nat) (m : List Int) (h : m.length < most) : againGo most d (k + 1) m = againGo most d k (m ++ [m[m.length - d]?.getD 0]) := by
  rw [againGo, giveN, if_neg (by omega)]
theorem againGo_err (most d k : Nat) (m : List Int) (h : most ≤ m.length) : againGo most d (k + 1) m = .error 2 := by
  rw [againGo, giveN, if_pos h]
theorem mid_row {w : World} {base : Nat} {a : Option Addr} {n c : Nat} {xs : List Int} (h : Mid w base (.slice a n c) n xs) (j : Nat) (hj : j < n) : ∃ g o, a = some ⟨g, o, none⟩ ∧ w.cell? ⟨g, o + j, none⟩ = some (.int .u8 (xs[j]?.getD 0)) := by
  obtain ⟨g, o, ha, hc⟩ := h.at (by omega)
  exact ⟨g, o, ha, hc j hj⟩
set_option maxRecDepth 100000 in
set_option maxHeartbeats 8000000 in
theorem again_any {w0 : World} {Ob : Nat} {ba : Option Addr} {bn bc N most : Nat} (hmost : most ≤ 1000000000) (w : World) (p : Nat) (mv : Value) (made : List Int) (H : OutL 8 w0 Ob ba bn bc N most w p mv made) (len d : Nat) (hlen : len ≤ 100000) (hd : d ≤ 100000) (hd0 : 0 < d) :
    Calls Tryz.prog 109 #[.pointer (some ⟨Ob, 0, none⟩), .int .i64 (len : Int), .int .i64 (d : Int)] w (Mad w0 Ob ba bn bc N most w mv (atP p (againN most made len d))) := by
  have HO := Lib.hid H
  obtain ⟨a, hd', l, hh, h1, h2, h3, h4, hmid, hO, hbel, hge, hlm, hr⟩ := H
  obtain ⟨va, vc, rfl, -, -, -⟩ := hmid.shape
  obtain ⟨c0, c1, c2, c3, c4, c5⟩ := raw_cells hh
  have hnl : made.length ≤ 1000000000 := by omega
  clear hh h4 hmid hbel hr h1 h2 h3 hO c0 c1 c2 c3 c5
  go_enter Tryz.func109, Tryz.ntmps109
  by_cases hbig : made.length < d
  · have hbi : (made.length : Int) < (d : Int) := by omega
    go_wp2_with fail
    refine (with_any 4 w).mono ?_
    rintro e w2 ⟨rfl, rfl⟩
    dsimp only [thrown]
    go_wp2_with fail
    exact ⟨rfl, .inr ⟨4, by unfold againN; rw [if_pos hbig]; rfl, rfl, _, Turn.refl _ _ _⟩⟩
  · have hbi : ¬ (made.length : Int) < (d : Int) := by omega
    have HSP : Hid (againN most made len d = againGo most d len made) := by show _ = _; unfold againN; rw [if_neg hbig]
    go_wp2_with fail
    go_loopw [15] (fun v wr => ∃ (k : Nat) (m : List Int) (mv' : Value), v = .int .i64 (k : Int) ∧ k ≤ len ∧ OutL 8 w0 Ob ba bn bc N most wr p mv' m ∧ Turn Ob (.slice va made.length vc) mv' w wr ∧ againN most made len d = againGo most d (len - k) m ∧ d ≤ m.length) (fun v _ => len - (intOf v).toNat)
    case atStart => exact ⟨0, made, _, rfl, by omega, HO.out, Turn.refl _ _ _, HSP.out, by omega⟩
    case round =>
      obtain ⟨k, m, mv', rfl, hk, ho, ht, hs, hdm⟩ := hrel
      have HO1 := Lib.hid ho
      have HT1 := Lib.hid ht
      have HS1 := Lib.hid hs
      obtain ⟨a, hd', l, hh, -, -, -, -, hmid, -, -, -, hlm2, hr⟩ := ho
      obtain ⟨va2, vc2, rfl, -, -, -⟩ := hmid.shape
      obtain ⟨c0, c1, c2, c3, c4, c5⟩ := raw_cells hh
      clear ht hs HO HSP
      by_cases hlt : k < len
      · have hlti : (k : Int) < (len : Int) := by omega
        obtain ⟨j, hj⟩ : ∃ j, m.length - d = j := ⟨_, rfl⟩
        obtain ⟨g, o, hva, hcell⟩ := mid_row hmid j (by omega)
        subst hva
        have hj0 := range_of_mem0 hr j
        obtain ⟨x, hx⟩ : ∃ x : Nat, m[j]?.getD 0 = (x : Int) := Int.eq_ofNat_of_zero_le hj0.1
        rw [hx] at hcell
        have hx8 : x ≤ 255 := by omega
        have hji : (m.length : Int) - (d : Int) = (j : Int) := by omega
        have hjw : IntKind.i64.wrap (j : Int) = (j : Int) := IntWalk.i64_in _ (by omega)
        have hjl : (j : Int) < (m.length : Int) := by omega
        have HG1 : Hid (m.length < most → againGo most d (len - k) m = againGo most d (len - (k + 1)) (m ++ [(x : Int)])) := fun h => by
          rw [show len - k = (len - (k + 1)) + 1 by omega, againGo_ok _ _ _ _ h, hj, hx]
        have HG2 : Hid (most ≤ m.length → againGo most d (len - k) m = .error 2) := fun h => by
          rw [show len - k = (len - (k + 1)) + 1 by omega, againGo_err _ _ _ _ h]
        have HGIVE : Hid (∀ W, Below wr.heap.size wr W → _) := fun W hW => give_any hmost W p _ m (HO1.out.below hW) x hx8
        clear hh hmid hr hj0 hx hj c0 c1 c2 c3 c5
        go_wp2_with fail
        go_still_tail 14, (by kernel_rfl)
        change wpList _ _ _ _ _ wr.drew
        have HBD : Hid (Below wr.heap.size wr wr.drew) := (Below.refl _ _).drew
        have hcall := HGIVE.out _ HBD.out
        clear hcell c4 hji hjw
        generalize wr.drew = wz at *
        go_wp2_with fail
        refine hcall.mono ?_
        rintro e w2 (⟨hroom, rfl, mv2, ho2, ht2⟩ | ⟨hroom, rfl, ht2⟩)
        · have HO2 := Lib.hid ho2
          have HT2 := Lib.hid (HT1.out.trans (ht2.after HBD.out))
          have HS2 : Hid (againN most made len d = againGo most d (len - (k + 1)) (m ++ [(x : Int)])) := HS1.out.trans (HG1.out hroom)
          clear hcall ho2 ht2
          go_wp2_with fail
          exact ⟨⟨k + 1, m ++ [(x : Int)], mv2, by go_num, by omega, HO2.out, HT2.out, HS2.out, by rw [List.length_append]; omega⟩, by simp [intOf]; omega⟩
        · have HT2 := Lib.hid (HT1.out.trans (ht2.after HBD.out))
          have HS2 : Hid (againN most made len d = .error 2) := HS1.out.trans (HG2.out hroom)
          clear hcall ht2
          dsimp only [thrown]
          go_wp2_with fail
          exact ⟨rfl, .inr ⟨2, by rw [HS2.out]; rfl, rfl, _, HT2.out⟩⟩
      · have hlti : ¬ (k : Int) < (len : Int) := by omega
        obtain rfl : k = len := by omega
        have HS2 : Hid (againN most made k d = .ok m) := by
          have := HS1.out
          rw [Nat.sub_self, againGo] at this
          exact this
        go_wp2_with fail
        go_end0
        exact .inl ⟨p, m, _, by rw [HS2.out]; rfl, rfl, HT1.out, HO1.out⟩
end Go.Proofs.YtglgchjkonjpiaaGreatDoor
/-! The signs of a block, by the codes that are given: the walk. -/
namespace Go.Proofs.YtglgchjkonjpiaaGreatDoor
open Go.RowKit Plain
set_option linter.unusedVariables false
theorem OutL.pos {w0 : World} {Ob : Nat} {ba : Option Addr} {bn bc N most : Nat} {w : World} {p : Nat} {mv : Value} {made : List Int} (h : OutL 8 w0 Ob ba bn bc N most w p mv made) : p ≤ 8 * bn := by
  obtain ⟨a, hd, l, -, h1, h2, h3, -⟩ := h
  omega
/-- The place of the next bit. -/
def posB (Ob : Nat) (w : World) : Nat := match w.cell? ⟨Ob, 1, none⟩, w.cell? ⟨Ob, 3, none⟩ with
  | some (.int _ a), some (.int _ l) => 8 * a.toNat - l.toNat
  | _, _ => 0
theorem posB_of {w0 : World} {Ob : Nat} {ba : Option Addr} {bn bc N most : Nat} {w : World} {p : Nat} {mv : Value} {made : List Int} (h : OutL 8 w0 Ob ba bn bc N most w p mv made) : posB Ob w = p := by
  obtain ⟨a, hd, l, hh, h1, -⟩ := h
  unfold posB
  rw [(raw_cells hh).2.1, (raw_cells hh).2.2.2.1]
  show 8 * (a : Int).toNat - (l : Int).toNat = p
  omega
theorem length_le {N L p s len q : Nat} (h : lengthN N L p s = .ok (len, q)) (h1 : 257 ≤ s) (h2 : s ≤ 285) : len ≤ 1000 := by
  unfold lengthN at h
  split at h
  · injection h with h; injection h with h _; omega
  · split at h
    · injection h with h; injection h with h _; omega
    · cases hn : num N L p ((s - 261) / 4) with
      | error e => rw [hn] at h; cases h
      | ok v =>
        obtain ⟨x, r⟩ := v
        have h3 := num_ok hn
        rw [hn] at h
        injection h with h; injection h with h _
        have h5 := Nat.pow_le_pow_right (n := 2) (by omega) (show (s - 261) / 4 ≤ 6 by omega)
        have h6 := Nat.mul_le_mul (show 4 + (s - 261) % 4 ≤ 7 by omega) h5
        omega
theorem dist_le {N L p s d q : Nat} (h : distN N L p s = .ok (d, q)) : 0 < d ∧ d ≤ 100000 := by
  unfold distN at h
  split at h
  · cases h
  · split at h
    · injection h with h; injection h with h _; omega
    · cases hn : num N L p ((s - 2) / 2) with
      | error e => rw [hn] at h; cases h
      | ok v =>
        obtain ⟨x, r⟩ := v
        have h3 := num_ok hn
        rw [hn] at h
        injection h with h; injection h with h _
        have h5 := Nat.pow_le_pow_right (n := 2) (by omega) (show (s - 2) / 2 ≤ 13 by omega)
        have h6 := Nat.mul_le_mul (show 2 + s % 2 ≤ 3 by omega) h5
        omega
theorem atP_ok {p : Nat} {r : Except Nat (List Int)} {q : Nat} {m : List Int} (h : atP p r = .ok (q, m)) : r = .ok m ∧ q = p := by
  cases r with
  | error e => cases h
  | ok x => injection h with h; injection h with h1 h2; subst h1 h2; exact ⟨rfl, rfl⟩
theorem atP_err {p : Nat} {r : Except Nat (List Int)} {k : Nat} (h : atP p r = .error k) : r = .error k := by
  cases r with
  | error e => injection h with h; rw [h]
  | ok x => cases h
set_option maxRecDepth 100000 in
set_option maxHeartbeats 8000000 in
theorem signsFix_any {w0 : World} {Ob : Nat} {ba : Option Addr} {bn bc N most : Nat} {bs : List Int} (HS : SrcB w0 ba bn bc N most bs) (w : World) (p : Nat) (mv : Value) (made : List Int) (H : OutL 8 w0 Ob ba bn bc N most w p mv made)
    (nx fr : Nat → Except Nat (Nat × Nat)) (hnx : Adv (8 * bn) nx) (hfr : Adv (8 * bn) fr) (hsmall : ∀ q s r, nx q = .ok (s, r) → s ≤ 100000) (hsmall2 : ∀ q s r, fr q = .ok (s, r) → s ≤ 100000)
    (HN : ∀ (W : World) (q : Nat) (mv' : Value) (m : List Int), Turn Ob mv mv' w W → OutL 8 w0 Ob ba bn bc N most W q mv' m → Calls Tryz.prog 88 #[.pointer (some ⟨Ob, 0, none⟩)] W (Got w0 Ob ba bn bc N most W mv' m (nx q)))
    (HF : ∀ (W : World) (q : Nat) (mv' : Value) (m : List Int), Turn Ob mv mv' w W → OutL 8 w0 Ob ba bn bc N most W q mv' m → Calls Tryz.prog 89 #[.pointer (some ⟨Ob, 0, none⟩)] W (Got w0 Ob ba bn bc N most W mv' m (fr q))) :
    Calls Tryz.prog 87 #[.pointer (some ⟨Ob, 0, none⟩), .func (.func 88) #[.pointer (some ⟨Ob, 0, none⟩)] #[], .func (.func 89) #[.pointer (some ⟨Ob, 0, none⟩)] #[]] w (Mad w0 Ob ba bn bc N most w mv (signsN N (8 * bn) most nx fr p made)) := by
  have HSS := Lib.hid HS
  have HO := Lib.hid H
  have HNX := Lib.hid HN
  have HFR := Lib.hid HF
  have HA1 := Lib.hid hnx
  have HA2 := Lib.hid hfr
  have HM1 := Lib.hid hsmall
  have HM2 := Lib.hid hsmall2
  have hmost := HS.most
  clear HS H HN HF hnx hfr hsmall hsmall2
  go_enter Tryz.func87, Tryz.ntmps87
  go_wp2_with fail
  go_loopw [] (fun wr => ∃ (q : Nat) (m : List Int) (mv' : Value), OutL 8 w0 Ob ba bn bc N most wr q mv' m ∧ Turn Ob mv mv' w wr ∧ signsN N (8 * bn) most nx fr p made = signsN N (8 * bn) most nx fr q m) (fun wr => 8 * bn + 1 - posB Ob wr)
  case atStart => exact ⟨p, made, mv, HO.out, Turn.refl _ _ _, rfl⟩
  case round =>
    obtain ⟨q, m, mv1, ho, ht, hs⟩ := hrel
    have HO1 := Lib.hid ho
    have HT1 := Lib.hid ht
    have hq8 := ho.pos
    have hpB := posB_of ho
    have HPB := Lib.hid hpB
    have hstep := hs.trans (signsN_step HA1.out HA2.out q m hq8)
    have HS1 := Lib.hid hstep
    have hcall := HNX.out wr q mv1 m ht ho
    clear ho ht hs hstep HO hpB
    go_wp2_with fail
    refine hcall.mono ?_
    intro e w2 hgot
    obtain ⟨s, r, hr, rfl, ht, ho⟩ | ⟨k, hr, rfl, ht⟩ := hgot.lift
    · have hs5 := HM1.out q s r hr
      have hadv := HA1.out q s r hr
      have HR := Lib.hid hr
      have HO2 := Lib.hid ho
      have HT2 := Lib.hid (HT1.out.trans ht)
      clear hcall hgot hr ht ho
      by_cases h256 : s < 256
      · have h256i : (s : Int) < 256 := by omega
        have hw8 : IntKind.u8.wrap (s : Int) = (s : Int) := by rw [IntKind.wrap_u8]; omega
        have hgive := give_any hmost w2 r mv1 m HO2.out s (by omega)
        go_wp2_with fail
        refine hgive.mono ?_
        rintro e w3 (⟨hroom, rfl, mv2, ho, ht⟩ | ⟨hroom, rfl, ht⟩)
        · have HO3 := Lib.hid ho
          have HT3 := Lib.hid (HT2.out.trans ht)
          have HS3 : Hid (signsN N (8 * bn) most nx fr p made = signsN N (8 * bn) most nx fr r (m ++ [(s : Int)])) := by
            show _ = _
            rw [HS1.out, stepN, HR.out]
            simp only []
            rw [if_pos h256, giveN, if_neg (by omega)]; rfl
          have hpB3 := posB_of ho
          have HPB3 := Lib.hid hpB3
          clear hgive ho ht hpB3
          go_wp2_with fail
          exact ⟨⟨r, m ++ [(s : Int)], mv2, HO3.out, HT3.out, HS3.out⟩, by rw [HPB3.out, HPB.out]; omega⟩
        · have HT3 := Lib.hid (HT2.out.trans ht)
          have HS3 : Hid (signsN N (8 * bn) most nx fr p made = .error 2) := by
            show _ = _
            rw [HS1.out, stepN, HR.out]
            simp only []
            rw [if_pos h256, giveN, if_pos (by omega)]; rfl
          clear hgive ht
          dsimp only [thrown]
          go_wp2_with fail
          exact ⟨rfl, .inr ⟨2, HS3.out, rfl, _, HT3.out⟩⟩
      · have h256i : ¬ (s : Int) < 256 := by omega
        by_cases he : s = 256
        · subst he
          have HS3 : Hid (signsN N (8 * bn) most nx fr p made = .ok (r, m)) := by
            show _ = _
            rw [HS1.out, stepN, HR.out]; rfl
          go_wp2_with fail
          go_end0
          exact .inl ⟨r, m, mv1, HS3.out, rfl, HT2.out, HO2.out⟩
        · have hei : ((s : Int) == 256) = false := by simp; omega
          by_cases hbad : 286 ≤ s
          · have hbi : (286 : Int) ≤ (s : Int) := by omega
            have HS3 : Hid (signsN N (8 * bn) most nx fr p made = .error 4) := by
              show _ = _
              rw [HS1.out, stepN, HR.out]
              simp only []
              rw [if_neg h256, if_neg he, if_pos hbad]; rfl
            go_wp2_with fail
            refine (with_any 4 w2).mono ?_
            rintro e w3 ⟨rfl, rfl⟩
            dsimp only [thrown]
            go_wp2_with fail
            exact ⟨rfl, .inr ⟨4, HS3.out, rfl, _, HT2.out⟩⟩
          · have hbi : ¬ (286 : Int) ≤ (s : Int) := by omega
            have hlen := length_any HSS.out w2 r mv1 m HO2.out s (by omega) (by omega)
            have HS3 : Hid (stepN N (8 * bn) most nx fr q m = match lengthN N (8 * bn) r s with
                | .error e => .error e
                | .ok (len, r) => match fr r with
                  | .error e => .error e
                  | .ok (t, u) => match distN N (8 * bn) u t with
                    | .error e => .error e
                    | .ok (d, v) => match againN most m len d with
                      | .error e => .error e
                      | .ok m => .ok (true, v, m)) := by
              show _ = _
              rw [stepN, HR.out]
              simp only []
              rw [if_neg h256, if_neg he, if_neg hbad]
              cases lengthN N (8 * bn) r s with
              | error e => rfl
              | ok v =>
                obtain ⟨a, b⟩ := v
                simp only []
                cases fr b with
                | error e => rfl
                | ok v =>
                  obtain ⟨c, d⟩ := v
                  simp only []
                  cases distN N (8 * bn) d c with
                  | error e => rfl
                  | ok v =>
                    obtain ⟨x, y⟩ := v
                    simp only []
                    cases againN most m a x <;> rfl
            go_wp2_with fail
            refine hlen.mono ?_
            intro e w3 hgot
            obtain ⟨len, r2, hr, rfl, ht, ho⟩ | ⟨k, hr, rfl, ht⟩ := hgot.lift
            · have hl5 := length_le hr (by omega) (by omega)
              have hadv2 := adv_length hadv.2 hr
              have HR2 := Lib.hid hr
              have HO3 := Lib.hid ho
              have HT3 := Lib.hid (HT2.out.trans ht)
              have hcall := HFR.out w3 r2 mv1 m HT3.out ho
              clear hlen hgot hr ht ho
              go_wp2_with fail
              refine hcall.mono ?_
              intro e w4 hgot
              obtain ⟨t, u, hr, rfl, ht, ho⟩ | ⟨k, hr, rfl, ht⟩ := hgot.lift
              · have ht5 := HM2.out r2 t u hr
                have hadv3 := HA2.out r2 t u hr
                have HR3 := Lib.hid hr
                have HT4 := Lib.hid (HT3.out.trans ht)
                have hdist := distance_any HSS.out w4 u mv1 m ho t ht5
                clear hcall hgot hr ht ho
                go_wp2_with fail
                refine hdist.mono ?_
                intro e w5 hgot
                obtain ⟨d, v, hr, rfl, ht, ho⟩ | ⟨k, hr, rfl, ht⟩ := hgot.lift
                · have hd5 := dist_le hr
                  have hadv4 := adv_dist hadv3.2 hr
                  have HR4 := Lib.hid hr
                  have HT5 := Lib.hid (HT4.out.trans ht)
                  have hagain := again_any hmost w5 v mv1 m ho len d (by omega) (by omega) (by omega)
                  clear hdist hgot hr ht ho
                  go_wp2_with fail
                  refine hagain.mono ?_
                  rintro e w6 (⟨q6, m6, mv6, hr, rfl, ht, ho⟩ | ⟨k, hr, rfl, mv6, ht⟩)
                  · obtain ⟨hag, hqv⟩ := atP_ok hr
                    have hqv2 := hqv.symm
                    subst hqv2
                    clear hqv
                    have HO6 := Lib.hid ho
                    have HT6 := Lib.hid (HT5.out.trans ht)
                    have HS6 : Hid (signsN N (8 * bn) most nx fr p made = signsN N (8 * bn) most nx fr v m6) := by
                      show _ = _
                      rw [HS1.out, HS3.out, HR2.out]; simp only []; rw [HR3.out]; simp only []; rw [HR4.out]; simp only []; rw [hag]; rfl
                    have hpB6 := posB_of ho
                    have HPB6 := Lib.hid hpB6
                    clear hagain hr ht ho hag hpB6
                    go_wp2_with fail
                    exact ⟨⟨v, m6, mv6, HO6.out, HT6.out, HS6.out⟩, by rw [HPB6.out, HPB.out]; omega⟩
                  · have hag := atP_err hr
                    have HT6 := Lib.hid (HT5.out.trans ht)
                    have HS6 : Hid (signsN N (8 * bn) most nx fr p made = .error k) := by
                      show _ = _
                      rw [HS1.out, HS3.out, HR2.out]; simp only []; rw [HR3.out]; simp only []; rw [HR4.out]; simp only []; rw [hag]; rfl
                    clear hagain hr ht hag
                    go_wp2_with fail
                    exact ⟨rfl, .inr ⟨k, HS6.out, rfl, _, HT6.out⟩⟩
                · have HT5 := Lib.hid (HT4.out.trans ht)
                  have HS6 : Hid (signsN N (8 * bn) most nx fr p made = .error k) := by
                    show _ = _
                    rw [HS1.out, HS3.out, HR2.out]; simp only []; rw [HR3.out]; simp only []; rw [hr]; rfl
                  clear hdist hgot hr ht
                  go_wp2_with fail
                  exact ⟨rfl, .inr ⟨k, HS6.out, rfl, _, HT5.out⟩⟩
              · have HT4 := Lib.hid (HT3.out.trans ht)
                have HS6 : Hid (signsN N (8 * bn) most nx fr p made = .error k) := by
                  show _ = _
                  rw [HS1.out, HS3.out, HR2.out]; simp only []; rw [hr]; rfl
                clear hcall hgot hr ht
                go_wp2_with fail
                exact ⟨rfl, .inr ⟨k, HS6.out, rfl, _, HT4.out⟩⟩
            · have HT3 := Lib.hid (HT2.out.trans ht)
              have HS6 : Hid (signsN N (8 * bn) most nx fr p made = .error k) := by
                show _ = _
                rw [HS1.out, HS3.out, hr]; rfl
              clear hlen hgot hr ht
              go_wp2_with fail
              exact ⟨rfl, .inr ⟨k, HS6.out, rfl, _, HT3.out⟩⟩
    · have HT2 := Lib.hid (HT1.out.trans ht)
      have HS3 : Hid (signsN N (8 * bn) most nx fr p made = .error k) := by
        show _ = _
        rw [HS1.out, stepN, hr]; rfl
      clear hcall hgot hr ht
      go_wp2_with fail
      exact ⟨rfl, .inr ⟨k, HS3.out, rfl, _, HT2.out⟩⟩
end Go.Proofs.YtglgchjkonjpiaaGreatDoor
/-! A code in memory; its next sign: the walk. -/
namespace Go.Proofs.YtglgchjkonjpiaaGreatDoor
open Go.RowKit Plain
set_option linter.unusedVariables false
/-- A code's numbers fit together. -/
structure CodeOk (c : CodeS) : Prop where
  len : c.cnt.length = 16
  zero : c.cnt.getD 0 0 = 0
  sum : c.cnt.sum = c.sg.length
  longest : c.longest ≤ 15
  few : c.sg.length ≤ 100000
  small : ∀ j, c.sg.getD j 0 ≤ 100000
/-- A code in memory, apart from the reader's block and row. -/
structure CodeAt (Ob : Nat) (w : World) (mv : Value) (Cb : Nat) (c : CodeS) : Prop where
  ok : CodeOk c
  apart : Cb ≠ Ob ∧ mv.ownBlock ≠ some Cb
  cnt : ∀ k, k < 16 → w.cell? ⟨Cb, k, none⟩ = some (.int .i64 ((c.cnt.getD k 0 : Nat) : Int))
  longest : w.cell? ⟨Cb, 17, none⟩ = some (.int .i64 (c.longest : Int))
  row : ∃ sa sc, w.cell? ⟨Cb, 16, none⟩ = some (.slice sa c.sg.length sc) ∧ ∀ j, j < c.sg.length → ∃ g o, sa = some ⟨g, o, none⟩ ∧ g ≠ Ob ∧ mv.ownBlock ≠ some g ∧ w.cell? ⟨g, o + j, none⟩ = some (.int .i64 ((c.sg.getD j 0 : Nat) : Int))
theorem Turn.keeps {Ob : Nat} {mv mv' : Value} {w w' : World} (ht : Turn Ob mv mv' w w') {b i : Nat} {v : Value} (h : w.cell? ⟨b, i, none⟩ = some v) (h1 : b ≠ Ob) (h2 : mv.ownBlock ≠ some b) : w'.cell? ⟨b, i, none⟩ = some v := by
  have hlt : b < w.heap.size := World.block_lt_of_cell? w _ h
  rw [World.cell?_of_block (w := w) (w' := w') (a := ⟨b, i, none⟩) (ht.block b hlt h1 h2)]
  exact h
theorem Turn.apart {Ob : Nat} {mv mv' : Value} {w w' : World} (ht : Turn Ob mv mv' w w') {b i : Nat} {v : Value} (h : w.cell? ⟨b, i, none⟩ = some v) (h2 : mv.ownBlock ≠ some b) : mv'.ownBlock ≠ some b := fun e => by
  have hlt : b < w.heap.size := World.block_lt_of_cell? w _ h
  rcases ht.row b e with h | h
  · exact h2 h
  · omega
theorem CodeAt.turn {Ob : Nat} {w w' : World} {mv mv' : Value} {Cb : Nat} {c : CodeS} (h : CodeAt Ob w mv Cb c) (ht : Turn Ob mv mv' w w') : CodeAt Ob w' mv' Cb c := by
  obtain ⟨h0, ⟨h1, h2⟩, h3, h4, sa, sc, h5, h6⟩ := h
  refine ⟨h0, ⟨h1, ht.apart h4 h2⟩, fun k hk => ht.keeps (h3 k hk) h1 h2, ht.keeps h4 h1 h2, sa, sc, ht.keeps h5 h1 h2, fun j hj => ?_⟩
  obtain ⟨g, o, e, h7, h8, h9⟩ := h6 j hj
  exact ⟨g, o, e, h7, ht.apart h9 h8, ht.keeps h9 h7 h8⟩
theorem or_even (x b y : Nat) (hx : x = 2 * y) (hxl : x ≤ 100000) (hb : b < 2) : bits .or .i64 (x : Int) (b : Int) = ((x + b : Nat) : Int) := by
  have := or_bit y b (by omega) hb
  rw [show (y : Int) * 2 = (x : Int) by omega, ← hx] at this
  exact this
theorem sum_take_le (l : List Nat) (k : Nat) (hk : k < l.length) : (l.take k).sum + l.getD k 0 ≤ l.sum := by
  have h1 : l.sum = (l.take k).sum + (l.drop k).sum := by rw [← List.sum_append, List.take_append_drop]
  rw [h1, List.drop_eq_getElem_cons hk, List.sum_cons, List.getD_eq_getElem?_getD, List.getElem?_eq_getElem hk]
  simp
theorem sum_take_succ (l : List Nat) (k : Nat) (hk : k < l.length) : (l.take (k + 1)).sum = (l.take k).sum + l.getD k 0 := by
  rw [List.take_succ_eq_append_getElem hk, List.sum_append, List.getD_eq_getElem?_getD, List.getElem?_eq_getElem hk]
  simp
set_option maxRecDepth 100000 in
set_option maxHeartbeats 8000000 in
theorem sign_any {w0 : World} {Ob : Nat} {ba : Option Addr} {bn bc N most : Nat} {bs : List Int} (HS : SrcB w0 ba bn bc N most bs) (w : World) (p : Nat) (mv : Value) (made : List Int) (H : OutL 8 w0 Ob ba bn bc N most w p mv made) (Cb : Nat) (c : CodeS) (HC : CodeAt Ob w mv Cb c) :
    Calls Tryz.prog 92 #[.pointer (some ⟨Ob, 0, none⟩), .pointer (some ⟨Cb, 0, none⟩)] w (Got w0 Ob ba bn bc N most w mv made (signN N (8 * bn) c p)) := by
  have HSS := Lib.hid HS
  have HO := Lib.hid H
  have HCC := Lib.hid HC
  have hl15 := HC.ok.longest
  have hfew := HC.ok.few
  clear HS H HC
  go_enter Tryz.func92, Tryz.ntmps92
  go_wp2_with fail
  go_loopw [5, 6, 7, 8] (fun vx vf va vl wr => ∃ (l q x first ahead y : Nat), vl = .int .i64 (l : Int) ∧ vx = .int .i64 (x : Int) ∧ vf = .int .i64 (first : Int) ∧ va = .int .i64 (ahead : Int) ∧ 1 ≤ l ∧ l ≤ c.longest + 1 ∧ x = 2 * y ∧ x < 2 ^ l ∧ first ≤ x ∧ ahead = (c.cnt.take l).sum ∧
      OutL 8 w0 Ob ba bn bc N most wr q mv made ∧ Turn Ob mv mv w wr ∧ signN N (8 * bn) c p = signGo N (8 * bn) c (c.longest + 1 - l) l q x first ahead) (fun _ _ _ vl _ => 17 - (intOf vl).toNat)
  case atStart =>
    refine ⟨1, p, 0, 0, 0, 0, rfl, rfl, rfl, rfl, by omega, by omega, rfl, by decide, by omega, ?_, HO.out, Turn.refl _ _ _, rfl⟩
    rw [sum_take_succ _ 0 (by rw [HCC.out.ok.len]; omega), HCC.out.ok.zero]; simp
  case round =>
    obtain ⟨l, q, x, first, ahead, y, rfl, rfl, rfl, rfl, hl1, hl2, hx, hx2, hfx, hah, ho, ht, hs⟩ := hrel
    have HO1 := Lib.hid ho
    have HT1 := Lib.hid ht
    have HS1 := Lib.hid hs
    have hC1 := HCC.out.turn ht
    have HC1 := Lib.hid hC1
    have c17 := hC1.longest
    have hxl : x < 65536 := by
      have := Nat.pow_le_pow_right (n := 2) (by omega) (show l ≤ 16 by omega)
      omega
    have hahl : ahead ≤ c.sg.length := by
      rw [hah, ← HCC.out.ok.sum]
      have h1 : c.cnt.sum = (c.cnt.take l).sum + (c.cnt.drop l).sum := by rw [← List.sum_append, List.take_append_drop]
      omega
    have HX := Lib.hid hx
    have HX2 := Lib.hid hx2
    have HAH := Lib.hid hah
    have hone := one_any HSS.out wr q mv made ho
    clear ho ht hs hC1 HO hx hx2 hah
    by_cases hll : l ≤ c.longest
    · have hlli : (l : Int) ≤ (c.longest : Int) := by omega
      have hn16 : l < 16 := by omega
      have HF : Hid (c.longest + 1 - l = (c.longest - l) + 1) := by show _ = _; omega
      go_wp2_with fail
      refine hone.mono ?_
      intro e w2 hgot
      obtain ⟨b, r, hr, rfl, ht, ho⟩ | ⟨k, hr, rfl, ht⟩ := hgot.lift
      · have hb2 : b < 2 := (num_ok hr).1
        have hor := or_even x b y HX.out (by omega) hb2
        have HR := Lib.hid hr
        have HO2 := Lib.hid ho
        have HT2 := Lib.hid (HT1.out.trans ht)
        have HC2 := Lib.hid (HC1.out.turn ht)
        obtain ⟨n, hn⟩ : ∃ n, c.cnt.getD l 0 = n := ⟨_, rfl⟩
        have hcn := HC2.out.cnt l hn16
        rw [hn] at hcn
        have HN := Lib.hid hn
        have hsum : ahead + n ≤ c.sg.length := by
          rw [← hn, HAH.out, ← HCC.out.ok.sum]
          exact sum_take_le _ _ (by rw [HCC.out.ok.len]; exact hn16)
        obtain ⟨z, hz⟩ : ∃ z, x + b = z := ⟨_, rfl⟩
        rw [hz] at hor
        have HZ := Lib.hid hz
        have hz1 : first ≤ z := by omega
        have hz2 : z ≤ 65536 := by omega
        have HSTEP : Hid (signN N (8 * bn) c p = if z < first + n then .ok (c.sg.getD (ahead + z - first) 0, r) else signGo N (8 * bn) c (c.longest - l) (l + 1) r (2 * z) (2 * (first + n)) (ahead + n)) := by
          show _ = _
          rw [HS1.out, HF.out, signGo, HR.out]
          simp only []
          rw [HN.out, hz]
        clear hone hgot hr ht ho hn hz c17
        by_cases hlt : z < first + n
        · have hlti : (z : Int) - (first : Int) < (n : Int) := by omega
          obtain ⟨sa, sc, h16, hrow⟩ := HC2.out.row
          obtain ⟨i, hi⟩ : ∃ i, ahead + z - first = i := ⟨_, rfl⟩
          have hii : (ahead : Int) + (z : Int) - (first : Int) = (i : Int) := by omega
          have hil : i < c.sg.length := by omega
          have hilt : (i : Int) < (c.sg.length : Int) := by omega
          obtain ⟨g, o, hsa, hgO, hgm, hcell⟩ := hrow i hil
          subst hsa
          obtain ⟨s, hs⟩ : ∃ s, c.sg.getD i 0 = s := ⟨_, rfl⟩
          have HRES : Hid (signN N (8 * bn) c p = .ok (s, r)) := by show _ = _; rw [HSTEP.out, if_pos hlt, hi, hs]
          rw [hs] at hcell
          clear hrow hi hs hgO hgm
          go_wp2_with fail
          go_ret
          exact ⟨HT2.out, .inl ⟨s, r, HRES.out, rfl, HO2.out⟩⟩
        · have hlti : ¬ (z : Int) - (first : Int) < (n : Int) := by omega
          have HRES : Hid (signN N (8 * bn) c p = signGo N (8 * bn) c (c.longest + 1 - (l + 1)) (l + 1) r (2 * z) (2 * (first + n)) (ahead + n)) := by
            show _ = _; rw [HSTEP.out, if_neg hlt, show c.longest + 1 - (l + 1) = c.longest - l by omega]
          have HP : Hid (2 * z < 2 ^ (l + 1)) := by
            show _ < _
            have := HX2.out
            have hz := HZ.out
            have hxy := HX.out
            have he : 2 ^ l = 2 * 2 ^ (l - 1) := by rw [← Nat.pow_succ']; congr 1; omega
            rw [Nat.pow_succ]
            omega
          have HAH2 : Hid (ahead + n = (c.cnt.take (l + 1)).sum) := by show _ = _; rw [sum_take_succ _ _ (by rw [HCC.out.ok.len]; exact hn16), ← HAH.out, HN.out]
          go_wp2_with fail
          exact ⟨⟨l + 1, r, 2 * z, 2 * (first + n), ahead + n, z, by go_num, by go_num, by go_num, by go_num, by omega, by omega, rfl, HP.out, by omega, HAH2.out, HO2.out, HT2.out, HRES.out⟩, by simp [intOf]; omega⟩
      · have HT2 := Lib.hid (HT1.out.trans ht)
        have HRES : Hid (signN N (8 * bn) c p = .error k) := by
          show _ = _
          rw [HS1.out, HF.out, signGo, hr]
        clear hone hgot hr ht
        go_wp2_with fail
        exact ⟨rfl, HT2.out, .inr ⟨k, HRES.out, rfl⟩⟩
    · have hlli : ¬ (l : Int) ≤ (c.longest : Int) := by omega
      have HRES : Hid (signN N (8 * bn) c p = .error 4) := by
        show _ = _
        rw [HS1.out, show c.longest + 1 - l = 0 by omega, signGo]
      go_wp2_with fail
      refine (with_any 4 wr).mono ?_
      rintro e w3 ⟨rfl, rfl⟩
      dsimp only [thrown]
      go_wp2_with fail
      exact ⟨rfl, HT1.out, .inr ⟨4, HRES.out, rfl⟩⟩
end Go.Proofs.YtglgchjkonjpiaaGreatDoor
/-! A code's numbers, plainly: what counting lays. -/
namespace Go.Proofs.YtglgchjkonjpiaaGreatDoor
set_option linter.unusedVariables false
open Plain
theorem getD_map_range (f : Nat → Nat) (n k : Nat) (h : k < n) : ((List.range n).map f).getD k 0 = f k := by
  rw [List.getD_eq_getElem?_getD, List.getElem?_map, List.getElem?_range h]; rfl
theorem cntOf_len (ls : List Nat) : (cntOf ls).length = 16 := by simp [cntOf]
theorem cntOf_get (ls : List Nat) (k : Nat) (h : k < 16) : (cntOf ls).getD k 0 = if k = 0 then 0 else ls.count k := getD_map_range _ 16 k h
/-- How many signs have fewer bits, but some. -/
def startOf (ls : List Nat) (k : Nat) : Nat := ((cntOf ls).take k).sum
theorem startOf_succ (ls : List Nat) (k : Nat) (h : k < 16) : startOf ls (k + 1) = startOf ls k + (cntOf ls).getD k 0 := sum_take_succ _ _ (by rw [cntOf_len]; exact h)
theorem idx_snoc (l : List Nat) (x n : Nat) : idxOf (l ++ [x]) n = if x = n then idxOf l n ++ [l.length] else idxOf l n := by
  unfold idxOf
  rw [List.length_append, List.length_singleton, List.range_succ, List.filter_append]
  have e1 : (List.range l.length).filter (fun i => (l ++ [x]).getD i 0 == n) = (List.range l.length).filter (fun i => l.getD i 0 == n) := by
    apply List.filter_congr
    intro i hi
    rw [List.mem_range] at hi
    rw [List.getD_eq_getElem?_getD, List.getD_eq_getElem?_getD, List.getElem?_append_left hi]
  have e2 : (l ++ [x]).getD l.length 0 = x := by
    rw [List.getD_eq_getElem?_getD, List.getElem?_append_right (Nat.le_refl _), Nat.sub_self]; rfl
  rw [e1]
  simp only [List.filter_cons, List.filter_nil, e2]
  by_cases h : x = n
  · simp [h]
  · simp [h]
theorem take_snoc (ls : List Nat) (i : Nat) (h : i < ls.length) : ls.take (i + 1) = ls.take i ++ [ls.getD i 0] := by
  rw [List.take_succ_eq_append_getElem h, List.getD_eq_getElem?_getD, List.getElem?_eq_getElem h]; rfl
theorem idx_len_take (ls : List Nat) (n : Nat) : ∀ i, i ≤ ls.length → (idxOf (ls.take i) n).length = (ls.take i).count n
  | 0, _ => rfl
  | i + 1, h => by
    have ih := idx_len_take ls n i (by omega)
    rw [take_snoc ls i (by omega), idx_snoc, List.count_append, ← ih]
    by_cases hx : ls.getD i 0 = n
    · rw [if_pos hx, hx]; simp
    · rw [if_neg hx]
      generalize ls.getD i 0 = y at *
      simp [hx]
theorem idx_len (ls : List Nat) (n : Nat) : (idxOf ls n).length = ls.count n := by
  have := idx_len_take ls n ls.length (Nat.le_refl _)
  rwa [List.take_length] at this
theorem flat_get (f : Nat → List Nat) : ∀ (n k j : Nat), k < n → j < (f k).length → ((List.range n).flatMap f).getD ((((List.range n).map (fun i => (f i).length)).take k).sum + j) 0 = (f k).getD j 0
  | 0, k, j, h, _ => by omega
  | n + 1, k, j, h, hj => by
    rw [List.range_succ, List.flatMap_append, List.map_append]
    have hlen : ((List.range n).flatMap f).length = ((List.range n).map (fun i => (f i).length)).sum := by rw [List.length_flatMap]
    by_cases hk : k < n
    · have ih := flat_get f n k j hk hj
      have htk : ((List.range n).map (fun i => (f i).length) ++ [n].map (fun i => (f i).length)).take k = ((List.range n).map (fun i => (f i).length)).take k := by
        rw [List.take_append_of_le_length (by simp; omega)]
      rw [htk, List.getD_eq_getElem?_getD, List.getElem?_append_left ?_, ← List.getD_eq_getElem?_getD, ih]
      rw [hlen]
      have h1 := sum_take_le ((List.range n).map (fun i => (f i).length)) k (by simp; omega)
      rw [getD_map_range _ _ _ hk] at h1
      omega
    · obtain rfl : k = n := by omega
      have htk : ((List.range k).map (fun i => (f i).length) ++ [k].map (fun i => (f i).length)).take k = (List.range k).map (fun i => (f i).length) := by
        rw [List.take_append_of_le_length (by simp), List.take_of_length_le (by simp)]
      rw [htk, List.getD_eq_getElem?_getD, List.getElem?_append_right (by rw [hlen]; omega), hlen, Nat.add_sub_cancel_left]
      simp [List.getD_eq_getElem?_getD]
theorem start_eq (ls : List Nat) (k : Nat) (h : k < 16) : startOf ls (k + 1) = (((List.range 15).map (fun i => (idxOf ls (i + 1)).length)).take k).sum := by
  unfold startOf
  have e : (cntOf ls).take (k + 1) = 0 :: ((List.range 15).map (fun i => (idxOf ls (i + 1)).length)).take k := by
    unfold cntOf
    rw [show (List.range 16) = 0 :: (List.range 15).map (· + 1) from by decide, List.map_cons, List.take_succ_cons, if_pos rfl, List.map_map]
    congr 2
    apply List.map_congr_left
    intro i _
    simp [idx_len]
  rw [e, List.sum_cons, Nat.zero_add]
theorem sg_get (ls : List Nat) (k j : Nat) (h1 : 1 ≤ k) (h2 : k < 16) (hj : j < ls.count k) : (sgOf ls).getD (startOf ls k + j) 0 = (idxOf ls k).getD j 0 := by
  obtain ⟨i, rfl⟩ : ∃ i, k = i + 1 := ⟨k - 1, by omega⟩
  rw [start_eq ls i (by omega)]
  exact flat_get (fun i => idxOf ls (i + 1)) 15 i j (by omega) (by rw [idx_len]; exact hj)
theorem sg_len (ls : List Nat) : (sgOf ls).length = startOf ls 16 := by
  rw [start_eq ls 15 (by omega), List.take_of_length_le (by simp)]
  unfold sgOf
  rw [List.length_flatMap]
/-- Each place belongs to one length. -/
theorem place_of (ls : List Nat) : ∀ (n m : Nat), n ≤ 16 → m < startOf ls n → ∃ k j, 1 ≤ k ∧ k < n ∧ j < ls.count k ∧ m = startOf ls k + j
  | 0, m, hn, h => by simp [startOf] at h
  | n + 1, m, hn, h => by
    rw [startOf_succ _ _ (by omega), cntOf_get _ _ (by omega)] at h
    by_cases hm : m < startOf ls n
    · obtain ⟨k, j, h1, h2, h3, h4⟩ := place_of ls n m (by omega) hm
      exact ⟨k, j, h1, by omega, h3, h4⟩
    · by_cases h0 : n = 0
      · rw [if_pos h0] at h; omega
      · rw [if_neg h0] at h
        exact ⟨n, m - startOf ls n, by omega, by omega, by omega, by omega⟩
theorem start_mono (ls : List Nat) : ∀ (a b : Nat), a ≤ b → b ≤ 16 → startOf ls a ≤ startOf ls b
  | a, 0, h, _ => by obtain rfl : a = 0 := by omega
                     exact Nat.le_refl _
  | a, b + 1, h, hb => by
    by_cases e : a = b + 1
    · subst e; exact Nat.le_refl _
    · have := start_mono ls a b (by omega) (by omega)
      rw [startOf_succ _ _ (by omega)]; omega
theorem count_take_le (ls : List Nat) (i k : Nat) : (ls.take i).count k ≤ ls.count k := (List.take_sublist i ls).count_le k
theorem count_lt (ls : List Nat) (i : Nat) (h : i < ls.length) : (ls.take i).count (ls.getD i 0) < ls.count (ls.getD i 0) := by
  have h1 := count_take_le ls (i + 1) (ls.getD i 0)
  rw [take_snoc ls i h, List.count_append, List.count_singleton_self] at h1
  omega
theorem foldl_max_snoc (l : List Nat) (x : Nat) : (l ++ [x]).foldl max 0 = max (l.foldl max 0) x := by rw [List.foldl_append]; rfl
theorem foldl_max_le : ∀ (l : List Nat) (a m : Nat), a ≤ m → (∀ x ∈ l, x ≤ m) → l.foldl max a ≤ m
  | [], a, m, h, _ => h
  | x :: l, a, m, h, hx => foldl_max_le l (max a x) m (by have := hx x (by simp); omega) (fun y hy => hx y (by simp [hy]))
theorem sg_mem (ls : List Nat) (j : Nat) : (sgOf ls).getD j 0 ≤ ls.length := by
  by_cases hj : j < (sgOf ls).length
  · rw [List.getD_eq_getElem?_getD, List.getElem?_eq_getElem hj]
    have hm : (sgOf ls)[j] ∈ sgOf ls := List.getElem_mem hj
    show (sgOf ls)[j] ≤ _
    generalize (sgOf ls)[j] = x at *
    unfold sgOf at hm
    rw [List.mem_flatMap] at hm
    obtain ⟨n, -, hn⟩ := hm
    unfold idxOf at hn
    have := List.mem_range.1 (List.mem_filter.1 hn).1
    omega
  · rw [List.getD_eq_getElem?_getD, List.getElem?_eq_none (by omega)]; simp
theorem codeOk (ls : List Nat) (h : ∀ x ∈ ls, x ≤ 15) (hl : ls.length ≤ 1000) : CodeOk (codeOfN ls) := by
  have hle : (sgOf ls).length ≤ ls.length * 16 := by
    unfold sgOf
    rw [List.length_flatMap]
    have : ∀ (n : Nat), ((List.range n).map (fun i => (idxOf ls (i + 1)).length)).sum ≤ n * ls.length := fun n => by
      induction n with
      | zero => simp
      | succ n ih =>
        rw [List.range_succ, List.map_append, List.sum_append]
        have hc : ls.count (n + 1) ≤ ls.length := List.count_le_length
        rw [← idx_len] at hc
        simp only [List.map_cons, List.map_nil, List.sum_cons, List.sum_nil]
        rw [Nat.succ_mul]
        omega
    have := this 15
    omega
  refine ⟨cntOf_len ls, by rw [codeOfN, cntOf_get _ _ (by omega)]; rfl, ?_, foldl_max_le ls 0 15 (by omega) h, ?_, fun j => ?_⟩
  · show (cntOf ls).sum = (sgOf ls).length
    rw [sg_len, startOf, List.take_of_length_le (by rw [cntOf_len]; exact Nat.le_refl _)]
  · show (sgOf ls).length ≤ 100000
    omega
  · have := sg_mem ls j
    show (sgOf ls).getD j 0 ≤ 100000
    omega
end Go.Proofs.YtglgchjkonjpiaaGreatDoor
