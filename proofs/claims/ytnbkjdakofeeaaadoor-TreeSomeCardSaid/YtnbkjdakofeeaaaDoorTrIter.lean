/- A body's entries, told one by one. -/
import Derived.Test.YtnbkjdakofeeaaaDoorTrRound
namespace Go.Proofs.YtnbkjdakofeeaaaDoor
open Go.RowKit Plain Go.Shelf
set_option linter.unusedVariables false
set_option linter.unusedSimpArgs false
attribute [local go_sem] Oper.semAt_some
/-- What the rounds are handed, plainly. -/
def rndF : Nat → List UInt8 → List (TE × Bool)
  | 0, _ => []
  | f + 1, l => if l = [] then [] else if entT l = true then (isT l, true) :: rndF f (rsT l) else [(noEnt, false)]
def rndT (l : List UInt8) : List (TE × Bool) := rndF l.length l
theorem rndF_nil (f : Nat) : rndF f [] = [] := by cases f <;> simp [rndF]
theorem rndF_len : ∀ (f : Nat) (l : List UInt8), (rndF f l).length ≤ f
  | 0, _ => by simp [rndF]
  | f + 1, l => by
    rw [rndF]
    split
    · simp
    · split
      · have := rndF_len f (rsT l)
        rw [List.length_cons]; omega
      · simp
theorem rnd_some : ∀ (f : Nat) (l : List UInt8) {xs : List TE}, l.length ≤ f → rndF f l = xs.map (fun x => (x, true)) → entsT l = some xs
  | 0, l, xs, hl, h => by
    obtain rfl : l = [] := List.eq_nil_of_length_eq_zero (by omega)
    cases xs with
    | nil => rfl
    | cons x xs => simp [rndF] at h
  | f + 1, l, xs, hl, h => by
    rw [rndF] at h
    by_cases h0 : l = []
    · subst h0
      rw [if_pos rfl] at h
      cases xs with
      | nil => rfl
      | cons x xs => simp at h
    · rw [if_neg h0] at h
      by_cases ho : entT l = true
      · rw [if_pos ho] at h
        cases xs with
        | nil => simp at h
        | cons x xs =>
          simp only [List.map_cons, List.cons.injEq, Prod.mk.injEq, and_true] at h
          rw [ents_step ho, rnd_some f (rsT l) (by have := (ent_len ho).1; omega) h.2, h.1]
          rfl
      · rw [if_neg ho] at h
        cases xs with
        | nil => simp at h
        | cons x xs => simp at h
theorem rnd_none : ∀ (f : Nat) (l : List UInt8) (p : TE × Bool), l.length ≤ f → p ∈ rndF f l → p.2 = false → entsT l = none
  | 0, l, p, hl, h, hp => by simp [rndF] at h
  | f + 1, l, p, hl, h, hp => by
    rw [rndF] at h
    by_cases h0 : l = []
    · rw [if_pos h0] at h; cases h
    · rw [if_neg h0] at h
      by_cases ho : entT l = true
      · rw [if_pos ho] at h
        rcases List.mem_cons.1 h with rfl | h
        · cases hp
        · rw [ents_step ho, rnd_none f (rsT l) p (by have := (ent_len ho).1; omega) h hp]
          rfl
      · exact ents_bad h0 (by simpa using ho)
/-- What a round is handed. -/
def Rnds : Type := { r : TE × Bool // r.1.n.length = 20 }
def rvals (r : Rnds) : Array Value := #[.agg (entA r.1.1), .bool r.1.2]
def rnds (l : List Rnds) : List (TE × Bool) := l.map fun r => r.1
def szV : Value → Nat
  | .slice _ n _ => n
  | _ => 0
theorem wpListIn_store_row {F : Fence} {nF : Nat} {P : Program} {w : World} {ops : Array Oper} {rest : List Oper} {o : Oper} {ac : Act} {Q : Exit → Act → World → Prop} (hgd : o.guard = none) (ty : TypeId) (x y : Operand) (ho : o.op = .store ty x y)
    (g : Nat) (cells : Array Value) (hx : ac.eval x = .pointer (some ⟨g, 0, none⟩)) (hy : ac.eval y = .agg cells)
    (t : TypeId) (old : Array Value) (hg : w.heap[g]? = some (.cells old t (0, 0))) (hi : (P.info? ty).map (·.size) = some cells.size)
    (hold : old.size = cells.size) (h1 : cells.all (·.oneCell') = true)
    (h : wpListIn F nF P ops Q rest (ac.put o.dst undef) (w.setRow g cells)) : wpListIn F nF P ops Q (o :: rest) ac w := by
  refine wpListIn_plain hgd fun K hK => ?_
  unfold Oper.wpIn
  refine ⟨by simp [Oper.about, ho, resolve, Target.leads, Sem.run_pure], ?_⟩
  rw [Oper.semAt_plain F _ _ (by rw [ho]; intro c hc'; cases hc')]
  unfold execOp
  simp only [ho, hx, hy, Instr.storeAt, Instr.sureAddr, Sem.run_bind, Sem.run_pure, Result.andThen_ok, run_storeVar_row w g t ty old cells hg hi hold h1]
  exact hK _ _ h
theorem wpListIn_load_ent {F : Fence} {nF : Nat} {P : Program} {w : World} {ops : Array Oper} {rest : List Oper} {o : Oper} {ac : Act} {Q : Exit → Act → World → Prop} (hgd : o.guard = none) (ty : TypeId) (x : Operand) (ho : o.op = .load ty x)
    (b of : Nat) (hx : ac.eval x = .pointer (some ⟨b, of, none⟩)) (cs : List Value) (d : TypeDesc) (hc : w.rangeAt b of cs)
    (hu : P.underlying ty = some d) (hd : d.isRow = true) (hi : (P.info? ty).map (·.size) = some cs.length)
    (h : wpListIn F nF P ops Q rest (ac.put o.dst (.agg cs.toArray)) w) : wpListIn F nF P ops Q (o :: rest) ac w := by
  refine wpListIn_plain hgd fun K hK => ?_
  unfold Oper.wpIn
  refine ⟨by simp [Oper.about, ho, resolve, Target.leads, Sem.run_pure], ?_⟩
  rw [Oper.semAt_plain F _ _ (by rw [ho]; intro c hc'; cases hc')]
  unfold execOp
  simp only [ho, hx, Instr.loadAt, Instr.sureAddr, Sem.run_bind, Sem.run_pure, Result.andThen_ok, run_loadVar_mid w b of ty cs d hc hu hd hi]
  exact hK _ _ h
theorem CutQ.split {e : Ending} {w' : World} {L : List UInt8} (h : CutQ e w' L) : ∃ (X : TE) (a2 : Option Addr) (n2 c2 : Nat) (ok : Bool), e = .returned (.tuple #[.agg (entA X), .slice a2 n2 c2, .bool ok]) ∧ X.n.length = 20 ∧ ok = entT L ∧ (ok = true → X = isT L ∧ RowB w' a2 n2 c2 (numsOf (txt (rsT L)))) ∧ (ok = false → X = noEnt) := by
  unfold CutQ at h
  by_cases ho : entT L = true
  · rw [if_pos ho] at h
    obtain ⟨a2, n2, c2, rfl, hr⟩ := h
    exact ⟨isT L, a2, n2, c2, true, rfl, (ent_good L ho).1, ho.symm, fun _ => ⟨rfl, hr⟩, fun e => by cases e⟩
  · rw [if_neg ho] at h
    exact ⟨noEnt, none, 0, 0, false, h, zeros20_len, by simpa using ho, fun e => (by cases e), fun _ => rfl⟩
set_option maxRecDepth 100000 in
set_option maxHeartbeats 8000000 in
theorem entries1_in (n : Nat) (hn : 1 ≤ n) (l Bn n₀ : Nat) (a : Option Addr) (m cap : Nat) (L : List UInt8) (w : World) (R : RowB w a m cap (numsOf (txt L))) (hlim : m ≤ 100000) (hE : Env w) (hn₀ : n₀ = w.heap.size)
    (J Jx : List Rnds → World → Prop)
    (hY : ∀ pre x W, J pre W → pre.length < L.length + 1 → YieldAt Fence.wide (n - 1) Tryd.prog l (rvals x) W fun e W' =>
      (e = .returned (.bool true) ∧ J (pre ++ [x]) W' ∧ Below n₀ W W') ∨ (e = .returned (.bool false) ∧ Jx (pre ++ [x]) W'))
    (hJG : ∀ pre W W', J pre W → W.grownBy W' none → J pre W') (W : World) (hW : Below n₀ w W) (hBn : W.cell? ⟨Bn, 0, none⟩ = some (.slice a m cap)) (h0 : J [] W) :
    CallsIn Fence.wide n Tryd.prog 22 #[.func (.yield l) #[] #[], .pointer (some ⟨Bn, 0, none⟩)] W fun e W' => (∃ v, e = .returned v) ∧
      ((∃ ys, rnds ys = rndT L ∧ J ys W') ∨ (∃ pre, rnds pre <+: rndT L ∧ Jx pre W')) := by
  refine callsIn_of_wp Tryd.func22 rfl trivial ?_ rfl
  simp only [Tryd.ntmps22, List.size_toArray, List.length_cons, List.length_nil, Nat.reduceAdd, Nat.reduceSub, Array.replicate_succ, Array.replicate_zero, List.push_toArray, List.append_toArray, List.nil_append, List.cons_append]
  subst hn₀
  have HJG : Hid (∀ pre W W', J pre W → W.grownBy W' none → J pre W') := hJG
  have HY : Hid (∀ pre x W, J pre W → pre.length < L.length + 1 → YieldAt Fence.wide (n - 1) Tryd.prog l (rvals x) W fun e W' =>
      (e = .returned (.bool true) ∧ J (pre ++ [x]) W' ∧ Below w.heap.size W W') ∨ (e = .returned (.bool false) ∧ Jx (pre ++ [x]) W')) := hY
  have HE := Lib.hid hE
  have hRL := row_len R
  clear hJG hY hE
  gi_wp2
  gi_loopw [3] (fun v wr => ∃ (pre : List Rnds) (f : Nat) (a' : Option Addr) (m' c' : Nat) (rest : List UInt8), v = .slice a' m' c' ∧ RowB w a' m' c' (numsOf (txt rest)) ∧ rest.length ≤ f ∧ pre.length + rest.length ≤ L.length ∧ m' ≤ 100000 ∧ rndT L = rnds pre ++ rndF f rest ∧ Below w.heap.size w wr ∧ J pre wr) (fun v _ => szV v)
  case atStart => exact ⟨[], L.length, a, m, cap, L, rfl, R, Nat.le_refl _, by simp, hlim, rfl, hW, h0⟩
  case round =>
    obtain ⟨pre, f, a', m', c', rest, rfl, hR', hf, hpl, hlm, hrn, hbel, hJ⟩ := hrel
    have HR' := Lib.hid hR'
    have HRN := Lib.hid hrn
    have HBE := Lib.hid hbel
    have HJ : Hid (J pre wr) := hJ
    have HRL := Lib.hid (row_len hR')
    have hrl := row_len hR'
    have HPL := Lib.hid hpl
    have HLM := Lib.hid hlm
    clear hR' hrn hbel hJ hpl hlm hRL
    by_cases hm0 : m' = 0
    · subst hm0
      have e0 : rndF f rest = [] := by
        obtain rfl : rest = [] := List.eq_nil_of_length_eq_zero hrl
        exact rndF_nil f
      gi_wp2
      go_end0
      exact ⟨⟨_, rfl⟩, .inl ⟨pre, by rw [HRN.out, e0, List.append_nil], HJ.out⟩⟩
    · obtain ⟨f', rfl⟩ : ∃ f', f = f' + 1 := ⟨f - 1, by omega⟩
      have hm1 : 0 < (m' : Int) := by omega
      have hne : rest ≠ [] := fun e => by rw [e] at hrl; simp at hrl; omega
      have HF1 : Hid (rest.length ≤ f' + 1) := hf
      have HRF : Hid (rndF (f' + 1) rest = if entT rest = true then (isT rest, true) :: rndF f' (rsT rest) else [(noEnt, false)]) := by
        show _ = _
        rw [rndF, if_neg hne]
      have hze := zero_ent
      have hb1 : Below w.heap.size w (wr.alloc (.cells (entA noEnt) 44)) := HBE.out.alloc HBE.out.size _
      have HB1 := Lib.hid hb1
      have HT1 : Hid ((wr.alloc (.cells (entA noEnt) 44)).heap[wr.heap.size]? = some (.cells (entA noEnt) 44 (0, 0))) := heap_alloc_new _ _
      have HCT : Hid (CallsIn Fence.wide (n - 1) Tryd.prog 23 #[.slice a' m' c'] (wr.alloc (.cells (entA noEnt) 44)) fun e w' => CutQ e w rest ∧ Below (wr.alloc (.cells (entA noEnt) 44)).heap.size (wr.alloc (.cells (entA noEnt) 44)) w') :=
        callsIn_wide.2 (tcut_any a' m' c' rest _ w HR'.out hb1 HLM.out (HE.out.below hb1))
      have c0 : 1 ≤ n := hn
      clear hm0 hf hrl hne hb1
      gi_wp2_with (first
        | (refine ⟨trivial, ?_⟩
           gi_at_call 23
           refine HCT.out.mono ?_
           rintro e w1 ⟨hq, hb⟩
           obtain ⟨X, a2, n2, c2, ok, rfl, hx20, hok, hgo, hba⟩ := hq.split
           have HOK := Lib.hid hok
           have HGO := Lib.hid hgo
           have HBA := Lib.hid hba
           have HBB := Lib.hid hb
           have HT2 := Lib.hid ((hb.block wr.heap.size (by simp)).trans HT1.out)
           have HT3 := Lib.hid (setRow_heap _ _ _ (entA X) _ _ HT2.out)
           have HX20 := Lib.hid hx20
           have HIA := Lib.hid (ent_info X hx20)
           have HIL := Lib.hid (ent_infoL X hx20)
           have HSA : Hid ((entA noEnt).size = (entA X).size) := by show _ = _; rw [entA_size _ hx20, entA_size _ zeros20_len]
           clear hok hgo hba hb hx20 hq)
        | (refine wpListIn_store_row rfl 44 _ _ rfl wr.heap.size (entA X) rfl rfl 44 (entA noEnt) HT2.out HIA.out HSA.out (entA_one _) ?_)
        | (refine wpListIn_load_ent rfl 44 _ rfl wr.heap.size 0 rfl (entL X) _ (row_ent HT3.out) Tryd.underlying44 rfl HIL.out ?_))
      have hbz : Below wr.heap.size wr (w1.setRow wr.heap.size (entA X)) := below_setRow (((Below.refl _ _).alloc (Nat.le_refl _) _).trans (HBB.out.mono (by simp))) (Nat.le_refl _) _
      have HBZ := Lib.hid (HBE.out.trans (hbz.mono HBE.out.size))
      have HJZ : Hid (J pre (w1.setRow wr.heap.size (entA X))) := HJG.out _ _ _ HJ.out ⟨hbz.os, hbz.tape, hbz.output, hbz.size, fun k hk _ => hbz.block k hk⟩
      clear hbz HBB HT2 HT3 HIA HIL HSA HCT HT1 HB1
      generalize w1.setRow wr.heap.size (entA X) = wz at *
      obtain ⟨x, hx⟩ : ∃ x : Rnds, x = ⟨(X, ok), HX20.out⟩ := ⟨_, rfl⟩
      have hxv : rvals x = #[.agg (entL X).toArray, .bool ok] := by rw [hx]; rfl
      have HXV : Hid (rnds (pre ++ [x]) = rnds pre ++ [(X, ok)]) := by show _ = _; unfold rnds; rw [List.map_append, hx]; rfl
      obtain ⟨fn, tmps, assign, body, hy, hR⟩ := HY.out pre x wz HJZ.out (by have := HPL.out; omega)
      rw [hxv] at hy
      have HRR := Lib.hid hR
      clear hR hxv hx
      cases ok
      · have HE1 : Hid (rndT L = rnds (pre ++ [x])) := by
          show _ = _
          rw [HXV.out, HBA.out rfl, HRN.out, HRF.out, ← HOK.out]
          rfl
        gi_wp2
        refine HRR.out.mono ?_
        rintro e W3 (⟨rfl, hJ3, hk3⟩ | ⟨rfl, hJx3⟩)
        · gi_wp2
          refine bodyPost_ret (results_none rfl _ _ _) rfl ?_
          exact ⟨⟨_, rfl⟩, .inl ⟨pre ++ [x], HE1.out.symm, hJ3⟩⟩
        · gi_wp2
          refine bodyPost_ret (results_none rfl _ _ _) rfl ?_
          exact ⟨⟨_, rfl⟩, .inr ⟨pre ++ [x], by rw [HE1.out]; exact List.prefix_refl _, hJx3⟩⟩
      · obtain ⟨hX, hrow⟩ := HGO.out rfl
        have HROW := Lib.hid hrow
        have HE1 : Hid (rndT L = rnds (pre ++ [x]) ++ rndF f' (rsT rest)) := by
          show _ = _
          rw [HXV.out, HRN.out, HRF.out, ← HOK.out, if_pos rfl, hX]
          simp
        have hlen := (ent_len (HOK.out.symm)).1
        have hl2 := row_len hrow
        have h1 := HPL.out
        have h2 := HRL.out
        have h3 := HLM.out
        have h4 := HF1.out
        have HNUM : Hid ((rsT rest).length ≤ f' ∧ (pre ++ [x]).length + (rsT rest).length ≤ L.length ∧ n2 ≤ 100000 ∧ n2 < m') := by
          refine ⟨by omega, by rw [List.length_append, List.length_singleton]; omega, by omega, by omega⟩
        clear hX hrow hlen hl2 h1 h2 h3 h4
        gi_wp2
        refine HRR.out.mono ?_
        rintro e W3 (⟨rfl, hJ3, hk3⟩ | ⟨rfl, hJx3⟩)
        · gi_wp2
          go_roundw
          case rel => exact ⟨pre ++ [x], f', a2, n2, c2, rsT rest, rfl, HROW.out, HNUM.out.1, HNUM.out.2.1, HNUM.out.2.2.1, HE1.out, HBZ.out.trans (hk3.mono (Nat.le_refl _)), hJ3⟩
          case measure => simp only [szV]; exact HNUM.out.2.2.2
        · gi_wp2
          refine bodyPost_ret (results_none rfl _ _ _) rfl ?_
          exact ⟨⟨_, rfl⟩, .inr ⟨pre ++ [x], by rw [HE1.out]; exact List.prefix_append _ _, hJx3⟩⟩
end Go.Proofs.YtnbkjdakofeeaaaDoor
