/- Rows of slices of bytes, and parts of one row of bytes. -/
import Derived.Test.YtcajcnceomimhaaKnown
import Derived.Test.YtcajcnceomimhaaEq
namespace Go.Proofs.Ytcajcnceomimhaa
open Go.RowKit Plain
set_option linter.unusedVariables false
theorem sl8info : (Try.prog.info? 22).map (fun i => (i.zero, i.size, i.bytes)) = some (some (.slice none 0 0), 1, 24) := by kernel_rfl
def hdr (p : Part) : Value := .slice p.a p.xs.length p.cap
/-- The address behind 'a[l:]'. -/
def subA (a : Option Addr) (cap l : Nat) : Option Addr := if cap = l then a else a.map (·.add l)
theorem slice_sub (a : Option Addr) (m cap lo hi : Nat) (h1 : lo ≤ hi) (h2 : hi ≤ cap) (w : World) :
    (Instr.sliceAt 22 (.slice a m cap) (some (.int .i64 (lo : Int))) (some (.int .i64 (hi : Int))) none).run Try.prog w = .ok (.slice (subA a cap lo) (hi - lo) (cap - lo)) w := by
  have hsz : ∀ W : World, (sizeOf (Try.prog.elem 22)).run Try.prog W = .ok 1 W := fun W => by kernel_rfl
  rw [run_sliceAt_slice w 22 _ _ _ _ (by kernel_rfl), run_slice_lh w 22 a m cap (by kernel_rfl) .i64 .i64 (lo : Int) (hi : Int) (by omega) (by omega) (by omega), hsz]
  simp [Result.andThen_ok, sliced, subA]
theorem slice_from (a : Option Addr) (m cap lo : Nat) (h1 : lo ≤ m) (h2 : m ≤ cap) (w : World) :
    (Instr.sliceAt 22 (.slice a m cap) (some (.int .i64 (lo : Int))) none none).run Try.prog w = .ok (.slice (subA a cap lo) (m - lo) (cap - lo)) w := by
  have hsz : ∀ W : World, (sizeOf (Try.prog.elem 22)).run Try.prog W = .ok 1 W := fun W => by kernel_rfl
  rw [run_sliceAt_slice w 22 _ _ _ _ (by kernel_rfl), run_slice_l w 22 a m cap (by kernel_rfl) .i64 (lo : Int) (by omega) (by omega), hsz]
  simp [Result.andThen_ok, sliced, subA]
theorem Bytes.part {w : World} {a : Option Addr} {m : Nat} {xs : List Int} (h : Bytes w a m xs) (cap lo hi : Nat) (h1 : lo ≤ hi) (h2 : hi ≤ m) (h3 : m ≤ cap) : Bytes w (subA a cap lo) (hi - lo) ((xs.drop lo).take (hi - lo)) := by
  by_cases h0 : hi = lo
  · subst h0
    rw [Nat.sub_self, List.take_zero]
    exact ⟨rfl, by omega, by simp, .inl rfl⟩
  · have hm : m ≠ 0 := by omega
    obtain ⟨b, off, rfl⟩ : ∃ b off, a = some ⟨b, off, none⟩ := by
      rcases h.2.2.2 with h | ⟨b, off, rfl, -⟩
      · exact absurd h hm
      · exact ⟨b, off, rfl⟩
    have e : subA (some ⟨b, off, none⟩) cap lo = some ⟨b, off + lo, none⟩ := by
      unfold subA
      rw [if_neg (by omega)]
      show some (Addr.add _ _) = _
      unfold Addr.add
      split <;> simp_all
    rw [e]
    exact h.sub lo (hi - lo) (by omega)
theorem ownsRow_below {w w' : World} {base : Nat} {e : TypeId} {size : Nat} {v : Value} {n : Nat} {xs : List Value} (h : w.ownsRow base e size v n xs) (hb : Below w.heap.size w w') : w'.ownsRow base e size v n xs := by
  obtain ⟨h1, h2 | ⟨g, cap, cur, h3, h4, h5, h6⟩⟩ := h
  · exact ⟨h1, .inl h2⟩
  · refine ⟨h1, .inr ⟨g, cap, cur, h3, h4, ?_, h6⟩⟩
    rw [hb.block g (by
      rcases Nat.lt_or_ge g w.heap.size with h | h
      · exact h
      · simp [Array.getElem?_eq_none h] at h5)]
    exact h5
theorem ownsRow_kept {w w' : World} {base : Nat} {e : TypeId} {size : Nat} {v : Value} {n : Nat} {xs : List Value} (h : w.ownsRow base e size v n xs) (hbase : base ≤ w.heap.size) (hg : w.grownBy w' v.ownBlock) : Below base w w' := by
  refine (Below.refl base w).grown hg hbase fun k hk => ?_
  obtain ⟨h1, ⟨rfl, rfl⟩ | ⟨g, cap, cur, rfl, h4, h5⟩⟩ := h
  · cases hk
  · simp only [Value.ownBlock, Option.some.injEq] at hk; omega
/-- A row of parts that the call owns, read. -/
theorem parts_own {w : World} {base : Nat} {v : Value} {n : Nat} {ps : List Part} (h : w.ownsRow base 22 1 v n (ps.map hdr)) (hp : ∀ p ∈ ps, p.xs.length ≤ p.cap ∧ Bytes w p.a p.xs.length p.xs) (hn : 0 < n) :
    ∃ g c, v = .slice (some ⟨g, 0, none⟩) n c ∧ PartsAt w g 0 ps := by
  obtain ⟨h1, ⟨rfl, rfl⟩ | ⟨g, cap, cur, rfl, h3, h4, h5, h6, h7, h8⟩⟩ := h
  · omega
  · refine ⟨g, cap, rfl, fun j p hj => ?_⟩
    have hj' : j < ps.length := by
      rcases Nat.lt_or_ge j ps.length with h | h
      · exact h
      · rw [List.getElem?_eq_none h] at hj; cases hj
    refine ⟨?_, hp p (List.mem_of_getElem? hj)⟩
    have hl : ps.length = n := by simpa using h1
    have e := congrArg (fun l => l[j]?) h8
    simp only [Nat.mul_one, List.getElem?_map, hj, Option.map_some] at e
    rw [List.getElem?_take_of_lt (by omega), Array.getElem?_toList] at e
    unfold World.cell?
    simp only [h4, Nat.zero_add]
    simpa [hdr] using e
theorem allBytes_snoc (ps : List Part) (p : Part) : allBytes (ps ++ [p]) = allBytes ps ++ p.xs := by simp [allBytes]
theorem take_parts (xs : List Int) (lo hi : Nat) (h : lo ≤ hi) : xs.take lo ++ (xs.drop lo).take (hi - lo) = xs.take hi := by
  have := List.take_add (l := xs) (i := lo) (j := hi - lo)
  rw [show lo + (hi - lo) = hi by omega] at this
  exact this.symm
/-- append(v, p), p a part in a new row of its own. -/
theorem wpList_append_part {w : World} {ops : Array Oper} {rest : List Oper} {o : Oper} {ac : Act} {Q : Exit → Act → World → Prop} (hgd : o.guard = none) (s x : Operand)
    (ho : o.op = .call { callee := .builtin .append, args := #[s, x], argTypes := #[30, 30] })
    (base : Nat) (v : Value) (n : Nat) (ps : List Part) (p : Part) (hs : ac.eval s = v) (hown : w.ownsRow base 22 1 v n (ps.map hdr)) (hx : ac.eval x = .slice (some ⟨w.heap.size, 0, none⟩) 1 1)
    (hsum : n + 1 ≤ 1000000) (hbase : base ≤ w.heap.size)
    (h : ∀ v' w', w'.ownsRow base 22 1 v' (n + 1) ((ps ++ [p]).map hdr) → Below base w w' → wpList Try.prog ops Q rest (ac.put o.dst v') w') :
    wpList Try.prog ops Q (o :: rest) ac (w.alloc (.cells #[hdr p] 22)) := by
  obtain ⟨i0, hi, hz0, hz1, hz2⟩ := info_parts sl8info
  have ho2 : (w.alloc (.cells #[hdr p] 22)).ownsRow base 22 1 v n (ps.map hdr) := hown.alloc _
  refine wpList_append_own _ hgd s x 30 ho base 22 i0 (.slice none 0 0) 1 24 Try.underlying30 hi hz0 hz1 hz2 rfl (by decide) v n _ hs ho2 ⟨w.heap.size, 0, none⟩ 1 1 [hdr p] hx rfl ?_ ?_ ?_ ?_ ?_ ?_
  · intro j u hj
    match j, hj with
    | 0, hj =>
      simp at hj; subst hj
      simp [Addr.add]
  · intro u hu; simp at hu; subst hu; rfl
  · unfold maxLen; omega
  · omega
  · simp; omega
  · intro v' w' h1 h2 _
    refine h v' w' (by rw [List.map_append]; exact h1) (((Below.refl base w).alloc hbase _).trans (ownsRow_kept ho2 (by simp; omega) h2))
theorem sum_one (a : Option Addr) (m cap : Nat) (xs : List Int) (w : World) (hm : m ≤ cap) (hl : m + 100 < 18446744073709551616) (H : Bytes w a m xs) :
    Calls Try.prog 9 #[.slice (some ⟨w.heap.size, 0, none⟩) 1 1] (w.alloc (.cells #[.slice a m cap] 22)) fun e w' => e = .returned (.agg (idTo (sumOf xs) 20)) ∧ Below w.heap.size w w' := by
  have hx := H.1
  have b : Below w.heap.size w (w.alloc (.cells #[.slice a m cap] 22)) := (Below.refl _ _).alloc (Nat.le_refl _) _
  have hc := cell_new w _ rfl #[.slice a m cap] 22 (0, 0) 0 (.slice a m cap) rfl
  have H2 := H.below b
  generalize w.alloc (.cells #[.slice a m cap] 22) = W at *
  have P : PartsAt W w.heap.size 0 [⟨a, cap, xs⟩] := by
    intro j p hp
    match j, hp with
    | 0, hp =>
      simp at hp; subst hp
      exact ⟨by rw [hc, hx], by simp [hx, hm], by simpa [hx] using H2⟩
    | j + 1, hp => simp at hp
  have hall : allBytes [(⟨a, cap, xs⟩ : Part)] = xs := by simp [allBytes]
  refine (sum_any _ _ 1 _ W (by simp) (by simp) (by rw [hall, hx]; exact hl) P).mono ?_
  rw [hall]
  rintro e w' ⟨rfl, hb⟩
  exact ⟨rfl, b.trans (hb.mono b.size)⟩
theorem eq_self (s : Five) (w : World) : (Op.equalIn 10000 25 (.agg (idTo s 20)) (.agg (idTo s 20))).run Try.prog w = .ok true w := by
  rw [idTo_tbs, run_equalIn_arr w 25 20 Try.underlying25 _ _ (tbs_length s) (tbs_length s)]
  simp
end Go.Proofs.Ytcajcnceomimhaa
