/- Those nodes that are marked so: the walk. -/
import Derived.Test.YthadgepihjigeaaLawSome
namespace Go.Proofs.Ythadgepihjigeaa
open Go.RowKit Plain
set_option linter.unusedVariables false
namespace Plain
/-- The nodes that f says, in order. -/
def whereN (f : Nat → Bool) : Nat → List Int
  | 0 => []
  | n + 1 => whereN f n ++ (if f n = true then [(n : Int)] else [])
theorem where_len (f : Nat → Bool) : ∀ n, (whereN f n).length ≤ n
  | 0 => Nat.le_refl _
  | n + 1 => by
    have := where_len f n
    rw [whereN, List.length_append]
    split <;> simp <;> omega
theorem where_mem (f : Nat → Bool) : ∀ (n : Nat) (v : Int), v ∈ whereN f n ↔ ∃ x : Nat, x < n ∧ v = (x : Int) ∧ f x = true
  | 0, v => by
    rw [whereN]
    constructor
    · intro h; cases h
    · rintro ⟨x, h, -⟩; omega
  | n + 1, v => by
    rw [whereN, List.mem_append, where_mem f n v]
    constructor
    · rintro (⟨x, h1, h2, h3⟩ | h)
      · exact ⟨x, by omega, h2, h3⟩
      · split at h
        · rename_i hf
          rw [List.mem_singleton] at h
          exact ⟨n, by omega, h, hf⟩
        · cases h
    · rintro ⟨x, h1, rfl, h3⟩
      by_cases e : x = n
      · subst e
        right
        rw [if_pos h3]
        exact List.mem_singleton.2 rfl
      · exact .inl ⟨x, by omega, rfl, h3⟩
theorem where_congr {f g : Nat → Bool} : ∀ {n : Nat}, (∀ x, x < n → f x = g x) → whereN f n = whereN g n
  | 0, _ => rfl
  | n + 1, h => by rw [whereN, whereN, where_congr (n := n) fun x hx => h x (by omega), h n (by omega)]
end Plain
/-- Each node's mark. -/
def MarkF (f : Nat → Bool) (n : Nat) (ms : List Bool) : Prop := ∀ y, y < n → ms[y]? = some (f y)
set_option maxRecDepth 100000 in
set_option maxHeartbeats 8000000 in
theorem those_any (M n base : Nat) (ms : List Bool) (f : Nat → Bool) (so : Bool) (w : World) (h : BoolRow w base M n ms) (hf : MarkF f n ms) (hn : n ≤ 1000) :
    Calls Try.prog 26 #[.slice (some ⟨M, 0, none⟩) n n, .bool so] w fun e w' => (∃ a l c, e = .returned (.slice a l c) ∧ w'.ownsRow w.heap.size 3 1 (.slice a l c) l (I64 (whereN (fun x => f x == so) n)) ∧ l = (whereN (fun x => f x == so) n).length) ∧ Below w.heap.size w w' := by
  have HR := Lib.hid h
  have HF := Lib.hid hf
  have hM : M < w.heap.size := (h.2.lt M rfl).2
  clear h hf
  go_enter Try.func26, Try.ntmps26
  go_wp2_with fail
  go_loopw [5, 10] (fun s i wr => ∃ (k : Nat) (sa : Option Addr) (sl sc : Nat), k ≤ n ∧ i = .int .i64 (k : Int) ∧ s = .slice sa sl sc ∧ sl = (whereN (fun x => f x == so) k).length ∧ wr.ownsRow w.heap.size 3 1 (.slice sa sl sc) sl (I64 (whereN (fun x => f x == so) k)) ∧ Below w.heap.size w wr) (fun s i _ => n - (intOf i).toNat)
  case atStart => exact ⟨0, none, 0, 0, by omega, rfl, rfl, rfl, World.ownsRow_nil _ _ _ _, Below.refl _ _⟩
  case round =>
    obtain ⟨k, sa, sl, sc, hk, rfl, rfl, hsl, hs, hb⟩ := hrel
    have HS := Lib.hid hs
    have HB := Lib.hid hb
    have HSL := Lib.hid hsl
    have hs9 : sl ≤ k := by rw [hsl]; exact where_len _ k
    clear hs hb hsl
    have wk := next_int k (by omega)
    by_cases hkn : k = n
    · subst hkn
      go_wp2_with fail
      go_ret
      exact ⟨⟨sa, sl, sc, rfl, HS.out, HSL.out⟩, HB.out⟩
    · have hkl : k < n := by omega
      have hki : (k : Int) < (n : Int) := by omega
      obtain ⟨hc0, -⟩ := HR.out.at_ (HF.out k hkl) hkl
      have hc := (HB.out.cell (p := ⟨M, k, none⟩) hM).trans hc0
      clear hc0
      by_cases hy : f k = so
      · have HE : Hid (whereN (fun x => f x == so) (k + 1) = whereN (fun x => f x == so) k ++ [(k : Int)]) := by
          rw [whereN, if_pos (by simp [hy])]
          rfl
        rw [hy] at hc
        have HLI := Lib.hid (fun t => lit_one wr (k : Int) t)
        have HBA := Lib.hid (fun o1 => HB.out.alloc HB.out.size o1)
        have HL1 : Hid (sl + 1 = (whereN (fun x => f x == so) (k + 1)).length) := by
          rw [HE.out, List.length_append, ← HSL.out]; rfl
        have hso : (so == so) = true := by simp
        clear hy
        have tok : True := trivial
        go_wp2_with (have _t := tok; at_builtin; clear tok; refine Hid.out ?_)
        refine unhid ?_
        refine wpList_append_one rfl _ _ rfl w.heap.size (.slice sa sl sc) sl _ rfl (HS.out.alloc _) wr.heap.size _ rfl (HLI.out _) (by omega) (HBA.out _).size (fun g2 gc2 w7 ho1 hg1 hgg hgl => ?_)
        rw [← HE.out] at ho1
        have HO1 := Lib.hid ho1
        have HB7 := Lib.hid ((HBA.out _).grown hg1 (HBA.out _).size (fun g hg => (HS.out.lt g hg).1))
        clear ho1 hg1 hgg HS HBA HLI
        go_wp2_with fail
        exact ⟨⟨k + 1, some ⟨g2, 0, none⟩, sl + 1, gc2, by omega, by first | rfl | exact congrArg (Value.int .i64) (wk _ rfl), rfl, HL1.out, HO1.out, HB7.out⟩, by simp [intOf]; omega⟩
      · have HE : Hid (whereN (fun x => f x == so) (k + 1) = whereN (fun x => f x == so) k) := by
          rw [whereN, if_neg (by simp [hy]), List.append_nil]
          rfl
        have HS1 : Hid (wr.ownsRow w.heap.size 3 1 (.slice sa sl sc) sl (I64 (whereN (fun x => f x == so) (k + 1)))) := by
          rw [HE.out]; exact HS.out
        have HL1 : Hid (sl = (whereN (fun x => f x == so) (k + 1)).length) := by rw [HE.out]; exact HSL.out
        have hfb : (f k == so) = false := beq_eq_false_iff_ne.2 hy
        generalize f k = fk at *
        go_wp2_with fail
        exact ⟨⟨k + 1, sa, sl, sc, by omega, by first | rfl | exact congrArg (Value.int .i64) (wk _ rfl), rfl, HL1.out, HS1.out, HB.out⟩, by simp [intOf]; omega⟩
end Go.Proofs.Ythadgepihjigeaa
