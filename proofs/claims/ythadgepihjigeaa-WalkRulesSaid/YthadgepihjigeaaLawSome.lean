/- The first nodes of a graph: the walk. -/
import Derived.Test.YthadgepihjigeaaLawOrders
namespace Go.Proofs.Ythadgepihjigeaa
open Go.RowKit Plain
set_option linter.unusedVariables false
namespace Plain
def lessK (k : Nat) (v : Int) : Bool := decide (v < (k : Int))
theorem row_take (G : List (List Int)) {k x : Nat} (h : x < k) : row (G.take k) x = row G x := by
  unfold row
  rw [List.getElem?_take_of_lt h]
theorem mem_below {o : List Int} {k : Nat} {v : Int} : v ∈ o.filter (lessK k) ↔ v ∈ o ∧ v < (k : Int) := by
  rw [List.mem_filter]
  unfold lessK
  rw [decide_eq_true_eq]
theorem Pre.first {G : List (List Int)} (hA : Ahead G) {k : Nat} (hk : k ≤ G.length) {o : List Int} (h : Pre G o) : Pre (G.take k) (o.filter (lessK k)) := by
  have hl : (G.take k).length = k := by rw [List.length_take]; omega
  induction h with
  | nil => exact .nil
  | @cons o x h ho hx ih =>
    rw [List.filter_append]
    obtain ⟨n1, n2, n3⟩ := next_some.1 hx
    obtain ⟨f1, f2, f3⟩ := h.facts
    by_cases hxk : x < k
    · have e : [(x : Int)].filter (lessK k) = [(x : Int)] := by
        rw [List.filter_cons_of_pos (by unfold lessK; exact decide_eq_true (by omega))]
        rfl
      rw [e]
      refine .cons ih ?_ (next_some.2 ⟨⟨fun hm => n1.1 (mem_below.1 hm).1, fun p hp => ?_⟩, by omega, fun y hy hr => ?_⟩)
      · rw [hl]
        have h1 : ((x : Int) :: o.filter (lessK k)).length ≤ k := nodup_len (by
            rw [List.nodup_cons]
            exact ⟨fun hm => n1.1 (mem_below.1 hm).1, f1.filter _⟩) fun v hv => by
          rcases List.mem_cons.1 hv with rfl | hv
          · exact ⟨x, hxk, rfl⟩
          · obtain ⟨h2, h3⟩ := mem_below.1 hv
            obtain ⟨y, hy, rfl⟩ := f2 v h2
            exact ⟨y, by omega, rfl⟩
        rw [List.length_cons] at h1
        omega
      · rw [row_take G hxk] at hp
        obtain ⟨y, hy, rfl⟩ := hA x n2 p hp
        exact mem_below.2 ⟨n1.2 _ hp, by omega⟩
      · refine n3 y hy ⟨fun hm => hr.1 (mem_below.2 ⟨hm, by omega⟩), fun p hp => ?_⟩
        have hp' : p ∈ row (G.take k) y := by rw [row_take G (by omega)]; exact hp
        exact (mem_below.1 (hr.2 p hp')).1
    · have e : [(x : Int)].filter (lessK k) = [] := by
        rw [List.filter_cons_of_neg (by unfold lessK; rw [decide_eq_true_eq]; omega)]
        rfl
      rw [e, List.append_nil]
      exact ih
theorem order_first {G : List (List Int)} (hA : Ahead G) {k : Nat} (hk : k ≤ G.length) {o : List Int} (h : orderN G = some o) : orderN (G.take k) = some (o.filter (lessK k)) := by
  obtain ⟨h1, h2⟩ := order_some h
  refine (h1.first hA hk).done ?_
  rw [List.length_take, Nat.min_eq_left hk]
  exact all_len fun x hx => mem_below.2 ⟨order_all h1 h2 x (by omega), by omega⟩
end Plain
theorem own_cap {w : World} {base n c size : Nat} {e : TypeId} {a : Option Addr} {xs : List Value} (h : w.ownsRow base e size (.slice a n c) n xs) : n ≤ c := by
  rcases h.2 with ⟨e, h0⟩ | ⟨g, cap, cur, e, -, -, h1, h2, -, -⟩
  · omega
  · injection e with e1 e2 e3
    omega
theorem slice_rows (a : Option Addr) (m cap hi : Nat) (h2 : hi ≤ cap) (w : World) :
    (Instr.sliceAt 22 (.slice a m cap) none (some (.int .i64 (hi : Int))) none).run Try.prog w = .ok (.slice a hi cap) w := by
  have hsz : ∀ W : World, (sizeOf (Try.prog.elem 22)).run Try.prog W = .ok 1 W := fun W => by kernel_rfl
  have h0 : ∀ x : Addr, x.add 0 = x := fun x => by unfold Addr.add; simp
  rw [run_sliceAt_slice w 22 _ _ _ _ (by kernel_rfl), run_slice_h w 22 a m cap (by kernel_rfl) .i64 (hi : Int) (by omega) (by omega), hsz]
  simp [Result.andThen_ok, sliced, h0]
theorem GraphIn.first {w : World} {a : Option Addr} {n : Nat} {ps : List Rw} (h : GraphIn w a n ps) {k : Nat} (hk : k ≤ n) : GraphIn w a k (ps.take k) := by
  refine ⟨by rw [List.length_take, h.len]; omega, ?_, fun p hp => h.each p (List.mem_of_mem_take hp)⟩
  rcases h.rows with h0 | ⟨b, off, ha, hc⟩
  · exact .inl (by omega)
  · refine .inr ⟨b, off, ha, fun j p hj => hc j p ?_⟩
    have hjl : j < k := by
      have := (List.getElem?_eq_some_iff.1 hj).1
      rw [List.length_take] at this
      omega
    rwa [List.getElem?_take_of_lt hjl] at hj
theorem gr_take (qs : List Rw) (k : Nat) : gr (qs.take k) = (gr qs).take k := by unfold gr; rw [List.map_take]
theorem filter_take_succ {o : List Int} {f : Int → Bool} {i : Nat} {x : Int} (h : o[i]? = some x) : (o.take (i + 1)).filter f = (o.take i).filter f ++ (if f x = true then [x] else []) := by
  rw [List.take_add_one, h, List.filter_append]
  congr 1
  by_cases hf : f x = true
  · rw [if_pos hf]; simp [hf]
  · rw [if_neg hf]; simp [hf]
set_option maxRecDepth 100000 in
set_option maxHeartbeats 8000000 in
theorem some_any (a : Option Addr) (n c : Nat) (ps : List Rw) (z : Int) (w : World) (h : GraphIn w a n ps) (hn : n ≤ 9223372036854775807) :
    Calls Try.prog 7 #[.slice a n c, .int .i64 z] w fun e w' => e = .returned (.bool true) ∧ Below w.heap.size w w' := by
  have HG := Lib.hid h
  clear h
  have HS1 := few_small ps
  have HS2 := ahead_small HS1
  have HA := ahead_is (gr (fewR ps))
  have HF := Lib.hid (ahead_any a n c ps w HG.out hn)
  generalize aheadN (gr (fewR ps)) = G at *
  obtain ⟨o, ho⟩ := HA.order
  have hol := (order_some ho).2
  obtain ⟨g, hg⟩ : ∃ g, G.length = g := ⟨_, rfl⟩
  have hg30 : g ≤ 30 := by rw [← hg]; exact HS2.len
  obtain ⟨k, hk⟩ : ∃ k : Nat, modI (g + 1) z = (k : Int) := ⟨(modI (g + 1) z).toNat, by have := modI_lt (g + 1) z (by omega); omega⟩
  have hkg : k ≤ g := by have := modI_lt (g + 1) z (by omega); omega
  have HK1 : Hid (wrap64 ((IntKind.u64.wrap z).tmod ((g : Int) + 1)) = (k : Int)) := (rem_is (g + 1) z (by omega) (by omega)).trans hk
  have HO := Lib.hid ho
  have HO2 := Lib.hid (order_first HA (k := k) (by omega) ho)
  have wg := next_int g (by omega)
  rw [hg] at hol
  have HGL := Lib.hid hg
  clear ho hk hg
  go_enter Try.func7, Try.ntmps7
  go_wp2_with fail
  refine HF.out.mono ?_
  rintro e w1 ⟨⟨v, qs, rfl, hoG, hgr⟩, hb⟩
  obtain ⟨ga, gc, rfl, hgi⟩ := hoG.graphIn
  have hcap := own_cap hoG.row
  have hql : qs.length = g := by rw [← gr_len, hgr]; exact HGL.out
  rw [hql] at hcap hgi
  rw [hql]
  have HB1 := Lib.hid hb
  have HG1 := Lib.hid hgi
  have HQ1 := Lib.hid hgr
  clear hb hoG hgi hgr hql HF
  go_wp2_with fail
  rw [HK1.out]
  have HSK : Small (G.take k) := ⟨by rw [List.length_take]; omega, fun l hl => HS2.rows l (List.mem_of_mem_take hl)⟩
  have HGK : Hid ((G.take k).length = k) := by show _ = _; rw [List.length_take, HGL.out]; omega
  have h1 := order_got G ga gc qs w1 (by rw [HGL.out]; exact HG1.out) HQ1.out HS2
  rw [HGL.out] at h1
  refine h1.mono ?_
  clear h1
  rintro e w2 ⟨hq, hb⟩
  obtain ⟨xa, xc, rfl, hx⟩ := ord_yes hq HO.out
  have HX := Lib.hid (ints_own hx)
  have HG2 := Lib.hid ((HG1.out.below hb).first hkg)
  have HQ2 : Hid (gr (qs.take k) = G.take k) := by show _ = _; rw [gr_take, HQ1.out]
  have HB2 := Lib.hid (HB1.out.trans (hb.mono HB1.out.size))
  rw [hol] at hx ⊢
  clear hb hq hx HG1 HB1 HQ1 HK1 HG
  have sl := fun W => slice_rows ga g gc k (by omega) W
  go_wp2_with fail
  have h1 := order_got (G.take k) ga gc (qs.take k) w2 (by rw [HGK.out]; exact HG2.out) HQ2.out HSK
  rw [HGK.out] at h1
  refine h1.mono ?_
  clear h1 sl
  rintro e w3 ⟨hq, hb⟩
  obtain ⟨ya, yc, rfl, hy⟩ := ord_yes hq HO2.out
  have HY := Lib.hid (ints_own hy)
  have HX3 := Lib.hid (HX.out.below hb)
  have HB3 := Lib.hid (HB2.out.trans (hb.mono HB2.out.size))
  clear hb hq hy HX HB2 HG2 HQ2
  have HOL := Lib.hid hol
  obtain ⟨yl, hyl⟩ : ∃ yl, (o.filter (lessK k)).length = yl := ⟨_, rfl⟩
  have hyl30 : yl ≤ 30 := by rw [← hyl]; exact Nat.le_trans (List.length_filter_le _ _) (by omega)
  have HYL := Lib.hid hyl
  rw [hyl]
  clear hyl hol
  go_wp2_with fail
  go_loopw [11, 12] (fun s i wr => ∃ (j : Nat) (sa : Option Addr) (sl sc : Nat), j ≤ g ∧ i = .int .i64 (j : Int) ∧ s = .slice sa sl sc ∧ sl ≤ j ∧ wr.ownsRow w3.heap.size 3 1 (.slice sa sl sc) sl (I64 ((o.take j).filter (lessK k))) ∧ Below w3.heap.size w3 wr) (fun s i _ => g - (intOf i).toNat)
  case atStart => exact ⟨0, none, 0, 0, by omega, rfl, rfl, by omega, World.ownsRow_nil _ _ _ _, Below.refl _ _⟩
  case round =>
    obtain ⟨j, sa, sl, sc, hj, rfl, rfl, hsl, hs, hb⟩ := hrel
    have HS := Lib.hid hs
    have HB := Lib.hid hb
    clear hs hb
    by_cases hjg : j = g
    · subst hjg
      have HE : Hid ((o.take j).filter (lessK k) = o.filter (lessK k)) := by
        rw [List.take_of_length_le (by rw [HOL.out]; exact Nat.le_refl _)]
        rfl
      have HSI := Lib.hid (ints_own HS.out)
      have HSL := Lib.hid (ints_len HS.out)
      rw [HE.out] at HSI HSL
      have HBW := Lib.hid (HB3.out.trans (HB.out.mono HB3.out.size))
      have HY2 := Lib.hid (HY.out.below HB.out)
      go_wp2_with fail
      refine (known_any wr).mono ?_
      rintro e w6 ⟨rfl, hb⟩
      have HB6 := Lib.hid (HBW.out.trans (hb.mono HBW.out.size))
      have HS6 := Lib.hid (HSI.out.below hb)
      have HY6 := Lib.hid (HY2.out.below hb)
      clear hb
      go_wp2_with fail
      refine (same_any sa sl sc _ ya yl yc _ w6 HS6.out HSL.out (by omega) HY6.out HYL.out (by omega)).mono ?_
      rintro e w7 ⟨rfl, hb⟩
      have HB7 := Lib.hid (HB6.out.trans (hb.mono HB6.out.size))
      have hd : decide (o.filter (lessK k) = o.filter (lessK k)) = true := decide_eq_true rfl
      rw [hd]
      clear hb hd
      go_wp2_with fail
      go_ret
      exact ⟨rfl, HB7.out⟩
    · have hjl : j < g := by omega
      have hji : (j : Int) < (g : Int) := by omega
      obtain ⟨b3, off3, rfl, hc3⟩ := ints_at HX3.out (j := j) (by rw [HOL.out]; exact hjl)
      have hc4 := (HB.out.cell (p := ⟨b3, off3 + j, none⟩) (cell_lt hc3)).trans hc3
      have HA3 := Lib.hid (at_some (xs := o) (j := j) (by rw [HOL.out]; exact hjl))
      have wj := next_int j (by omega)
      clear hc3
      generalize at0 o j = y at *
      have HF3 := Lib.hid (filter_take_succ (f := lessK k) HA3.out)
      by_cases hy : y < (k : Int)
      · have HF4 : Hid ((o.take (j + 1)).filter (lessK k) = (o.take j).filter (lessK k) ++ [y]) := by
          rw [HF3.out, if_pos (by unfold lessK; exact decide_eq_true hy)]
          rfl
        have HLI := Lib.hid (fun t => lit_one wr y t)
        have HBA := Lib.hid (fun o1 => HB.out.alloc HB.out.size o1)
        have tok : True := trivial
        go_wp2_with (have _t := tok; at_builtin; clear tok; refine Hid.out ?_)
        refine unhid ?_
        refine wpList_append_one rfl _ _ rfl w3.heap.size (.slice sa sl sc) sl _ rfl (HS.out.alloc _) wr.heap.size _ rfl (HLI.out _) (by omega) (HBA.out _).size (fun g2 gc2 w7 ho1 hg1 hgg hgl => ?_)
        rw [← HF4.out] at ho1
        have HO1 := Lib.hid ho1
        have HB7 := Lib.hid ((HBA.out _).grown hg1 (HBA.out _).size (fun g hg => (HS.out.lt g hg).1))
        clear ho1 hg1 hgg HS HBA HLI
        go_wp2_with fail
        exact ⟨⟨j + 1, some ⟨g2, 0, none⟩, sl + 1, gc2, by omega, by first | rfl | exact congrArg (Value.int .i64) (wj _ rfl), rfl, by omega, HO1.out, HB7.out⟩, by simp [intOf]; omega⟩
      · have HF4 : Hid ((o.take (j + 1)).filter (lessK k) = (o.take j).filter (lessK k)) := by
          rw [HF3.out, if_neg (by unfold lessK; rw [decide_eq_true_eq]; exact hy), List.append_nil]
          rfl
        have HS1 : Hid (wr.ownsRow w3.heap.size 3 1 (.slice sa sl sc) sl (I64 ((o.take (j + 1)).filter (lessK k)))) := by
          rw [HF4.out]; exact HS.out
        go_wp2_with fail
        exact ⟨⟨j + 1, sa, sl, sc, by omega, by first | rfl | exact congrArg (Value.int .i64) (wj _ rfl), rfl, by omega, HS1.out, HB.out⟩, by simp [intOf]; omega⟩
end Go.Proofs.Ythadgepihjigeaa
