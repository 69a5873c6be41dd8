import Derived.Test.YtabogkonklplcaaGreatDoorE45
import Derived.Test.YtabogkonklplcaaGreatDoorE23
import Derived.Test.YtabogkonklplcaaGreatDoorE52
import Derived.Test.YtabogkonklplcaaGreatDoorE48
import Derived.Test.YtabogkonklplcaaGreatDoorE19

/- With ranges: Range, Span, SetStart, SetEnd. -/
namespace Go.Proofs.YtabogkonklplcaaGreatDoor
open Go.RowKit Go.Lib
set_option linter.unusedSimpArgs false
set_option linter.unusedVariables false


theorem vans_range {V : List Nd → Sp → Prop} (hV : Lives V) (s : List Nd) (wf : WF s) (rs : List Sp) (h6 : rs.length ≤ 6) (hrs : ∀ z ∈ rs, V s z) : ∃ n : Int, Ans (PDocV V) GG ⟨s, rs⟩ 56 81 [] (fun v => .tuple #[.int .i64 n, v]) (fun v => .tuple #[.int .i64 n, v]) := by
  by_cases h : rs.length < 6
  · refine ⟨rs.length, 0, 0, ⟨s, rs ++ [⟨0, 0, 0, 0⟩]⟩, ⟨wf, by simp; omega, fun z hz => ?_⟩, ?_, ?_⟩
    · rcases List.mem_append.1 hz with hz | hz
      · exact hrs z hz
      · simp at hz
        rw [hz]
        exact hV.fresh wf
    · intro w F bx hg hP
      exact mrange_some hg hP h
    · rintro w F bd ⟨bn, cap, rn, rv, hD⟩
      exact (rrange_some hD h).mono fun e w' h => h
  · refine ⟨0, 0, 7, ⟨s, rs⟩, ⟨wf, h6, hrs⟩, ?_, ?_⟩
    · intro w F bx hg hP
      exact mrange_full hg hP (by omega)
    · intro w F bd hR
      have hR' := hR
      obtain ⟨bn, cap, rn, rv, hD⟩ := hR
      exact (rrange_full hD (show 6 ≤ rs.length by omega)).mono fun e w' ⟨h1, h2⟩ => hR'.unchangedR h2 h1

theorem vans_span {V : List Nd → Sp → Prop} (hV : Lives V) (s : List Nd) (wf : WF s) (rs : List Sp) (h6 : rs.length ≤ 6) (hrs : ∀ z ∈ rs, V s z) (A : Int) : ∃ a0 a1 b0 b1 : Int, Ans (PDocV V) GG ⟨s, rs⟩ 36 84 [.int .i64 A] (fun v => .tuple #[.agg #[.int .i64 a0, .int .i64 a1, .int .i64 b0, .int .i64 b1], v]) (fun v => .tuple #[.agg #[.int .i64 a0, .int .i64 a1, .int .i64 b0, .int .i64 b1], v]) := by
  by_cases hA : A < 0 ∨ (rs.length : Int) ≤ A
  · refine ⟨0, 0, 0, 0, A, 8, ⟨s, rs⟩, ⟨wf, h6, hrs⟩, ?_, ?_⟩
    · intro w F bx hg hP
      exact mspan_of hg hP A ⟨0, 0, 0, 0⟩ _ (.inr ⟨_, _, rfl⟩) (errOf_M A) (fun W bf bl sv h => lspan_no h A hA)
    · intro w F bd hR
      have hR' := hR
      obtain ⟨bn, cap, rn, rv, hD⟩ := hR
      exact (rspan_no hD A hA).mono fun e w' ⟨h1, h2⟩ => hR'.unchangedR h2 h1
  · obtain ⟨r, rfl⟩ : ∃ r : Nat, A = (r : Int) := ⟨A.toNat, by omega⟩
    obtain ⟨x, hx⟩ : ∃ x, rs[r]? = some x := ⟨_, List.getElem?_eq_getElem (by omega)⟩
    refine ⟨x.a, x.b, x.c, x.d, 0, 0, ⟨s, rs⟩, ⟨wf, h6, hrs⟩, ?_, ?_⟩
    · intro w F bx hg hP
      exact mspan_of hg hP r x _ (.inl rfl) (errOf_nil 0) (fun W bf bl sv h => lspan_ok h r x hx)
    · intro w F bd hR
      have hR' := hR
      obtain ⟨bn, cap, rn, rv, hD⟩ := hR
      exact (rspan_ok hD r x hx).mono fun e w' ⟨h1, h2⟩ => hR'.unchangedR h2 h1

/-- What Compare finds wrong with a place is not that there are two trees. -/
theorem place_bad2 {s : List Nd} (wf : WF s) (n k a y : Int) (hf : placeFault s n k = (a, y)) (hy : y ≠ 0) :
    ∃ u, ErrOf (.iface 145 u) a y ∧ (∀ W, Calls Tryz.prog 22 #[.iface 145 u, .iface 30 (.int .i64 9)] W fun e w' => e = .returned (.bool false) ∧ Below W.heap.size W w') ∧ ∀ (W : World) (F : Nat → Prop) (bf bn cap : Nat) (pn : List PN), PForAt W F bf bn cap pn s → Calls Tryz.prog 98 #[ptr bf, .agg #[.int .i64 n, .int .i64 k]] W fun e w' => e = .returned (.iface 145 u) ∧ Below W.heap.size W w' := by
  cases hb : isB s n with
  | false =>
    have e : placeFault s n k = (n, 1) := by simp [placeFault, hb]
    rw [e] at hf
    cases hf
    exact ⟨_, errOf_P n 1 (by decide), fun W => is_refNo n 1 9 (fun w => by kernel_rfl) W, fun W F bf bn cap pn h => place_no h n k hb⟩
  | true =>
    obtain ⟨h1, h2⟩ := isB_true hb
    obtain ⟨m, rfl⟩ : ∃ m : Nat, n = (m : Int) := ⟨n.toNat, by omega⟩
    have hm : m < s.length := by omega
    obtain ⟨x, hx⟩ : ∃ x, s[m]? = some x := ⟨_, List.getElem?_eq_getElem hm⟩
    have hch := wf.chars m x hx
    by_cases hk : k < 0 ∨ (sizeN x : Int) < k
    · have e : placeFault s m k = ((m : Int), 3) := by simp [placeFault, hb, sizeAt_eq hx, hk]
      rw [e] at hf
      cases hf
      cases ht : x.t with
      | true =>
        rw [sizeN_text ht] at hk
        exact ⟨_, errOf_O m k, fun W => is_refOut m k W, fun W F bf bn cap pn h => place_text h m k x hx ht hch.2 (by unfold lots; omega) hk⟩
      | false =>
        rw [sizeN_elem ht] at hk
        exact ⟨_, errOf_P m 3 (by decide), fun W => is_refNo m 3 9 (fun w => by kernel_rfl) W, fun W F bf bn cap pn h => place_elem h m k x hx ht hk⟩
    · have e : placeFault s m k = (0, 0) := by simp [placeFault, hb, sizeAt_eq hx, hk]
      rw [e] at hf
      cases hf
      exact absurd rfl hy

theorem placeFault_ok {s : List Nd} {a b : Int} (h : PlOk s a b) : placeFault s a b = (0, 0) := by
  obtain ⟨n, k, rfl, rfl, hn, hk⟩ := h
  have hb : isB s (n : Int) = true := isB_of (by omega)
  simp [placeFault, hb, hk]

theorem way_there {s : List Nd} (wf : WF s) {n t : Nat} (ht : IsTop s n t) (hn : n < s.length) : ∃ l, Way s t n l := by
  obtain ⟨⟨m, hm⟩, x, hx, hp⟩ := ht
  have key : ∀ (m n : Nat), n < s.length → climb s m n = (t : Int) → ∃ l, Way s t n l := by
    intro m
    induction m with
    | zero =>
      intro n hn h
      have : n = t := by simp [climb] at h; omega
      subst this
      exact ⟨[], .top⟩
    | succ m ih =>
      intro n hn h
      have hx := List.getElem?_eq_getElem hn
      rcases wf.par n _ hx with hp | ⟨i, y, hp, hy, hc⟩
      · exfalso
        have h1 : climb s 1 n = -1 := by simp [climb, parOf, hx, hp]
        have h2 := climb_neg (s := s) (j := 1) (n := n) (by rw [h1]; decide) m
        rw [Nat.add_comm] at h2
        omega
      · have h1 : climb s 1 n = (i : Int) := by simp [climb, parOf, hx, hp]
        have h2 := climb_add h1 m
        rw [Nat.add_comm] at h2
        rw [h2] at h
        obtain ⟨l, wl⟩ := ih i (List.getElem?_eq_some_iff.1 hy).1 h
        obtain ⟨k, hk, e⟩ := List.mem_iff_getElem.1 hc
        exact ⟨l ++ [k], .down wl hy (by rw [List.getElem?_eq_getElem hk, e])⟩
  exact key m n hn hm

theorem vans_start {V : List Nd → Sp → Prop} (hV : Lives V) (s : List Nd) (wf : WF s) (rs : List Sp) (h6 : rs.length ≤ 6) (hrs : ∀ z ∈ rs, V s z) (A p0 p1 : Int) : Ans (PDocV V) GG ⟨s, rs⟩ 31 82 [.int .i64 A, .agg #[.int .i64 p0, .int .i64 p1]] (fun v => v) (fun v => v) := by
  by_cases hA : A < 0 ∨ (rs.length : Int) ≤ A
  · refine ⟨A, 8, ⟨s, rs⟩, ⟨wf, h6, hrs⟩, ?_, ?_⟩
    · intro w F bx hg hP
      exact mstart_no hg hP A p0 p1 (errOf_M A) (fun W bf bl sv h => lstart_no h A p0 p1 hA)
    · intro w F bd hR
      have hR' := hR
      obtain ⟨bn, cap, rn, rv, hD⟩ := hR
      exact (rstart_no A p0 p1 A 8 (fun W hb => rset_no (hD.below hb) A p0 p1 _ hA)).mono fun e w' ⟨h1, h2⟩ => hR'.unchangedR h2 h1
  · obtain ⟨r, rfl⟩ : ∃ r : Nat, A = (r : Int) := ⟨A.toNat, by omega⟩
    have hr : r < rs.length := by omega
    obtain ⟨x, hx⟩ : ∃ x, rs[r]? = some x := ⟨_, List.getElem?_eq_getElem hr⟩
    have hpx := (hV.place (hrs x (List.mem_of_getElem? hx))).2
    have hfx := placeFault_ok hpx
    obtain ⟨n2, k2, hxa, hxb, hn2, hk2, hg0, PB⟩ := place_good wf x.c x.d 0 0 hfx rfl
    obtain ⟨f0, f1, hf⟩ : ∃ a y, placeFault s p0 p1 = (a, y) := ⟨_, _, rfl⟩
    by_cases h1 : f1 = 0
    · obtain ⟨n, k, rfl, rfl, hn, hk, hf0, PA⟩ := place_good wf p0 p1 f0 f1 hf h1
      have htf : ∀ m, ∃ t, m < s.length → IsTop s m t := fun m => by
        by_cases hm : m < s.length
        · obtain ⟨t, ht⟩ := top_there wf m hm; exact ⟨t, fun _ => ht⟩
        · exact ⟨0, fun h => absurd h hm⟩
      obtain ⟨tf, htf⟩ := Classical.axiomOfChoice htf
      obtain ⟨h, B, u⟩ := wf.up
      have hone : ∀ z ∈ rs.set r ⟨(n : Int), (k : Int), (n : Int), (k : Int)⟩, V s z := fun z hz => by
        rcases List.mem_or_eq_of_mem_set hz with hz | hz
        · exact hrs z hz
        · rw [hz]; exact hV.one wf ⟨n, k, rfl, rfl, hn, hk⟩
      by_cases he : tf n = tf n2
      · obtain ⟨qa, ha⟩ := where_there (plF s (B + 1) (tf n2)) (n2, k2)
        obtain ⟨qb, hb⟩ := where_there (plF s (B + 1) (tf n2)) (n, k)
        have key : ∀ (l l2 : List Nat), Way s (tf n) n l → Way s (tf n) n2 l2 → lexC (l ++ [k]) (l2 ++ [k2]) = if qb < qa then -1 else if qa < qb then 1 else 0 := fun l l2 wa wb =>
          cmp_ways wf u wa wb (by first | exact hk | exact hk2) (by first | exact hk | exact hk2) (by rw [he]; exact hb) (by rw [he]; exact ha)
        by_cases hlt : qa < qb
        · refine ⟨0, 0, ⟨s, rs.set r ⟨(n : Int), (k : Int), (n : Int), (k : Int)⟩⟩, ⟨wf, by simpa using h6, hone⟩, ?_, ?_⟩
          · intro w F bx hg hP
            refine mstart_ok hP r n k (fun W bf bl sv hD => ?_)
            refine (lstart_of hD r x hx n k .nilIface (.inl rfl) (Q := fun W0 w' => Keeps F W0 w' ∧ PDocAt w' (grow F W0) bx bf bl sv ⟨s, rs.set r ⟨n, k, n, k⟩⟩) (fun W0 hb0 => ?_)).mono ?_
            · refine lset_gt (hD.below hb0) r x hx _ _ _ _ n k 1 (by decide) (fun W1 hb1 => ?_)
              have hfor := ((hD.below hb0).below hb1).nodes
              have hf' := hfor
              obtain ⟨bn, cap, pn, h⟩ := hfor
              rw [hxa, hxb]
              refine (tcompare_one wf hf' n k n2 k2 tf htf hn hn2 he (fun W hb => PA W _ bf bn cap pn (h.below hb)) (fun W hb => PB W _ bf bn cap pn (h.below hb))).mono ?_
              rintro e w' ⟨l, l2, wa, wb, rfl, hbl⟩
              refine ⟨?_, hbl⟩
              rw [key l l2 wa wb, if_neg (by omega), if_pos hlt]
            · rintro e w' ⟨rfl, W0, hb0, hk0, hd0⟩
              exact ⟨rfl, (Keeps.of_below hb0).trans (hk0.mono (fun b _ e => .inl e)), hd0.widen (fun b h => h.imp id (fun h => Nat.le_trans hb0.size h))⟩
          · intro w F bd hR
            exact (rstart_ok hR r n k (fun W G ⟨bn, cap, rn, rv, hD⟩ => rset_t2 wf u hD r x hx n k n2 k2 hxa hxb tf htf hn hn2 hf0 he qa qb ha hb (decide_eq_true hlt))).mono fun e w' h => h
        · refine ⟨0, 0, ⟨s, rs.set r ⟨n, k, n2, k2⟩⟩, ⟨wf, by simpa using h6, fun z hz => ?_⟩, ?_, ?_⟩
          · rcases List.mem_or_eq_of_mem_set hz with hz | hz
            · exact hrs z hz
            · rw [hz]
              have hstart : PlOk s (n : Int) (k : Int) := ⟨n, k, rfl, rfl, by first | exact hn | exact hn2, by first | exact hk | exact hk2⟩
              have hend : PlOk s (n2 : Int) (k2 : Int) := ⟨n2, k2, rfl, rfl, by first | exact hn | exact hn2, by first | exact hk | exact hk2⟩
              have ts := htf n (by first | exact hn | exact hn2)
              have te := htf n2 (by first | exact hn | exact hn2)
              rw [← he] at te
              obtain ⟨l, wl⟩ := way_there wf ts (by first | exact hn | exact hn2)
              obtain ⟨l2, wl2⟩ := way_there wf te (by first | exact hn | exact hn2)
              refine hV.two wf hstart hend ts wl wl2 ?_
              rw [key l l2 wl wl2]
              split
              · decide
              · first | decide | (rw [if_neg hlt]; decide)
          · intro w F bx hg hP
            refine mstart_ok hP r n k (fun W bf bl sv hD => ?_)
            refine (lstart_of hD r x hx n k .nilIface (.inl rfl) (Q := fun W0 w' => Keeps F W0 w' ∧ PDocAt w' (grow F W0) bx bf bl sv ⟨s, rs.set r ⟨n, k, n2, k2⟩⟩) (fun W0 hb0 => ?_)).mono ?_
            · have hcm := lset_le (hD.below hb0) r x hx (n : Int) (k : Int) x.c x.d n k (if qb < qa then -1 else 0) (by split <;> decide) (fun W1 hb1 => ?_)
              · refine hcm.mono ?_
                rintro e w' ⟨rfl, hk0, hd0⟩
                rw [hxa, hxb] at hd0
                exact ⟨rfl, hk0, hd0⟩
              have hfor := ((hD.below hb0).below hb1).nodes
              have hf' := hfor
              obtain ⟨bn, cap, pn, h⟩ := hfor
              rw [hxa, hxb]
              refine (tcompare_one wf hf' n k n2 k2 tf htf hn hn2 he (fun W hb => PA W _ bf bn cap pn (h.below hb)) (fun W hb => PB W _ bf bn cap pn (h.below hb))).mono ?_
              rintro e w' ⟨l, l2, wa, wb, rfl, hbl⟩
              refine ⟨?_, hbl⟩
              rw [key l l2 wa wb, if_neg hlt]
            · rintro e w' ⟨rfl, W0, hb0, hk0, hd0⟩
              exact ⟨rfl, (Keeps.of_below hb0).trans (hk0.mono (fun b _ e => .inl e)), hd0.widen (fun b h => h.imp id (fun h => Nat.le_trans hb0.size h))⟩
          · intro w F bd hR
            exact (rstart_ok hR r n k (fun W G ⟨bn, cap, rn, rv, hD⟩ => rset_t3 wf u hD r x hx n k n2 k2 hxa hxb tf htf hn hn2 hf0 he qa qb ha hb (decide_eq_false hlt))).mono fun e w' h => h
      · refine ⟨0, 0, ⟨s, rs.set r ⟨(n : Int), (k : Int), (n : Int), (k : Int)⟩⟩, ⟨wf, by simpa using h6, hone⟩, ?_, ?_⟩
        · intro w F bx hg hP
          refine mstart_ok hP r n k (fun W bf bl sv hD => ?_)
          refine (lstart_of hD r x hx n k .nilIface (.inl rfl) (Q := fun W0 w' => Keeps F W0 w' ∧ PDocAt w' (grow F W0) bx bf bl sv ⟨s, rs.set r ⟨n, k, n, k⟩⟩) (fun W0 hb0 => ?_)).mono ?_
          · refine lset_roots (hD.below hb0) r x hx _ _ _ _ n k n2 (fun W1 hb1 => ?_)
            have hfor := ((hD.below hb0).below hb1).nodes
            have hf' := hfor
            obtain ⟨bn, cap, pn, h⟩ := hfor
            rw [hxa, hxb]
            exact tcompare_roots wf hf' n k n2 k2 tf htf hn hn2 he (fun W hb => PA W _ bf bn cap pn (h.below hb)) (fun W hb => PB W _ bf bn cap pn (h.below hb))
          · rintro e w' ⟨rfl, W0, hb0, hk0, hd0⟩
            exact ⟨rfl, (Keeps.of_below hb0).trans (hk0.mono (fun b _ e => .inl e)), hd0.widen (fun b h => h.imp id (fun h => Nat.le_trans hb0.size h))⟩
        · intro w F bd hR
          exact (rstart_ok hR r n k (fun W G ⟨bn, cap, rn, rv, hD⟩ => rset_t1 wf u hD r x hx n k n2 k2 hxa hxb tf htf hn hn2 hf0 he)).mono fun e w' h => h
    · obtain ⟨u, hE, hI, PA⟩ := place_bad2 wf p0 p1 f0 f1 hf h1
      refine ⟨f0, f1, ⟨s, rs⟩, ⟨wf, h6, hrs⟩, ?_, ?_⟩
      · intro w F bx hg hP
        refine mstart_no hg hP r p0 p1 hE (fun W bf bl sv hD => ?_)
        refine (lstart_of hD r x hx p0 p1 (.iface 145 u) (.inr ⟨_, _, rfl⟩) (Q := fun W0 w' => Below W0.heap.size W0 w') (fun W0 hb0 => ?_)).mono ?_
        · refine lset_no (hD.below hb0) r x hx _ _ _ _ p0 p1 u (fun W1 hb1 => ?_) hI
          have hfor := ((hD.below hb0).below hb1).nodes
          obtain ⟨bn, cap, pn, hf'⟩ := hfor
          exact (tcompare_a bf p0 p1 x.c x.d u (fun W hb => PA W _ bf bn cap pn (hf'.below hb)))
        · rintro e w' ⟨rfl, W0, hb0, hk0⟩
          exact ⟨rfl, hb0.trans (hk0.mono hb0.size)⟩
      · intro w F bd hR
        have hR' := hR
        obtain ⟨bn, cap, rn, rv, hD⟩ := hR
        exact (rstart_no r p0 p1 f0 f1 (fun W hb => rset_place (hD.below hb) r hr p0 p1 f0 f1 _ hf h1)).mono fun e w' ⟨h1, h2⟩ => hR'.unchangedR h2 h1

theorem vans_finish {V : List Nd → Sp → Prop} (hV : Lives V) (s : List Nd) (wf : WF s) (rs : List Sp) (h6 : rs.length ≤ 6) (hrs : ∀ z ∈ rs, V s z) (A p0 p1 : Int) : Ans (PDocV V) GG ⟨s, rs⟩ 32 83 [.int .i64 A, .agg #[.int .i64 p0, .int .i64 p1]] (fun v => v) (fun v => v) := by
  by_cases hA : A < 0 ∨ (rs.length : Int) ≤ A
  · refine ⟨A, 8, ⟨s, rs⟩, ⟨wf, h6, hrs⟩, ?_, ?_⟩
    · intro w F bx hg hP
      exact mend_no hg hP A p0 p1 (errOf_M A) (fun W bf bl sv h => lend_no h A p0 p1 hA)
    · intro w F bd hR
      have hR' := hR
      obtain ⟨bn, cap, rn, rv, hD⟩ := hR
      exact (rend_no A p0 p1 A 8 (fun W hb => rset_no (hD.below hb) A p0 p1 _ hA)).mono fun e w' ⟨h1, h2⟩ => hR'.unchangedR h2 h1
  · obtain ⟨r, rfl⟩ : ∃ r : Nat, A = (r : Int) := ⟨A.toNat, by omega⟩
    have hr : r < rs.length := by omega
    obtain ⟨x, hx⟩ : ∃ x, rs[r]? = some x := ⟨_, List.getElem?_eq_getElem hr⟩
    have hpx := (hV.place (hrs x (List.mem_of_getElem? hx))).1
    have hfx := placeFault_ok hpx
    obtain ⟨n2, k2, hxa, hxb, hn2, hk2, hg0, PB⟩ := place_good wf x.a x.b 0 0 hfx rfl
    obtain ⟨f0, f1, hf⟩ : ∃ a y, placeFault s p0 p1 = (a, y) := ⟨_, _, rfl⟩
    by_cases h1 : f1 = 0
    · obtain ⟨n, k, rfl, rfl, hn, hk, hf0, PA⟩ := place_good wf p0 p1 f0 f1 hf h1
      have htf : ∀ m, ∃ t, m < s.length → IsTop s m t := fun m => by
        by_cases hm : m < s.length
        · obtain ⟨t, ht⟩ := top_there wf m hm; exact ⟨t, fun _ => ht⟩
        · exact ⟨0, fun h => absurd h hm⟩
      obtain ⟨tf, htf⟩ := Classical.axiomOfChoice htf
      obtain ⟨h, B, u⟩ := wf.up
      have hone : ∀ z ∈ rs.set r ⟨(n : Int), (k : Int), (n : Int), (k : Int)⟩, V s z := fun z hz => by
        rcases List.mem_or_eq_of_mem_set hz with hz | hz
        · exact hrs z hz
        · rw [hz]; exact hV.one wf ⟨n, k, rfl, rfl, hn, hk⟩
      by_cases he : tf n2 = tf n
      · obtain ⟨qa, ha⟩ := where_there (plF s (B + 1) (tf n)) (n, k)
        obtain ⟨qb, hb⟩ := where_there (plF s (B + 1) (tf n)) (n2, k2)
        have key : ∀ (l l2 : List Nat), Way s (tf n2) n2 l → Way s (tf n2) n l2 → lexC (l ++ [k2]) (l2 ++ [k]) = if qb < qa then -1 else if qa < qb then 1 else 0 := fun l l2 wa wb =>
          cmp_ways wf u wa wb (by first | exact hk | exact hk2) (by first | exact hk | exact hk2) (by rw [he]; exact hb) (by rw [he]; exact ha)
        by_cases hlt : qa < qb
        · refine ⟨0, 0, ⟨s, rs.set r ⟨(n : Int), (k : Int), (n : Int), (k : Int)⟩⟩, ⟨wf, by simpa using h6, hone⟩, ?_, ?_⟩
          · intro w F bx hg hP
            refine mend_ok hP r n k (fun W bf bl sv hD => ?_)
            refine (lend_of hD r x hx n k .nilIface (.inl rfl) (Q := fun W0 w' => Keeps F W0 w' ∧ PDocAt w' (grow F W0) bx bf bl sv ⟨s, rs.set r ⟨n, k, n, k⟩⟩) (fun W0 hb0 => ?_)).mono ?_
            · refine lset_gt (hD.below hb0) r x hx _ _ _ _ n k 1 (by decide) (fun W1 hb1 => ?_)
              have hfor := ((hD.below hb0).below hb1).nodes
              have hf' := hfor
              obtain ⟨bn, cap, pn, h⟩ := hfor
              rw [hxa, hxb]
              refine (tcompare_one wf hf' n2 k2 n k tf htf hn2 hn he (fun W hb => PB W _ bf bn cap pn (h.below hb)) (fun W hb => PA W _ bf bn cap pn (h.below hb))).mono ?_
              rintro e w' ⟨l, l2, wa, wb, rfl, hbl⟩
              refine ⟨?_, hbl⟩
              rw [key l l2 wa wb, if_neg (by omega), if_pos hlt]
            · rintro e w' ⟨rfl, W0, hb0, hk0, hd0⟩
              exact ⟨rfl, (Keeps.of_below hb0).trans (hk0.mono (fun b _ e => .inl e)), hd0.widen (fun b h => h.imp id (fun h => Nat.le_trans hb0.size h))⟩
          · intro w F bd hR
            exact (rend_ok hR r n k (fun W G ⟨bn, cap, rn, rv, hD⟩ => rset_e2 wf u hD r x hx n k n2 k2 hxa hxb tf htf hn hn2 hf0 he qa qb ha hb (decide_eq_true hlt))).mono fun e w' h => h
        · refine ⟨0, 0, ⟨s, rs.set r ⟨n2, k2, n, k⟩⟩, ⟨wf, by simpa using h6, fun z hz => ?_⟩, ?_, ?_⟩
          · rcases List.mem_or_eq_of_mem_set hz with hz | hz
            · exact hrs z hz
            · rw [hz]
              have hstart : PlOk s (n2 : Int) (k2 : Int) := ⟨n2, k2, rfl, rfl, by first | exact hn | exact hn2, by first | exact hk | exact hk2⟩
              have hend : PlOk s (n : Int) (k : Int) := ⟨n, k, rfl, rfl, by first | exact hn | exact hn2, by first | exact hk | exact hk2⟩
              have ts := htf n2 (by first | exact hn | exact hn2)
              have te := htf n (by first | exact hn | exact hn2)
              rw [← he] at te
              obtain ⟨l, wl⟩ := way_there wf ts (by first | exact hn | exact hn2)
              obtain ⟨l2, wl2⟩ := way_there wf te (by first | exact hn | exact hn2)
              refine hV.two wf hstart hend ts wl wl2 ?_
              rw [key l l2 wl wl2]
              split
              · decide
              · first | decide | (rw [if_neg hlt]; decide)
          · intro w F bx hg hP
            refine mend_ok hP r n k (fun W bf bl sv hD => ?_)
            refine (lend_of hD r x hx n k .nilIface (.inl rfl) (Q := fun W0 w' => Keeps F W0 w' ∧ PDocAt w' (grow F W0) bx bf bl sv ⟨s, rs.set r ⟨n2, k2, n, k⟩⟩) (fun W0 hb0 => ?_)).mono ?_
            · have hcm := lset_le (hD.below hb0) r x hx x.a x.b (n : Int) (k : Int) n k (if qb < qa then -1 else 0) (by split <;> decide) (fun W1 hb1 => ?_)
              · refine hcm.mono ?_
                rintro e w' ⟨rfl, hk0, hd0⟩
                rw [hxa, hxb] at hd0
                exact ⟨rfl, hk0, hd0⟩
              have hfor := ((hD.below hb0).below hb1).nodes
              have hf' := hfor
              obtain ⟨bn, cap, pn, h⟩ := hfor
              rw [hxa, hxb]
              refine (tcompare_one wf hf' n2 k2 n k tf htf hn2 hn he (fun W hb => PB W _ bf bn cap pn (h.below hb)) (fun W hb => PA W _ bf bn cap pn (h.below hb))).mono ?_
              rintro e w' ⟨l, l2, wa, wb, rfl, hbl⟩
              refine ⟨?_, hbl⟩
              rw [key l l2 wa wb, if_neg hlt]
            · rintro e w' ⟨rfl, W0, hb0, hk0, hd0⟩
              exact ⟨rfl, (Keeps.of_below hb0).trans (hk0.mono (fun b _ e => .inl e)), hd0.widen (fun b h => h.imp id (fun h => Nat.le_trans hb0.size h))⟩
          · intro w F bd hR
            exact (rend_ok hR r n k (fun W G ⟨bn, cap, rn, rv, hD⟩ => rset_e3 wf u hD r x hx n k n2 k2 hxa hxb tf htf hn hn2 hf0 he qa qb ha hb (decide_eq_false hlt))).mono fun e w' h => h
      · refine ⟨0, 0, ⟨s, rs.set r ⟨(n : Int), (k : Int), (n : Int), (k : Int)⟩⟩, ⟨wf, by simpa using h6, hone⟩, ?_, ?_⟩
        · intro w F bx hg hP
          refine mend_ok hP r n k (fun W bf bl sv hD => ?_)
          refine (lend_of hD r x hx n k .nilIface (.inl rfl) (Q := fun W0 w' => Keeps F W0 w' ∧ PDocAt w' (grow F W0) bx bf bl sv ⟨s, rs.set r ⟨n, k, n, k⟩⟩) (fun W0 hb0 => ?_)).mono ?_
          · refine lset_roots (hD.below hb0) r x hx _ _ _ _ n k n (fun W1 hb1 => ?_)
            have hfor := ((hD.below hb0).below hb1).nodes
            have hf' := hfor
            obtain ⟨bn, cap, pn, h⟩ := hfor
            rw [hxa, hxb]
            exact tcompare_roots wf hf' n2 k2 n k tf htf hn2 hn he (fun W hb => PB W _ bf bn cap pn (h.below hb)) (fun W hb => PA W _ bf bn cap pn (h.below hb))
          · rintro e w' ⟨rfl, W0, hb0, hk0, hd0⟩
            exact ⟨rfl, (Keeps.of_below hb0).trans (hk0.mono (fun b _ e => .inl e)), hd0.widen (fun b h => h.imp id (fun h => Nat.le_trans hb0.size h))⟩
        · intro w F bd hR
          exact (rend_ok hR r n k (fun W G ⟨bn, cap, rn, rv, hD⟩ => rset_e1 wf u hD r x hx n k n2 k2 hxa hxb tf htf hn hn2 hf0 he)).mono fun e w' h => h
    · obtain ⟨u, hE, hI, PA⟩ := place_bad2 wf p0 p1 f0 f1 hf h1
      refine ⟨f0, f1, ⟨s, rs⟩, ⟨wf, h6, hrs⟩, ?_, ?_⟩
      · intro w F bx hg hP
        refine mend_no hg hP r p0 p1 hE (fun W bf bl sv hD => ?_)
        refine (lend_of hD r x hx p0 p1 (.iface 145 u) (.inr ⟨_, _, rfl⟩) (Q := fun W0 w' => Below W0.heap.size W0 w') (fun W0 hb0 => ?_)).mono ?_
        · refine lset_no (hD.below hb0) r x hx _ _ _ _ p0 p1 u (fun W1 hb1 => ?_) hI
          have hfor := ((hD.below hb0).below hb1).nodes
          obtain ⟨bn, cap, pn, hf'⟩ := hfor
          exact (tcompare_b bf x.a x.b p0 p1 u (fun W hb => by rw [hxa, hxb]; exact PB W _ bf bn cap pn (hf'.below hb)) (fun W hb => PA W _ bf bn cap pn (hf'.below hb)))
        · rintro e w' ⟨rfl, W0, hb0, hk0⟩
          exact ⟨rfl, hb0.trans (hk0.mono hb0.size)⟩
      · intro w F bd hR
        have hR' := hR
        obtain ⟨bn, cap, rn, rv, hD⟩ := hR
        exact (rend_no r p0 p1 f0 f1 (fun W hb => rset_place (hD.below hb) r hr p0 p1 f0 f1 _ hf h1)).mono fun e w' ⟨h1, h2⟩ => hR'.unchangedR h2 h1

end Go.Proofs.YtabogkonklplcaaGreatDoor
