import Derived.Test.YtabogkonklplcaaGreatDoorF38
import Derived.Test.YtabogkonklplcaaGreatDoorF42
import Derived.Test.YtabogkonklplcaaGreatDoorF40
import Derived.Test.YtabogkonklplcaaGreatDoorF19
import Derived.Test.YtabogkonklplcaaGreatDoorF44
import Derived.Test.YtabogkonklplcaaGreatDoorF24
import Derived.Test.YtabogkonklplcaaGreatDoorF35
import Derived.Test.YtabogkonklplcaaGreatDoorF13
import Derived.Test.YtabogkonklplcaaGreatDoorF18
import Derived.BigQuiet
import Derived.Stop.RegionWithIn
import Derived.Deep.RegionHeld3

/- With ranges: Range, Span, SetStart, SetEnd. -/
namespace Go.Proofs.YtabogkonklplcaaGreatDoor
open Go.RowKit Go.Lib
set_option linter.unusedSimpArgs false
set_option linter.unusedVariables false
set_option linter.unusedSectionVars false

section
variable {V : List Nd → Sp → Prop} (hV : Lives V) (s : List Nd) (wf : WF s) (rs : List Sp) (h6 : rs.length ≤ 6) (hrs : ∀ z ∈ rs, V s z)
include hV wf h6 hrs

theorem vans_range : ∃ n : Int, Ans (PDocV V) GG ⟨s, rs⟩ 56 81 [] (fun v => .tuple #[.int .i64 n, v]) (fun v => .tuple #[.int .i64 n, v]) := by
  by_cases h : rs.length < 6
  · refine ⟨rs.length, 0, 0, ⟨s, rs ++ [⟨0, 0, 0, 0⟩]⟩, ⟨wf, by simp; omega, fun z hz => ?_⟩, ?_, ?_⟩
    · rcases List.mem_append.1 hz with hz | hz
      · exact hrs z hz
      · simp at hz
        rw [hz]
        exact hV.fresh wf
    · intro w F bx hg hP
      exact mrange_some hg hP h
    · rintro w F bd ⟨bn, cap, rn, rv, hD⟩
      exact (rrange_some hD h).mono fun e w' h => h
  · refine ⟨0, 0, 7, ⟨s, rs⟩, ⟨wf, h6, hrs⟩, ?_, ?_⟩
    · intro w F bx hg hP
      exact mrange_full hg hP (by omega)
    · intro w F bd hR
      have hR' := hR
      obtain ⟨bn, cap, rn, rv, hD⟩ := hR
      exact (rrange_full hD (show 6 ≤ rs.length by omega)).mono fun e w' ⟨h1, h2⟩ => hR'.unchangedR h2 h1

theorem vans_span (A : Int) : ∃ a0 a1 b0 b1 : Int, Ans (PDocV V) GG ⟨s, rs⟩ 36 84 [.int .i64 A] (fun v => .tuple #[.agg #[.int .i64 a0, .int .i64 a1, .int .i64 b0, .int .i64 b1], v]) (fun v => .tuple #[.agg #[.int .i64 a0, .int .i64 a1, .int .i64 b0, .int .i64 b1], v]) := by
  by_cases hA : A < 0 ∨ (rs.length : Int) ≤ A
  · refine ⟨0, 0, 0, 0, A, 8, ⟨s, rs⟩, ⟨wf, h6, hrs⟩, ?_, ?_⟩
    · intro w F bx hg hP
      exact mspan_of hg hP A ⟨0, 0, 0, 0⟩ _ (.inr ⟨_, _, rfl⟩) (errOf_M A) (fun W bf bl sv h => lspan_no h A hA)
    · intro w F bd hR
      have hR' := hR
      obtain ⟨bn, cap, rn, rv, hD⟩ := hR
      exact (rspan_no hD A hA).mono fun e w' ⟨h1, h2⟩ => hR'.unchangedR h2 h1
  · obtain ⟨r, rfl⟩ : ∃ r : Nat, A = (r : Int) := ⟨A.toNat, by omega⟩
    obtain ⟨x, hx⟩ : ∃ x, rs[r]? = some x := ⟨_, List.getElem?_eq_getElem (by omega)⟩
    refine ⟨x.a, x.b, x.c, x.d, 0, 0, ⟨s, rs⟩, ⟨wf, h6, hrs⟩, ?_, ?_⟩
    · intro w F bx hg hP
      exact mspan_of hg hP r x _ (.inl rfl) (errOf_nil 0) (fun W bf bl sv h => lspan_ok h r x hx)
    · intro w F bd hR
      have hR' := hR
      obtain ⟨bn, cap, rn, rv, hD⟩ := hR
      exact (rspan_ok hD r x hx).mono fun e w' ⟨h1, h2⟩ => hR'.unchangedR h2 h1
end

/-- What Compare finds wrong with a place is not that there are two trees. -/
theorem place_bad2 {s : List Nd} (wf : WF s) (n k a y : Int) (hf : placeFault s n k = (a, y)) (hy : y ≠ 0) :
    ∃ u, ErrOf (.iface 145 u) a y ∧ (∀ W, Calls Tryz.prog 22 #[.iface 145 u, .iface 30 (.int .i64 9)] W fun e w' => e = .returned (.bool false) ∧ Below W.heap.size W w') ∧ ∀ (W : World) (F : Nat → Prop) (bf bn cap : Nat) (pn : List PN), PForAt W F bf bn cap pn s → Calls Tryz.prog 98 #[ptr bf, .agg #[.int .i64 n, .int .i64 k]] W fun e w' => e = .returned (.iface 145 u) ∧ Below W.heap.size W w' := by
  cases hb : isB s n with
  | false =>
    have e : placeFault s n k = (n, 1) := by simp [placeFault, hb]
    rw [e] at hf
    cases hf
    exact ⟨_, errOf_P n 1 (by decide), fun W => is_refNo n 1 9 (fun w => by kernel_rfl) W, fun W F bf bn cap pn h => place_no h n k hb⟩
  | true =>
    obtain ⟨h1, h2⟩ := isB_true hb
    obtain ⟨m, rfl⟩ : ∃ m : Nat, n = (m : Int) := ⟨n.toNat, by omega⟩
    have hm : m < s.length := by omega
    obtain ⟨x, hx⟩ : ∃ x, s[m]? = some x := ⟨_, List.getElem?_eq_getElem hm⟩
    have hch := wf.chars m x hx
    by_cases hk : k < 0 ∨ (sizeN x : Int) < k
    · have e : placeFault s m k = ((m : Int), 3) := by simp [placeFault, hb, sizeAt_eq hx, hk]
      rw [e] at hf
      cases hf
      cases ht : x.t with
      | true =>
        rw [sizeN_text ht] at hk
        exact ⟨_, errOf_O m k, fun W => is_refOut m k W, fun W F bf bn cap pn h => place_text h m k x hx ht hch.2 (by unfold lots; omega) hk⟩
      | false =>
        rw [sizeN_elem ht] at hk
        exact ⟨_, errOf_P m 3 (by decide), fun W => is_refNo m 3 9 (fun w => by kernel_rfl) W, fun W F bf bn cap pn h => place_elem h m k x hx ht hk⟩
    · have e : placeFault s m k = (0, 0) := by simp [placeFault, hb, sizeAt_eq hx, hk]
      rw [e] at hf
      cases hf
      exact absurd rfl hy

theorem placeFault_ok {s : List Nd} {a b : Int} (h : PlOk s a b) : placeFault s a b = (0, 0) := by
  obtain ⟨n, k, rfl, rfl, hn, hk⟩ := h
  have hb : isB s (n : Int) = true := isB_of (by omega)
  simp [placeFault, hb, hk]

theorem way_there {s : List Nd} (wf : WF s) {n t : Nat} (ht : IsTop s n t) (hn : n < s.length) : ∃ l, Way s t n l := by
  obtain ⟨⟨m, hm⟩, x, hx, hp⟩ := ht
  have key : ∀ (m n : Nat), n < s.length → climb s m n = (t : Int) → ∃ l, Way s t n l := by
    intro m
    induction m with
    | zero =>
      intro n hn h
      have : n = t := by simp [climb] at h; omega
      subst this
      exact ⟨[], .top⟩
    | succ m ih =>
      intro n hn h
      have hx := List.getElem?_eq_getElem hn
      rcases wf.par n _ hx with hp | ⟨i, y, hp, hy, hc⟩
      · exfalso
        have h1 : climb s 1 n = -1 := by simp [climb, parOf, hx, hp]
        have h2 := climb_neg (s := s) (j := 1) (n := n) (by rw [h1]; decide) m
        rw [Nat.add_comm] at h2
        omega
      · have h1 : climb s 1 n = (i : Int) := by simp [climb, parOf, hx, hp]
        have h2 := climb_add h1 m
        rw [Nat.add_comm] at h2
        rw [h2] at h
        obtain ⟨l, wl⟩ := ih i (List.getElem?_eq_some_iff.1 hy).1 h
        obtain ⟨k, hk, e⟩ := List.mem_iff_getElem.1 hc
        exact ⟨l ++ [k], .down wl hy (by rw [List.getElem?_eq_getElem hk, e])⟩
  exact key m n hn hm

theorem vans_start {V : List Nd → Sp → Prop} (hV : Lives V) (s : List Nd) (wf : WF s) (rs : List Sp) (h6 : rs.length ≤ 6) (hrs : ∀ z ∈ rs, V s z) (A p0 p1 : Int) : Ans (PDocV V) GG ⟨s, rs⟩ 31 82 [.int .i64 A, .agg #[.int .i64 p0, .int .i64 p1]] (fun v => v) (fun v => v) := by
  by_cases hA : A < 0 ∨ (rs.length : Int) ≤ A
  · refine ⟨A, 8, ⟨s, rs⟩, ⟨wf, h6, hrs⟩, ?_, ?_⟩
    · intro w F bx hg hP
      exact mstart_no hg hP A p0 p1 (errOf_M A) (fun W bf bl sv h => lstart_no h A p0 p1 hA)
    · intro w F bd hR
      have hR' := hR
      obtain ⟨bn, cap, rn, rv, hD⟩ := hR
      exact (rstart_no A p0 p1 A 8 (fun W hb => rset_no (hD.below hb) A p0 p1 _ hA)).mono fun e w' ⟨h1, h2⟩ => hR'.unchangedR h2 h1
  · obtain ⟨r, rfl⟩ : ∃ r : Nat, A = (r : Int) := ⟨A.toNat, by omega⟩
    have hr : r < rs.length := by omega
    obtain ⟨x, hx⟩ : ∃ x, rs[r]? = some x := ⟨_, List.getElem?_eq_getElem hr⟩
    have hpx := (hV.place (hrs x (List.mem_of_getElem? hx))).2
    have hfx := placeFault_ok hpx
    obtain ⟨n2, k2, hxa, hxb, hn2, hk2, hg0, PB⟩ := place_good wf x.c x.d 0 0 hfx rfl
    obtain ⟨f0, f1, hf⟩ : ∃ a y, placeFault s p0 p1 = (a, y) := ⟨_, _, rfl⟩
    by_cases h1 : f1 = 0
    · obtain ⟨n, k, rfl, rfl, hn, hk, hf0, PA⟩ := place_good wf p0 p1 f0 f1 hf h1
      have htf : ∀ m, ∃ t, m < s.length → IsTop s m t := fun m => by
        by_cases hm : m < s.length
        · obtain ⟨t, ht⟩ := top_there wf m hm; exact ⟨t, fun _ => ht⟩
        · exact ⟨0, fun h => absurd h hm⟩
      obtain ⟨tf, htf⟩ := Classical.axiomOfChoice htf
      obtain ⟨h, B, u⟩ := wf.up
      have hone : ∀ z ∈ rs.set r ⟨(n : Int), (k : Int), (n : Int), (k : Int)⟩, V s z := fun z hz => by
        rcases List.mem_or_eq_of_mem_set hz with hz | hz
        · exact hrs z hz
        · rw [hz]; exact hV.one wf ⟨n, k, rfl, rfl, hn, hk⟩
      by_cases he : tf n = tf n2
      · obtain ⟨qa, ha⟩ := where_there (plF s (B + 1) (tf n2)) (n2, k2)
        obtain ⟨qb, hb⟩ := where_there (plF s (B + 1) (tf n2)) (n, k)
        have key : ∀ (l l2 : List Nat), Way s (tf n) n l → Way s (tf n) n2 l2 → lexC (l ++ [k]) (l2 ++ [k2]) = if qb < qa then -1 else if qa < qb then 1 else 0 := fun l l2 wa wb =>
          cmp_ways wf u wa wb (by first | exact hk | exact hk2) (by first | exact hk | exact hk2) (by rw [he]; exact hb) (by rw [he]; exact ha)
        by_cases hlt : qa < qb
        · refine ⟨0, 0, ⟨s, rs.set r ⟨(n : Int), (k : Int), (n : Int), (k : Int)⟩⟩, ⟨wf, by simpa using h6, hone⟩, ?_, ?_⟩
          · intro w F bx hg hP
            refine mstart_ok hP r n k (fun W bf bl sv hD => ?_)
            refine (lstart_of hD r x hx n k .nilIface (.inl rfl) (Q := fun W0 w' => Keeps F W0 w' ∧ PDocAt w' (grow F W0) bx bf bl sv ⟨s, rs.set r ⟨n, k, n, k⟩⟩) (fun W0 hb0 => ?_)).mono ?_
            · refine lset_gt (hD.below hb0) r x hx _ _ _ _ n k 1 (by decide) (fun W1 hb1 => ?_)
              have hfor := ((hD.below hb0).below hb1).nodes
              have hf' := hfor
              obtain ⟨bn, cap, pn, h⟩ := hfor
              rw [hxa, hxb]
              refine (tcompare_one wf hf' n k n2 k2 tf htf hn hn2 he (fun W hb => PA W _ bf bn cap pn (h.below hb)) (fun W hb => PB W _ bf bn cap pn (h.below hb))).mono ?_
              rintro e w' ⟨l, l2, wa, wb, rfl, hbl⟩
              refine ⟨?_, hbl⟩
              rw [key l l2 wa wb, if_neg (by omega), if_pos hlt]
            · rintro e w' ⟨rfl, W0, hb0, hk0, hd0⟩
              exact ⟨rfl, (Keeps.of_below hb0).trans (hk0.mono (fun b _ e => .inl e)), hd0.widen (fun b h => h.imp id (fun h => Nat.le_trans hb0.size h))⟩
          · intro w F bd hR
            exact (rstart_ok hR r n k (fun W G ⟨bn, cap, rn, rv, hD⟩ => rset_t2 wf u hD r x hx n k n2 k2 hxa hxb tf htf hn hn2 hf0 he qa qb ha hb (decide_eq_true hlt))).mono fun e w' h => h
        · refine ⟨0, 0, ⟨s, rs.set r ⟨n, k, n2, k2⟩⟩, ⟨wf, by simpa using h6, fun z hz => ?_⟩, ?_, ?_⟩
          · rcases List.mem_or_eq_of_mem_set hz with hz | hz
            · exact hrs z hz
            · rw [hz]
              have hstart : PlOk s (n : Int) (k : Int) := ⟨n, k, rfl, rfl, by first | exact hn | exact hn2, by first | exact hk | exact hk2⟩
              have hend : PlOk s (n2 : Int) (k2 : Int) := ⟨n2, k2, rfl, rfl, by first | exact hn | exact hn2, by first | exact hk | exact hk2⟩
              have ts := htf n (by first | exact hn | exact hn2)
              have te := htf n2 (by first | exact hn | exact hn2)
              rw [← he] at te
              obtain ⟨l, wl⟩ := way_there wf ts (by first | exact hn | exact hn2)
              obtain ⟨l2, wl2⟩ := way_there wf te (by first | exact hn | exact hn2)
              refine hV.two wf hstart hend ts wl wl2 ?_
              rw [key l l2 wl wl2]
              split
              · decide
              · first | decide | (rw [if_neg hlt]; decide)
          · intro w F bx hg hP
            refine mstart_ok hP r n k (fun W bf bl sv hD => ?_)
            refine (lstart_of hD r x hx n k .nilIface (.inl rfl) (Q := fun W0 w' => Keeps F W0 w' ∧ PDocAt w' (grow F W0) bx bf bl sv ⟨s, rs.set r ⟨n, k, n2, k2⟩⟩) (fun W0 hb0 => ?_)).mono ?_
            · have hcm := lset_le (hD.below hb0) r x hx (n : Int) (k : Int) x.c x.d n k (if qb < qa then -1 else 0) (by split <;> decide) (fun W1 hb1 => ?_)
              · refine hcm.mono ?_
                rintro e w' ⟨rfl, hk0, hd0⟩
                rw [hxa, hxb] at hd0
                exact ⟨rfl, hk0, hd0⟩
              have hfor := ((hD.below hb0).below hb1).nodes
              have hf' := hfor
              obtain ⟨bn, cap, pn, h⟩ := hfor
              rw [hxa, hxb]
              refine (tcompare_one wf hf' n k n2 k2 tf htf hn hn2 he (fun W hb => PA W _ bf bn cap pn (h.below hb)) (fun W hb => PB W _ bf bn cap pn (h.below hb))).mono ?_
              rintro e w' ⟨l, l2, wa, wb, rfl, hbl⟩
              refine ⟨?_, hbl⟩
              rw [key l l2 wa wb, if_neg hlt]
            · rintro e w' ⟨rfl, W0, hb0, hk0, hd0⟩
              exact ⟨rfl, (Keeps.of_below hb0).trans (hk0.mono (fun b _ e => .inl e)), hd0.widen (fun b h => h.imp id (fun h => Nat.le_trans hb0.size h))⟩
          · intro w F bd hR
            exact (rstart_ok hR r n k (fun W G ⟨bn, cap, rn, rv, hD⟩ => rset_t3 wf u hD r x hx n k n2 k2 hxa hxb tf htf hn hn2 hf0 he qa qb ha hb (decide_eq_false hlt))).mono fun e w' h => h
      · refine ⟨0, 0, ⟨s, rs.set r ⟨(n : Int), (k : Int), (n : Int), (k : Int)⟩⟩, ⟨wf, by simpa using h6, hone⟩, ?_, ?_⟩
        · intro w F bx hg hP
          refine mstart_ok hP r n k (fun W bf bl sv hD => ?_)
          refine (lstart_of hD r x hx n k .nilIface (.inl rfl) (Q := fun W0 w' => Keeps F W0 w' ∧ PDocAt w' (grow F W0) bx bf bl sv ⟨s, rs.set r ⟨n, k, n, k⟩⟩) (fun W0 hb0 => ?_)).mono ?_
          · refine lset_roots (hD.below hb0) r x hx _ _ _ _ n k n2 (fun W1 hb1 => ?_)
            have hfor := ((hD.below hb0).below hb1).nodes
            have hf' := hfor
            obtain ⟨bn, cap, pn, h⟩ := hfor
            rw [hxa, hxb]
            exact tcompare_roots wf hf' n k n2 k2 tf htf hn hn2 he (fun W hb => PA W _ bf bn cap pn (h.below hb)) (fun W hb => PB W _ bf bn cap pn (h.below hb))
          · rintro e w' ⟨rfl, W0, hb0, hk0, hd0⟩
            exact ⟨rfl, (Keeps.of_below hb0).trans (hk0.mono (fun b _ e => .inl e)), hd0.widen (fun b h => h.imp id (fun h => Nat.le_trans hb0.size h))⟩
        · intro w F bd hR
          exact (rstart_ok hR r n k (fun W G ⟨bn, cap, rn, rv, hD⟩ => rset_t1 wf u hD r x hx n k n2 k2 hxa hxb tf htf hn hn2 hf0 he)).mono fun e w' h => h
    · obtain ⟨u, hE, hI, PA⟩ := place_bad2 wf p0 p1 f0 f1 hf h1
      refine ⟨f0, f1, ⟨s, rs⟩, ⟨wf, h6, hrs⟩, ?_, ?_⟩
      · intro w F bx hg hP
        refine mstart_no hg hP r p0 p1 hE (fun W bf bl sv hD => ?_)
        refine (lstart_of hD r x hx p0 p1 (.iface 145 u) (.inr ⟨_, _, rfl⟩) (Q := fun W0 w' => Below W0.heap.size W0 w') (fun W0 hb0 => ?_)).mono ?_
        · refine lset_no (hD.below hb0) r x hx _ _ _ _ p0 p1 u (fun W1 hb1 => ?_) hI
          have hfor := ((hD.below hb0).below hb1).nodes
          obtain ⟨bn, cap, pn, hf'⟩ := hfor
          exact (tcompare_a bf p0 p1 x.c x.d u (fun W hb => PA W _ bf bn cap pn (hf'.below hb)))
        · rintro e w' ⟨rfl, W0, hb0, hk0⟩
          exact ⟨rfl, hb0.trans (hk0.mono hb0.size)⟩
      · intro w F bd hR
        have hR' := hR
        obtain ⟨bn, cap, rn, rv, hD⟩ := hR
        exact (rstart_no r p0 p1 f0 f1 (fun W hb => rset_place (hD.below hb) r hr p0 p1 f0 f1 _ hf h1)).mono fun e w' ⟨h1, h2⟩ => hR'.unchangedR h2 h1

theorem vans_finish {V : List Nd → Sp → Prop} (hV : Lives V) (s : List Nd) (wf : WF s) (rs : List Sp) (h6 : rs.length ≤ 6) (hrs : ∀ z ∈ rs, V s z) (A p0 p1 : Int) : Ans (PDocV V) GG ⟨s, rs⟩ 32 83 [.int .i64 A, .agg #[.int .i64 p0, .int .i64 p1]] (fun v => v) (fun v => v) := by
  by_cases hA : A < 0 ∨ (rs.length : Int) ≤ A
  · refine ⟨A, 8, ⟨s, rs⟩, ⟨wf, h6, hrs⟩, ?_, ?_⟩
    · intro w F bx hg hP
      exact mend_no hg hP A p0 p1 (errOf_M A) (fun W bf bl sv h => lend_no h A p0 p1 hA)
    · intro w F bd hR
      have hR' := hR
      obtain ⟨bn, cap, rn, rv, hD⟩ := hR
      exact (rend_no A p0 p1 A 8 (fun W hb => rset_no (hD.below hb) A p0 p1 _ hA)).mono fun e w' ⟨h1, h2⟩ => hR'.unchangedR h2 h1
  · obtain ⟨r, rfl⟩ : ∃ r : Nat, A = (r : Int) := ⟨A.toNat, by omega⟩
    have hr : r < rs.length := by omega
    obtain ⟨x, hx⟩ : ∃ x, rs[r]? = some x := ⟨_, List.getElem?_eq_getElem hr⟩
    have hpx := (hV.place (hrs x (List.mem_of_getElem? hx))).1
    have hfx := placeFault_ok hpx
    obtain ⟨n2, k2, hxa, hxb, hn2, hk2, hg0, PB⟩ := place_good wf x.a x.b 0 0 hfx rfl
    obtain ⟨f0, f1, hf⟩ : ∃ a y, placeFault s p0 p1 = (a, y) := ⟨_, _, rfl⟩
    by_cases h1 : f1 = 0
    · obtain ⟨n, k, rfl, rfl, hn, hk, hf0, PA⟩ := place_good wf p0 p1 f0 f1 hf h1
      have htf : ∀ m, ∃ t, m < s.length → IsTop s m t := fun m => by
        by_cases hm : m < s.length
        · obtain ⟨t, ht⟩ := top_there wf m hm; exact ⟨t, fun _ => ht⟩
        · exact ⟨0, fun h => absurd h hm⟩
      obtain ⟨tf, htf⟩ := Classical.axiomOfChoice htf
      obtain ⟨h, B, u⟩ := wf.up
      have hone : ∀ z ∈ rs.set r ⟨(n : Int), (k : Int), (n : Int), (k : Int)⟩, V s z := fun z hz => by
        rcases List.mem_or_eq_of_mem_set hz with hz | hz
        · exact hrs z hz
        · rw [hz]; exact hV.one wf ⟨n, k, rfl, rfl, hn, hk⟩
      by_cases he : tf n2 = tf n
      · obtain ⟨qa, ha⟩ := where_there (plF s (B + 1) (tf n)) (n, k)
        obtain ⟨qb, hb⟩ := where_there (plF s (B + 1) (tf n)) (n2, k2)
        have key : ∀ (l l2 : List Nat), Way s (tf n2) n2 l → Way s (tf n2) n l2 → lexC (l ++ [k2]) (l2 ++ [k]) = if qb < qa then -1 else if qa < qb then 1 else 0 := fun l l2 wa wb =>
          cmp_ways wf u wa wb (by first | exact hk | exact hk2) (by first | exact hk | exact hk2) (by rw [he]; exact hb) (by rw [he]; exact ha)
        by_cases hlt : qa < qb
        · refine ⟨0, 0, ⟨s, rs.set r ⟨(n : Int), (k : Int), (n : Int), (k : Int)⟩⟩, ⟨wf, by simpa using h6, hone⟩, ?_, ?_⟩
          · intro w F bx hg hP
            refine mend_ok hP r n k (fun W bf bl sv hD => ?_)
            refine (lend_of hD r x hx n k .nilIface (.inl rfl) (Q := fun W0 w' => Keeps F W0 w' ∧ PDocAt w' (grow F W0) bx bf bl sv ⟨s, rs.set r ⟨n, k, n, k⟩⟩) (fun W0 hb0 => ?_)).mono ?_
            · refine lset_gt (hD.below hb0) r x hx _ _ _ _ n k 1 (by decide) (fun W1 hb1 => ?_)
              have hfor := ((hD.below hb0).below hb1).nodes
              have hf' := hfor
              obtain ⟨bn, cap, pn, h⟩ := hfor
              rw [hxa, hxb]
              refine (tcompare_one wf hf' n2 k2 n k tf htf hn2 hn he (fun W hb => PB W _ bf bn cap pn (h.below hb)) (fun W hb => PA W _ bf bn cap pn (h.below hb))).mono ?_
              rintro e w' ⟨l, l2, wa, wb, rfl, hbl⟩
              refine ⟨?_, hbl⟩
              rw [key l l2 wa wb, if_neg (by omega), if_pos hlt]
            · rintro e w' ⟨rfl, W0, hb0, hk0, hd0⟩
              exact ⟨rfl, (Keeps.of_below hb0).trans (hk0.mono (fun b _ e => .inl e)), hd0.widen (fun b h => h.imp id (fun h => Nat.le_trans hb0.size h))⟩
          · intro w F bd hR
            exact (rend_ok hR r n k (fun W G ⟨bn, cap, rn, rv, hD⟩ => rset_e2 wf u hD r x hx n k n2 k2 hxa hxb tf htf hn hn2 hf0 he qa qb ha hb (decide_eq_true hlt))).mono fun e w' h => h
        · refine ⟨0, 0, ⟨s, rs.set r ⟨n2, k2, n, k⟩⟩, ⟨wf, by simpa using h6, fun z hz => ?_⟩, ?_, ?_⟩
          · rcases List.mem_or_eq_of_mem_set hz with hz | hz
            · exact hrs z hz
            · rw [hz]
              have hstart : PlOk s (n2 : Int) (k2 : Int) := ⟨n2, k2, rfl, rfl, by first | exact hn | exact hn2, by first | exact hk | exact hk2⟩
              have hend : PlOk s (n : Int) (k : Int) := ⟨n, k, rfl, rfl, by first | exact hn | exact hn2, by first | exact hk | exact hk2⟩
              have ts := htf n2 (by first | exact hn | exact hn2)
              have te := htf n (by first | exact hn | exact hn2)
              rw [← he] at te
              obtain ⟨l, wl⟩ := way_there wf ts (by first | exact hn | exact hn2)
              obtain ⟨l2, wl2⟩ := way_there wf te (by first | exact hn | exact hn2)
              refine hV.two wf hstart hend ts wl wl2 ?_
              rw [key l l2 wl wl2]
              split
              · decide
              · first | decide | (rw [if_neg hlt]; decide)
          · intro w F bx hg hP
            refine mend_ok hP r n k (fun W bf bl sv hD => ?_)
            refine (lend_of hD r x hx n k .nilIface (.inl rfl) (Q := fun W0 w' => Keeps F W0 w' ∧ PDocAt w' (grow F W0) bx bf bl sv ⟨s, rs.set r ⟨n2, k2, n, k⟩⟩) (fun W0 hb0 => ?_)).mono ?_
            · have hcm := lset_le (hD.below hb0) r x hx x.a x.b (n : Int) (k : Int) n k (if qb < qa then -1 else 0) (by split <;> decide) (fun W1 hb1 => ?_)
              · refine hcm.mono ?_
                rintro e w' ⟨rfl, hk0, hd0⟩
                rw [hxa, hxb] at hd0
                exact ⟨rfl, hk0, hd0⟩
              have hfor := ((hD.below hb0).below hb1).nodes
              have hf' := hfor
              obtain ⟨bn, cap, pn, h⟩ := hfor
              rw [hxa, hxb]
              refine (tcompare_one wf hf' n2 k2 n k tf htf hn2 hn he (fun W hb => PB W _ bf bn cap pn (h.below hb)) (fun W hb => PA W _ bf bn cap pn (h.below hb))).mono ?_
              rintro e w' ⟨l, l2, wa, wb, rfl, hbl⟩
              refine ⟨?_, hbl⟩
              rw [key l l2 wa wb, if_neg hlt]
            · rintro e w' ⟨rfl, W0, hb0, hk0, hd0⟩
              exact ⟨rfl, (Keeps.of_below hb0).trans (hk0.mono (fun b _ e => .inl e)), hd0.widen (fun b h => h.imp id (fun h => Nat.le_trans hb0.size h))⟩
          · intro w F bd hR
            exact (rend_ok hR r n k (fun W G ⟨bn, cap, rn, rv, hD⟩ => rset_e3 wf u hD r x hx n k n2 k2 hxa hxb tf htf hn hn2 hf0 he qa qb ha hb (decide_eq_false hlt))).mono fun e w' h => h
      · refine ⟨0, 0, ⟨s, rs.set r ⟨(n : Int), (k : Int), (n : Int), (k : Int)⟩⟩, ⟨wf, by simpa using h6, hone⟩, ?_, ?_⟩
        · intro w F bx hg hP
          refine mend_ok hP r n k (fun W bf bl sv hD => ?_)
          refine (lend_of hD r x hx n k .nilIface (.inl rfl) (Q := fun W0 w' => Keeps F W0 w' ∧ PDocAt w' (grow F W0) bx bf bl sv ⟨s, rs.set r ⟨n, k, n, k⟩⟩) (fun W0 hb0 => ?_)).mono ?_
          · refine lset_roots (hD.below hb0) r x hx _ _ _ _ n k n (fun W1 hb1 => ?_)
            have hfor := ((hD.below hb0).below hb1).nodes
            have hf' := hfor
            obtain ⟨bn, cap, pn, h⟩ := hfor
            rw [hxa, hxb]
            exact tcompare_roots wf hf' n2 k2 n k tf htf hn2 hn he (fun W hb => PB W _ bf bn cap pn (h.below hb)) (fun W hb => PA W _ bf bn cap pn (h.below hb))
          · rintro e w' ⟨rfl, W0, hb0, hk0, hd0⟩
            exact ⟨rfl, (Keeps.of_below hb0).trans (hk0.mono (fun b _ e => .inl e)), hd0.widen (fun b h => h.imp id (fun h => Nat.le_trans hb0.size h))⟩
        · intro w F bd hR
          exact (rend_ok hR r n k (fun W G ⟨bn, cap, rn, rv, hD⟩ => rset_e1 wf u hD r x hx n k n2 k2 hxa hxb tf htf hn hn2 hf0 he)).mono fun e w' h => h
    · obtain ⟨u, hE, hI, PA⟩ := place_bad2 wf p0 p1 f0 f1 hf h1
      refine ⟨f0, f1, ⟨s, rs⟩, ⟨wf, h6, hrs⟩, ?_, ?_⟩
      · intro w F bx hg hP
        refine mend_no hg hP r p0 p1 hE (fun W bf bl sv hD => ?_)
        refine (lend_of hD r x hx p0 p1 (.iface 145 u) (.inr ⟨_, _, rfl⟩) (Q := fun W0 w' => Below W0.heap.size W0 w') (fun W0 hb0 => ?_)).mono ?_
        · refine lset_no (hD.below hb0) r x hx _ _ _ _ p0 p1 u (fun W1 hb1 => ?_) hI
          have hfor := ((hD.below hb0).below hb1).nodes
          obtain ⟨bn, cap, pn, hf'⟩ := hfor
          exact (tcompare_b bf x.a x.b p0 p1 u (fun W hb => by rw [hxa, hxb]; exact PB W _ bf bn cap pn (hf'.below hb)) (fun W hb => PA W _ bf bn cap pn (hf'.below hb)))
        · rintro e w' ⟨rfl, W0, hb0, hk0⟩
          exact ⟨rfl, hb0.trans (hk0.mono hb0.size)⟩
      · intro w F bd hR
        have hR' := hR
        obtain ⟨bn, cap, rn, rv, hD⟩ := hR
        exact (rend_no r p0 p1 f0 f1 (fun W hb => rset_place (hD.below hb) r hr p0 p1 f0 f1 _ hf h1)).mono fun e w' ⟨h1, h2⟩ => hR'.unchangedR h2 h1

end Go.Proofs.YtabogkonklplcaaGreatDoor

/- The changes that Delete makes, one behind the other. Plain mathematics. -/
namespace Go.Proofs.YtabogkonklplcaaGreatDoor
set_option linter.unusedSimpArgs false
set_option linter.unusedVariables false

/-- Which change: a node goes, or the characters of a text from one offset up to another one. -/
abbrev Dact : Type := Nat × Option (Nat × Nat)

inductive Chg : List Nd → Dact → List Nd → Mvf → Prop
  | cut {s : List Nd} {n o e : Nat} {x : Nd} : s[n]? = some x → x.t = true → o ≤ e → e ≤ x.cs.length →
      Chg s (n, some (o, e)) (s.set n { x with cs := x.cs.take o ++ [] ++ x.cs.drop (o + (e - o)) }) (resizeF n o ((e - o : Nat) : Int) (([] : List ByteArray).length : Int))
  | rem {s : List Nd} {i j m : Nat} {x y : Nd} {h2 : Nat → Nat} {H2 : Nat} : s[i]? = some x → x.p = (j : Int) → s[j]? = some y → y.ks[m]? = some i → i ∉ y.ks.take m → i ≠ j →
      WF ((s.set j { y with ks := y.ks.take m ++ y.ks.drop (m + 1) }).set i { x with p := -1 }) → Up ((s.set j { y with ks := y.ks.take m ++ y.ks.drop (m + 1) }).set i { x with p := -1 }) h2 H2 →
      Chg s (i, none) ((s.set j { y with ks := y.ks.take m ++ y.ks.drop (m + 1) }).set i { x with p := -1 }) (gatherF (allF ((s.set j { y with ks := y.ks.take m ++ y.ks.drop (m + 1) }).set i { x with p := -1 }) (h2 i + 1) i) j m (shiftF j m (-1)))

inductive Chgs : List Nd → List Dact → List Nd → List Mvf → Prop
  | nil {s : List Nd} : Chgs s [] s []
  | cons {s s1 s' : List Nd} {a : Dact} {ac : List Dact} {f : Mvf} {fs : List Mvf} : Chg s a s1 f → Chgs s1 ac s' fs → Chgs s (a :: ac) s' (f :: fs)

theorem Chgs.append {s s1 s' : List Nd} {ac bs : List Dact} {fs gs : List Mvf} (h : Chgs s ac s1 fs) (h2 : Chgs s1 bs s' gs) : Chgs s (ac ++ bs) s' (fs ++ gs) := by
  induction h with
  | nil => exact h2
  | cons c _ ih => exact .cons c (ih h2)
theorem Chgs.len {s s' : List Nd} {ac : List Dact} {fs : List Mvf} (h : Chgs s ac s' fs) : fs.length = ac.length := by
  induction h with
  | nil => rfl
  | cons _ _ ih => simp [ih]

/-- One move behind the other. -/
def compF (fs : List Mvf) : Mvf := fun a b => fs.foldl (fun p f => f p.1 p.2) (a, b)
theorem compF_nil : mvSp (compF []) = id := by funext z; rfl
theorem compF_cons (f : Mvf) (fs : List Mvf) (z : Sp) : mvSp (compF (f :: fs)) z = mvSp (compF fs) (mvSp f z) := rfl
theorem map_nil' (rs : List Sp) : rs.map (mvSp (compF [])) = rs := by rw [compF_nil]; simp
theorem map_cons' (f : Mvf) (fs : List Mvf) (rs : List Sp) : rs.map (mvSp (compF (f :: fs))) = (rs.map (mvSp f)).map (mvSp (compF fs)) := by
  rw [List.map_map]; rfl

theorem cut_chars {s : List Nd} (wf : WF s) {n o e : Nat} {x : Nd} (hx : s[n]? = some x) (ht : x.t = true) : WF (s.set n { x with cs := x.cs.take o ++ [] ++ x.cs.drop (o + (e - o)) }) := by
  have hch := wf.chars n x hx
  refine wf_chars wf hx ht ⟨by simp; omega, fun c hc => ?_⟩
  rw [List.append_nil] at hc
  rcases List.mem_append.1 hc with hc | hc
  · exact hch.2 c (List.mem_of_mem_take hc)
  · exact hch.2 c (List.mem_of_mem_drop hc)

theorem Chg.wf {s s' : List Nd} {a : Dact} {f : Mvf} (h : Chg s a s' f) (wf : WF s) : WF s' := by
  cases h with
  | cut hx ht _ _ => exact cut_chars wf hx ht
  | rem _ _ _ _ _ _ h _ => exact h
theorem Chgs.wf {s s' : List Nd} {ac : List Dact} {fs : List Mvf} (h : Chgs s ac s' fs) (wf : WF s) : WF s' := by
  induction h with
  | nil => exact wf
  | cons c _ ih => exact ih (c.wf wf)

theorem Chg.lives {V : List Nd → Sp → Prop} (hV : Lives V) {s s' : List Nd} {a : Dact} {f : Mvf} (h : Chg s a s' f) (wf : WF s) {z : Sp} (hz : V s z) : V s' (mvSp f z) := by
  cases h with
  | cut hx ht h1 h2 => exact hV.replace wf hx ht (by omega) (cut_chars wf hx ht) hz
  | rem hx hj hy hm hno hij wf2 u2 =>
    obtain ⟨hh, HH, u⟩ := wf.up
    exact hV.remove _ wf hx hj hy hm hno hij (gone_iff wf u hx hj hy hm hij wf2 u2) hz
theorem Chgs.lives {V : List Nd → Sp → Prop} (hV : Lives V) {s s' : List Nd} {ac : List Dact} {fs : List Mvf} (h : Chgs s ac s' fs) (wf : WF s) : ∀ {z : Sp}, V s z → V s' (mvSp (compF fs) z) := by
  induction h with
  | nil => intro z hz; exact hz
  | cons c _ ih => intro z hz; exact ih (c.wf wf) (c.lives hV wf hz)

/-- No place goes far out. -/
def Near (f : Mvf) : Prop := ∀ a b : Int, 0 ≤ b → b ≤ 100 → 0 ≤ (f a b).2 ∧ (f a b).2 ≤ 100
theorem Chg.near {s s' : List Nd} {a : Dact} {f : Mvf} (h : Chg s a s' f) (wf : WF s) : Near f := by
  intro p q h0 h1
  cases h with
  | @cut n o e x hx ht h2 h3 =>
    have := (wf.chars _ _ hx).1
    unfold resizeF shiftF
    split
    · simp only; omega
    · split
      · simp only [List.length_nil]; omega
      · exact ⟨h0, h1⟩
  | @rem i j m x y _ _ hx hj hy hm hno hij wf2 u2 =>
    have := (List.getElem?_eq_some_iff.1 hm).1
    have := kids_le wf hy
    unfold gatherF shiftF
    split
    · simp only; omega
    · split
      · simp only; omega
      · exact ⟨h0, h1⟩
theorem Chgs.near {s s' : List Nd} {ac : List Dact} {fs : List Mvf} (h : Chgs s ac s' fs) (wf : WF s) : ∀ f ∈ fs, Near f := by
  induction h with
  | nil => intro f hf; cases hf
  | cons c _ ih =>
    intro f hf
    rcases List.mem_cons.1 hf with rfl | hf
    · exact c.near wf
    · exact ih (c.wf wf) f hf

/-- An element whose first children are such. -/
def Firsts (s : List Nd) (a b : Nat) (ks : List Nat) : Prop := ∃ y, s[a]? = some y ∧ y.t = false ∧ b ≤ y.ks.length ∧ y.ks.take b = ks
theorem Firsts.ok {s : List Nd} {a b : Nat} {ks : List Nat} (h : Firsts s a b ks) : PlOk s a b := by
  obtain ⟨y, hy, ht, hb, _⟩ := h
  exact ⟨a, b, rfl, rfl, (List.getElem?_eq_some_iff.1 hy).1, by rw [sizeAt_eq hy, sizeN_elem ht]; exact hb⟩

/-- What a node is but for its place. -/
def SameText (s s' : List Nd) (n : Nat) : Prop := ∀ x, s[n]? = some x → ∃ x', s'[n]? = some x' ∧ x'.t = x.t ∧ x'.cs = x.cs

theorem rem_look {s : List Nd} {i j : Nat} {x y : Nd} (hx : s[i]? = some x) (hy : s[j]? = some y) (hij : i ≠ j) (ks : List Nat) (c : Nat) :
    ((s.set j { y with ks := ks }).set i { x with p := -1 })[c]? = (s[c]?).map (fun z => if c = i then { z with p := -1 } else if c = j then { z with ks := ks } else z) :=
  set2_get hy hx (fun e => hij e.symm) ks (-1) c

theorem rem_step {s : List Nd} (wf : WF s) {i : Nat} {x : Nd} (hx : s[i]? = some x) (hp : 0 ≤ x.p) : ∃ s' f, Chg s (i, none) s' f ∧ (∀ n, SameText s s' n) ∧ (∀ n z, n ≠ i → s[n]? = some z → ∃ z', s'[n]? = some z' ∧ z'.p = z.p) ∧
    (∀ a b ks, Firsts s a b ks → i ∉ ks → Firsts s' a b ks) := by
  obtain ⟨j, m, y, hj, hy, hm, hno, _⟩ := wf.place hx hp
  obtain ⟨hij, hwf⟩ := wf_remove wf hx hj hy hm
  obtain ⟨hh2, HH2, u2⟩ := hwf.up
  have hml := (List.getElem?_eq_some_iff.1 hm).1
  refine ⟨_, _, Chg.rem hx hj hy hm hno hij hwf u2, ?_, ?_, ?_⟩
  · intro n z hz
    rw [rem_look hx hy hij, hz]
    refine ⟨_, rfl, ?_, ?_⟩
    · split
      · rfl
      · split <;> rfl
    · split
      · rfl
      · split <;> rfl
  · intro n z hn hz
    rw [rem_look hx hy hij, hz]
    refine ⟨_, rfl, ?_⟩
    simp only [if_neg hn]
    split <;> rfl
  · rintro a b ks ⟨z, hz, ht, hb, hk⟩ hi
    refine ⟨_, by rw [rem_look hx hy hij, hz]; rfl, ?_⟩
    by_cases hai : a = i
    · simp only [if_pos hai]
      exact ⟨ht, hb, hk⟩
    · simp only [if_neg hai]
      by_cases haj : a = j
      · subst haj
        rw [hy] at hz
        cases hz
        simp only [if_true]
        have hbm : b ≤ m := by
          rcases Nat.lt_or_ge m b with hlt | hge
          · exact absurd (hk ▸ mem_take_of hm hlt) hi
          · exact hge
        refine ⟨ht, by simp; omega, ?_⟩
        rw [List.take_append_of_le_length (by simp; omega), List.take_take, Nat.min_eq_left hbm]
        exact hk
      · simp only [if_neg haj]
        exact ⟨ht, hb, hk⟩

theorem rems_there : ∀ (l : List Nat) (s : List Nd), WF s → l.Nodup → (∀ i ∈ l, ∃ x, s[i]? = some x ∧ 0 ≤ x.p) → ∃ s' fs, Chgs s (l.map (fun i => ((i, none) : Dact))) s' fs ∧ (∀ n, SameText s s' n) ∧ (∀ a b ks, Firsts s a b ks → (∀ i ∈ l, i ∉ ks) → Firsts s' a b ks) := by
  intro l
  induction l with
  | nil => intro s wf _ _; exact ⟨s, [], .nil, fun n x hx => ⟨x, hx, rfl, rfl⟩, fun a b ks h _ => h⟩
  | cons i l ih =>
    intro s wf hnd hpar
    obtain ⟨x, hx, hp⟩ := hpar i (by simp)
    obtain ⟨s1, f, hc, ht, hq, hf⟩ := rem_step wf hx hp
    have hnd' := List.nodup_cons.1 hnd
    obtain ⟨s', fs, hcs, ht2, hf2⟩ := ih s1 (hc.wf wf) hnd'.2 (fun k hk => by
      obtain ⟨z, hz, hzp⟩ := hpar k (by simp [hk])
      obtain ⟨z', hz', e⟩ := hq k z (fun e => hnd'.1 (e ▸ hk)) hz
      exact ⟨z', hz', by omega⟩)
    refine ⟨s', f :: fs, .cons hc hcs, fun n z hz => ?_, fun a b ks h hk => ?_⟩
    · obtain ⟨z1, hz1, e1, e2⟩ := ht n z hz
      obtain ⟨z2, hz2, e3, e4⟩ := ht2 n z1 hz1
      exact ⟨z2, hz2, e3.trans e1, e4.trans e2⟩
    · exact hf2 a b ks (hf a b ks h (hk i (by simp))) (fun k hk' => hk k (by simp [hk']))

theorem cut_step {s : List Nd} {n o e : Nat} {x : Nd} (hx : s[n]? = some x) (ht : x.t = true) (h1 : o ≤ e) (h2 : e ≤ x.cs.length) : ∃ s' f, Chg s (n, some (o, e)) s' f ∧ (∀ k : Nat, k ≠ n → SameText s s' k) ∧ (∀ (k : Nat) (z : Nd), s[k]? = some z → ∃ z' : Nd, s'[k]? = some z' ∧ z'.t = z.t ∧ z'.p = z.p ∧ z'.ks = z.ks) := by
  have hn := (List.getElem?_eq_some_iff.1 hx).1
  refine ⟨_, _, .cut hx ht h1 h2, fun k hk z hz => ⟨z, by rw [List.getElem?_set_ne (fun e => hk e.symm)]; exact hz, rfl, rfl⟩, fun k z hz => ?_⟩
  by_cases hk : k = n
  · subst hk
    rw [hx] at hz
    cases hz
    exact ⟨_, List.getElem?_set_self hn, rfl, rfl, rfl⟩
  · exact ⟨z, by rw [List.getElem?_set_ne (fun e => hk e.symm)]; exact hz, rfl, rfl, rfl⟩
theorem Firsts.same {s s' : List Nd} {a b : Nat} {ks : List Nat} (h : Firsts s a b ks) (hs : ∀ (k : Nat) (z : Nd), s[k]? = some z → ∃ z' : Nd, s'[k]? = some z' ∧ z'.t = z.t ∧ z'.p = z.p ∧ z'.ks = z.ks) : Firsts s' a b ks := by
  obtain ⟨y, hy, ht, hb, hk⟩ := h
  obtain ⟨y', hy', e1, _, e3⟩ := hs a y hy
  exact ⟨y', hy', e1.trans ht, by rw [e3]; exact hb, by rw [e3]; exact hk⟩

/-- The cut at one end. -/
def endAct (s : List Nd) (n o e : Nat) : List Dact := if (s[n]?.map (·.t)) = some true then [(n, some (o, e))] else []

/-- All that Delete does where a range is not within one text. -/
def delActs (s : List Nd) (B a b c d t : Nat) : List Dact :=
  endAct s a b (csOf s a).length ++ (leaveF s (plF s (B + 1) t) a b c d (allF s (B + 1) t)).map (fun i => ((i, none) : Dact)) ++ endAct s c 0 d

theorem del_there {s : List Nd} (wf : WF s) {B a b c d t : Nat} (hac : a ≠ c ∨ (s[a]?.map (·.t)) = some false) (hc : c < s.length) (ha : a < s.length) (hb : b ≤ sizeAt s a) (hd : d ≤ sizeAt s c) :
    ∃ s' fs, Chgs s (delActs s B a b c d t) s' fs ∧ (∀ a' b' ks, Firsts s a' b' ks → (∀ i ∈ leaveF s (plF s (B + 1) t) a b c d (allF s (B + 1) t), i ∉ ks) → Firsts s' a' b' ks) := by
  obtain ⟨x, hx⟩ : ∃ x, s[a]? = some x := ⟨_, List.getElem?_eq_getElem ha⟩
  obtain ⟨y, hy⟩ : ∃ y, s[c]? = some y := ⟨_, List.getElem?_eq_getElem hc⟩
  obtain ⟨l, hl⟩ : ∃ l, leaveF s (plF s (B + 1) t) a b c d (allF s (B + 1) t) = l := ⟨_, rfl⟩
  have hnd : l.Nodup := by rw [← hl]; exact (all_nodup wf (B + 1) t).sublist List.filter_sublist
  have hpar : ∀ i ∈ l, ∃ z, s[i]? = some z ∧ 0 ≤ z.p := by
    intro i hi
    rw [← hl] at hi
    obtain ⟨z, _, j, _, hz, hj, _⟩ := leave_mem wf hi
    exact ⟨z, hz, by omega⟩
  unfold delActs
  rw [hl]
  -- the cut at the start
  obtain ⟨s1, f1, hc1, wf1, hT1, hK1⟩ : ∃ s1 f1, Chgs s (endAct s a b (csOf s a).length) s1 f1 ∧ WF s1 ∧ (c ≠ a ∨ x.t = false → SameText s s1 c) ∧ (∀ (k : Nat) (z : Nd), s[k]? = some z → ∃ z' : Nd, s1[k]? = some z' ∧ z'.t = z.t ∧ z'.p = z.p ∧ z'.ks = z.ks) := by
    unfold endAct
    by_cases hT : (s[a]?.map (·.t)) = some true
    · have ht : x.t = true := by rw [hx] at hT; simpa using hT
      rw [if_pos hT, csOf_eq hx]
      obtain ⟨s1, f, h1, h2, h3⟩ := cut_step (o := b) (e := x.cs.length) hx ht (by rw [sizeAt_eq hx, sizeN_text ht] at hb; exact hb) (Nat.le_refl _)
      exact ⟨s1, [f], .cons h1 .nil, h1.wf wf, fun h => h.elim (fun h => h2 c h) (fun h => by rw [ht] at h; cases h), h3⟩
    · rw [if_neg hT]
      exact ⟨s, [], .nil, wf, fun _ z hz => ⟨z, hz, rfl, rfl⟩, fun k z hz => ⟨z, hz, rfl, rfl, rfl⟩⟩
  obtain ⟨s2, f2, hc2, hT2, hF2⟩ := rems_there l s1 wf1 hnd (fun i hi => by
    obtain ⟨z, hz, hp⟩ := hpar i hi
    obtain ⟨z', hz', _, e, _⟩ := hK1 i z hz
    exact ⟨z', hz', by omega⟩)
  have hSc : SameText s s2 c := by
    intro z hz
    have h1 := hT1 (by
      rcases hac with h | h
      · exact .inl (fun e => h e.symm)
      · right; rw [hx] at h; simpa using h)
    obtain ⟨z1, hz1, e1, e2⟩ := h1 z hz
    obtain ⟨z2, hz2, e3, e4⟩ := hT2 c z1 hz1
    exact ⟨z2, hz2, e3.trans e1, e4.trans e2⟩
  obtain ⟨s3, f3, hc3, hK3⟩ : ∃ s3 f3, Chgs s2 (endAct s c 0 d) s3 f3 ∧ (∀ (k : Nat) (z : Nd), s2[k]? = some z → ∃ z' : Nd, s3[k]? = some z' ∧ z'.t = z.t ∧ z'.p = z.p ∧ z'.ks = z.ks) := by
    unfold endAct
    by_cases hT : (s[c]?.map (·.t)) = some true
    · have ht : y.t = true := by rw [hy] at hT; simpa using hT
      rw [if_pos hT]
      obtain ⟨y2, hy2, e1, e2⟩ := hSc y hy
      obtain ⟨s3, f, h1, h2, h3⟩ := cut_step (o := 0) (e := d) hy2 (e1.trans ht) (Nat.zero_le _) (by rw [e2]; rw [sizeAt_eq hy, sizeN_text ht] at hd; exact hd)
      exact ⟨s3, [f], .cons h1 .nil, h3⟩
    · rw [if_neg hT]
      exact ⟨s2, [], .nil, fun k z hz => ⟨z, hz, rfl, rfl, rfl⟩⟩
  exact ⟨s3, _, (hc1.append hc2).append hc3, fun a' b' ks h hk => (hF2 a' b' ks (h.same hK1) hk).same hK3⟩

end Go.Proofs.YtabogkonklplcaaGreatDoor

/- tree.inside. -/
namespace Go.Proofs.YtabogkonklplcaaGreatDoor
open Go.RowKit Go.Shelf
set_option linter.unusedSimpArgs false
set_option linter.unusedVariables false
attribute [local go_sem] Oper.semAt_some

set_option maxRecDepth 20000 in
set_option maxHeartbeats 1000000 in
theorem in1_any {s : List Nd} (wf : WF s) {h : Nat → Nat} {B : Nat} (u : Up s h B) {F : Nat → Prop} {bf bn cap : Nat} {pn : List PN} {w : World} (hD : PForAt w F bf bn cap pn s) (a b c d t n x0 x1 : Nat) (ha : a < s.length) (hc : c < s.length) (hn : n < s.length) (ta : IsTop s a t) (tc : IsTop s c t) (tn : IsTop s n t) (hb : b ≤ sizeAt s a) (hd : d ≤ sizeAt s c)
    (h0 : w.cell? ⟨x0, 0, none⟩ = some (ptr bf)) (h1 : w.heap[x1]? = some (.cells #[.int .i64 (a : Int), .int .i64 (b : Int), .int .i64 (c : Int), .int .i64 (d : Int)] 79 (0, 0))) :
    Calls Tryz.prog 199 #[.int .i64 (n : Int), ptr x0, ptr x1] w fun e w' => e = .returned (.bool (insB s (plF s (B + 1) t) a b c d n)) ∧ Below w.heap.size w w' := by
  have hcap := wf.cap
  have l0 := World.block_lt_of_cell? w _ h0
  have l1 := heap_lt h1
  obtain ⟨x, hx⟩ : ∃ x, s[n]? = some x := ⟨_, List.getElem?_eq_getElem hn⟩
  have n0 := hD.nodesCell
  have hlt := hD.lt
  obtain ⟨r, hr, ho, d0, d1, d2, d3⟩ := hD.look hx
  have hnI : (n : Int) < (s.length : Int) := by omega
  by_cases hp : 0 ≤ x.p
  · obtain ⟨j, m, y, hj, hy, hm, hno, hyl⟩ := wf.place hx hp
    have hjl : j < s.length := (List.getElem?_eq_some_iff.1 hy).1
    have CA := hid (fun W (hB : Below w.heap.size w W) => tahead_at (hD.below hB) n j m x y hx hj hy hm hno (by unfold lots; omega) (by unfold lots; omega))
    have CC := hid (fun W (hB : Below w.heap.size w W) => tcovers_any wf u (hD.below hB) a b c d j m t ha hc hjl ta tc (tn.par hx hj) hb hd (kid_size wf hy hm).2)
    rw [← insB_at hx hj hy hm hno] at CC
    rw [hj] at d0
    have hneg : ((j : Int) == -1) = false := by simp
    have c0 := cell_of_heap h1 0
    have c1 := cell_of_heap h1 1
    have c2 := cell_of_heap h1 2
    have c3 := cell_of_heap h1 3
    have HX1 := hid h1
    generalize insB s (plF s (B + 1) t) a b c d n = q at *
    clear hD d1 d2 d3 hr ho hx hy hm hno h1 wf u ta tc tn hj
    have KEEP := hid (fun W (hB : Below w.heap.size w W) => And.intro ((hB.cell (p := ⟨x0, 0, none⟩) l0).trans h0) (And.intro ((hB.cell (p := ⟨bf, 0, none⟩) hlt.1).trans n0) (And.intro ((hB.cell (p := ⟨bn, n * 4, none⟩) hlt.2).trans d0) (And.intro ((hB.cell (p := ⟨x1, 0, none⟩) l1).trans c0) (And.intro ((hB.cell (p := ⟨x1, 1, none⟩) l1).trans c1) (And.intro ((hB.cell (p := ⟨x1, 2, none⟩) l1).trans c2) ((hB.cell (p := ⟨x1, 3, none⟩) l1).trans c3)))))))
    go_enter Tryz.func199, Tryz.ntmps199
    go_wp2
    go_region_held3 (fun w' => w'.cell? ⟨x0, 0, none⟩ = some (ptr bf) ∧ w'.cell? ⟨bf, 0, none⟩ = some (.slice (some ⟨bn, 0, none⟩) s.length cap) ∧ w'.cell? ⟨bn, n * 4, none⟩ = some (.int .i64 (j : Int)) ∧ w'.cell? ⟨x1, 0, none⟩ = some (.int .i64 (a : Int)) ∧ w'.cell? ⟨x1, 1, none⟩ = some (.int .i64 (b : Int)) ∧ w'.cell? ⟨x1, 2, none⟩ = some (.int .i64 (c : Int)) ∧ w'.cell? ⟨x1, 3, none⟩ = some (.int .i64 (d : Int))) (first | exact KP2.out | exact KP1.out | go_keep) (first
      | (go_at_call 159
         refine (CC.out _ ?_).mono ?_
         · first | exact HB1.out | exact HB1.out.drew | exact below_drewN HB1.out _
         rintro e w2 ⟨rfl, hb2⟩
         have HB2 := hid (show Below w.heap.size w w2 from ⟨hb2.os.trans HB1.out.os, hb2.tape.trans HB1.out.tape, hb2.output.trans HB1.out.output, Nat.le_trans HB1.out.size hb2.size, fun k hk => (hb2.block k (Nat.lt_of_lt_of_le hk HB1.out.size)).trans (HB1.out.block k hk)⟩)
         have KP2 := hid (KEEP.out _ HB2.out)
         clear hb2)
      | (go_at_call 149
         refine (CA.out _ ?_).mono ?_
         · first | exact below_draw _ _ | exact (Below.refl _ w).drew | exact Below.refl _ w
         clear CA
         rintro e w1 ⟨rfl, hb1⟩
         have HB1 := hid (show Below w.heap.size w w1 from ⟨hb1.os, hb1.tape, hb1.output, hb1.size, hb1.block⟩)
         have KP1 := hid (KEEP.out _ HB1.out)
         clear hb1))
    all_goals
      go_wp2
      go_ret
      exact ⟨rfl, HB2.out⟩
  · have hp1 : x.p = -1 := by
      rcases wf.par n x hx with h | ⟨j, y, h, _⟩
      · exact h
      · omega
    rw [insB_top hx (by omega)]
    rw [hp1] at d0
    clear hD d1 d2 d3 hr ho hx wf u ta tc tn
    go_enter Tryz.func199, Tryz.ntmps199
    go_wp2
    go_quiet (fail)
    go_wp2
    go_ret
    exact ⟨rfl, below_draw _ _⟩

end Go.Proofs.YtabogkonklplcaaGreatDoor
