import Derived.Test.YtabogkonklplcaaGreatDoorE45
import Derived.Test.YtabogkonklplcaaGreatDoorE41
import Derived.Test.YtabogkonklplcaaGreatDoorE49
import Derived.Test.YtabogkonklplcaaGreatDoorE48
import Derived.Test.YtabogkonklplcaaGreatDoorE53
import Derived.Test.YtabogkonklplcaaGreatDoorE36
import Derived.Test.YtabogkonklplcaaGreatDoorE54

/- With ranges: Split. -/
namespace Go.Proofs.YtabogkonklplcaaGreatDoor
open Go.RowKit Go.Lib
set_option linter.unusedSimpArgs false
set_option linter.unusedVariables false

theorem vans_split {V : List Nd → Sp → Prop} (hV : Lives V) (s : List Nd) (wf : WF s) (rs : List Sp) (h6 : rs.length ≤ 6) (hrs : ∀ z ∈ rs, V s z) (A B : Int) : ∃ n : Int, Ans (PDocV V) GG ⟨s, rs⟩ 30 79 [.int .i64 A, .int .i64 B] (fun v => .tuple #[.int .i64 n, v]) (fun v => .tuple #[.int .i64 n, v]) := by
  have hcap := wf.cap
  cases hA : isB s A with
  | false =>
    refine ⟨0, A, 1, ⟨s, rs⟩, ⟨wf, h6, hrs⟩, ?_, ?_⟩
    · intro w F bx hg hP
      refine msplit_no hg hP A B (errOf_P A 1 (by decide)) (fun F' bf h => ?_)
      have h' := h
      obtain ⟨bn, cap, pn, h⟩ := h
      exact tsplit_unfit h' A B _ (findText_no h A hA)
    · intro w F bd hR
      have hR' := hR
      obtain ⟨bn, cap, rn, rv, hD⟩ := hR
      exact (rsplit_unfit A B A 1 (by decide) (textFits_node (hD.below (one0_below w)) A B hA)).mono fun e w' ⟨h1, h2⟩ => hR'.unchangedR h2 h1
  | true =>
    obtain ⟨h1, h2⟩ := isB_true hA
    obtain ⟨n, rfl⟩ : ∃ n : Nat, A = (n : Int) := ⟨A.toNat, by omega⟩
    have hn : n < s.length := by omega
    obtain ⟨x, hx⟩ : ∃ x, s[n]? = some x := ⟨_, List.getElem?_eq_getElem hn⟩
    have hch := wf.chars n x hx
    have hl' : x.cs.length < lots := by unfold lots; omega
    cases ht : x.t with
    | false =>
      refine ⟨0, n, 2, ⟨s, rs⟩, ⟨wf, h6, hrs⟩, ?_, ?_⟩
      · intro w F bx hg hP
        refine msplit_no hg hP n B (errOf_P n 2 (by decide)) (fun F' bf h => ?_)
        have h' := h
        obtain ⟨bn, cap, pn, h⟩ := h
        exact tsplit_unfit h' n B _ (findText_kind h n x hx ht)
      · intro w F bd hR
        have hR' := hR
        obtain ⟨bn, cap, rn, rv, hD⟩ := hR
        exact (rsplit_unfit n B n 2 (by decide) (textFits_kind (hD.below (one0_below w)) n B x hx ht)).mono fun e w' ⟨h1, h2⟩ => hR'.unchangedR h2 h1
    | true =>
      by_cases hB : B < 0 ∨ (x.cs.length : Int) < B
      · refine ⟨0, n, 3, ⟨s, rs⟩, ⟨wf, h6, hrs⟩, ?_, ?_⟩
        · intro w F bx hg hP
          exact msplit_no hg hP n B (errOf_O n B) (fun F' bf h => tsplit_out h n B x hx ht hch.2 hl' hB)
        · intro w F bd hR
          have hR' := hR
          obtain ⟨bn, cap, rn, rv, hD⟩ := hR
          exact (rsplit_unfit n B n 3 (by decide) (textFits_index (hD.below (one0_below w)) n B x hx ht hB)).mono fun e w' ⟨h1, h2⟩ => hR'.unchangedR h2 h1
      · obtain ⟨k, rfl⟩ : ∃ k : Nat, B = (k : Int) := ⟨B.toNat, by omega⟩
        have hk : k ≤ x.cs.length := by omega
        by_cases h40 : s.length < 40
        · have wf4 := wf_half wf h40 (k := k) hx ht
          rcases wf.par n x hx with hp | ⟨j, y, hp, hy, hmem⟩
          · refine ⟨s.length, 0, 0, ⟨_, rs.map (mvSp (resizeF n k ((x.cs.length - k : Nat) : Int) 0))⟩, ⟨wf4, by simpa using h6, mapV hrs (fun z hz => hV.splitTop wf hx ht hk hp hz)⟩, ?_, ?_⟩
            · intro w F bx hg hP
              exact msplit_go hg hP (Small.of wf (fun z hz => hV.place (hrs z hz))) h6 n k (fun F' bf h => tsplit_top h n k x hx ht hch.2 hch.1 hk h40 hp)
            · rintro w F bd ⟨bn, cap, rn, rv, hD⟩
              have h := rsplit_topR (s := s) hD n k x hx ht hch.1 hk h40 (by omega) (Small.of wf (fun z hz => hV.place (hrs z hz))) h6
              have e : (⟨true, x.cs.drop k, [], x.p⟩ : Nd) = ⟨true, x.cs.drop k, [], -1⟩ := by rw [hp]
              rw [e] at h
              exact h.mono fun e w' h => h
          · obtain ⟨j', m, y', hj', hy', hm, hno, hyl⟩ := wf.place hx (by omega)
            obtain rfl : j = j' := by omega
            obtain rfl : y = y' := Option.some.inj (hy.symm.trans hy')
            have hjl := (List.getElem?_eq_some_iff.1 hy).1
            have hml : m < y.ks.length := (List.getElem?_eq_some_iff.1 hm).1
            have hyt : y.t = false := by
              cases h : y.t with
              | false => rfl
              | true => have := (wf.elem j y hy).1 h; rw [this] at hmem; cases hmem
            have hnj : n ≠ j := by
              intro e; subst e
              obtain rfl : x = y := Option.some.inj (hx.symm.trans hy)
              rw [ht] at hyt; cases hyt
            have hx4 : ((s ++ [(⟨true, x.cs.drop k, [], -1⟩ : Nd)]).set n { x with cs := x.cs.take k })[j]? = some y := by rw [List.getElem?_set_ne hnj, List.getElem?_append_left hjl]; exact hy
            have hz4 : ((s ++ [(⟨true, x.cs.drop k, [], -1⟩ : Nd)]).set n { x with cs := x.cs.take k })[s.length]? = some (⟨true, x.cs.drop k, [], -1⟩ : Nd) := by rw [List.getElem?_set_ne (by omega), List.getElem?_append_right (Nat.le_refl _)]; simp
            have hI : InsOk ((s ++ [(⟨true, x.cs.drop k, [], -1⟩ : Nd)]).set n { x with cs := x.cs.take k }) j s.length y ⟨true, x.cs.drop k, [], -1⟩ := ⟨hx4, hz4, hyt, by omega, by show (-1 : Int) < 0; decide⟩
            obtain ⟨h4, B4, u4⟩ := wf4.up
            have hnm : j ∉ allF ((s ++ [(⟨true, x.cs.drop k, [], -1⟩ : Nd)]).set n { x with cs := x.cs.take k }) (h4 s.length + 1) s.length := by
              rw [allF, kidsOf_eq hz4]
              simp
              omega
            have hw := holds_no wf4 u4 (d := j) (by rw [List.length_set, List.length_append]; omega) (Nat.lt_succ_self _) hnm
            obtain ⟨_, hwf⟩ := wf_insert wf4 hI hw (k := m + 1) (by omega)
            refine ⟨s.length, 0, 0, ⟨_, rs.map (mvSp (carryF n k s.length (shiftF j m 1)))⟩, ⟨hwf, by simpa using h6, mapV hrs (fun z hz => hV.splitIn wf hx ht hk hp hy hm hno hnj hz)⟩, ?_, ?_⟩
            · intro w F bx hg hP
              exact msplit_go hg hP (Small.of wf (fun z hz => hV.place (hrs z hz))) h6 n k (fun F' bf h => tsplit_in h n k x hx ht hch.2 hch.1 hk h40 j m y hp hy hm hno (by unfold lots; omega) hnj)
            · rintro w F bd ⟨bn, cap, rn, rv, hD⟩
              have h := rsplit_inR (s := s) hD n k x hx ht hch.1 hk h40 j m y hp hy hm hno (by unfold lots; omega) hnj (Small.of wf (fun z hz => hV.place (hrs z hz))) (carry_small wf (fun z hz => hV.place (hrs z hz)) n k s.length j m) h6
              rw [List.map_map, split_twice n k (x.cs.length - k) s.length j m (by omega) (by omega)] at h
              rw [← split_state (x := x) (y := y) (a := ⟨true, x.cs.drop k, [], -1⟩) hn hjl hnj] at h
              exact h.mono fun e w' h => h
        · refine ⟨0, n, 7, ⟨s, rs⟩, ⟨wf, h6, hrs⟩, ?_, ?_⟩
          · intro w F bx hg hP
            exact msplit_no hg hP n k (errOf_P n 7 (by decide)) (fun F' bf h => tsplit_full h n k x hx ht hch.2 hch.1 hk (by omega))
          · intro w F bd hR
            have hR' := hR
            obtain ⟨bn, cap, rn, rv, hD⟩ := hR
            exact (rsplit_full (s := s) hD n k x hx ht hk (by omega)).mono fun e w' ⟨h1, h2⟩ => hR'.unchangedR h2 h1


end Go.Proofs.YtabogkonklplcaaGreatDoor

/- Ranges. -/
namespace Go.Proofs.YtabogkonklplcaaGreatDoor
open Go.RowKit

theorem vnew_ok (V : List Nd → Sp → Prop) : NewOk (PDocV V) GG := mnew_ok

theorem answers3 {V : List Nd → Sp → Prop} (hV : Lives V) : Answers3 (PDocV V) GG where
  pd := pdocV_ok V
  gb := fun _ _ h hb => h.below hb
  new := vnew_ok V
  element := fun ⟨s, r⟩ ⟨wf, h6, hr⟩ => vans_element hV s wf r h6 hr
  text := fun ⟨s, r⟩ ⟨wf, h6, hr⟩ S hS => vans_text hV s wf r h6 hr S hS
  insert := fun ⟨s, r⟩ ⟨wf, h6, hr⟩ A B C => vans_insert hV s wf r h6 hr A B C
  remove := fun ⟨s, r⟩ ⟨wf, h6, hr⟩ A => vans_remove hV s wf r h6 hr A
  shown := fun ⟨s, r⟩ ⟨wf, h6, hr⟩ A => vans_show hV s wf r h6 hr A
  replace := fun ⟨s, r⟩ ⟨wf, h6, hr⟩ A B C S hS => vans_replace hV s wf r h6 hr A B C S hS
  split := fun ⟨s, r⟩ ⟨wf, h6, hr⟩ A B => vans_split hV s wf r h6 hr A B
  range := fun ⟨s, r⟩ ⟨wf, h6, hr⟩ => vans_range hV s wf r h6 hr
  start := fun ⟨s, r⟩ ⟨wf, h6, hr⟩ A p0 p1 => vans_start hV s wf r h6 hr A p0 p1
  finish := fun ⟨s, r⟩ ⟨wf, h6, hr⟩ A p0 p1 => vans_finish hV s wf r h6 hr A p0 p1
  span := fun ⟨s, r⟩ ⟨wf, h6, hr⟩ A => vans_span hV s wf r h6 hr A

theorem gg_of_laid4 (W : World) (h : laidMetH Tryz.prog Rows.rangesUptoRow.laid W) : GG W := gg_of_laid W h

/-- The statement. -/
theorem ranges_holds : Rows.RangesUptoCardSaid := ranges_card (answers3 spOk_lives) gg_of_laid4
#print axioms ranges_holds

end Go.Proofs.YtabogkonklplcaaGreatDoor
