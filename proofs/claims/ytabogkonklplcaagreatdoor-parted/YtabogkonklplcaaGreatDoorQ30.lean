import Derived.Test.YtabogkonklplcaaGreatDoorQ26
import Derived.Test.YtabogkonklplcaaGreatDoorQ11
import Derived.Test.YtabogkonklplcaaGreatDoorQ25
import Derived.Test.YtabogkonklplcaaGreatDoorQ09
import Derived.Test.YtabogkonklplcaaGreatDoorQ06
import Derived.Test.YtabogkonklplcaaGreatDoorQ28
import Derived.Test.YtabogkonklplcaaGreatDoorQ29

namespace Go.Proofs.YtabogkonklplcaaGreatDoor
open Go.RowKit Go.Lib
set_option linter.unusedSimpArgs false
set_option linter.unusedVariables false
def NewR (s : List Nd) (nd : Nd) (n : Int) (a y : Int) (s' : List Nd) (f : Mvf) : Prop :=
  f = compF [] ∧ ((y ≠ 0 ∧ s' = s) ∨ (y = 0 ∧ n = (s.length : Int) ∧ s.length < 40 ∧ s' = s ++ [nd]))
theorem pans_element (s : List Nd) (wf : WF s) (rs : List Sp) : ∃ n : Int, AnsP s rs 52 [] (fun v => .tuple #[.int .i64 n, v]) (NewR s rootNd n) := by
  by_cases h40 : s.length < 40
  · have wf' := wf_push wf h40 rootNd rfl rfl (fun _ => rfl) ⟨by decide, fun c hc => by cases hc⟩
    refine ⟨s.length, 0, 0, s ++ [rootNd], compF [], wf', ⟨rfl, .inr ⟨rfl, rfl, h40, rfl⟩⟩, fun V hV z hz => by rw [compF_nil]; exact hV.push rootNd wf wf' rfl hz, ?_⟩
    intro w F bx hg hP
    rw [map_nil']
    exact melement_of hg hP (errOf_nil 0) (fun F' bf h => telement_some h h40)
  · refine ⟨0, AnsP.no wf 0 7 ⟨rfl, .inl ⟨by decide, rfl⟩⟩ ?_⟩
    intro w F bx hg hP
    exact melement_of hg hP (errOf_P 0 7 (by decide)) (fun F' bf h => telement_full h (by omega))
theorem pans_text (s : List Nd) (wf : WF s) (rs : List Sp) (t : ByteArray) (ht : t.size < lots) (l : List ByteArray) (hl : Takes t l) : ∃ n : Int, AnsP s rs 53 [.string t] (fun v => .tuple #[.int .i64 n, v]) (NewR s ⟨true, l, [], -1⟩ n) := by
  by_cases h40 : s.length < 40
  · have wf' := wf_push wf h40 ⟨true, l, [], -1⟩ rfl rfl (fun h => by cases h) ⟨hl.2, charsOf_isCh t.size t l (Nat.le_refl _) hl.1⟩
    refine ⟨s.length, 0, 0, s ++ [⟨true, l, [], -1⟩], compF [], wf', ⟨rfl, .inr ⟨rfl, rfl, h40, rfl⟩⟩, fun V hV z hz => by rw [compF_nil]; exact hV.push _ wf wf' rfl hz, ?_⟩
    intro w F bx hg hP
    rw [map_nil']
    exact mtext_of hg hP t (errOf_nil 0) (fun F' bf h => ttext_some h hg.2 t ht l hl h40)
  · refine ⟨0, AnsP.no wf 0 7 ⟨rfl, .inl ⟨by decide, rfl⟩⟩ ?_⟩
    intro w F bx hg hP
    exact mtext_of hg hP t (errOf_P 0 7 (by decide)) (fun F' bf h => ttext_full h hg.2 t ht l hl (by omega))
def RemR (s : List Nd) (A : Int) (a y : Int) (s' : List Nd) (f : Mvf) : Prop :=
  (y ≠ 0 ∧ s' = s ∧ f = compF []) ∨ (y = 0 ∧ ∃ i : Nat, A = (i : Int) ∧ Chg s (i, none) s' f)
theorem pans_remove (s : List Nd) (wf : WF s) (rs : List Sp) (h6 : rs.length ≤ 6) (hrs : ∀ z ∈ rs, SpOk s z) (A : Int) : AnsP s rs 60 [.int .i64 A] (fun v => v) (RemR s A) := by
  have hcap := wf.cap
  cases hA : isB s A with
  | false =>
    refine AnsP.no wf A 1 (.inl ⟨by decide, rfl, rfl⟩) ?_
    intro w F bx hg hP
    exact mremove_no hg hP A (errOf_P A 1 (by decide)) (fun F' bf h => tremove_node h A hA)
  | true =>
    obtain ⟨h1, h2⟩ := isB_true hA
    obtain ⟨i, rfl⟩ : ∃ i : Nat, A = (i : Int) := ⟨A.toNat, by omega⟩
    have hi : i < s.length := by omega
    obtain ⟨x, hx⟩ : ∃ x, s[i]? = some x := ⟨_, List.getElem?_eq_getElem hi⟩
    by_cases hp : 0 ≤ x.p
    · obtain ⟨j, m, y, hj, hy, hm, hno, hyl⟩ := wf.place hx hp
      obtain ⟨hij, hwf⟩ := wf_remove wf hx hj hy hm
      obtain ⟨hh2, HH2, u2⟩ := hwf.up
      have hcg := Chg.rem hx hj hy hm hno hij hwf u2
      refine ⟨0, 0, _, _, hwf, .inr ⟨rfl, i, rfl, hcg⟩, fun V hV z hz => hcg.lives hV wf hz, ?_⟩
      intro w F bx hg hP
      exact mremove_go hg hP (Small.of wf hrs) h6 i (fun F' bf h => tremove_done h i j m x y hx hj hy hm hno hij (by unfold lots; omega) (by unfold lots; omega) hwf u2)
    · have hp1 : x.p = -1 := by
        rcases wf.par i x hx with h | ⟨j, y, h, _⟩
        · exact h
        · omega
      refine AnsP.no wf i 4 (.inl ⟨by decide, rfl, rfl⟩) ?_
      intro w F bx hg hP
      exact mremove_no hg hP i (errOf_P i 4 (by decide)) (fun F' bf h => tremove_none h i x hx hp1 (by unfold lots; omega))
end Go.Proofs.YtabogkonklplcaaGreatDoor

namespace Go.Proofs.YtabogkonklplcaaGreatDoor
open Go.RowKit
set_option linter.unusedSimpArgs false
set_option linter.unusedVariables false
theorem way_pl {s : List Nd} (wf : WF s) {h : Nat → Nat} {B : Nat} (u : Up s h B) {t n k : Nat} {l : List Nat} (wy : Way s t n l) (hk : k ≤ sizeAt s n) : (n, k) ∈ plF s (B + 1) t := by
  have h1 := way_len wf u wy
  have h2 := u.le t
  have h3 := way_pp wf wy (B - l.length + 1) _ (pp_here (k := B - l.length) hk)
  have e : B - l.length + 1 + l.length = B + 1 := by omega
  rw [e] at h3
  rw [← pp_fst]
  exact List.mem_map.2 ⟨_, h3, rfl⟩
theorem lexC_of_leP {l l2 : List Nat} {k k2 : Nat} (h : leP (pw l k) (pw l2 k2)) : lexC (l ++ [k]) (l2 ++ [k2]) ≤ 0 := by
  rcases h with h | h
  · rw [pw_inj h, lexC_self]; exact Int.le_refl 0
  · rw [lexC_lt _ _ _ _ h]; decide
structure SpAt (s : List Nd) (B : Nat) (z : Sp) (a b c d t i j : Nat) : Prop where
  eq : z = ⟨a, b, c, d⟩
  ha : a < s.length
  hc : c < s.length
  ta : IsTop s a t
  tc : IsTop s c t
  hb : b ≤ sizeAt s a
  hd : d ≤ sizeAt s c
  hi : (plF s (B + 1) t)[i]? = some (a, b)
  hj : (plF s (B + 1) t)[j]? = some (c, d)
  hij : i ≤ j
theorem spIs_at {s : List Nd} (wf : WF s) {h : Nat → Nat} {B : Nat} (u : Up s h B) {z : Sp} (hz : SpIs s z) : ∃ a b c d t i j, SpAt s B z a b c d t i j := by
  obtain ⟨a, b, c, d, t, l, l2, rfl, h1, h2, ta, wa, wc, hle⟩ := hz
  obtain ⟨a', b', ea, eb, ha, hb⟩ := h1
  obtain ⟨c', d', ec, ed, hc, hd⟩ := h2
  obtain rfl : a = a' := by omega
  obtain rfl : b = b' := by omega
  obtain rfl : c = c' := by omega
  obtain rfl : d = d' := by omega
  obtain ⟨x, hx, hp⟩ := ta.2
  have tc := way_top wf wc hx hp
  obtain ⟨i, ei, hi⟩ := wh_mem (way_pl wf u wa hb)
  obtain ⟨j, ej, hj⟩ := wh_mem (way_pl wf u wc hd)
  refine ⟨a, b, c, d, t, i, j, rfl, ha, hc, ta, tc, hb, hd, hi, hj, ?_⟩
  have := lexC_of_leP hle
  rw [cmp_ways wf u wa wc hb hd (wh_is _ _) (wh_is _ _), ei, ej] at this
  rcases Nat.lt_or_ge j i with h | h
  · rw [if_neg (by omega), if_pos (by omega)] at this
    omega
  · exact h
end Go.Proofs.YtabogkonklplcaaGreatDoor
