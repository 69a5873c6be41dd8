import Derived.Test.YtabogkonklplcaaGreatDoorQ26
import Derived.Test.YtabogkonklplcaaGreatDoorQ18
import Derived.Test.YtabogkonklplcaaGreatDoorQ14
import Derived.Test.YtabogkonklplcaaGreatDoorQ21
import Derived.Test.YtabogkonklplcaaGreatDoorQ13
import Derived.Test.YtabogkonklplcaaGreatDoorQ06
import Derived.Test.YtabogkonklplcaaGreatDoorQ28

namespace Go.Proofs.YtabogkonklplcaaGreatDoor
open Go.RowKit Go.Lib
set_option linter.unusedSimpArgs false
set_option linter.unusedVariables false
def RepR (s : List Nd) (A B C : Int) (t : ByteArray) (a y : Int) (s' : List Nd) (f : Mvf) : Prop :=
  (y ≠ 0 ∧ s' = s ∧ f = compF []) ∨ (y = 0 ∧ ∃ (n o cm : Nat) (x : Nd) (lf : List ByteArray), A = (n : Int) ∧ B = (o : Int) ∧ cm = (min C ((x.cs.length : Int) - o)).toNat ∧ s[n]? = some x ∧ x.t = true ∧ 0 ≤ C ∧ o + cm ≤ x.cs.length ∧ charsOf t = some lf ∧ s' = s.set n { x with cs := x.cs.take o ++ lf ++ x.cs.drop (o + cm) } ∧ f = resizeF n o cm lf.length)
theorem pans_replace (s : List Nd) (wf : WF s) (rs : List Sp) (h6 : rs.length ≤ 6) (hrs : ∀ z ∈ rs, SpOk s z) (A B C : Int) (t : ByteArray) (hts : t.size < lots) : AnsP s rs 34 [.int .i64 A, .int .i64 B, .int .i64 C, .string t] (fun v => v) (RepR s A B C t) := by
  have hcap := wf.cap
  cases hA : isB s A with
  | false =>
    refine AnsP.no wf A 1 (.inl ⟨by decide, rfl, rfl⟩) ?_
    intro w F bx hg hP
    refine mreplace_no hg hP A B C t (fun F' bf h => ?_)
    have h' := h
    obtain ⟨bn, cap, pn, h⟩ := h
    exact (treplace_unfit h' A B C t _ (findText_no h A hA)).mono fun e w' hh => ⟨_, _, errOf_P A 1 (by decide), hh⟩
  | true =>
    obtain ⟨h1, h2⟩ := isB_true hA
    obtain ⟨n, rfl⟩ : ∃ n : Nat, A = (n : Int) := ⟨A.toNat, by omega⟩
    have hn : n < s.length := by omega
    obtain ⟨x, hx⟩ : ∃ x, s[n]? = some x := ⟨_, List.getElem?_eq_getElem hn⟩
    have hch := wf.chars n x hx
    have hl' : x.cs.length < lots := by unfold lots; omega
    cases ht : x.t with
    | false =>
      refine AnsP.no wf n 2 (.inl ⟨by decide, rfl, rfl⟩) ?_
      intro w F bx hg hP
      refine mreplace_no hg hP n B C t (fun F' bf h => ?_)
      have h' := h
      obtain ⟨bn, cap, pn, h⟩ := h
      exact (treplace_unfit h' n B C t _ (findText_kind h n x hx ht)).mono fun e w' hh => ⟨_, _, errOf_P n 2 (by decide), hh⟩
    | true =>
      by_cases hB : B < 0 ∨ (x.cs.length : Int) < B
      · refine AnsP.no wf n 3 (.inl ⟨by decide, rfl, rfl⟩) ?_
        intro w F bx hg hP
        refine mreplace_no hg hP n B C t (fun F' bf h => ?_)
        refine (treplace_bad h n B C t x hx ht (Q := fun u => u = outV B) (fun w1 _ => (splice_off x.cs hch.2 hl' B C hB t w1).mono fun e w' hh => ⟨⟨_, _, rfl, hh.1⟩, hh.2⟩)).mono ?_
        rintro e w' ⟨u, rfl, hh⟩
        exact ⟨_, _, errOf_O n B, hh⟩
      · obtain ⟨o, rfl⟩ : ∃ o : Nat, B = (o : Int) := ⟨B.toNat, by omega⟩
        have ho : o ≤ x.cs.length := by omega
        by_cases hC : C < 0
        · refine AnsP.no wf n 3 (.inl ⟨by decide, rfl, rfl⟩) ?_
          intro w F bx hg hP
          refine mreplace_no hg hP n o C t (fun F' bf h => ?_)
          refine (treplace_bad h n o C t x hx ht (Q := fun u => u = outV C) (fun w1 _ => (splice_cnt x.cs hch.2 hl' o ho C hC t w1).mono fun e w' hh => ⟨⟨_, _, rfl, hh.1⟩, hh.2⟩)).mono ?_
          rintro e w' ⟨u, rfl, hh⟩
          exact ⟨_, _, errOf_O n C, hh⟩
        · obtain ⟨cm, hcm⟩ : ∃ cm : Nat, cm = (min C ((x.cs.length : Int) - o)).toNat := ⟨_, rfl⟩
          have hcl : o + cm ≤ x.cs.length := by omega
          have em : 30 - o - (x.cs.length - (o + cm)) = 30 - (x.cs.length - cm) := by omega
          by_cases hY : ∃ lf, TakesM (30 - o - (x.cs.length - (o + cm))) t lf
          · obtain ⟨lf, hlf⟩ := hY
            have hlf30 : lf.length ≤ 30 := by have := hlf.2; omega
            have hsum : x.cs.length - cm + lf.length ≤ 30 := by have := hlf.2; omega
            have hcs : (x.cs.take o ++ lf ++ x.cs.drop (o + cm)).length ≤ 30 ∧ ∀ c ∈ x.cs.take o ++ lf ++ x.cs.drop (o + cm), IsCh c := by
              refine ⟨by simp; omega, fun c hc => ?_⟩
              rcases List.mem_append.1 hc with hc | hc
              · rcases List.mem_append.1 hc with hc | hc
                · exact hch.2 c (List.mem_of_mem_take hc)
                · exact charsOf_isCh t.size t lf (Nat.le_refl _) hlf.1 c hc
              · exact hch.2 c (List.mem_of_mem_drop hc)
            refine ⟨0, 0, _, resizeF n o cm lf.length, wf_chars wf hx ht hcs, .inr ⟨rfl, n, o, cm, x, lf, rfl, rfl, hcm, hx, ht, by omega, hcl, hlf.1, rfl, rfl⟩, fun V hV z hz => hV.replace wf hx ht hcl (wf_chars wf hx ht hcs) hz, ?_⟩
            intro w F bx hg hP
            refine mreplace_go hg hP (Small.of wf hrs) h6 n o C t (fun F' bf h => ?_)
            have hmin : min C ((x.cs.length : Int) - o) = (cm : Int) := by omega
            have hT := treplace_done h n o C t x hx ht hch.1 hch.2 ho lf (x.cs.take o ++ lf ++ x.cs.drop (o + cm)) hlf.1 hlf30 (by omega) (fun w1 hb => ?_)
            · rw [hmin] at hT
              exact hT
            have hT := hg.2.below hb
            by_cases hbig : (x.cs.length : Int) - o < C
            · exact splice_yes_big x.cs hch.2 hch.1 o cm C ho (by omega) (by omega) hbig t hts lf hlf w1 hT
            · exact splice_yes_small x.cs hch.2 hch.1 o cm C ho (by omega) (by omega) hcl t hts lf hlf w1 hT
          · have hN : ∀ l', ¬ TakesM (30 - o - (x.cs.length - (o + cm))) t l' := fun l' h => hY ⟨l', h⟩
            refine AnsP.no wf n 6 (.inl ⟨by decide, rfl, rfl⟩) ?_
            intro w F bx hg hP
            refine mreplace_no hg hP n o C t (fun F' bf h => ?_)
            refine (treplace_bad h n o C t x hx ht (Q := fun u => ∃ k, u = flawV k) (fun w1 hb => ?_)).mono ?_
            · have hT := hg.2.below hb
              by_cases hbig : (x.cs.length : Int) - o < C
              · exact (splice_no_big x.cs hch.2 hch.1 o cm C ho (by omega) (by omega) hbig t hts hN w1 hT).mono fun e w' ⟨k, h1, h2⟩ => ⟨⟨_, _, ⟨k, rfl⟩, h1⟩, h2⟩
              · exact (splice_no_small x.cs hch.2 hch.1 o cm C ho (by omega) (by omega) hcl t hts hN w1 hT).mono fun e w' ⟨k, h1, h2⟩ => ⟨⟨_, _, ⟨k, rfl⟩, h1⟩, h2⟩
            · rintro e w' ⟨u, ⟨k, rfl⟩, hh⟩
              exact ⟨_, _, errOf_F n k, hh⟩
def SplOk (s : List Nd) (A B : Int) : Prop := ∃ (n k : Nat) (x : Nd), A = (n : Int) ∧ B = (k : Int) ∧ s[n]? = some x ∧ x.t = true ∧ k ≤ x.cs.length
def SplR (s : List Nd) (A B : Int) (r : Int) (a y : Int) (s' : List Nd) (f : Mvf) : Prop :=
  (y ≠ 0 ∧ s' = s ∧ f = compF [] ∧ (40 ≤ s.length ∨ ¬ SplOk s A B)) ∨ (y = 0 ∧ r = (s.length : Int) ∧ s.length < 40 ∧ ∃ (n k : Nat) (x : Nd), A = (n : Int) ∧ B = (k : Int) ∧ s[n]? = some x ∧ x.t = true ∧ k ≤ x.cs.length ∧
    ((x.p = -1 ∧ s' = (s ++ [(⟨true, x.cs.drop k, [], -1⟩ : Nd)]).set n { x with cs := x.cs.take k } ∧ f = resizeF n k ((x.cs.length - k : Nat) : Int) 0) ∨
     ∃ (j m : Nat) (y : Nd), x.p = (j : Int) ∧ s[j]? = some y ∧ y.ks[m]? = some n ∧ n ∉ y.ks.take m ∧ n ≠ j ∧ s' = (((s ++ [(⟨true, x.cs.drop k, [], -1⟩ : Nd)]).set n { x with cs := x.cs.take k }).set j { y with ks := y.ks.take (m + 1) ++ s.length :: y.ks.drop (m + 1) }).set s.length ⟨true, x.cs.drop k, [], (j : Int)⟩ ∧ f = carryF n k s.length (shiftF j m 1)))
theorem pans_split (s : List Nd) (wf : WF s) (rs : List Sp) (h6 : rs.length ≤ 6) (hrs : ∀ z ∈ rs, SpOk s z) (A B : Int) : ∃ n : Int, AnsP s rs 30 [.int .i64 A, .int .i64 B] (fun v => .tuple #[.int .i64 n, v]) (SplR s A B n) := by
  have hcap := wf.cap
  cases hA : isB s A with
  | false =>
    refine ⟨0, AnsP.no wf A 1 (.inl ⟨by decide, rfl, rfl, .inr (fun ⟨n2, k2, x2, e1, e2, h3, h4, h5⟩ => by subst e1; have := isB_of (s := s) (k := n2) (by have := (List.getElem?_eq_some_iff.1 h3).1; omega); rw [hA] at this; cases this)⟩) ?_⟩
    intro w F bx hg hP
    refine msplit_no hg hP A B (errOf_P A 1 (by decide)) (fun F' bf h => ?_)
    have h' := h
    obtain ⟨bn, cap, pn, h⟩ := h
    exact tsplit_unfit h' A B _ (findText_no h A hA)
  | true =>
    obtain ⟨h1, h2⟩ := isB_true hA
    obtain ⟨n, rfl⟩ : ∃ n : Nat, A = (n : Int) := ⟨A.toNat, by omega⟩
    have hn : n < s.length := by omega
    obtain ⟨x, hx⟩ : ∃ x, s[n]? = some x := ⟨_, List.getElem?_eq_getElem hn⟩
    have hch := wf.chars n x hx
    have hl' : x.cs.length < lots := by unfold lots; omega
    cases ht : x.t with
    | false =>
      refine ⟨0, AnsP.no wf n 2 (.inl ⟨by decide, rfl, rfl, .inr (fun ⟨n2, k2, x2, e1, e2, h3, h4, h5⟩ => by obtain rfl : n = n2 := (by omega); rw [hx] at h3; cases h3; rw [ht] at h4; cases h4)⟩) ?_⟩
      intro w F bx hg hP
      refine msplit_no hg hP n B (errOf_P n 2 (by decide)) (fun F' bf h => ?_)
      have h' := h
      obtain ⟨bn, cap, pn, h⟩ := h
      exact tsplit_unfit h' n B _ (findText_kind h n x hx ht)
    | true =>
      by_cases hB : B < 0 ∨ (x.cs.length : Int) < B
      · refine ⟨0, AnsP.no wf n 3 (.inl ⟨by decide, rfl, rfl, .inr (fun ⟨n2, k2, x2, e1, e2, h3, h4, h5⟩ => by obtain rfl : n = n2 := (by omega); rw [hx] at h3; cases h3; omega)⟩) ?_⟩
        intro w F bx hg hP
        exact msplit_no hg hP n B (errOf_O n B) (fun F' bf h => tsplit_out h n B x hx ht hch.2 hl' hB)
      · obtain ⟨k, rfl⟩ : ∃ k : Nat, B = (k : Int) := ⟨B.toNat, by omega⟩
        have hk : k ≤ x.cs.length := by omega
        by_cases h40 : s.length < 40
        · have wf4 := wf_half wf h40 (k := k) hx ht
          rcases wf.par n x hx with hp | ⟨j, y, hp, hy, hmem⟩
          · refine ⟨s.length, 0, 0, _, resizeF n k ((x.cs.length - k : Nat) : Int) 0, wf4, .inr ⟨rfl, rfl, h40, n, k, x, rfl, rfl, hx, ht, hk, .inl ⟨hp, rfl, rfl⟩⟩, fun V hV z hz => hV.splitTop wf hx ht hk hp h40 hz, ?_⟩
            intro w F bx hg hP
            exact msplit_go hg hP (Small.of wf hrs) h6 n k (fun F' bf h => tsplit_top h n k x hx ht hch.2 hch.1 hk h40 hp)
          · obtain ⟨j', m, y', hj', hy', hm, hno, hyl⟩ := wf.place hx (by omega)
            obtain rfl : j = j' := by omega
            obtain rfl : y = y' := Option.some.inj (hy.symm.trans hy')
            have hjl := (List.getElem?_eq_some_iff.1 hy).1
            have hml : m < y.ks.length := (List.getElem?_eq_some_iff.1 hm).1
            have hyt : y.t = false := by
              cases h : y.t with
              | false => rfl
              | true => have := (wf.elem j y hy).1 h; rw [this] at hmem; cases hmem
            have hnj : n ≠ j := by
              intro e; subst e
              obtain rfl : x = y := Option.some.inj (hx.symm.trans hy)
              rw [ht] at hyt; cases hyt
            have hx4 : ((s ++ [(⟨true, x.cs.drop k, [], -1⟩ : Nd)]).set n { x with cs := x.cs.take k })[j]? = some y := by rw [List.getElem?_set_ne hnj, List.getElem?_append_left hjl]; exact hy
            have hz4 : ((s ++ [(⟨true, x.cs.drop k, [], -1⟩ : Nd)]).set n { x with cs := x.cs.take k })[s.length]? = some (⟨true, x.cs.drop k, [], -1⟩ : Nd) := by rw [List.getElem?_set_ne (by omega), List.getElem?_append_right (Nat.le_refl _)]; simp
            have hI : InsOk ((s ++ [(⟨true, x.cs.drop k, [], -1⟩ : Nd)]).set n { x with cs := x.cs.take k }) j s.length y ⟨true, x.cs.drop k, [], -1⟩ := ⟨hx4, hz4, hyt, by omega, by show (-1 : Int) < 0; decide⟩
            obtain ⟨h4, B4, u4⟩ := wf4.up
            have hnm : j ∉ allF ((s ++ [(⟨true, x.cs.drop k, [], -1⟩ : Nd)]).set n { x with cs := x.cs.take k }) (h4 s.length + 1) s.length := by
              rw [allF, kidsOf_eq hz4]
              simp
              omega
            have hw := holds_no wf4 u4 (d := j) (by rw [List.length_set, List.length_append]; omega) (Nat.lt_succ_self _) hnm
            obtain ⟨_, hwf⟩ := wf_insert wf4 hI hw (k := m + 1) (by omega)
            refine ⟨s.length, 0, 0, _, carryF n k s.length (shiftF j m 1), hwf, .inr ⟨rfl, rfl, h40, n, k, x, rfl, rfl, hx, ht, hk, .inr ⟨j, m, y, hp, hy, hm, hno, hnj, rfl, rfl⟩⟩, fun V hV z hz => hV.splitIn wf hx ht hk hp hy hm hno hnj h40 hwf hz, ?_⟩
            intro w F bx hg hP
            exact msplit_go hg hP (Small.of wf hrs) h6 n k (fun F' bf h => tsplit_in h n k x hx ht hch.2 hch.1 hk h40 j m y hp hy hm hno (by unfold lots; omega) hnj)
        · refine ⟨0, AnsP.no wf n 7 (.inl ⟨by decide, rfl, rfl, .inl (by omega)⟩) ?_⟩
          intro w F bx hg hP
          exact msplit_no hg hP n k (errOf_P n 7 (by decide)) (fun F' bf h => tsplit_full h n k x hx ht hch.2 hch.1 hk (by omega))
end Go.Proofs.YtabogkonklplcaaGreatDoor

namespace Go.Proofs.YtabogkonklplcaaGreatDoor
open Go.RowKit
set_option linter.unusedSimpArgs false
set_option linter.unusedVariables false
theorem placeFault_ok {s : List Nd} {a b : Int} (h : PlOk s a b) : placeFault s a b = (0, 0) := by
  obtain ⟨n, k, rfl, rfl, hn, hk⟩ := h
  have hb : isB s (n : Int) = true := isB_of (by omega)
  simp [placeFault, hb, hk]
theorem way_there {s : List Nd} (wf : WF s) {n t : Nat} (ht : IsTop s n t) (hn : n < s.length) : ∃ l, Way s t n l := by
  obtain ⟨⟨m, hm⟩, x, hx, hp⟩ := ht
  have key : ∀ (m n : Nat), n < s.length → climb s m n = (t : Int) → ∃ l, Way s t n l := by
    intro m
    induction m with
    | zero =>
      intro n hn h
      have : n = t := by simp [climb] at h; omega
      subst this
      exact ⟨[], .top⟩
    | succ m ih =>
      intro n hn h
      have hx := List.getElem?_eq_getElem hn
      rcases wf.par n _ hx with hp | ⟨i, y, hp, hy, hc⟩
      · exfalso
        have h1 : climb s 1 n = -1 := by simp [climb, parOf, hx, hp]
        have h2 := climb_neg (s := s) (j := 1) (n := n) (by rw [h1]; decide) m
        rw [Nat.add_comm] at h2
        omega
      · have h1 : climb s 1 n = (i : Int) := by simp [climb, parOf, hx, hp]
        have h2 := climb_add h1 m
        rw [Nat.add_comm] at h2
        rw [h2] at h
        obtain ⟨l, wl⟩ := ih i (List.getElem?_eq_some_iff.1 hy).1 h
        obtain ⟨k, hk, e⟩ := List.mem_iff_getElem.1 hc
        exact ⟨l ++ [k], .down wl hy (by rw [List.getElem?_eq_getElem hk, e])⟩
  exact key m n hn hm
end Go.Proofs.YtabogkonklplcaaGreatDoor
