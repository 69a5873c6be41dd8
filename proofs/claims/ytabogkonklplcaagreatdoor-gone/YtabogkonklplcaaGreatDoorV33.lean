import Derived.Test.YtabogkonklplcaaGreatDoorV29
import Derived.Test.YtabogkonklplcaaGreatDoorV31
import Derived.Test.YtabogkonklplcaaGreatDoorV30
import Derived.Test.YtabogkonklplcaaGreatDoorV19
import Derived.Test.YtabogkonklplcaaGreatDoorV13
import Derived.Test.YtabogkonklplcaaGreatDoorV24
import Derived.Test.YtabogkonklplcaaGreatDoorV11
import Derived.Test.YtabogkonklplcaaGreatDoorV09
import Derived.Test.YtabogkonklplcaaGreatDoorV32
import Derived.Test.YtabogkonklplcaaGreatDoorV17
import Derived.Test.YtabogkonklplcaaGreatDoorV28
import Derived.BigQuiet
import Derived.Stop.RegionWithIn
import Derived.Deep.RegionHeld3

namespace Go.Proofs.YtabogkonklplcaaGreatDoor
open Go.RowKit Go.Lib
set_option linter.unusedSimpArgs false
set_option linter.unusedVariables false
def AnsP (s : List Nd) (rs : List Sp) (pf : FuncId) (args : List Value) (pres : Value → Value) (R : Int → Int → List Nd → Mvf → Prop) : Prop :=
  ∃ (a y : Int) (s' : List Nd) (f : Mvf), WF s' ∧ R a y s' f ∧ (∀ V : List Nd → Sp → Prop, Lives V → ∀ z, V s z → V s' (mvSp f z)) ∧
    ∀ (w : World) (F : Nat → Prop) (bx : Nat), GG w → PLies w F bx ⟨s, rs⟩ → Calls Tryz.prog pf (ptr bx :: args).toArray w (PLPost F w bx ⟨s', rs.map (mvSp f)⟩ (pres (errV a y)))
theorem AnsP.no {s : List Nd} (wf : WF s) {rs : List Sp} {pf : FuncId} {args : List Value} {pres : Value → Value} {R : Int → Int → List Nd → Mvf → Prop} (a y : Int) (hR : R a y s (compF []))
    (h : ∀ (w : World) (F : Nat → Prop) (bx : Nat), GG w → PLies w F bx ⟨s, rs⟩ → Calls Tryz.prog pf (ptr bx :: args).toArray w (PLPost F w bx ⟨s, rs⟩ (pres (errV a y)))) : AnsP s rs pf args pres R :=
  ⟨a, y, s, compF [], wf, hR, fun V _ z hz => by rw [compF_nil]; exact hz, fun w F bx hg hP => by rw [map_nil']; exact h w F bx hg hP⟩
def InsR (s : List Nd) (A B C : Int) (a y : Int) (s' : List Nd) (f : Mvf) : Prop :=
  (y ≠ 0 ∧ s' = s ∧ f = compF []) ∨ (y = 0 ∧ ∃ (i j c : Nat) (x v : Nd), A = (i : Int) ∧ B = (j : Int) ∧ C = (c : Int) ∧ InsOk s i j x v ∧ Lim (fun c => withinF s c (i : Int) (j : Int)) false ∧ c ≤ x.ks.length ∧ i ≠ j ∧ s' = (s.set i { x with ks := x.ks.take c ++ j :: x.ks.drop c }).set j { v with p := (i : Int) } ∧ f = shiftF i c 1)
theorem pans_insert (s : List Nd) (wf : WF s) (rs : List Sp) (h6 : rs.length ≤ 6) (hrs : ∀ z ∈ rs, SpOk s z) (A B C : Int) : AnsP s rs 54 [.int .i64 A, .int .i64 B, .int .i64 C] (fun v => v) (InsR s A B C) := by
  have hcap := wf.cap
  have no : ∀ (n y : Int), y ≠ 0 → (∀ (w : World) (F : Nat → Prop) (bf bn cap : Nat) (pn : List PN), PForAt w F bf bn cap pn s → Calls Tryz.prog 146 #[ptr bf, .int .i64 A, .int .i64 B, .int .i64 C] w fun e w' => e = .returned (refusalV n y) ∧ Below w.heap.size w w') →
      AnsP s rs 54 [.int .i64 A, .int .i64 B, .int .i64 C] (fun v => v) (InsR s A B C) := by
    intro n y hy hT
    refine AnsP.no wf n y (.inl ⟨hy, rfl, rfl⟩) ?_
    intro w F bx hg hP
    refine minsert_no hg hP A B C (errOf_P n y hy) (fun F' bf h => tinsert_no h A B C n y ?_)
    obtain ⟨bn, cap, pn, h⟩ := h
    exact hT w F' bf bn cap pn h
  cases hA : isB s A with
  | false => exact no A 1 (by decide) (fun w F bf bn cap pn h => may_parent h A B C hA)
  | true =>
    cases hB : isB s B with
    | false => exact no B 1 (by decide) (fun w F bf bn cap pn h => may_node h A B C hA hB)
    | true =>
      obtain ⟨a1, a2⟩ := isB_true hA
      obtain ⟨b1, b2⟩ := isB_true hB
      obtain ⟨i, rfl⟩ : ∃ i : Nat, A = (i : Int) := ⟨A.toNat, by omega⟩
      obtain ⟨j, rfl⟩ : ∃ j : Nat, B = (j : Int) := ⟨B.toNat, by omega⟩
      have hi : i < s.length := by omega
      have hj : j < s.length := by omega
      obtain ⟨x, hx⟩ : ∃ x, s[i]? = some x := ⟨_, List.getElem?_eq_getElem hi⟩
      obtain ⟨y, hy⟩ : ∃ y, s[j]? = some y := ⟨_, List.getElem?_eq_getElem hj⟩
      cases ht : x.t with
      | true => exact no i 2 (by decide) (fun w F bf bn cap pn h => may_kind h i j C x hx hj ht)
      | false =>
        by_cases hj0 : j = 0
        · subst hj0
          exact no _ 4 (by decide) (fun w F bf bn cap pn h => may_root h i C x hx ht)
        · by_cases hp : 0 ≤ y.p
          · exact no j 4 (by decide) (fun w F bf bn cap pn h => may_has h i j C x y hx hy ht (by omega) hp)
          · have hI : InsOk s i j x y := ⟨hx, hy, ht, by omega, by omega⟩
            obtain ⟨ht0, Bd, u⟩ := wf.up
            by_cases hm : i ∈ allF s (ht0 j + 1) j
            · exact no j 5 (by decide) (fun w F bf bn cap pn h => may_cycle wf u h i j (ht0 j + 1) C x y hI (by omega) hm)
            · have hw := holds_no wf u hi (Nat.lt_succ_self _) hm
              by_cases hC : C < 0 ∨ (x.ks.length : Int) < C
              · exact no i 3 (by decide) (fun w F bf bn cap pn h => may_index wf u h i j (ht0 j + 1) C x y hI (by omega) hm hC)
              · obtain ⟨c, rfl⟩ : ∃ c : Nat, C = (c : Int) := ⟨C.toNat, by omega⟩
                have hc : c ≤ x.ks.length := by omega
                obtain ⟨hij, hwf⟩ := wf_insert wf hI hw hc
                have hkl : x.ks.length ≤ 40 := Nat.le_trans (nodup_length s.length _ (wf.nodup i x hx) (fun q hq => (wf.kid_lt u hx hq).1)) wf.cap
                refine ⟨0, 0, _, shiftF i c 1, hwf, .inr ⟨rfl, i, j, c, x, y, rfl, rfl, rfl, hI, hw, hc, hij, rfl, rfl⟩, fun V hV z hz => hV.insert wf hI hw hc hij hz, ?_⟩
                intro w F bx hg hP
                exact minsert_go hg hP (Small.of wf hrs) h6 i j c (fun F' bf h => tinsert_done wf u h i j (ht0 j + 1) c x y hI (by omega) hm hc hij (by unfold lots; omega) (by unfold lots; omega))
end Go.Proofs.YtabogkonklplcaaGreatDoor

namespace Go.Proofs.YtabogkonklplcaaGreatDoor
open Go.RowKit Go.Lib
set_option linter.unusedSimpArgs false
set_option linter.unusedVariables false
def RepR (s : List Nd) (A B C : Int) (t : ByteArray) (a y : Int) (s' : List Nd) (f : Mvf) : Prop :=
  (y ≠ 0 ∧ s' = s ∧ f = compF []) ∨ (y = 0 ∧ ∃ (n o cm : Nat) (x : Nd) (lf : List ByteArray), A = (n : Int) ∧ B = (o : Int) ∧ cm = (min C ((x.cs.length : Int) - o)).toNat ∧ s[n]? = some x ∧ x.t = true ∧ 0 ≤ C ∧ o + cm ≤ x.cs.length ∧ charsOf t = some lf ∧ s' = s.set n { x with cs := x.cs.take o ++ lf ++ x.cs.drop (o + cm) } ∧ f = resizeF n o cm lf.length)
theorem pans_replace (s : List Nd) (wf : WF s) (rs : List Sp) (h6 : rs.length ≤ 6) (hrs : ∀ z ∈ rs, SpOk s z) (A B C : Int) (t : ByteArray) (hts : t.size < lots) : AnsP s rs 34 [.int .i64 A, .int .i64 B, .int .i64 C, .string t] (fun v => v) (RepR s A B C t) := by
  have hcap := wf.cap
  cases hA : isB s A with
  | false =>
    refine AnsP.no wf A 1 (.inl ⟨by decide, rfl, rfl⟩) ?_
    intro w F bx hg hP
    refine mreplace_no hg hP A B C t (fun F' bf h => ?_)
    have h' := h
    obtain ⟨bn, cap, pn, h⟩ := h
    exact (treplace_unfit h' A B C t _ (findText_no h A hA)).mono fun e w' hh => ⟨_, _, errOf_P A 1 (by decide), hh⟩
  | true =>
    obtain ⟨h1, h2⟩ := isB_true hA
    obtain ⟨n, rfl⟩ : ∃ n : Nat, A = (n : Int) := ⟨A.toNat, by omega⟩
    have hn : n < s.length := by omega
    obtain ⟨x, hx⟩ : ∃ x, s[n]? = some x := ⟨_, List.getElem?_eq_getElem hn⟩
    have hch := wf.chars n x hx
    have hl' : x.cs.length < lots := by unfold lots; omega
    cases ht : x.t with
    | false =>
      refine AnsP.no wf n 2 (.inl ⟨by decide, rfl, rfl⟩) ?_
      intro w F bx hg hP
      refine mreplace_no hg hP n B C t (fun F' bf h => ?_)
      have h' := h
      obtain ⟨bn, cap, pn, h⟩ := h
      exact (treplace_unfit h' n B C t _ (findText_kind h n x hx ht)).mono fun e w' hh => ⟨_, _, errOf_P n 2 (by decide), hh⟩
    | true =>
      by_cases hB : B < 0 ∨ (x.cs.length : Int) < B
      · refine AnsP.no wf n 3 (.inl ⟨by decide, rfl, rfl⟩) ?_
        intro w F bx hg hP
        refine mreplace_no hg hP n B C t (fun F' bf h => ?_)
        refine (treplace_bad h n B C t x hx ht (Q := fun u => u = outV B) (fun w1 _ => (splice_off x.cs hch.2 hl' B C hB t w1).mono fun e w' hh => ⟨⟨_, _, rfl, hh.1⟩, hh.2⟩)).mono ?_
        rintro e w' ⟨u, rfl, hh⟩
        exact ⟨_, _, errOf_O n B, hh⟩
      · obtain ⟨o, rfl⟩ : ∃ o : Nat, B = (o : Int) := ⟨B.toNat, by omega⟩
        have ho : o ≤ x.cs.length := by omega
        by_cases hC : C < 0
        · refine AnsP.no wf n 3 (.inl ⟨by decide, rfl, rfl⟩) ?_
          intro w F bx hg hP
          refine mreplace_no hg hP n o C t (fun F' bf h => ?_)
          refine (treplace_bad h n o C t x hx ht (Q := fun u => u = outV C) (fun w1 _ => (splice_cnt x.cs hch.2 hl' o ho C hC t w1).mono fun e w' hh => ⟨⟨_, _, rfl, hh.1⟩, hh.2⟩)).mono ?_
          rintro e w' ⟨u, rfl, hh⟩
          exact ⟨_, _, errOf_O n C, hh⟩
        · obtain ⟨cm, hcm⟩ : ∃ cm : Nat, cm = (min C ((x.cs.length : Int) - o)).toNat := ⟨_, rfl⟩
          have hcl : o + cm ≤ x.cs.length := by omega
          have em : 30 - o - (x.cs.length - (o + cm)) = 30 - (x.cs.length - cm) := by omega
          by_cases hY : ∃ lf, TakesM (30 - o - (x.cs.length - (o + cm))) t lf
          · obtain ⟨lf, hlf⟩ := hY
            have hlf30 : lf.length ≤ 30 := by have := hlf.2; omega
            have hsum : x.cs.length - cm + lf.length ≤ 30 := by have := hlf.2; omega
            have hcs : (x.cs.take o ++ lf ++ x.cs.drop (o + cm)).length ≤ 30 ∧ ∀ c ∈ x.cs.take o ++ lf ++ x.cs.drop (o + cm), IsCh c := by
              refine ⟨by simp; omega, fun c hc => ?_⟩
              rcases List.mem_append.1 hc with hc | hc
              · rcases List.mem_append.1 hc with hc | hc
                · exact hch.2 c (List.mem_of_mem_take hc)
                · exact charsOf_isCh t.size t lf (Nat.le_refl _) hlf.1 c hc
              · exact hch.2 c (List.mem_of_mem_drop hc)
            refine ⟨0, 0, _, resizeF n o cm lf.length, wf_chars wf hx ht hcs, .inr ⟨rfl, n, o, cm, x, lf, rfl, rfl, hcm, hx, ht, by omega, hcl, hlf.1, rfl, rfl⟩, fun V hV z hz => hV.replace wf hx ht hcl (wf_chars wf hx ht hcs) hz, ?_⟩
            intro w F bx hg hP
            refine mreplace_go hg hP (Small.of wf hrs) h6 n o C t (fun F' bf h => ?_)
            have hmin : min C ((x.cs.length : Int) - o) = (cm : Int) := by omega
            have hT := treplace_done h n o C t x hx ht hch.1 hch.2 ho lf (x.cs.take o ++ lf ++ x.cs.drop (o + cm)) hlf.1 hlf30 (by omega) (fun w1 hb => ?_)
            · rw [hmin] at hT
              exact hT
            have hT := hg.2.below hb
            by_cases hbig : (x.cs.length : Int) - o < C
            · exact splice_yes_big x.cs hch.2 hch.1 o cm C ho (by omega) (by omega) hbig t hts lf hlf w1 hT
            · exact splice_yes_small x.cs hch.2 hch.1 o cm C ho (by omega) (by omega) hcl t hts lf hlf w1 hT
          · have hN : ∀ l', ¬ TakesM (30 - o - (x.cs.length - (o + cm))) t l' := fun l' h => hY ⟨l', h⟩
            refine AnsP.no wf n 6 (.inl ⟨by decide, rfl, rfl⟩) ?_
            intro w F bx hg hP
            refine mreplace_no hg hP n o C t (fun F' bf h => ?_)
            refine (treplace_bad h n o C t x hx ht (Q := fun u => ∃ k, u = flawV k) (fun w1 hb => ?_)).mono ?_
            · have hT := hg.2.below hb
              by_cases hbig : (x.cs.length : Int) - o < C
              · exact (splice_no_big x.cs hch.2 hch.1 o cm C ho (by omega) (by omega) hbig t hts hN w1 hT).mono fun e w' ⟨k, h1, h2⟩ => ⟨⟨_, _, ⟨k, rfl⟩, h1⟩, h2⟩
              · exact (splice_no_small x.cs hch.2 hch.1 o cm C ho (by omega) (by omega) hcl t hts hN w1 hT).mono fun e w' ⟨k, h1, h2⟩ => ⟨⟨_, _, ⟨k, rfl⟩, h1⟩, h2⟩
            · rintro e w' ⟨u, ⟨k, rfl⟩, hh⟩
              exact ⟨_, _, errOf_F n k, hh⟩
def SplOk (s : List Nd) (A B : Int) : Prop := ∃ (n k : Nat) (x : Nd), A = (n : Int) ∧ B = (k : Int) ∧ s[n]? = some x ∧ x.t = true ∧ k ≤ x.cs.length
def SplR (s : List Nd) (A B : Int) (r : Int) (a y : Int) (s' : List Nd) (f : Mvf) : Prop :=
  (y ≠ 0 ∧ s' = s ∧ f = compF [] ∧ (40 ≤ s.length ∨ ¬ SplOk s A B)) ∨ (y = 0 ∧ r = (s.length : Int) ∧ s.length < 40 ∧ ∃ (n k : Nat) (x : Nd), A = (n : Int) ∧ B = (k : Int) ∧ s[n]? = some x ∧ x.t = true ∧ k ≤ x.cs.length ∧
    ((x.p = -1 ∧ s' = (s ++ [(⟨true, x.cs.drop k, [], -1⟩ : Nd)]).set n { x with cs := x.cs.take k } ∧ f = resizeF n k ((x.cs.length - k : Nat) : Int) 0) ∨
     ∃ (j m : Nat) (y : Nd), x.p = (j : Int) ∧ s[j]? = some y ∧ y.ks[m]? = some n ∧ n ∉ y.ks.take m ∧ n ≠ j ∧ s' = (((s ++ [(⟨true, x.cs.drop k, [], -1⟩ : Nd)]).set n { x with cs := x.cs.take k }).set j { y with ks := y.ks.take (m + 1) ++ s.length :: y.ks.drop (m + 1) }).set s.length ⟨true, x.cs.drop k, [], (j : Int)⟩ ∧ f = carryF n k s.length (shiftF j m 1)))
theorem pans_split (s : List Nd) (wf : WF s) (rs : List Sp) (h6 : rs.length ≤ 6) (hrs : ∀ z ∈ rs, SpOk s z) (A B : Int) : ∃ n : Int, AnsP s rs 30 [.int .i64 A, .int .i64 B] (fun v => .tuple #[.int .i64 n, v]) (SplR s A B n) := by
  have hcap := wf.cap
  cases hA : isB s A with
  | false =>
    refine ⟨0, AnsP.no wf A 1 (.inl ⟨by decide, rfl, rfl, .inr (fun ⟨n2, k2, x2, e1, e2, h3, h4, h5⟩ => by subst e1; have := isB_of (s := s) (k := n2) (by have := (List.getElem?_eq_some_iff.1 h3).1; omega); rw [hA] at this; cases this)⟩) ?_⟩
    intro w F bx hg hP
    refine msplit_no hg hP A B (errOf_P A 1 (by decide)) (fun F' bf h => ?_)
    have h' := h
    obtain ⟨bn, cap, pn, h⟩ := h
    exact tsplit_unfit h' A B _ (findText_no h A hA)
  | true =>
    obtain ⟨h1, h2⟩ := isB_true hA
    obtain ⟨n, rfl⟩ : ∃ n : Nat, A = (n : Int) := ⟨A.toNat, by omega⟩
    have hn : n < s.length := by omega
    obtain ⟨x, hx⟩ : ∃ x, s[n]? = some x := ⟨_, List.getElem?_eq_getElem hn⟩
    have hch := wf.chars n x hx
    have hl' : x.cs.length < lots := by unfold lots; omega
    cases ht : x.t with
    | false =>
      refine ⟨0, AnsP.no wf n 2 (.inl ⟨by decide, rfl, rfl, .inr (fun ⟨n2, k2, x2, e1, e2, h3, h4, h5⟩ => by obtain rfl : n = n2 := (by omega); rw [hx] at h3; cases h3; rw [ht] at h4; cases h4)⟩) ?_⟩
      intro w F bx hg hP
      refine msplit_no hg hP n B (errOf_P n 2 (by decide)) (fun F' bf h => ?_)
      have h' := h
      obtain ⟨bn, cap, pn, h⟩ := h
      exact tsplit_unfit h' n B _ (findText_kind h n x hx ht)
    | true =>
      by_cases hB : B < 0 ∨ (x.cs.length : Int) < B
      · refine ⟨0, AnsP.no wf n 3 (.inl ⟨by decide, rfl, rfl, .inr (fun ⟨n2, k2, x2, e1, e2, h3, h4, h5⟩ => by obtain rfl : n = n2 := (by omega); rw [hx] at h3; cases h3; omega)⟩) ?_⟩
        intro w F bx hg hP
        exact msplit_no hg hP n B (errOf_O n B) (fun F' bf h => tsplit_out h n B x hx ht hch.2 hl' hB)
      · obtain ⟨k, rfl⟩ : ∃ k : Nat, B = (k : Int) := ⟨B.toNat, by omega⟩
        have hk : k ≤ x.cs.length := by omega
        by_cases h40 : s.length < 40
        · have wf4 := wf_half wf h40 (k := k) hx ht
          rcases wf.par n x hx with hp | ⟨j, y, hp, hy, hmem⟩
          · refine ⟨s.length, 0, 0, _, resizeF n k ((x.cs.length - k : Nat) : Int) 0, wf4, .inr ⟨rfl, rfl, h40, n, k, x, rfl, rfl, hx, ht, hk, .inl ⟨hp, rfl, rfl⟩⟩, fun V hV z hz => hV.splitTop wf hx ht hk hp h40 hz, ?_⟩
            intro w F bx hg hP
            exact msplit_go hg hP (Small.of wf hrs) h6 n k (fun F' bf h => tsplit_top h n k x hx ht hch.2 hch.1 hk h40 hp)
          · obtain ⟨j', m, y', hj', hy', hm, hno, hyl⟩ := wf.place hx (by omega)
            obtain rfl : j = j' := by omega
            obtain rfl : y = y' := Option.some.inj (hy.symm.trans hy')
            have hjl := (List.getElem?_eq_some_iff.1 hy).1
            have hml : m < y.ks.length := (List.getElem?_eq_some_iff.1 hm).1
            have hyt : y.t = false := by
              cases h : y.t with
              | false => rfl
              | true => have := (wf.elem j y hy).1 h; rw [this] at hmem; cases hmem
            have hnj : n ≠ j := by
              intro e; subst e
              obtain rfl : x = y := Option.some.inj (hx.symm.trans hy)
              rw [ht] at hyt; cases hyt
            have hx4 : ((s ++ [(⟨true, x.cs.drop k, [], -1⟩ : Nd)]).set n { x with cs := x.cs.take k })[j]? = some y := by rw [List.getElem?_set_ne hnj, List.getElem?_append_left hjl]; exact hy
            have hz4 : ((s ++ [(⟨true, x.cs.drop k, [], -1⟩ : Nd)]).set n { x with cs := x.cs.take k })[s.length]? = some (⟨true, x.cs.drop k, [], -1⟩ : Nd) := by rw [List.getElem?_set_ne (by omega), List.getElem?_append_right (Nat.le_refl _)]; simp
            have hI : InsOk ((s ++ [(⟨true, x.cs.drop k, [], -1⟩ : Nd)]).set n { x with cs := x.cs.take k }) j s.length y ⟨true, x.cs.drop k, [], -1⟩ := ⟨hx4, hz4, hyt, by omega, by show (-1 : Int) < 0; decide⟩
            obtain ⟨h4, B4, u4⟩ := wf4.up
            have hnm : j ∉ allF ((s ++ [(⟨true, x.cs.drop k, [], -1⟩ : Nd)]).set n { x with cs := x.cs.take k }) (h4 s.length + 1) s.length := by
              rw [allF, kidsOf_eq hz4]
              simp
              omega
            have hw := holds_no wf4 u4 (d := j) (by rw [List.length_set, List.length_append]; omega) (Nat.lt_succ_self _) hnm
            obtain ⟨_, hwf⟩ := wf_insert wf4 hI hw (k := m + 1) (by omega)
            refine ⟨s.length, 0, 0, _, carryF n k s.length (shiftF j m 1), hwf, .inr ⟨rfl, rfl, h40, n, k, x, rfl, rfl, hx, ht, hk, .inr ⟨j, m, y, hp, hy, hm, hno, hnj, rfl, rfl⟩⟩, fun V hV z hz => hV.splitIn wf hx ht hk hp hy hm hno hnj h40 hwf hz, ?_⟩
            intro w F bx hg hP
            exact msplit_go hg hP (Small.of wf hrs) h6 n k (fun F' bf h => tsplit_in h n k x hx ht hch.2 hch.1 hk h40 j m y hp hy hm hno (by unfold lots; omega) hnj)
        · refine ⟨0, AnsP.no wf n 7 (.inl ⟨by decide, rfl, rfl, .inl (by omega)⟩) ?_⟩
          intro w F bx hg hP
          exact msplit_no hg hP n k (errOf_P n 7 (by decide)) (fun F' bf h => tsplit_full h n k x hx ht hch.2 hch.1 hk (by omega))
end Go.Proofs.YtabogkonklplcaaGreatDoor

namespace Go.Proofs.YtabogkonklplcaaGreatDoor
open Go.RowKit Go.Shelf
set_option linter.unusedSimpArgs false
set_option linter.unusedVariables false
attribute [local go_sem] Oper.semAt_some
set_option maxRecDepth 20000 in
set_option maxHeartbeats 1000000 in
theorem in1_any {s : List Nd} (wf : WF s) {h : Nat → Nat} {B : Nat} (u : Up s h B) {F : Nat → Prop} {bf bn cap : Nat} {pn : List PN} {w : World} (hD : PForAt w F bf bn cap pn s) (a b c d t n x0 x1 : Nat) (ha : a < s.length) (hc : c < s.length) (hn : n < s.length) (ta : IsTop s a t) (tc : IsTop s c t) (tn : IsTop s n t) (hb : b ≤ sizeAt s a) (hd : d ≤ sizeAt s c)
    (h0 : w.cell? ⟨x0, 0, none⟩ = some (ptr bf)) (h1 : w.heap[x1]? = some (.cells #[.int .i64 (a : Int), .int .i64 (b : Int), .int .i64 (c : Int), .int .i64 (d : Int)] 79 (0, 0))) :
    Calls Tryz.prog 199 #[.int .i64 (n : Int), ptr x0, ptr x1] w fun e w' => e = .returned (.bool (insB s (plF s (B + 1) t) a b c d n)) ∧ Below w.heap.size w w' := by
  have hcap := wf.cap
  have l0 := World.block_lt_of_cell? w _ h0
  have l1 := heap_lt h1
  obtain ⟨x, hx⟩ : ∃ x, s[n]? = some x := ⟨_, List.getElem?_eq_getElem hn⟩
  have n0 := hD.nodesCell
  have hlt := hD.lt
  obtain ⟨r, hr, ho, d0, d1, d2, d3⟩ := hD.look hx
  have hnI : (n : Int) < (s.length : Int) := by omega
  by_cases hp : 0 ≤ x.p
  · obtain ⟨j, m, y, hj, hy, hm, hno, hyl⟩ := wf.place hx hp
    have hjl : j < s.length := (List.getElem?_eq_some_iff.1 hy).1
    have CA := hid (fun W (hB : Below w.heap.size w W) => tahead_at (hD.below hB) n j m x y hx hj hy hm hno (by unfold lots; omega) (by unfold lots; omega))
    have CC := hid (fun W (hB : Below w.heap.size w W) => tcovers_any wf u (hD.below hB) a b c d j m t ha hc hjl ta tc (tn.par hx hj) hb hd (kid_size wf hy hm).2)
    rw [← insB_at hx hj hy hm hno] at CC
    rw [hj] at d0
    have hneg : ((j : Int) == -1) = false := by simp
    have c0 := cell_of_heap h1 0
    have c1 := cell_of_heap h1 1
    have c2 := cell_of_heap h1 2
    have c3 := cell_of_heap h1 3
    have HX1 := hid h1
    generalize insB s (plF s (B + 1) t) a b c d n = q at *
    clear hD d1 d2 d3 hr ho hx hy hm hno h1 wf u ta tc tn hj
    have KEEP := hid (fun W (hB : Below w.heap.size w W) => And.intro ((hB.cell (p := ⟨x0, 0, none⟩) l0).trans h0) (And.intro ((hB.cell (p := ⟨bf, 0, none⟩) hlt.1).trans n0) (And.intro ((hB.cell (p := ⟨bn, n * 4, none⟩) hlt.2).trans d0) (And.intro ((hB.cell (p := ⟨x1, 0, none⟩) l1).trans c0) (And.intro ((hB.cell (p := ⟨x1, 1, none⟩) l1).trans c1) (And.intro ((hB.cell (p := ⟨x1, 2, none⟩) l1).trans c2) ((hB.cell (p := ⟨x1, 3, none⟩) l1).trans c3)))))))
    go_enter Tryz.func199, Tryz.ntmps199
    go_wp2
    go_region_held3 (fun w' => w'.cell? ⟨x0, 0, none⟩ = some (ptr bf) ∧ w'.cell? ⟨bf, 0, none⟩ = some (.slice (some ⟨bn, 0, none⟩) s.length cap) ∧ w'.cell? ⟨bn, n * 4, none⟩ = some (.int .i64 (j : Int)) ∧ w'.cell? ⟨x1, 0, none⟩ = some (.int .i64 (a : Int)) ∧ w'.cell? ⟨x1, 1, none⟩ = some (.int .i64 (b : Int)) ∧ w'.cell? ⟨x1, 2, none⟩ = some (.int .i64 (c : Int)) ∧ w'.cell? ⟨x1, 3, none⟩ = some (.int .i64 (d : Int))) (first | exact KP2.out | exact KP1.out | go_keep) (first
      | (go_at_call 159
         refine (CC.out _ ?_).mono ?_
         · first | exact HB1.out | exact HB1.out.drew | exact below_drewN HB1.out _
         rintro e w2 ⟨rfl, hb2⟩
         have HB2 := hid (show Below w.heap.size w w2 from ⟨hb2.os.trans HB1.out.os, hb2.tape.trans HB1.out.tape, hb2.output.trans HB1.out.output, Nat.le_trans HB1.out.size hb2.size, fun k hk => (hb2.block k (Nat.lt_of_lt_of_le hk HB1.out.size)).trans (HB1.out.block k hk)⟩)
         have KP2 := hid (KEEP.out _ HB2.out)
         clear hb2)
      | (go_at_call 149
         refine (CA.out _ ?_).mono ?_
         · first | exact below_draw _ _ | exact (Below.refl _ w).drew | exact Below.refl _ w
         clear CA
         rintro e w1 ⟨rfl, hb1⟩
         have HB1 := hid (show Below w.heap.size w w1 from ⟨hb1.os, hb1.tape, hb1.output, hb1.size, hb1.block⟩)
         have KP1 := hid (KEEP.out _ HB1.out)
         clear hb1))
    all_goals
      go_wp2
      go_ret
      exact ⟨rfl, HB2.out⟩
  · have hp1 : x.p = -1 := by
      rcases wf.par n x hx with h | ⟨j, y, h, _⟩
      · exact h
      · omega
    rw [insB_top hx (by omega)]
    rw [hp1] at d0
    clear hD d1 d2 d3 hr ho hx wf u ta tc tn
    go_enter Tryz.func199, Tryz.ntmps199
    go_wp2
    go_quiet (fail)
    go_wp2
    go_ret
    exact ⟨rfl, below_draw _ _⟩
end Go.Proofs.YtabogkonklplcaaGreatDoor
