import Derived.Test.YtabogkonklplcaaGreatDoorL49
import Derived.Test.YtabogkonklplcaaGreatDoorL50

namespace Go.Proofs.YtabogkonklplcaaGreatDoor
open Go.RowKit Go.Lib
set_option linter.unusedSimpArgs false
set_option linter.unusedVariables false
section
variable {s s' : List Nd} {f : Mvf} {n k : Nat} {z : Sp}
theorem spIs_next (wf : WF s) {j m a b ka : Nat} {y : Nd} (hy : s[j]? = some y) (ha : y.ks[m]? = some a) (hb : y.ks[m + 1]? = some b) (hka : ka ≤ sizeAt s a) : SpIs s ⟨a, ka, b, ((0 : Nat) : Int)⟩ := by
  have hj := (List.getElem?_eq_some_iff.1 hy).1
  obtain ⟨hh, B, u⟩ := wf.up
  have hal := (wf.kid_lt u hy (List.mem_of_getElem? ha)).1
  have hbl := (wf.kid_lt u hy (List.mem_of_getElem? hb)).1
  obtain ⟨t, tj⟩ := top_there wf j hj
  obtain ⟨l, wl⟩ := way_there wf tj hj
  have wa := Way.down wl hy ha
  have wb := Way.down wl hy hb
  obtain ⟨x, hx, hp⟩ := tj.2
  refine spIs_lives.two wf ⟨a, ka, rfl, rfl, hal, hka⟩ ⟨b, 0, rfl, rfl, hbl, Nat.zero_le _⟩ (way_top wf wa hx hp) wa wb ?_
  have key : ∀ l : List Nat, lexC (l ++ [m] ++ [ka]) (l ++ [m + 1] ++ [0]) ≤ 0 := by
    intro l
    induction l with
    | nil =>
      show (if m < m + 1 then -1 else if m + 1 < m then 1 else lexC [ka] [0]) ≤ 0
      rw [if_pos (by omega)]
      decide
    | cons q l ih =>
      show (if q < q then -1 else if q < q then 1 else lexC (l ++ [m] ++ [ka]) (l ++ [m + 1] ++ [0])) ≤ 0
      rw [if_neg (Nat.lt_irrefl _), if_neg (Nat.lt_irrefl _)]
      exact ih
  exact key l
theorem kept_spl {A B r a y : Int} (wf : WF s) (R : SplR s A B r a y s' f) (wf' : WF s') (lv : ∀ z, SpIs s z → SpIs s' (mvSp f z)) (hS : SecAt s n k) (hC : Cov s z n k) : ∃ n' k', SecAt s' n' k' ∧ Cov s' (mvSp f z) n' k' := by
  rcases R with ⟨_, rfl, rfl, _⟩ | ⟨_, _, h40, nn, kk, x, _, _, hx, ht, hkk, R⟩
  · exact ⟨n, k, hS, kept_none lv hC⟩
  · obtain ⟨x0, c0, hx0, ht0, hp0, hcx, hs0⟩ := hS.ex
    have hnl := (List.getElem?_eq_some_iff.1 hx0).1
    have hnnl := (List.getElem?_eq_some_iff.1 hx).1
    have hkl := (List.getElem?_eq_some_iff.1 hcx).1
    -- the nodes when the text is cut in two
    obtain ⟨s4, hs4⟩ : ∃ s4, (s ++ [(⟨true, x.cs.drop kk, [], -1⟩ : Nd)]).set nn { x with cs := x.cs.take kk } = s4 := ⟨_, rfl⟩
    have at4 : ∀ (m j : Nat) (y1 : Nd) (c1 : ByteArray), s4[m]? = some y1 → y1.cs[j]? = some c1 → isS c1 = true → ∃ (m2 j2 : Nat) (x2 : Nd), s[m2]? = some x2 ∧ x2.cs[j2]? = some c1 ∧ ((m = m2 ∧ j = j2 ∧ (m2 = nn → j2 < kk)) ∨ (m2 = nn ∧ m = s.length ∧ j2 = kk + j)) := by
      intro m j y1 c1 hy1 hc1 hs1
      rw [← hs4] at hy1
      by_cases hm : nn = m
      · subst hm
        rw [List.getElem?_set_self (by simp; omega)] at hy1
        cases hy1
        have hj : j < kk := by
          have := (List.getElem?_eq_some_iff.1 hc1).1
          simp at this
          omega
        simp only at hc1
        rw [List.getElem?_take_of_lt hj] at hc1
        exact ⟨nn, j, x, hx, hc1, .inl ⟨rfl, rfl, fun _ => hj⟩⟩
      · rw [List.getElem?_set_ne hm] at hy1
        by_cases hml : m < s.length
        · rw [List.getElem?_append_left hml] at hy1
          exact ⟨m, j, y1, hy1, hc1, .inl ⟨rfl, rfl, fun e => absurd e.symm hm⟩⟩
        · have hm2 : m = s.length := by
            have := (List.getElem?_eq_some_iff.1 hy1).1
            simp at this
            omega
          subst hm2
          rw [List.getElem?_append_right (Nat.le_refl _)] at hy1
          simp at hy1
          subst hy1
          simp only at hc1
          rw [List.getElem?_drop] at hc1
          exact ⟨nn, kk + j, x, hx, hc1, .inr ⟨rfl, rfl, rfl⟩⟩
    rcases R with ⟨hp, e, rfl⟩ | ⟨j, m, y, hp, hy, hm, hno, hnj, e, rfl⟩
    · -- a text of its own: it has not the sign
      rw [hs4] at e
      subst e
      have hne : nn ≠ n := fun e => by
        subst e
        rw [hx] at hx0
        cases hx0
        omega
      refine ⟨n, k, hS.same (fun x1 hx1 => ⟨x1, ?_, rfl, rfl, rfl⟩) (fun m j y1 c1 hy1 hc1 hs1 => ?_), cov_move lv wf' hC (.inl ?_) ?_⟩
      · rw [← hs4, List.getElem?_set_ne hne, List.getElem?_append_left (List.getElem?_eq_some_iff.1 hx1).1]; exact hx1
      · obtain ⟨m2, j2, x2, hx2, hc2, h | h⟩ := at4 m j y1 c1 hy1 hc1 hs1
        · exact ⟨j2, m2, x2, hx2, hc2, fun a b => ⟨by omega, by omega⟩⟩
        · exact ⟨j2, m2, x2, hx2, hc2, fun a b => absurd (h.1.symm.trans a) hne⟩
      · unfold resizeF shiftF
        rw [if_neg (fun e => hne (by omega)), if_neg (fun e => hne (by omega))]
      · unfold resizeF shiftF
        rw [if_neg (fun e => hne (by omega)), if_neg (fun e => hne (by omega))]
    · rw [hs4] at e
      have hjl := (List.getElem?_eq_some_iff.1 hy).1
      have hyt : y.t = false := by
        cases h : y.t with
        | false => rfl
        | true => have := (wf.elem j y hy).1 h; rw [this] at hm; simp at hm
      have hjn : j ≠ n := fun e => by
        subst e
        rw [hy] at hx0
        cases hx0
        rw [hyt] at ht0
        cases ht0
      have hy4 : s4[j]? = some y := by rw [← hs4, List.getElem?_set_ne hnj, List.getElem?_append_left hjl]; exact hy
      have hl4 : s4.length = s.length + 1 := by rw [← hs4]; simp
      have hz4 : s4[s.length]? = some (⟨true, x.cs.drop kk, [], -1⟩ : Nd) := by rw [← hs4, List.getElem?_set_ne (by omega), List.getElem?_append_right (Nat.le_refl _)]; simp
      have hx4 : s4[nn]? = some { x with cs := x.cs.take kk } := by rw [← hs4, List.getElem?_set_self (by simp; omega)]
      -- behind it all
      have at5 : ∀ (m1 j1 : Nat) (y1 : Nd) (c1 : ByteArray), s'[m1]? = some y1 → y1.cs[j1]? = some c1 → isS c1 = true → ∃ y2, s4[m1]? = some y2 ∧ y2.cs[j1]? = some c1 := by
        intro m1 j1 y1 c1 hy1 hc1 hs1
        rw [e] at hy1
        by_cases h1 : s.length = m1
        · subst h1
          rw [List.getElem?_set_self (by simp; omega)] at hy1
          cases hy1
          exact ⟨_, hz4, hc1⟩
        · rw [List.getElem?_set_ne h1] at hy1
          by_cases h2 : j = m1
          · subst h2
            rw [List.getElem?_set_self (by omega)] at hy1
            cases hy1
            exact ⟨y, hy4, hc1⟩
          · rw [List.getElem?_set_ne h2] at hy1
            exact ⟨y1, hy1, hc1⟩
      have hx5 : s'[nn]? = some { x with cs := x.cs.take kk } := by rw [e, List.getElem?_set_ne (by omega), List.getElem?_set_ne (fun q => hnj q.symm)]; exact hx4
      have hz5 : s'[s.length]? = some (⟨true, x.cs.drop kk, [], (j : Int)⟩ : Nd) := by rw [e, List.getElem?_set_self (by simp; omega)]
      have hy5 : s'[j]? = some { y with ks := y.ks.take (m + 1) ++ s.length :: y.ks.drop (m + 1) } := by rw [e, List.getElem?_set_ne (by omega), List.getElem?_set_self (by omega)]
      by_cases hne : nn = n
      · subst hne
        rw [hx] at hx0
        cases hx0
        by_cases hkk2 : k < kk
        · refine ⟨nn, k, ⟨⟨_, c0, hx5, ht, hp0, ?_, hs0⟩, ?_⟩, cov_move lv wf' hC (.inl ?_) ?_⟩
          · show (x.cs.take kk)[k]? = some c0
            rw [List.getElem?_take_of_lt hkk2]; exact hcx
          · intro m1 j1 y1 c1 hy1 hc1 hs1
            obtain ⟨y2, hy2, hc2⟩ := at5 m1 j1 y1 c1 hy1 hc1 hs1
            obtain ⟨m2, j2, x2, hx2, hc2, h⟩ := at4 m1 j1 y2 c1 hy2 hc2 hs1
            obtain ⟨q1, q2⟩ := hS.one m2 j2 x2 c1 hx2 hc2 hs1
            rcases h with h | h
            · exact ⟨by omega, by omega⟩
            · omega
          · unfold carryF shiftF
            rw [if_neg (by omega), if_neg (by omega)]
          · unfold carryF shiftF
            rw [if_neg (by omega), if_neg (by omega)]
        · obtain ⟨k', hk'⟩ : ∃ k', kk + k' = k := ⟨k - kk, by omega⟩
          have hat : (x.cs.drop kk)[k']? = some c0 := by rw [List.getElem?_drop, hk']; exact hcx
          refine ⟨s.length, k', ⟨⟨_, c0, hz5, rfl, by show (0 : Int) ≤ (j : Int); omega, hat, hs0⟩, ?_⟩, cov_move lv wf' hC ?_ ?_⟩
          · intro m1 j1 y1 c1 hy1 hc1 hs1
            obtain ⟨y2, hy2, hc2⟩ := at5 m1 j1 y1 c1 hy1 hc1 hs1
            obtain ⟨m2, j2, x2, hx2, hc2, h⟩ := at4 m1 j1 y2 c1 hy2 hc2 hs1
            obtain ⟨q1, q2⟩ := hS.one m2 j2 x2 c1 hx2 hc2 hs1
            rcases h with h | h
            · have := h.2.2 q1
              omega
            · exact ⟨by omega, by omega⟩
          · by_cases hlt : kk < k
            · left
              unfold carryF
              rw [if_pos (by omega)]
              simp only [Prod.mk.injEq, true_and]
              omega
            · right
              have e2 : carryF (nn : Int) (kk : Int) (s.length : Int) (shiftF (j : Int) (m : Int) 1) (nn : Int) (k : Int) = ((nn : Int), (kk : Int)) := by
                unfold carryF shiftF
                rw [if_neg (by omega), if_neg (by omega)]
                simp only [Prod.mk.injEq, true_and]
                omega
              rw [e2]
              have hk0 : k' = 0 := by omega
              subst hk0
              have hml : m < y.ks.length := (List.getElem?_eq_some_iff.1 hm).1
              refine spIs_next wf' hy5 (m := m) ?_ ?_ ?_
              · show (y.ks.take (m + 1) ++ s.length :: y.ks.drop (m + 1))[m]? = some nn
                rw [List.getElem?_append_left (by rw [List.length_take]; omega), List.getElem?_take_of_lt (by omega)]
                exact hm
              · show (y.ks.take (m + 1) ++ s.length :: y.ks.drop (m + 1))[m + 1]? = some s.length
                rw [List.getElem?_append_right (by rw [List.length_take]; omega), List.length_take, show m + 1 - min (m + 1) y.ks.length = 0 by omega]
                rfl
              · rw [(sizeAt_eq hx5).trans (sizeN_text ht)]
                show kk ≤ (x.cs.take kk).length
                rw [List.length_take]
                omega
          · unfold carryF
            rw [if_pos (by omega)]
            simp only [Prod.mk.injEq, true_and]
            omega
      · refine ⟨n, k, hS.same (fun x1 hx1 => ⟨x1, ?_, rfl, rfl, rfl⟩) (fun m1 j1 y1 c1 hy1 hc1 hs1 => ?_), cov_move lv wf' hC (.inl ?_) ?_⟩
        · rw [e, List.getElem?_set_ne (by omega), List.getElem?_set_ne hjn, ← hs4, List.getElem?_set_ne hne, List.getElem?_append_left hnl]; exact hx1
        · obtain ⟨y2, hy2, hc2⟩ := at5 m1 j1 y1 c1 hy1 hc1 hs1
          obtain ⟨m2, j2, x2, hx2, hc2, h | h⟩ := at4 m1 j1 y2 c1 hy2 hc2 hs1
          · exact ⟨j2, m2, x2, hx2, hc2, fun a b => ⟨by omega, by omega⟩⟩
          · exact ⟨j2, m2, x2, hx2, hc2, fun a b => absurd (h.1.symm.trans a) hne⟩
        · unfold carryF shiftF
          rw [if_neg (fun e => hne (by omega)), if_neg (fun e => hjn (by omega))]
        · unfold carryF shiftF
          rw [if_neg (fun e => hne (by omega)), if_neg (fun e => hjn (by omega))]
theorem kept_one (wf : WF s) (h : Did1 true s s' f) (hS : SecAt s n k) (hC : Cov s z n k) : ∃ n' k', SecAt s' n' k' ∧ Cov s' (mvSp f z) n' k' := by
  have lv : ∀ z, SpIs s z → SpIs s' (mvSp f z) := h.lives _ spIs_lives
  rcases h.act with ⟨r, a, y, nd, hnd, R⟩ | ⟨A, B, C, a, y, R⟩ | ⟨i, a, y, hh, H, _, u, hg, R⟩ | ⟨nn, o, c, m, a, y, hh, H, _, _, hm, u, hg, R⟩ | ⟨A, B, r, a, y, R⟩
  · exact kept_new hnd R lv hS hC
  · exact kept_ins R h.wf lv hS hC
  · exact kept_rem wf u (hg rfl) R h.wf lv hS hC
  · exact kept_rep (H := H) wf hm (hg rfl) R h.wf lv hS hC
  · exact kept_spl wf R h.wf lv hS hC
end
theorem Dids.kept {s s' : List Nd} {fs : List Mvf} (h : Dids true s s' fs) : ∀ {n k : Nat} {z : Sp}, WF s → SecAt s n k → Cov s z n k → ∃ n' k', SecAt s' n' k' ∧ Cov s' (mvSp (compF fs) z) n' k' := by
  induction h with
  | nil => intro n k z _ hS hC; exact ⟨n, k, hS, by rw [mvNil]; exact hC⟩
  | cons c _ ih =>
    intro n k z wf hS hC
    obtain ⟨n1, k1, hS1, hC1⟩ := kept_one wf c hS hC
    rw [compF_cons]
    exact ih c.wf hS1 hC1
end Go.Proofs.YtabogkonklplcaaGreatDoor

namespace Go.Proofs.YtabogkonklplcaaGreatDoor
open Go.RowKit Go.Lib
set_option linter.unusedSimpArgs false
set_option linter.unusedVariables false
section
variable {s : List Nd}
theorem read_count (wf : WF s) {n k K t q : Nat} (hS : SecAt s n k) (hq : (plF s K t)[q]? = some (n, k)) (i : Nat) : ∀ m, i + m < (plF s K t).length → (readR s (plF s K t) i m).countP isS = if i ≤ q ∧ q < i + m then 1 else 0
  | 0, _ => by rw [readR_zero, if_neg (by omega)]; rfl
  | m + 1, h => by
    have ih := read_count wf hS hq i m (by omega)
    rw [readR_succ, List.countP_append, ih]
    obtain ⟨p, hp⟩ : ∃ p, (plF s K t)[i + m]? = some p := ⟨_, List.getElem?_eq_getElem (by omega)⟩
    rw [chB_at wf hp (by omega)]
    by_cases e : i + m = q
    · rw [e, hq] at hp
      cases hp
      obtain ⟨x, c, hx, _, _, hc, hs⟩ := hS.ex
      have h1 : ((csOf s (n, k).1)[(n, k).2]?.toList).countP isS = 1 := by
        show ((csOf s n)[k]?.toList).countP isS = 1
        rw [csOf_eq hx, hc]
        simp [hs]
      rw [h1, if_neg (by omega), if_pos (by omega)]
    · have h0 : ((csOf s p.1)[p.2]?.toList).countP isS = 0 := by
        rw [List.countP_eq_zero]
        intro c hc
        have hc' : (csOf s p.1)[p.2]? = some c := by simpa using hc
        unfold csOf at hc'
        cases hx : s[p.1]? with
        | none => simp [hx] at hc'
        | some x =>
          rw [hx] at hc'
          intro hb
          obtain ⟨q1, q2⟩ := hS.one p.1 p.2 x c hx hc' hb
          obtain ⟨p1, p2⟩ := p
          simp only at q1 q2
          subst q1 q2
          have h1 := wh_at (pl_nodup wf K t) hp
          have h2 := wh_at (pl_nodup wf K t) hq
          omega
      rw [h0]
      by_cases hc : i ≤ q ∧ q < i + m
      · rw [if_pos hc, if_pos (by omega)]
      · rw [if_neg hc, if_neg (by omega)]
theorem read_one (wf : WF s) {h : Nat → Nat} {B : Nat} (u : Up s h B) {n k : Nat} {z : Sp} (hS : SecAt s n k) (hC : Cov s z n k) (hz : SpIs s z) :
    ∃ a b c d t i j, SpAt s B z a b c d t i j ∧ cntS (catB (readR s (plF s (B + 1) t) i (j - i))) = 1 := by
  obtain ⟨a, b, c, d, t, i, j, S⟩ := spIs_at wf u hz
  refine ⟨a, b, c, d, t, i, j, S, ?_⟩
  obtain ⟨rfl, ha, hc, ta, tc, hb, hd, hi, hj, hij⟩ := S
  obtain ⟨x, ch, hx, ht, hp, hcx, hs⟩ := hS.ex
  have hn := (List.getElem?_eq_some_iff.1 hx).1
  have hkl := (List.getElem?_eq_some_iff.1 hcx).1
  have hsz : sizeAt s n = x.cs.length := (sizeAt_eq hx).trans (sizeN_text ht)
  obtain ⟨a1, b1, n1, k1, t1, e1, ha1, hn1, hb1, hk1, ta1, tn1, w1⟩ := hC.1.where_ wf u
  simp only [Sp.mk.injEq, Int.natCast_inj] at e1
  obtain ⟨rfl, rfl, rfl, rfl⟩ := e1
  obtain rfl := ta.one ta1
  obtain ⟨n2, k2, c1, d1, t2, e2, hn2, hc1, hk2, hd1, tn2, tc1, w2⟩ := hC.2.where_ wf u
  simp only [Sp.mk.injEq, Int.natCast_inj] at e2
  obtain ⟨rfl, rfl, rfl, rfl⟩ := e2
  obtain rfl := tn1.one tn2
  obtain ⟨l, wl⟩ := way_there wf tn1 hn
  obtain ⟨q, eq, hq⟩ := wh_mem (way_pl wf u wl hk1)
  obtain ⟨q2, eq2, hq2⟩ := wh_mem (way_pl wf u wl hk2)
  obtain ⟨a3, b3, c3, d3, t3, e3, _, _, _, _, ta3, tc3, w3⟩ := (spIs_in wf hn (show k ≤ k + 1 by omega) hk2).where_ wf u
  simp only [Sp.mk.injEq, Int.natCast_inj] at e3
  obtain ⟨rfl, rfl, rfl, rfl⟩ := e3
  obtain rfl := tn1.one ta3
  have hne : q ≠ q2 := fun e => by
    subst e
    rw [hq] at hq2
    simp at hq2
  have wi := wh_at (pl_nodup wf (B + 1) t) hi
  have wj := wh_at (pl_nodup wf (B + 1) t) hj
  have hjl := (List.getElem?_eq_some_iff.1 hj).1
  rw [cntS_cat _ (readR_ch wf _ i (j - i)).2, read_count wf hS hq i (j - i) (by omega), if_pos (by omega)]
end
theorem secS : SecAt ndS 2 2 where
  ex := ⟨_, _, rfl, rfl, by decide, rfl, by decide⟩
  one := fun m j x c hx hc hs => by
    match m, hx with
    | 0, hx => cases hx; simp at hc
    | 1, hx => cases hx; simp at hc
    | 2, hx =>
      cases hx
      refine ⟨rfl, ?_⟩
      match j, hc with
      | 0, hc => cases hc; exact absurd hs (by decide)
      | 1, hc => cases hc; exact absurd hs (by decide)
      | 2, _ => rfl
      | 3, hc => cases hc; exact absurd hs (by decide)
      | 4, hc => cases hc; exact absurd hs (by decide)
      | _ + 5, hc => simp [abC] at hc
    | 3, hx =>
      cases hx
      match j, hc with
      | 0, hc => cases hc; exact absurd hs (by decide)
      | 1, hc => cases hc; exact absurd hs (by decide)
      | 2, hc => cases hc; exact absurd hs (by decide)
      | _ + 3, hc => simp [xyC] at hc
    | _ + 4, hx => simp [ndS] at hx
theorem covS : Cov ndS ⟨2, 2, 2, 3⟩ 2 2 := ⟨spIs_in wfS (n := 2) (k := 2) (k2 := 2) (by decide) (by decide) (by decide), spIs_in wfS (n := 2) (k := 3) (k2 := 3) (by decide) (by decide) (by decide)⟩
def KMid (w0 w : World) (bw bx : Nat) (s : List Nd) (rs : List Sp) : Prop := Mid w0 w bw bx s rs ∧ ∃ (z : Sp) (n k : Nat), rs[0]? = some z ∧ SecAt s n k ∧ Cov s z n k
theorem KMid.does {w0 w : World} {bw bx : Nat} {s : List Nd} {rs : List Sp} (hg : GG w0) (h : KMid w0 w bw bx s rs) (o : StepR) (ho : StepOk o) :
    Calls Tryz.prog 24 #[ptr bw, .agg #[.int .i64 o.K, .int .i64 o.A, .int .i64 o.B, .int .i64 o.C], .bool true] w fun e w' => e = .returned (.tuple #[]) ∧ ∃ s' rs', KMid w0 w' bw bx s' rs' := by
  obtain ⟨hM, z, n, k, hz, hS, hC⟩ := h
  refine (hM.does hg o ho true).mono ?_
  rintro e w' ⟨rfl, s', fs, hd, hM'⟩
  obtain ⟨n', k', hS', hC'⟩ := hd.kept hM.wf hS hC
  exact ⟨rfl, s', _, hM', _, n', k', by rw [List.getElem?_map, hz]; rfl, hS', hC'⟩
theorem KMid.read {w0 w : World} {bw bx : Nat} {s : List Nd} {rs : List Sp} (hg : GG w0) (h : KMid w0 w bw bx s rs) :
    ∃ b : ByteArray, b.size < lots ∧ cntS b = 1 ∧ ∀ F W, Desk w0 F W bw bx (s.length : Int) 2 ⟨s, rs⟩ → Calls Tryz.prog 33 #[ptr bx, .int .i64 0] W (PLPost F W bx ⟨s, rs⟩ (.tuple #[.string b, .nilIface])) := by
  obtain ⟨hM, z, n, k, hz, hS, hC⟩ := h
  obtain ⟨hh, B, u⟩ := hM.wf.up
  obtain ⟨a, b, c, d, t, i, j, S, h1⟩ := read_one hM.wf u hS hC (hM.sp z (List.mem_of_getElem? hz))
  refine ⟨_, ?_, h1, fun F W hD => ?_⟩
  · have q1 := cat_size _ (readR_ch hM.wf (plF s (B + 1) t) i (j - i)).2
    have q2 := (readR_ch hM.wf (plF s (B + 1) t) i (j - i)).1
    have q3 := plF_le hM.wf (B + 1) t S.ta.lt
    have q4 := all_length hM.wf (B + 1) t S.ta.lt
    have q5 := hM.wf.cap
    have q6 := (List.getElem?_eq_some_iff.1 S.hj).1
    unfold lots
    omega
  · have := pread_yes (rs := rs) hM.wf u 0 a b c d t i j z hz S W F bx (hD.gg hg) hD.doc
    rw [show errV 0 0 = .nilIface from by simp [errV]] at this
    exact this
set_option maxRecDepth 20000 in
set_option maxHeartbeats 4000000 in
theorem kept_any {w : World} (hg : GG w) (a : Option Addr) (g off c : Nat) (l : List StepR) (hS : ScrAt w a g off l) :
    Calls Tryz.prog 11 #[.slice a l.length c] w fun e w' => e = .returned (.bool true) ∧ Below w.heap.size w w' := by
  have C0 := hid (laid_at hg)
  have HH := hid (And.intro hS hg)
  clear hS hg
  go_enter Tryz.func11, Tryz.ntmps11
  go_wp2_with (
    go_at_call 23
    refine C0.out.mono ?_
    rintro e w1 ⟨F1, bw, bx, rfl, hd1⟩
    have HD1 := hid hd1
    clear hd1)
  clear C0
  go_loopw [4, 5] (fun t4 t5 wr => ∃ (i : Nat) (s : List Nd) (rs : List Sp), t4 = .bool true ∧ t5 = .int .i64 (i : Int) ∧ i ≤ 60 ∧ KMid w wr bw bx s rs) (fun _ t _ => leftN 60 t)
  case atStart => exact ⟨0, ndS, rsS, rfl, rfl, by omega, mid_laid HD1.out, _, 2, 2, rfl, secS, covS⟩
  case round =>
    clear HD1
    obtain ⟨i, s, rs, rfl, rfl, hi60, hM⟩ := hrel
    obtain ⟨hScr, hg⟩ := HH.out
    by_cases hgo : i < l.length ∧ i < 60
    · obtain ⟨h1, h2⟩ := hgo
      have h1' : (i : Int) < (l.length : Int) := by omega
      have h2' : (i : Int) < 60 := by omega
      obtain ⟨o, ho⟩ : ∃ o, l[i]? = some o := ⟨_, List.getElem?_eq_getElem h1⟩
      obtain ⟨F, hD⟩ := hM.1.desk
      obtain ⟨rfl, e0, e1, e2, e3, hok⟩ := (hScr.below hD.low).step ho
      have C := hid (hM.does hg o hok)
      have HG := hid hg
      clear hM hD hScr hg hok ho
      go_wp2_with (
        go_at_call 24
        refine C.out.mono ?_
        rintro e w2 ⟨rfl, s2, rs2, hm2⟩
        obtain ⟨F2, hd2⟩ := hm2.1.desk
        obtain ⟨b, hb1, hb2, CR⟩ := hm2.read HG.out
        have CRD := hid (CR F2 w2 hd2)
        have CCN : Hid (∀ W : World, Calls Tryz.prog 35 #[.string b] W fun e w' => e = .returned (.int .i64 1) ∧ w' = W) := fun W => by
          have := count_at b hb1 W
          rw [hb2] at this
          exact this
        have d0 := hd2.cells.1
        have HM2 := hid (And.intro hm2 hd2)
        clear hm2 hd2 CR hb1 hb2)
      go_wp2_with (first
        | (go_at_call 33
           refine CRD.out.mono ?_
           rintro e w3 ⟨rfl, hk3, hl3⟩
           have HD3 := hid (HM2.out.2.next hk3 hl3)
           clear hk3 hl3)
        | (go_at_call 35
           refine (CCN.out _).mono ?_
           rintro e w' ⟨rfl, rfl⟩))
      go_roundw
      case rel => exact ⟨i + 1, s2, rs2, by first | rfl | simp, by first | rfl | simp, by omega, ⟨HM2.out.1.1.wf, HM2.out.1.1.len, HM2.out.1.1.sp, _, HD3.out⟩, HM2.out.1.2⟩
      case measure =>
        show 60 - ((i : Int) + 1).toNat < 60 - ((i : Int)).toNat
        omega
    · have hex : (¬ (i : Int) < (l.length : Int)) ∨ ((i : Int) < (l.length : Int) ∧ ¬ (i : Int) < 60) := by omega
      obtain ⟨F, hD⟩ := hM.1.desk
      have HE := hid hD.low
      clear hM hD hScr hg hgo
      rcases hex with h1' | ⟨h1', h2'⟩
      all_goals
        go_wp2
        go_ret
        exact ⟨rfl, HE.out⟩
end Go.Proofs.YtabogkonklplcaaGreatDoor
