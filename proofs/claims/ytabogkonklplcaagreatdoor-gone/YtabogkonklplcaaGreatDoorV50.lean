import Derived.Test.YtabogkonklplcaaGreatDoorV46
import Derived.Test.YtabogkonklplcaaGreatDoorV49
import Derived.Test.YtabogkonklplcaaGreatDoorV45

namespace Go.Proofs.YtabogkonklplcaaGreatDoor
open Go.RowKit Go.Lib
set_option linter.unusedSimpArgs false
set_option linter.unusedVariables false
section
variable {s s' : List Nd}
def txtF (s : List Nd) (k n : Nat) : List ByteArray := (allF s k n).flatMap (csOf s)
theorem pk_full (cs : List ByteArray) (c : Nat → Bool) : ∀ k, k ≤ cs.length → (∀ b, b < k → c b = true) → pk cs c k = cs.take k
  | 0, _, _ => by simp [pk_zero]
  | k + 1, h, hc => by
    rw [pk_succ, pk_full cs c k (by omega) (fun b hb => hc b (by omega)), hc k (by omega), if_pos rfl, List.take_add_one]
theorem cov_all (wf : WF s) {h : Nat → Nat} {B : Nat} (u : Up s h B) {t n b : Nat} (ht : t < s.length) (tt : IsTop s t t) (hn : n ∈ allF s (B + 1) t) (hb : b < (csOf s n).length) : cov (plF s (B + 1) t) t 0 t (sizeAt s t) n b = true := by
  obtain ⟨j, hj⟩ := all_climb wf (B + 1) t n hn
  have tn : IsTop s n t := ⟨⟨j, hj⟩, tt.2⟩
  cases hx : s[n]? with
  | none => simp [csOf, hx] at hb
  | some x =>
    have hnl := (List.getElem?_eq_some_iff.1 hx).1
    rw [csOf_eq hx] at hb
    have hxt : x.t = true := by
      cases e : x.t with
      | true => rfl
      | false => rw [(wf.elem n x hx).2 e] at hb; simp at hb
    have hsz : sizeAt s n = x.cs.length := (sizeAt_eq hx).trans (sizeN_text hxt)
    obtain ⟨l, wl⟩ := way_there wf tn hnl
    obtain ⟨i1, e1, h1⟩ := wh_mem (way_pl wf u wl (k := b) (by omega))
    obtain ⟨i2, e2, h2⟩ := wh_mem (way_pl wf u wl (k := b + 1) (by omega))
    have hl : (plF s (B + 1) t)[(plF s (B + 1) t).length - 1]? = some (t, sizeAt s t) := by
      obtain ⟨q, e⟩ := pl_last wf (k := B) ht
      rw [e]; simp
    have e3 := wh_at (pl_nodup wf (B + 1) t) hl
    have hi2 := (List.getElem?_eq_some_iff.1 h2).1
    unfold cov
    rw [wh_first, e1, e2, e3, decide_eq_true (by omega), decide_eq_true (by omega)]
    rfl
theorem flatMap_same {α β : Type} {l : List α} {f g : α → List β} (h : ∀ a ∈ l, f a = g a) : l.flatMap f = l.flatMap g := by
  induction l with
  | nil => rfl
  | cons a l ih => rw [List.flatMap_cons, List.flatMap_cons, h a (.head _), ih (fun b hb => h b (.tail _ hb))]
theorem allC_txt (wf : WF s) {h : Nat → Nat} {B : Nat} (u : Up s h B) {t : Nat} (ht : t < s.length) (tt : IsTop s t t) : allC s B t = txtF s (B + 1) t := by
  unfold allC
  have hi : (plF s (B + 1) t)[0]? = some (t, 0) := by
    obtain ⟨q, e⟩ := pl_first (s := s) (k := B) (t := t)
    rw [e]; rfl
  have hj : (plF s (B + 1) t)[(plF s (B + 1) t).length - 1]? = some (t, sizeAt s t) := by
    obtain ⟨q, e⟩ := pl_last wf (k := B) ht
    rw [e]; simp
  have h1 := read_same wf ht hi hj (Nat.zero_le _)
  rw [Nat.sub_zero] at h1
  rw [h1]
  unfold readP txtF
  refine flatMap_same (fun n hn => ?_)
  rw [pk_full _ _ _ (Nat.le_refl _) (fun b hb => cov_all wf u ht tt hn hb), List.take_length]
theorem txt_stable (wf : WF s) {h : Nat → Nat} {B : Nat} (u : Up s h B) {k k' n : Nat} (h1 : h n < k) (h2 : h n < k') : txtF s k n = txtF s k' n := by
  unfold txtF
  rw [all_stable wf u k k' n h1 h2]
end
end Go.Proofs.YtabogkonklplcaaGreatDoor

namespace Go.Proofs.YtabogkonklplcaaGreatDoor
open Go.RowKit Go.Lib
set_option linter.unusedSimpArgs false
set_option linter.unusedVariables false
section
variable {s s' : List Nd}
theorem all_way {t : Nat} : ∀ (K l n : Nat) (wl : List Nat), n ∈ allF s K l → Way s t l wl → ∃ r, Way s t n (wl ++ r)
  | 0, l, n, wl, h, _ => by simp [allF] at h
  | K + 1, l, n, wl, h, hw => by
    rw [allF] at h
    rcases List.mem_cons.1 h with rfl | h
    · exact ⟨[], by rw [List.append_nil]; exact hw⟩
    · obtain ⟨c, hc, h⟩ := List.mem_flatMap.1 h
      unfold kidsOf at hc
      cases hx : s[l]? with
      | none => simp [hx] at hc
      | some x =>
        rw [hx] at hc
        simp only at hc
        obtain ⟨i, hi, e⟩ := List.mem_iff_getElem.1 hc
        have hd := Way.down hw hx (i := i) (by rw [List.getElem?_eq_getElem hi, e])
        obtain ⟨r, hr⟩ := all_way K c n (wl ++ [i]) h hd
        exact ⟨[i] ++ r, by rw [← List.append_assoc]; exact hr⟩
theorem sub_between (wf : WF s) {h : Nat → Nat} {B : Nat} (u : Up s h B) {j m l n k K t : Nat} {y : Nd} (hy : s[j]? = some y) (hm : y.ks[m]? = some l) (hn : n ∈ allF s K l) (hk : k ≤ sizeAt s n) (tj : IsTop s j t) :
    wh (plF s (B + 1) t) (j, m) < wh (plF s (B + 1) t) (n, k) ∧ wh (plF s (B + 1) t) (n, k) < wh (plF s (B + 1) t) (j, m + 1) := by
  have hjl := (List.getElem?_eq_some_iff.1 hy).1
  obtain ⟨hel, hsz⟩ := kid_size wf hy hm
  obtain ⟨wj, hwj⟩ := way_there wf tj hjl
  obtain ⟨r, hwn⟩ := all_way K l n _ hn (Way.down hwj hy hm)
  have e1 : lexC (wj ++ [m]) (wj ++ [m] ++ r ++ [k]) = -1 := by
    have : wj ++ [m] ++ r ++ [k] = wj ++ ([m] ++ r ++ [k]) := by simp
    rw [this, lexC_prefix]
    show (if m < m then (-1 : Int) else if m < m then 1 else lexC [] (r ++ [k])) = -1
    rw [if_neg (Nat.lt_irrefl _), if_neg (Nat.lt_irrefl _)]
    cases r <;> rfl
  have e2 : lexC (wj ++ [m] ++ r ++ [k]) (wj ++ [m + 1]) = -1 := by
    have : wj ++ [m] ++ r ++ [k] = wj ++ ([m] ++ r ++ [k]) := by simp
    rw [this, lexC_prefix]
    show (if m < m + 1 then (-1 : Int) else if m + 1 < m then 1 else lexC (r ++ [k]) []) = -1
    rw [if_pos (by omega)]
  have hszj : m ≤ sizeAt s j := by omega
  rw [cmp_ways wf u hwj hwn hszj hk (wh_is _ _) (wh_is _ _)] at e1
  rw [cmp_ways wf u hwn hwj hk hsz (wh_is _ _) (wh_is _ _)] at e2
  constructor
  · by_cases c : wh (plF s (B + 1) t) (j, m) < wh (plF s (B + 1) t) (n, k)
    · exact c
    · rw [if_neg c] at e1
      split at e1 <;> simp at e1
  · by_cases c : wh (plF s (B + 1) t) (n, k) < wh (plF s (B + 1) t) (j, m + 1)
    · exact c
    · rw [if_neg c] at e2
      split at e2 <;> simp at e2
def unC (s : List Nd) (L : List (Nat × Nat)) (i j m : Nat) : List ByteArray := (List.range (csOf s m).length).flatMap fun b => if (i : Int) ≤ wh L (m, b) ∧ wh L (m, b) < j then [] else (csOf s m)[b]?.toList
theorem flat_range {α : Type} (n m : Nat) (f : Nat → List α) : (List.range (n + m)).flatMap f = (List.range n).flatMap f ++ (List.range m).flatMap (fun x => f (n + x)) := by
  rw [List.range_add, List.flatMap_append, List.flatMap_map]
theorem head_tail (wf : WF s) {B t i j : Nat} (ht : t < s.length) (hij : i ≤ j) (hj : j < (plF s (B + 1) t).length) :
    readR s (plF s (B + 1) t) 0 i ++ readR s (plF s (B + 1) t) j ((plF s (B + 1) t).length - 1 - j) = (allF s (B + 1) t).flatMap (unC s (plF s (B + 1) t) i j) := by
  have hnd := pl_nodup wf (B + 1) t
  have h1 := pl_texts wf (fun p => if (i : Int) ≤ wh (plF s (B + 1) t) p ∧ wh (plF s (B + 1) t) p < j then [] else (csOf s p.1)[p.2]?.toList) (fun p hp => by
    rw [List.getElem?_eq_none hp]
    split <;> simp) (B + 1) t ht
  have h2 : (allF s (B + 1) t).flatMap (unC s (plF s (B + 1) t) i j) = (plF s (B + 1) t).flatMap (fun p => if (i : Int) ≤ wh (plF s (B + 1) t) p ∧ wh (plF s (B + 1) t) p < j then [] else (csOf s p.1)[p.2]?.toList) := by
    rw [h1]
    rfl
  rw [h2, flatMap_index]
  obtain ⟨N, hN⟩ : ∃ N, (plF s (B + 1) t).length = N := ⟨_, rfl⟩
  have at_ : ∀ r, r < N → (match (plF s (B + 1) t)[r]? with | some p => (if (i : Int) ≤ wh (plF s (B + 1) t) p ∧ wh (plF s (B + 1) t) p < j then [] else (csOf s p.1)[p.2]?.toList) | none => []) = if i ≤ r ∧ r < j then [] else chB s (plF s (B + 1) t) r := by
    intro r hr
    have hp : (plF s (B + 1) t)[r]? = some (plF s (B + 1) t)[r] := List.getElem?_eq_getElem (by omega)
    rw [hp]
    simp only
    rw [wh_at hnd hp]
    by_cases hc : i ≤ r ∧ r < j
    · rw [if_pos hc, if_pos ⟨by omega, by omega⟩]
    · rw [if_neg hc, if_neg (by omega)]
      by_cases hl : r + 1 < N
      · exact (chB_at wf hp (by omega)).symm
      · -- the last place of all
        have hrl : r = N - 1 := by omega
        obtain ⟨q, e⟩ := pl_last wf (k := B) ht
        have hlast : (plF s (B + 1) t)[r]? = some (t, sizeAt s t) := by
          have hq : N = q.length + 1 := by rw [← hN, e]; simp
          rw [e, List.getElem?_append_right (by omega), show r - q.length = 0 by omega]
          rfl
        rw [hp] at hlast
        have hpe := Option.some.inj hlast
        rw [hpe]
        have hno : (csOf s t)[sizeAt s t]? = none := by
          obtain ⟨x, hx⟩ : ∃ x, s[t]? = some x := ⟨_, List.getElem?_eq_getElem ht⟩
          rw [csOf_eq hx, sizeAt_eq hx]
          cases hxt : x.t with
          | true => rw [sizeN_text hxt]; exact List.getElem?_eq_none (Nat.le_refl _)
          | false => rw [(wf.elem t x hx).2 hxt]; rfl
        simp only
        rw [hno]
        unfold chB
        rw [List.getElem?_eq_none (show (plF s (B + 1) t).length ≤ r + 1 by omega)]
        cases (plF s (B + 1) t)[r]? <;> rfl
  rw [hN] at hj ⊢
  refine Eq.trans (b := (List.range N).flatMap (fun r => if i ≤ r ∧ r < j then [] else chB s (plF s (B + 1) t) r)) ?_ (flatMap_same (fun r hr => by
    have h := at_ r (List.mem_range.1 hr)
    revert h
    cases (plF s (B + 1) t)[r]? <;> exact fun h => h.symm))
  obtain ⟨M, hM⟩ : ∃ M, N - 1 - j = M := ⟨_, rfl⟩
  rw [hM]
  obtain rfl : N = i + ((j - i) + (M + 1)) := by omega
  rw [flat_range, flat_range, flat_range]
  have p1 : (List.range i).flatMap (fun r => if i ≤ r ∧ r < j then [] else chB s (plF s (B + 1) t) r) = readR s (plF s (B + 1) t) 0 i := by
    unfold readR
    refine flatMap_same (fun r hr => ?_)
    have := List.mem_range.1 hr
    rw [if_neg (by omega), Nat.zero_add]
  have p2 : (List.range (j - i)).flatMap (fun x => if i ≤ i + x ∧ i + x < j then [] else chB s (plF s (B + 1) t) (i + x)) = [] := by
    rw [List.flatMap_eq_nil_iff]
    intro r hr
    have := List.mem_range.1 hr
    rw [if_pos (by omega)]
  have p3 : (List.range M).flatMap (fun x => if i ≤ i + (j - i + x) ∧ i + (j - i + x) < j then [] else chB s (plF s (B + 1) t) (i + (j - i + x))) = readR s (plF s (B + 1) t) j M := by
    unfold readR
    refine flatMap_same (fun r hr => ?_)
    have := List.mem_range.1 hr
    rw [if_neg (by omega), show i + (j - i + r) = j + r by omega]
  have p4 : (List.range 1).flatMap (fun x => if i ≤ i + (j - i + (M + x)) ∧ i + (j - i + (M + x)) < j then [] else chB s (plF s (B + 1) t) (i + (j - i + (M + x)))) = ([] : List ByteArray) := by
    rw [List.flatMap_eq_nil_iff]
    intro r hr
    have := List.mem_range.1 hr
    rw [if_neg (by omega)]
    unfold chB
    rw [List.getElem?_eq_none (show (plF s (B + 1) t).length ≤ i + (j - i + (M + r)) + 1 by omega)]
    cases (plF s (B + 1) t)[i + (j - i + (M + r))]? <;> rfl
  rw [p1, p2, p3, p4, List.nil_append, List.append_nil]
end
end Go.Proofs.YtabogkonklplcaaGreatDoor

namespace Go.Proofs.YtabogkonklplcaaGreatDoor
open Go.RowKit Go.Lib
set_option linter.unusedSimpArgs false
set_option linter.unusedVariables false
section
variable {s s1 s' : List Nd}
def cutA (n : Nat) (cs : List ByteArray) (act : Dact) : List ByteArray := match act with
  | (m, some (o, e)) => if m = n then cs.take o ++ [] ++ cs.drop (o + (e - o)) else cs
  | (_, none) => cs
theorem Chg.cs {act : Dact} {f : Mvf} (h : Chg s act s1 f) (n : Nat) : csOf s1 n = cutA n (csOf s n) act := by
  cases h with
  | @cut m o e x hx ht h1 h2 =>
    show csOf _ n = if m = n then (csOf s n).take o ++ [] ++ (csOf s n).drop (o + (e - o)) else csOf s n
    by_cases hm : m = n
    · subst hm
      rw [if_pos rfl, csOf_eq (List.getElem?_set_self (List.getElem?_eq_some_iff.1 hx).1), csOf_eq hx]
    · rw [if_neg hm]
      unfold csOf
      rw [List.getElem?_set_ne hm]
  | @rem i j m x y h2 H2 hx hj hy hm hno hij wf2 u2 =>
    show csOf _ n = csOf s n
    by_cases h1 : i = n
    · subst h1
      rw [csOf_eq (List.getElem?_set_self (by rw [List.length_set]; exact (List.getElem?_eq_some_iff.1 hx).1)), csOf_eq hx]
    · by_cases h2 : j = n
      · subst h2
        rw [csOf_eq (show _ = some { y with ks := y.ks.take m ++ y.ks.drop (m + 1) } by rw [List.getElem?_set_ne h1, List.getElem?_set_self (List.getElem?_eq_some_iff.1 hy).1]), csOf_eq hy]
      · unfold csOf
        rw [List.getElem?_set_ne h1, List.getElem?_set_ne h2]
theorem Chgs.cs {ac : List Dact} {fs : List Mvf} (h : Chgs s ac s' fs) (n : Nat) : csOf s' n = ac.foldl (cutA n) (csOf s n) := by
  induction h with
  | nil => rfl
  | cons c _ ih => rw [ih, c.cs n]; rfl
theorem Chg.kids {act : Dact} {f : Mvf} (h : Chg s act s1 f) (a : Nat) : kidsOf s1 a = kidsOf s a ∨ ∃ i m y, act = (i, none) ∧ s[a]? = some y ∧ y.ks[m]? = some i ∧ kidsOf s1 a = y.ks.take m ++ y.ks.drop (m + 1) := by
  cases h with
  | @cut m o e x hx ht h1 h2 =>
    left
    by_cases hm : m = a
    · subst hm
      rw [kidsOf_eq (List.getElem?_set_self (List.getElem?_eq_some_iff.1 hx).1), kidsOf_eq hx]
    · unfold kidsOf
      rw [List.getElem?_set_ne hm]
  | @rem i j m x y h2 H2 hx hj hy hm hno hij wf2 u2 =>
    by_cases h1 : i = a
    · subst h1
      left
      rw [kidsOf_eq (List.getElem?_set_self (by rw [List.length_set]; exact (List.getElem?_eq_some_iff.1 hx).1)), kidsOf_eq hx]
    · by_cases h2 : j = a
      · subst h2
        right
        exact ⟨i, m, y, rfl, hy, hm, kidsOf_eq (x := { y with ks := y.ks.take m ++ y.ks.drop (m + 1) }) (by rw [List.getElem?_set_ne h1, List.getElem?_set_self (List.getElem?_eq_some_iff.1 hy).1])⟩
      · left
        unfold kidsOf
        rw [List.getElem?_set_ne h1, List.getElem?_set_ne h2]
theorem Chg.sub {act : Dact} {f : Mvf} (h : Chg s act s1 f) : ∀ (K m n : Nat), n ∈ allF s1 K m → n ∈ allF s K m
  | 0, _, _, hn => hn
  | K + 1, m, n, hn => by
    rw [allF] at hn ⊢
    rcases List.mem_cons.1 hn with rfl | hn
    · exact .head _
    · obtain ⟨c, hc, hn⟩ := List.mem_flatMap.1 hn
      refine .tail _ (List.mem_flatMap.2 ⟨c, ?_, h.sub K c n hn⟩)
      rcases h.kids m with e | ⟨i, q, y, _, hy, _, e⟩
      · rw [← e]; exact hc
      · rw [e] at hc
        rw [kidsOf_eq hy]
        rcases List.mem_append.1 hc with hc | hc
        · exact List.mem_of_mem_take hc
        · exact List.mem_of_mem_drop hc
theorem Chgs.sub {ac : List Dact} {fs : List Mvf} (h : Chgs s ac s' fs) : ∀ (K m n : Nat), n ∈ allF s' K m → n ∈ allF s K m := by
  induction h with
  | nil => exact fun _ _ _ hn => hn
  | cons c _ ih => exact fun K m n hn => c.sub K m n (ih K m n hn)
theorem Chg.flat {act : Dact} {f : Mvf} {g : Nat → List ByteArray} (h : Chg s act s1 f) (hg : ∀ i, act = (i, none) → ∀ K n, n ∈ allF s K i → g n = []) : ∀ (K m : Nat), (allF s1 K m).flatMap g = (allF s K m).flatMap g
  | 0, _ => rfl
  | K + 1, m => by
    have ih := h.flat hg K
    have e0 : ∀ l : List Nat, (l.flatMap (allF s1 K)).flatMap g = (l.flatMap (allF s K)).flatMap g := by
      intro l
      rw [List.flatMap_assoc, List.flatMap_assoc]
      exact flatMap_same (fun c _ => ih c)
    rw [allF, allF, List.flatMap_cons, List.flatMap_cons]
    congr 1
    rcases h.kids m with e | ⟨i, q, y, ha, hy, hq, e⟩
    · rw [e, e0]
    · rw [e, kidsOf_eq hy, e0]
      have hsp : y.ks = y.ks.take q ++ i :: y.ks.drop (q + 1) := by
        have e := List.getElem?_eq_some_iff.1 hq
        rw [← e.2, ← List.drop_eq_getElem_cons e.1, List.take_append_drop]
      have h0 : (allF s K i).flatMap g = [] := by
        rw [List.flatMap_eq_nil_iff]
        exact fun n hn => hg i ha K n hn
      have e2 : (y.ks.flatMap (allF s K)).flatMap g = ((y.ks.take q).flatMap (allF s K)).flatMap g ++ ((y.ks.drop (q + 1)).flatMap (allF s K)).flatMap g := by
        conv => lhs; rw [hsp]
        rw [List.flatMap_append, List.flatMap_append, List.flatMap_cons, List.flatMap_append, h0, List.nil_append]
      rw [e2, List.flatMap_append, List.flatMap_append]
theorem Chgs.flat {ac : List Dact} {fs : List Mvf} {g : Nat → List ByteArray} (h : Chgs s ac s' fs) : (∀ i, (i, none) ∈ ac → ∀ K n, n ∈ allF s K i → g n = []) → ∀ (K m : Nat), (allF s' K m).flatMap g = (allF s K m).flatMap g := by
  induction h with
  | nil => exact fun _ _ _ => rfl
  | cons c _ ih =>
    intro hg K m
    rw [ih (fun i hi K n hn => hg i (.tail _ hi) K n (c.sub K i n hn)) K m]
    exact c.flat (fun i e K n hn => hg i (by rw [← e]; exact .head _) K n hn) K m
theorem Chg.par {act : Dact} {f : Mvf} (h : Chg s act s1 f) (v : Nat) : (∀ y, s[v]? = some y → ∃ y', s1[v]? = some y' ∧ ((act = (v, none) ∧ y'.p = -1) ∨ (act ≠ (v, none) ∧ y'.p = y.p))) := by
  intro y0 hy0
  have hvl := (List.getElem?_eq_some_iff.1 hy0).1
  cases h with
  | @cut m o e x hx ht h1 h2 =>
    by_cases hm : m = v
    · subst hm
      rw [hx] at hy0
      cases hy0
      exact ⟨_, List.getElem?_set_self hvl, .inr ⟨by simp, rfl⟩⟩
    · exact ⟨y0, by rw [List.getElem?_set_ne hm]; exact hy0, .inr ⟨by simp, rfl⟩⟩
  | @rem i j m x y h2 H2 hx hj hy hm hno hij wf2 u2 =>
    by_cases h1 : i = v
    · subst h1
      exact ⟨_, List.getElem?_set_self (by rw [List.length_set]; exact hvl), .inl ⟨rfl, rfl⟩⟩
    · have hne : ((i, none) : Dact) ≠ (v, none) := fun e => h1 (by simpa using e)
      by_cases h2 : j = v
      · subst h2
        obtain rfl : y = y0 := Option.some.inj (hy.symm.trans hy0)
        exact ⟨{ y with ks := y.ks.take m ++ y.ks.drop (m + 1) }, by rw [List.getElem?_set_ne h1, List.getElem?_set_self hvl], .inr ⟨hne, rfl⟩⟩
      · exact ⟨y0, by rw [List.getElem?_set_ne h1, List.getElem?_set_ne h2]; exact hy0, .inr ⟨hne, rfl⟩⟩
theorem Chgs.par {ac : List Dact} {fs : List Mvf} (h : Chgs s ac s' fs) (v : Nat) : ∀ y, s[v]? = some y → ∃ y', s'[v]? = some y' ∧ ((y'.p = -1 ∧ (v, none) ∈ ac) ∨ ((v, none) ∉ ac ∧ y'.p = y.p)) := by
  induction h with
  | nil => exact fun y hy => ⟨y, hy, .inr ⟨by simp, rfl⟩⟩
  | cons c _ ih =>
    intro y hy
    obtain ⟨y1, hy1, h1⟩ := c.par v y hy
    obtain ⟨y2, hy2, h2⟩ := ih y1 hy1
    refine ⟨y2, hy2, ?_⟩
    rcases h1 with ⟨e1, p1⟩ | ⟨e1, p1⟩
    · left
      rcases h2 with ⟨p2, _⟩ | ⟨_, p2⟩
      · exact ⟨p2, by rw [← e1]; exact .head _⟩
      · exact ⟨by rw [p2]; exact p1, by rw [← e1]; exact .head _⟩
    · rcases h2 with ⟨p2, m2⟩ | ⟨m2, p2⟩
      · exact .inl ⟨p2, .tail _ m2⟩
      · right
        refine ⟨fun e => ?_, by rw [p2, p1]⟩
        rcases List.mem_cons.1 e with e | e
        · exact e1 e.symm
        · exact m2 e
end
end Go.Proofs.YtabogkonklplcaaGreatDoor

namespace Go.Proofs.YtabogkonklplcaaGreatDoor
open Go.RowKit Go.Lib
set_option linter.unusedSimpArgs false
set_option linter.unusedVariables false
section
variable {s s' : List Nd}
theorem kid_next (wf : WF s) {j m n : Nat} {y : Nd} (hy : s[j]? = some y) (hm : y.ks[m]? = some n) : ∀ (K q : Nat), (n, 0) ∈ plF s K q → q ≠ n → [(j, m), (n, 0)] <:+: plF s K q ∧ [(n, sizeAt s n), (j, m + 1)] <:+: plF s K q := by
  obtain ⟨hh, BB, u⟩ := wf.up
  have hnl := (wf.kid_lt u hy (List.mem_of_getElem? hm)).1
  intro K
  induction K with
  | zero => intro q h; simp [plF] at h
  | succ K ih =>
    intro q h hq
    by_cases hqj : q = j
    · subst hqj
      obtain ⟨hel, hsz⟩ := kid_size wf hy hm
      have hszq : sizeAt s q = y.ks.length := by rw [sizeAt_eq hy, sizeN_elem hel]
      have hml : m < y.ks.length := (List.getElem?_eq_some_iff.1 hm).1
      -- K is not 0
      cases K with
      | zero =>
        exfalso
        rw [plF, upTo] at h
        obtain ⟨i, _, h⟩ := List.mem_flatMap.1 h
        rcases List.mem_cons.1 h with h | h
        · simp at h; exact hq h.1.symm
        · split at h <;> simp [plF] at h
      | succ K =>
        obtain ⟨r, e1⟩ := pl_first (s := s) (k := K) (t := n)
        obtain ⟨l, e2⟩ := pl_last wf (k := K) hnl
        have e : sizeAt s q + 1 = m + (2 + (sizeAt s q - m - 1)) := by omega
        have hr : (List.range 2).map (fun i => m + i) = [m, m + 1] := by simp [List.range_succ]
        have key : ∀ z : List (Nat × Nat), z <:+: ((q, m) :: plF s (K + 1) n) ++ [(q, m + 1)] → z <:+: plF s (K + 1 + 1) q := by
          intro z hz
          rw [plF, upTo, kidsOf_eq hy, e, List.range_add, List.flatMap_append, List.range_add, List.map_append, List.flatMap_append, hr]
          refine List.IsInfix.trans ?_ (List.suffix_append _ _).isInfix
          refine List.IsInfix.trans ?_ (List.prefix_append _ _).isInfix
          rw [List.flatMap_cons, List.flatMap_cons, List.flatMap_nil, List.append_nil, hm]
          refine hz.trans ?_
          simp only
          cases y.ks[m + 1]? with
          | none => exact ⟨[], [], by simp⟩
          | some c => exact ⟨[], plF s (K + 1) c, by simp⟩
        refine ⟨key _ ?_, key _ ?_⟩
        · rw [e1]
          exact ⟨[], r ++ [(q, m + 1)], by simp⟩
        · rw [e2]
          exact ⟨(q, m) :: l, [], by simp⟩
    · rw [plF, upTo] at h ⊢
      obtain ⟨i, hi, h⟩ := List.mem_flatMap.1 h
      have hin : ∀ z : List (Nat × Nat), (∀ c, (kidsOf s q)[i]? = some c → z <:+: plF s K c) → (∃ c, (kidsOf s q)[i]? = some c) → z <:+: (List.range (sizeAt s q + 1)).flatMap fun i => (q, i) :: (match (kidsOf s q)[i]? with | some c => plF s K c | none => []) := by
        intro z hz ⟨c, hc⟩
        refine infix_flatMap hi ?_
        refine List.IsInfix.trans ?_ (List.suffix_cons _ _).isInfix
        rw [hc]
        exact hz c hc
      rcases List.mem_cons.1 h with h | h
      · simp at h; exact absurd h.1.symm hq
      · cases hc : (kidsOf s q)[i]? with
        | none => rw [hc] at h; simp at h
        | some c =>
          rw [hc] at h
          have hcn : c ≠ n := fun e => by
            subst e
            obtain ⟨x2, hx2, hcx⟩ := kidsOf_mem (List.mem_of_getElem? hc)
            obtain ⟨z1, hz1, p1⟩ := wf.kid q x2 hx2 c hcx
            obtain ⟨z2, hz2, p2⟩ := wf.kid j y hy c (List.mem_of_getElem? hm)
            rw [hz1] at hz2
            cases hz2
            exact hqj (by omega)
          have := ih c h hcn
          exact ⟨hin _ (fun c' hc' => by rw [hc] at hc'; cases hc'; exact this.1) ⟨c, hc⟩, hin _ (fun c' hc' => by rw [hc] at hc'; cases hc'; exact this.2) ⟨c, hc⟩⟩
theorem wh_infix (wf : WF s) {K t : Nat} {p q : Nat × Nat} (h : [p, q] <:+: plF s K t) : wh (plF s K t) q = wh (plF s K t) p + 1 := by
  have hp : p ∈ plF s K t := h.subset (.head _)
  obtain ⟨i, ei, hi⟩ := wh_mem hp
  have := infix_at (pl_nodup wf K t) h hi
  rw [ei, wh_at (pl_nodup wf K t) this]
  omega
theorem climb_stay {ac : List Dact} {fs : List Mvf} (h : Chgs s ac s' fs) {n : Nat} (hno : ∀ v, ((v : Nat), none) ∈ ac → ∀ q, climb s q n ≠ (v : Int)) : ∀ r, climb s' r n = climb s r n
  | 0 => rfl
  | r + 1 => by
    have ih := climb_stay h hno r
    show (if climb s' r n < 0 then -1 else parOf s' (climb s' r n).toNat) = if climb s r n < 0 then -1 else parOf s (climb s r n).toNat
    rw [ih]
    by_cases hc : climb s r n < 0
    · rw [if_pos hc, if_pos hc]
    · rw [if_neg hc, if_neg hc]
      unfold parOf
      cases hv : s[(climb s r n).toNat]? with
      | none =>
        have hl := List.getElem?_eq_none_iff.1 hv
        rw [List.getElem?_eq_none (by rw [h.size]; exact hl)]
      | some y =>
        obtain ⟨y', hy', e | e⟩ := h.par _ y hv
        · exact absurd (show climb s r n = ((climb s r n).toNat : Int) by omega) (hno _ e.2 r)
        · rw [hy']
          exact e.2
theorem Chgs.top {ac : List Dact} {fs : List Mvf} (h : Chgs s ac s' fs) {n t : Nat} (tn : IsTop s n t) (hno : ∀ v, ((v : Nat), none) ∈ ac → ∀ q, climb s q n ≠ (v : Int)) : IsTop s' n t := by
  obtain ⟨⟨m, hm⟩, x, hx, hp⟩ := tn
  refine ⟨⟨m, by rw [climb_stay h hno]; exact hm⟩, ?_⟩
  obtain ⟨y', hy', e | e⟩ := h.par t x hx
  · exact ⟨y', hy', e.1⟩
  · exact ⟨y', hy', by rw [e.2]; exact hp⟩
theorem Chgs.stay {ac : List Dact} {fs : List Mvf} (h : Chgs s ac s' fs) (wf' : WF s') {n t K v : Nat} (hn : n ∈ allF s' K t) (tt : IsTop s t t) (hv : ((v : Nat), none) ∈ ac) (hvt : v ≠ t) (hvl : v < s.length) (q0 : Nat) : climb s q0 n ≠ (v : Int) := by
  intro hq0
  obtain ⟨q, hq⟩ := all_climb wf' K t n hn
  obtain ⟨xt, hxt, hpt⟩ := tt.2
  have same : ∀ r, r ≤ q → climb s' r n = climb s r n := by
    intro r
    induction r with
    | zero => intro _; rfl
    | succ r ih =>
      intro hr
      have e := ih (by omega)
      have hc : ¬ climb s' r n < 0 := fun hc => by
        have := climb_neg (s := s') (j := r) (n := n) hc (q - r)
        rw [show r + (q - r) = q by omega] at this
        omega
      show (if climb s' r n < 0 then -1 else parOf s' (climb s' r n).toNat) = if climb s r n < 0 then -1 else parOf s (climb s r n).toNat
      rw [if_neg hc, ← e, if_neg hc]
      unfold parOf
      cases hw : s[(climb s' r n).toNat]? with
      | none =>
        rw [List.getElem?_eq_none (by rw [h.size]; exact List.getElem?_eq_none_iff.1 hw)]
      | some y =>
        obtain ⟨y', hy', e2 | e2⟩ := h.par _ y hw
        · exfalso
          have h1 : climb s' (r + 1) n = -1 := by
            rw [climb_step (s := s') (e := (climb s' r n).toNat) (by omega)]
            unfold parOf
            rw [hy']
            exact e2.1
          have := climb_neg (s := s') (j := r + 1) (n := n) (by omega) (q - (r + 1))
          rw [show r + 1 + (q - (r + 1)) = q by omega] at this
          omega
        · rw [hy']
          exact e2.2
  rcases Nat.lt_trichotomy q0 q with hlt | heq | hgt
  · have h1 : climb s' q0 n = (v : Int) := by rw [same q0 (by omega)]; exact hq0
    obtain ⟨y, hy⟩ : ∃ y, s[v]? = some y := ⟨_, List.getElem?_eq_getElem hvl⟩
    obtain ⟨y', hy', e2 | e2⟩ := h.par v y hy
    · have h2 : climb s' (q0 + 1) n = -1 := by
        rw [climb_step h1]
        unfold parOf
        rw [hy']
        exact e2.1
      have := climb_neg (s := s') (j := q0 + 1) (n := n) (by omega) (q - (q0 + 1))
      rw [show q0 + 1 + (q - (q0 + 1)) = q by omega] at this
      omega
    · exact e2.1 hv
  · subst heq
    have := same q0 (Nat.le_refl _)
    omega
  · have h1 : climb s q n = (t : Int) := by rw [← same q (Nat.le_refl _)]; exact hq
    have h2 : climb s (q + 1) n = -1 := by
      rw [climb_step h1]
      unfold parOf
      rw [hxt]
      exact hpt
    have := climb_neg (s := s) (j := q + 1) (n := n) (by omega) (q0 - (q + 1))
    rw [show q + 1 + (q0 - (q + 1)) = q0 by omega] at this
    omega
end
end Go.Proofs.YtabogkonklplcaaGreatDoor

namespace Go.Proofs.YtabogkonklplcaaGreatDoor
open Go.RowKit Go.Lib
set_option linter.unusedSimpArgs false
set_option linter.unusedVariables false
section
variable {s s' : List Nd}
theorem text_wh (wf : WF s) {K t n q e : Nat} {x : Nd} (hx : s[n]? = some x) (ht : x.t = true) (hn : n ∈ allF s K t) (he : q + e ≤ x.cs.length) : wh (plF s K t) (n, q + e) = wh (plF s K t) (n, q) + e := by
  have hm : (n, q) ∈ plF s K t := pl_of_all wf K t n q hn (by rw [sizeAt_eq hx, sizeN_text ht]; omega)
  obtain ⟨i, ei, hi⟩ := wh_mem hm
  rw [ei, wh_at (pl_nodup wf K t) (text_run wf hx ht hi e he)]
  omega
theorem text_own (wf : WF s) {K t n r : Nat} {x : Nd} {p : Nat × Nat} (hx : s[n]? = some x) (ht : x.t = true) (hn : n ∈ allF s K t) (h0 : wh (plF s K t) (n, 0) ≤ (r : Int)) (h1 : (r : Int) ≤ wh (plF s K t) (n, x.cs.length)) (hp : (plF s K t)[r]? = some p) : p.1 = n := by
  obtain ⟨i, ei, hi⟩ := wh_mem (pl_of_all wf K t n 0 hn (Nat.zero_le _))
  have e := text_wh wf hx ht hn (q := 0) (e := x.cs.length) (by omega)
  rw [Nat.zero_add] at e
  have := text_run wf hx ht hi (r - i) (by omega)
  rw [show i + (r - i) = r by omega, hp] at this
  cases this
  rfl
theorem range_drop (cs : List ByteArray) (m : Nat) : ∀ k, m + k ≤ cs.length → (List.range k).flatMap (fun q => cs[m + q]?.toList) = (cs.drop m).take k
  | 0, _ => by simp
  | k + 1, h => by
    rw [List.range_succ, List.flatMap_append, range_drop cs m k (by omega), List.take_add_one]
    simp
theorem unC_text {L : List (Nat × Nat)} {i j n lo hi : Nat} (h1 : lo ≤ hi) (h2 : hi ≤ (csOf s n).length) (hc : ∀ q, q < (csOf s n).length → (((i : Int) ≤ wh L (n, q) ∧ wh L (n, q) < j) ↔ (lo ≤ q ∧ q < hi))) : unC s L i j n = (csOf s n).take lo ++ (csOf s n).drop hi := by
  unfold unC
  obtain ⟨N, hN⟩ : ∃ N, (csOf s n).length = N := ⟨_, rfl⟩
  rw [hN] at hc h2 ⊢
  refine Eq.trans (b := (List.range N).flatMap (fun q => if lo ≤ q ∧ q < hi then [] else (csOf s n)[q]?.toList)) (flatMap_same (fun q hq => ?_)) ?_
  · have := hc q (List.mem_range.1 hq)
    by_cases c : lo ≤ q ∧ q < hi
    · rw [if_pos c, if_pos (this.2 c)]
    · rw [if_neg c, if_neg (fun h => c (this.1 h))]
  · obtain ⟨M, hM⟩ : ∃ M, N - hi = M := ⟨_, rfl⟩
    obtain rfl : N = lo + ((hi - lo) + M) := by omega
    rw [flat_range, flat_range]
    have p1 : (List.range lo).flatMap (fun q => if lo ≤ q ∧ q < hi then [] else (csOf s n)[q]?.toList) = (csOf s n).take lo := by
      have := range_drop (csOf s n) 0 lo (by omega)
      rw [List.drop_zero] at this
      rw [← this]
      refine flatMap_same (fun q hq => ?_)
      have := List.mem_range.1 hq
      rw [if_neg (by omega), Nat.zero_add]
    have p2 : (List.range (hi - lo)).flatMap (fun x => if lo ≤ lo + x ∧ lo + x < hi then [] else (csOf s n)[lo + x]?.toList) = [] := by
      rw [List.flatMap_eq_nil_iff]
      intro q hq
      have := List.mem_range.1 hq
      rw [if_pos (by omega)]
    have p3 : (List.range M).flatMap (fun x => if lo ≤ lo + (hi - lo + x) ∧ lo + (hi - lo + x) < hi then [] else (csOf s n)[lo + (hi - lo + x)]?.toList) = (csOf s n).drop hi := by
      have := range_drop (csOf s n) hi M (by omega)
      rw [List.take_of_length_le (by rw [List.length_drop]; omega)] at this
      rw [← this]
      refine flatMap_same (fun q hq => ?_)
      rw [if_neg (by omega), show lo + (hi - lo + q) = hi + q by omega]
    rw [p1, p2, p3, List.nil_append]
theorem unC_elem {L : List (Nat × Nat)} {i j n : Nat} (h : csOf s n = []) : unC s L i j n = [] := by
  unfold unC
  rw [h]
  rfl
theorem cs_size (wf : WF s) (n : Nat) : (csOf s n).length ≤ sizeAt s n := by
  cases hx : s[n]? with
  | none => unfold csOf; rw [hx]; exact Nat.zero_le _
  | some x =>
    rw [csOf_eq hx, sizeAt_eq hx]
    cases ht : x.t with
    | true => rw [sizeN_text ht]; exact Nat.le_refl _
    | false => rw [(wf.elem n x hx).2 ht]; exact Nat.zero_le _
theorem up_leave (wf : WF s) {h : Nat → Nat} {B : Nat} (u : Up s h B) {a b c d t : Nat} (tt : IsTop s t t) : ∀ (M n : Nat), n < s.length → climb s M n = (t : Int) → insB s (plF s (B + 1) t) a b c d n = true → ∃ v q : Nat, climb s q n = (v : Int) ∧ v ∈ leaveF s (plF s (B + 1) t) a b c d (allF s (B + 1) t) := by
  intro M
  induction M with
  | zero =>
    intro n hn hc hi
    exfalso
    obtain rfl : n = t := by simp [climb] at hc; omega
    obtain ⟨x, hx, hp⟩ := tt.2
    rw [insB_top hx (by omega)] at hi
    cases hi
  | succ M ih =>
    intro n hn hc hi
    obtain ⟨x, hx, hp⟩ := insB_par hi
    obtain ⟨j, m, y, hj, hy, hm, _, _⟩ := wf.place hx hp
    have hpar : parOf s n = (j : Int) := by simp [parOf, hx, hj]
    have h1 : climb s 1 n = (j : Int) := by rw [climb_step (j := 0) (e := n) rfl, hpar]
    by_cases hP : insB s (plF s (B + 1) t) a b c d j = true
    · have h2 := climb_add h1 M
      rw [show 1 + M = M + 1 by omega, hc] at h2
      obtain ⟨v, q, hq, hv⟩ := ih j (List.getElem?_eq_some_iff.1 hy).1 h2.symm hP
      exact ⟨v, 1 + q, by rw [climb_add h1 q]; exact hq, hv⟩
    · refine ⟨n, 0, rfl, List.mem_filter.2 ⟨all_of_climb wf u (B + 1) t (by have := u.le t; omega) (M + 1) n hn hc, ?_⟩⟩
      unfold goesB
      rw [hi, hpar]
      simpa using hP
theorem leave_lt (wf : WF s) {L : List (Nat × Nat)} {a b c d v t : Nat} {ns : List Nat} (hv : v ∈ leaveF s L a b c d ns) (tt : IsTop s t t) : v < s.length ∧ v ≠ t := by
  obtain ⟨x, _, j, _, hx, hj, _⟩ := leave_mem wf hv
  refine ⟨(List.getElem?_eq_some_iff.1 hx).1, fun e => ?_⟩
  subst e
  obtain ⟨x', hx', hp⟩ := tt.2
  rw [hx] at hx'
  cases hx'
  omega
section
variable {B a b c d t i j : Nat} {x : Sp} {h : Nat → Nat}
theorem leave_between (wf : WF s) (u : Up s h B) (S : SpAt s B x a b c d t i j) {v : Nat} (hv : v ∈ leaveF s (plF s (B + 1) t) a b c d (allF s (B + 1) t)) {K n k : Nat} (hn : n ∈ allF s K v) (hk : k ≤ sizeAt s n) : (i : Int) < wh (plF s (B + 1) t) (n, k) ∧ wh (plF s (B + 1) t) (n, k) < j := by
  have hvm := (List.mem_filter.1 hv).1
  obtain ⟨xv, y, j', m, hx, hj, hy, hm, hno, hcov⟩ := leave_mem wf hv
  obtain ⟨q, hq⟩ := all_climb wf (B + 1) t v hvm
  have tv : IsTop s v t := ⟨⟨q, hq⟩, S.ta.2⟩
  have tj := tv.par hx hj
  obtain ⟨h1, h2⟩ := sub_between wf u hy hm hn hk tj
  unfold cov at hcov
  rw [Bool.and_eq_true, decide_eq_true_eq, decide_eq_true_eq, wh_at (pl_nodup wf (B + 1) t) S.hi, wh_at (pl_nodup wf (B + 1) t) S.hj] at hcov
  omega
theorem leave_unC (wf : WF s) (u : Up s h B) (S : SpAt s B x a b c d t i j) {v : Nat} (hv : v ∈ leaveF s (plF s (B + 1) t) a b c d (allF s (B + 1) t)) {K n : Nat} (hn : n ∈ allF s K v) : unC s (plF s (B + 1) t) i j n = [] := by
  unfold unC
  rw [List.flatMap_eq_nil_iff]
  intro q hq
  have h1 := List.mem_range.1 hq
  have h2 := cs_size wf n
  have := leave_between wf u S hv hn (k := q) (by omega)
  rw [if_pos (by omega)]
theorem leave_start (wf : WF s) (u : Up s h B) (S : SpAt s B x a b c d t i j) {v : Nat} (hv : v ∈ leaveF s (plF s (B + 1) t) a b c d (allF s (B + 1) t)) (q : Nat) : climb s q a ≠ (v : Int) := by
  intro hq
  have hm := all_of_climb wf u (B + 1) v (by have := u.le v; omega) q a S.ha hq
  have h1 := (leave_between wf u S hv hm S.hb).1
  rw [wh_at (pl_nodup wf (B + 1) t) S.hi] at h1
  omega
theorem fold_none (n : Nat) (cs : List ByteArray) (l : List Nat) : (l.map (fun i => ((i, none) : Dact))).foldl (cutA n) cs = cs := by
  induction l with
  | nil => rfl
  | cons a l ih => rw [List.map_cons, List.foldl_cons]; exact ih
theorem fold_end (n a o e : Nat) (cs : List ByteArray) : (endAct s a o e).foldl (cutA n) cs = if (s[a]?.map (·.t)) = some true ∧ a = n then cs.take o ++ cs.drop (o + (e - o)) else cs := by
  unfold endAct
  by_cases h1 : (s[a]?.map (·.t)) = some true
  · rw [if_pos h1]
    show (if a = n then cs.take o ++ [] ++ cs.drop (o + (e - o)) else cs) = _
    by_cases h2 : a = n
    · rw [if_pos h2, if_pos ⟨h1, h2⟩, List.append_nil]
    · rw [if_neg h2, if_neg (fun h => h2 h.2)]
  · rw [if_neg h1, if_neg (fun h => h1 h.1)]
    rfl
theorem del_cs {fs : List Mvf} (hC : Chgs s (delActs s B a b c d t) s' fs) (n : Nat) : csOf s' n = (endAct s c 0 d).foldl (cutA n) ((endAct s a b (csOf s a).length).foldl (cutA n) (csOf s n)) := by
  rw [hC.cs n]
  unfold delActs
  rw [List.foldl_append, List.foldl_append, fold_none]
theorem keptC_many (wf : WF s) (u : Up s h B) (S : SpAt s B x a b c d t i j) {xa : Nd} (hxa : s[a]? = some xa) (hne : a ≠ c ∨ xa.t = false) {fs : List Mvf} (hC : Chgs s (delActs s B a b c d t) s' fs) (wf' : WF s') {K n : Nat} (hn : n ∈ allF s' K t) : csOf s' n = unC s (plF s (B + 1) t) i j n := by
  have tt := top_self S.ta
  have hnl : n < s.length := all_lt wf K t tt.lt n (hC.sub K t n hn)
  obtain ⟨xn, hxn⟩ : ∃ x, s[n]? = some x := ⟨_, List.getElem?_eq_getElem hnl⟩
  rw [del_cs hC n, fold_end, fold_end]
  cases htn : xn.t with
  | false =>
    have h0 : csOf s n = [] := by rw [csOf_eq hxn]; exact (wf.elem n xn hxn).2 htn
    rw [unC_elem h0, h0]
    simp
  | true =>
    obtain ⟨M, hM⟩ := all_climb wf K t n (hC.sub K t n hn)
    have tn : IsTop s n t := ⟨⟨M, hM⟩, tt.2⟩
    have hnA : n ∈ allF s (B + 1) t := all_of_climb wf u (B + 1) t (by have := u.le t; omega) M n hnl hM
    have hcs : csOf s n = xn.cs := csOf_eq hxn
    have hszn : sizeAt s n = xn.cs.length := (sizeAt_eq hxn).trans (sizeN_text htn)
    have hnd := pl_nodup wf (B + 1) t
    have wi := wh_at hnd S.hi
    have wj := wh_at hnd S.hj
    have run : ∀ q, q ≤ xn.cs.length → wh (plF s (B + 1) t) (n, q) = wh (plF s (B + 1) t) (n, 0) + q := by
      intro q hq
      have := text_wh wf hxn htn hnA (q := 0) (e := q) (by omega)
      rw [Nat.zero_add] at this
      exact this
    have rl := run _ (Nat.le_refl _)
    have hij := S.hij
    by_cases hna : n = a
    · subst hna
      obtain rfl : xa = xn := Option.some.inj (hxa.symm.trans hxn)
      have hac : n ≠ c := by
        rcases hne with e | e
        · exact e
        · rw [htn] at e; cases e
      have hb : b ≤ xa.cs.length := by have := S.hb; omega
      have rb := run b hb
      have hjn : ¬ ((j : Int) ≤ wh (plF s (B + 1) t) (n, xa.cs.length)) := fun e => hac (text_own wf hxn htn hnA (by omega) e S.hj).symm
      rw [if_neg (fun e => hac e.2.symm), if_pos ⟨by rw [hxn]; simp [htn], rfl⟩]
      rw [unC_text (lo := b) (hi := (csOf s n).length) (by rw [hcs]; exact hb) (Nat.le_refl _) (fun q hq => by
        rw [hcs] at hq ⊢
        have := run q (by omega)
        omega)]
      rw [show b + ((csOf s n).length - b) = (csOf s n).length by rw [hcs]; omega]
    · by_cases hnc : n = c
      · subst hnc
        have hd : d ≤ xn.cs.length := by have := S.hd; omega
        have rd := run d hd
        have hin : ¬ (wh (plF s (B + 1) t) (n, 0) ≤ (i : Int)) := fun e => hna (text_own wf hxn htn hnA e (by omega) S.hi).symm
        rw [if_neg (fun e : _ ∧ a = n => hna e.2.symm), if_pos ⟨by rw [hxn]; simp [htn], rfl⟩]
        rw [unC_text (lo := 0) (hi := d) (Nat.zero_le _) (by rw [hcs]; exact hd) (fun q hq => by
          rw [hcs] at hq
          have := run q (by omega)
          omega)]
        rw [show 0 + (d - 0) = d by omega]
      · rw [if_neg (fun e => hnc e.2.symm), if_neg (fun e => hna e.2.symm)]
        rw [unC_text (lo := (csOf s n).length) (hi := (csOf s n).length) (Nat.le_refl _) (Nat.le_refl _) (fun q hq => ?_)]
        · rw [List.take_length, List.drop_length, List.append_nil]
        · refine ⟨fun hcov => ?_, fun e => absurd hq (by omega)⟩
          exfalso
          rw [hcs] at hq
          have rq := run q (by omega)
          have hin : ¬ (wh (plF s (B + 1) t) (n, 0) ≤ (i : Int)) := fun e => hna (text_own wf hxn htn hnA e (by omega) S.hi).symm
          have hjn : ¬ ((j : Int) ≤ wh (plF s (B + 1) t) (n, xn.cs.length)) := fun e => hnc (text_own wf hxn htn hnA (by omega) e S.hj).symm
          have hnt : n ≠ t := fun e => by
            subst e
            have := wh_first (s := s) (k := B) (t := n)
            omega
          have hp : 0 ≤ xn.p := by
            rcases wf.par n xn hxn with e | ⟨i', y, e, _⟩
            · exact absurd ((tn.one (⟨⟨0, rfl⟩, xn, hxn, e⟩ : IsTop s n n)).symm) hnt
            · omega
          obtain ⟨jj, m, y, hj, hy, hm, hno, _⟩ := wf.place hxn hp
          obtain ⟨f1, f2⟩ := kid_next wf hy hm (B + 1) t (pl_of_all wf (B + 1) t n 0 hnA (Nat.zero_le _)) (fun e => hnt e.symm)
          have g1 := wh_infix wf f1
          have g2 := wh_infix wf f2
          rw [hszn] at g2
          have hins : insB s (plF s (B + 1) t) a b c d n = true := by
            rw [insB_at hxn hj hy hm hno]
            unfold cov
            rw [Bool.and_eq_true, decide_eq_true_eq, decide_eq_true_eq]
            omega
          obtain ⟨v, q', hq', hv⟩ := up_leave wf u tt M n hnl hM hins
          obtain ⟨hvl, hvt⟩ := leave_lt wf hv tt
          refine hC.stay wf' hn tt (v := v) ?_ hvt hvl q' hq'
          unfold delActs
          exact List.mem_append_left _ (List.mem_append_right _ (List.mem_map.2 ⟨v, hv, rfl⟩))
theorem keptC_one (wf : WF s) (u : Up s h B) (S : SpAt s B x a b a d t i j) {xa : Nd} (hxa : s[a]? = some xa) (hta : xa.t = true) {f : Mvf} (hC : Chg s (a, some (b, d)) s' f) {K n : Nat} (hn : n ∈ allF s' K t) : csOf s' n = unC s (plF s (B + 1) t) i j n := by
  have tt := top_self S.ta
  have hnl : n < s.length := all_lt wf K t tt.lt n (hC.sub K t n hn)
  obtain ⟨M, hM⟩ := S.ta.1
  have haA : a ∈ allF s (B + 1) t := all_of_climb wf u (B + 1) t (by have := u.le t; omega) M a S.ha hM
  have hnd := pl_nodup wf (B + 1) t
  have wi := wh_at hnd S.hi
  have wj := wh_at hnd S.hj
  have hsza : sizeAt s a = xa.cs.length := (sizeAt_eq hxa).trans (sizeN_text hta)
  have hb := S.hb
  have hd := S.hd
  have hij := S.hij
  have hcs : csOf s a = xa.cs := csOf_eq hxa
  have run : ∀ q, q ≤ xa.cs.length → wh (plF s (B + 1) t) (a, q) = wh (plF s (B + 1) t) (a, 0) + q := by
    intro q hq
    have := text_wh wf hxa hta haA (q := 0) (e := q) (by omega)
    rw [Nat.zero_add] at this
    exact this
  have rb := run b (by omega)
  have rd := run d (by omega)
  have rl := run _ (Nat.le_refl _)
  rw [hC.cs n]
  show (if a = n then (csOf s n).take b ++ [] ++ (csOf s n).drop (b + (d - b)) else csOf s n) = _
  by_cases hna : a = n
  · subst hna
    rw [if_pos rfl, unC_text (lo := b) (hi := d) (by omega) (by rw [hcs]; omega) (fun q hq => by
      rw [hcs] at hq
      have := run q (by omega)
      omega), List.append_nil, show b + (d - b) = d by omega]
  · rw [if_neg hna]
    obtain ⟨xn, hxn⟩ : ∃ x, s[n]? = some x := ⟨_, List.getElem?_eq_getElem hnl⟩
    obtain ⟨M', hM'⟩ := all_climb wf K t n (hC.sub K t n hn)
    have hnA : n ∈ allF s (B + 1) t := all_of_climb wf u (B + 1) t (by have := u.le t; omega) M' n hnl hM'
    rw [unC_text (lo := (csOf s n).length) (hi := (csOf s n).length) (Nat.le_refl _) (Nat.le_refl _) (fun q hq => ?_)]
    · rw [List.take_length, List.drop_length, List.append_nil]
    · refine ⟨fun hcov => ?_, fun e => absurd hq (by omega)⟩
      exfalso
      have hsz := cs_size wf n
      obtain ⟨r, er, hr⟩ := wh_mem (pl_of_all wf (B + 1) t n q hnA (by omega))
      exact hna (text_own wf hxa hta haA (by omega) (by omega) hr).symm
theorem gone_facts (wf : WF s) (u : Up s h B) (S : SpAt s B x a b c d t i j) {f : Mvf} {jp jq : Int} (R : DelR s x B s' f jp jq) (wf' : WF s') {h' : Nat → Nat} {B' : Nat} (u' : Up s' h' B') :
    allC s' B' t = readR s (plF s (B + 1) t) 0 i ++ readR s (plF s (B + 1) t) j ((plF s (B + 1) t).length - 1 - j) ∧ ∃ p : Nat, jp = p ∧ IsTop s' p t := by
  have tt := top_self S.ta
  have hjl : j < (plF s (B + 1) t).length := (List.getElem?_eq_some_iff.1 S.hj).1
  rw [head_tail wf tt.lt S.hij hjl]
  have fin : ∀ {ac : List Dact} {fs : List Mvf}, Chgs s ac s' fs → (∀ v, (v, none) ∈ ac → v ∈ leaveF s (plF s (B + 1) t) a b c d (allF s (B + 1) t)) → (∀ K n, n ∈ allF s' K t → csOf s' n = unC s (plF s (B + 1) t) i j n) → allC s' B' t = (allF s (B + 1) t).flatMap (unC s (plF s (B + 1) t) i j) := by
    intro ac fs hC hac hk
    have tt' : IsTop s' t t := hC.top tt (fun v hv q => by
      intro hq
      obtain ⟨M, hM⟩ := S.ta.1
      exact leave_start wf u S (hac v hv) (M + q) (by rw [climb_add hM q]; exact hq))
    rw [allC_txt wf' u' tt'.lt tt', txt_stable wf' u' (k' := B + B' + 2) (by have := u'.le t; omega) (by have := u'.le t; omega)]
    unfold txtF
    rw [flatMap_same (fun n hn => hk _ n hn), hC.flat (fun v hv K n hn => leave_unC wf u S (hac v hv) hn), all_stable wf u (B + B' + 2) (B + 1) t (by have := u.le t; omega) (by have := u.le t; omega)]
  rcases R with ⟨a1, b1, d1, xa, f1, e, hxa, hta, _, _, hC, _, hjp, _⟩ | ⟨a1, b1, c1, d1, t1, xa, fs, e, hxa, hne, ta, tc, hC, _, hJ⟩
  · have e2 := S.eq
    rw [e] at e2
    simp only [Sp.mk.injEq, Int.natCast_inj] at e2
    obtain ⟨rfl, rfl, rfl, rfl⟩ := e2
    have hCs : Chgs s [(a1, some (b1, d1))] s' [f1] := .cons hC .nil
    refine ⟨fin hCs (fun v hv => by simp at hv) (fun K n hn => keptC_one wf u S hxa hta hC hn), a1, hjp, hCs.top S.ta (fun v hv => by simp at hv)⟩
  · have e2 := S.eq
    rw [e] at e2
    simp only [Sp.mk.injEq, Int.natCast_inj] at e2
    obtain ⟨rfl, rfl, rfl, rfl⟩ := e2
    obtain rfl := ta.one S.ta
    have hac : ∀ v, ((v : Nat), none) ∈ delActs s B a1 b1 c1 d1 t1 → v ∈ leaveF s (plF s (B + 1) t1) a1 b1 c1 d1 (allF s (B + 1) t1) := by
      intro v hv
      unfold delActs at hv
      have hend : ∀ (n o e : Nat), ((v : Nat), none) ∉ endAct s n o e := by
        intro n o e hm
        unfold endAct at hm
        split at hm <;> simp at hm
      rcases List.mem_append.1 hv with hv | hv
      · rcases List.mem_append.1 hv with hv | hv
        · exact absurd hv (hend _ _ _)
        · obtain ⟨w, hw, e⟩ := List.mem_map.1 hv
          simp at e
          rw [← e]
          exact hw
      · exact absurd hv (hend _ _ _)
    refine ⟨fin hC hac (fun K n hn => keptC_many wf u S hxa hne hC wf' hn), ?_⟩
    rcases hJ with ⟨_, hjp, _⟩ | ⟨_, q, n, p, m, xj, yj, hJ, hjp, _⟩
    · exact ⟨a1, hjp, hC.top S.ta (fun v hv q => leave_start wf u S (hac v hv) q)⟩
    · have hp : climb s (q + 1) a1 = (p : Int) := by rw [climb_step hJ.last]; simp [parOf, hJ.hx, hJ.hp]
      refine ⟨p, hjp, hC.top (S.ta.climb hp) (fun v hv q' hq' => ?_)⟩
      exact leave_start wf u S (hac v hv) (q + 1 + q') (by rw [climb_add hp q']; exact hq')
theorem readR_add (s : List Nd) (L : List (Nat × Nat)) (i m k : Nat) : readR s L i (m + k) = readR s L i m ++ readR s L (i + m) k := by
  unfold readR
  rw [flat_range]
  congr 1
  exact flatMap_same (fun q _ => by rw [Nat.add_assoc])
theorem all_three (S : SpAt s B x a b c d t i j) : allC s B t = readR s (plF s (B + 1) t) 0 i ++ readR s (plF s (B + 1) t) i (j - i) ++ readR s (plF s (B + 1) t) j ((plF s (B + 1) t).length - 1 - j) := by
  have hjl : j < (plF s (B + 1) t).length := (List.getElem?_eq_some_iff.1 S.hj).1
  have hij := S.hij
  unfold allC
  have e : (plF s (B + 1) t).length - 1 = i + (j - i) + ((plF s (B + 1) t).length - 1 - j) := by omega
  conv => lhs; rw [e]
  rw [readR_add, readR_add, Nat.zero_add, Nat.zero_add, show i + (j - i) = j by omega]
end
end
end Go.Proofs.YtabogkonklplcaaGreatDoor

namespace Go.Proofs.YtabogkonklplcaaGreatDoor
open Go.RowKit Go.Lib
set_option linter.unusedSimpArgs false
set_option linter.unusedVariables false
section
variable {s : List Nd} {rs : List Sp} {w0 : World} {bw bx : Nat} {N : Int}
theorem pl_zero {k t : Nat} : (plF s (k + 1) t)[0]? = some (t, 0) := by
  obtain ⟨r, e⟩ := pl_first (s := s) (k := k) (t := t)
  rw [e]
  rfl
theorem pl_end (wf : WF s) {k t : Nat} (ht : t < s.length) : (plF s (k + 1) t)[(plF s (k + 1) t).length - 1]? = some (t, sizeAt s t) := by
  obtain ⟨l, e⟩ := pl_last wf (k := k) ht
  rw [e]
  simp
theorem sp_set' {r : Nat} {z : Sp} (h : ∀ z ∈ rs, SpIs s z) (hz : SpIs s z) : ∀ y ∈ rs.set r z, SpIs s y := by
  intro y hy
  rcases List.mem_or_eq_of_mem_set hy with hy | rfl
  · exact h y hy
  · exact hz
theorem csC_len (wf : WF s) (n : Nat) : (csOf s n).length ≤ 30 ∧ ∀ c ∈ csOf s n, IsCh c := by
  cases hx : s[n]? with
  | none =>
    unfold csOf
    rw [hx]
    exact ⟨Nat.zero_le _, fun c hc => by cases hc⟩
  | some x => rw [csOf_eq hx]; exact wf.chars n x hx
theorem flatC_len (wf : WF s) (l : List Nat) : (l.flatMap (csOf s)).length ≤ 30 * l.length := by
  induction l with
  | nil => exact Nat.zero_le _
  | cons a l ih =>
    rw [List.flatMap_cons, List.length_append, List.length_cons]
    have := (csC_len wf a).1
    omega
theorem txt_size (wf : WF s) (k : Nat) {t : Nat} (ht : t < s.length) : (catB (txtF s k t)).size ≤ 4800 := by
  have h1 := cat_size (txtF s k t) (fun c hc => by
    obtain ⟨n, _, hc⟩ := List.mem_flatMap.1 hc
    exact (csC_len wf n).2 c hc)
  have h2 := flatC_len wf (allF s k t)
  have h3 := all_length wf k t ht
  unfold txtF at h1
  unfold txtF
  omega
theorem gone_calls (hg : GG w0) (wf : WF s) {hh : Nat → Nat} {B : Nat} (u : Up s hh B) (hlen : rs.length = 2) (sp : ∀ z ∈ rs, SpIs s z) {a b c d t i j : Nat} (S : SpAt s B ⟨a, b, c, d⟩ a b c d t i j) (hN : N = (s.length : Int)) :
    ∃ (h m tl : ByteArray) (te : Int) (rs1 rs2 rs4 rs5 rs6 : List Sp) (s' : List Nd) (rs7 rs8 : List Sp) (jp jq : Nat), h.size + m.size + tl.size ≤ 4800 ∧
      (∀ (F' : Nat → Prop) (W : World), Desk w0 F' W bw bx N 2 ⟨s, rs⟩ → Calls Tryz.prog 29 #[ptr bw, .int .i64 1, .agg #[.int .i64 (a : Int), .int .i64 (b : Int)]] W fun e w' => e = .returned (.tuple #[.string (h ++ m ++ tl), .bool true]) ∧ Keeps F' W w' ∧ Desk w0 (grow F' W) w' bw bx N 2 ⟨s, rs1⟩) ∧
      (∀ (F' : Nat → Prop) (W : World), Desk w0 F' W bw bx N 2 ⟨s, rs1⟩ → Calls Tryz.prog 36 #[ptr bx, .int .i64 1] W (PLPost F' W bx ⟨s, rs1⟩ (.tuple #[spV ⟨(t : Int), 0, (t : Int), te⟩, .nilIface]))) ∧
      (∀ (F' : Nat → Prop) (W : World), Desk w0 F' W bw bx N 2 ⟨s, rs1⟩ → Calls Tryz.prog 32 #[ptr bx, .int .i64 1, .agg #[.int .i64 (a : Int), .int .i64 (b : Int)]] W (PLPost F' W bx ⟨s, rs2⟩ .nilIface)) ∧
      (∀ (F' : Nat → Prop) (W : World), Desk w0 F' W bw bx N 2 ⟨s, rs2⟩ → Calls Tryz.prog 33 #[ptr bx, .int .i64 1] W (PLPost F' W bx ⟨s, rs2⟩ (.tuple #[.string h, .nilIface]))) ∧
      (∀ (F' : Nat → Prop) (W : World), Desk w0 F' W bw bx N 2 ⟨s, rs2⟩ → Calls Tryz.prog 32 #[ptr bx, .int .i64 1, .agg #[.int .i64 (t : Int), .int .i64 te]] W (PLPost F' W bx ⟨s, rs1⟩ .nilIface)) ∧
      (∀ (F' : Nat → Prop) (W : World), Desk w0 F' W bw bx N 2 ⟨s, rs1⟩ → Calls Tryz.prog 31 #[ptr bx, .int .i64 1, .agg #[.int .i64 (c : Int), .int .i64 (d : Int)]] W (PLPost F' W bx ⟨s, rs4⟩ .nilIface)) ∧
      (∀ (F' : Nat → Prop) (W : World), Desk w0 F' W bw bx N 2 ⟨s, rs4⟩ → Calls Tryz.prog 33 #[ptr bx, .int .i64 1] W (PLPost F' W bx ⟨s, rs4⟩ (.tuple #[.string tl, .nilIface]))) ∧
      (∀ (F' : Nat → Prop) (W : World), Desk w0 F' W bw bx N 2 ⟨s, rs4⟩ → Calls Tryz.prog 31 #[ptr bx, .int .i64 0, .agg #[.int .i64 (a : Int), .int .i64 (b : Int)]] W (PLPost F' W bx ⟨s, rs5⟩ .nilIface)) ∧
      (∀ (F' : Nat → Prop) (W : World), Desk w0 F' W bw bx N 2 ⟨s, rs5⟩ → Calls Tryz.prog 32 #[ptr bx, .int .i64 0, .agg #[.int .i64 (c : Int), .int .i64 (d : Int)]] W (PLPost F' W bx ⟨s, rs6⟩ .nilIface)) ∧
      (∀ (F' : Nat → Prop) (W : World), Desk w0 F' W bw bx N 2 ⟨s, rs6⟩ → Calls Tryz.prog 33 #[ptr bx, .int .i64 0] W (PLPost F' W bx ⟨s, rs6⟩ (.tuple #[.string m, .nilIface]))) ∧
      (∀ (F' : Nat → Prop) (W : World), Desk w0 F' W bw bx N 2 ⟨s, rs6⟩ → Calls Tryz.prog 37 #[ptr bx, .int .i64 0] W (PLPost F' W bx ⟨s', rs7⟩ .nilIface)) ∧
      (∀ (F' : Nat → Prop) (W : World), Desk w0 F' W bw bx N 2 ⟨s', rs7⟩ → Calls Tryz.prog 33 #[ptr bx, .int .i64 0] W (PLPost F' W bx ⟨s', rs7⟩ (.tuple #[.string ⟨#[]⟩, .nilIface]))) ∧
      (∀ (F' : Nat → Prop) (W : World), Desk w0 F' W bw bx N 2 ⟨s', rs7⟩ → Calls Tryz.prog 36 #[ptr bx, .int .i64 0] W (PLPost F' W bx ⟨s', rs7⟩ (.tuple #[spV ⟨(jp : Int), (jq : Int), (jp : Int), (jq : Int)⟩, .nilIface]))) ∧
      (∀ (F' : Nat → Prop) (W : World), Desk w0 F' W bw bx N 2 ⟨s', rs7⟩ → Calls Tryz.prog 29 #[ptr bw, .int .i64 1, .agg #[.int .i64 (jp : Int), .int .i64 (jq : Int)]] W fun e w' => e = .returned (.tuple #[.string (h ++ tl), .bool true]) ∧ Keeps F' W w' ∧ Desk w0 (grow F' W) w' bw bx N 2 ⟨s', rs8⟩) := by
  subst hN
  have tt := top_self S.ta
  have htl := tt.lt
  have hnd := pl_nodup wf (B + 1) t
  have wi := wh_at hnd S.hi
  have wj := wh_at hnd S.hj
  have hij := S.hij
  have hjl : j < (plF s (B + 1) t).length := (List.getElem?_eq_some_iff.1 S.hj).1
  have w0' : wh (plF s (B + 1) t) (t, 0) = 0 := wh_first
  have we := wh_at hnd (pl_end wf (k := B) htl)
  have nil0 : errV 0 0 = .nilIface := by simp [errV]
  obtain ⟨r1, hr1⟩ : ∃ x, rs[1]? = some x := ⟨_, List.getElem?_eq_getElem (by omega)⟩
  -- the whole tree
  obtain ⟨rs1, e1⟩ : ∃ q, rs.set 1 ⟨t, ((0 : Nat) : Int), t, (sizeAt s t : Int)⟩ = q := ⟨_, rfl⟩
  have l1 : rs1.length = 2 := by rw [← e1, List.length_set]; exact hlen
  have x1 : rs1[1]? = some ⟨t, ((0 : Nat) : Int), t, (sizeAt s t : Int)⟩ := by rw [← e1, List.getElem?_set_self (by omega)]
  have sp1 : ∀ z ∈ rs1, SpIs s z := by rw [← e1]; exact sp_set' sp (spIs_in wf htl (Nat.zero_le _) (Nat.le_refl _))
  -- ahead
  obtain ⟨z2, _, _, hz2, d2, C2⟩ := pend_ok spIs_lives wf u (by omega) sp1 1 a b _ x1 S.ha S.hb
  have q2 := d2 t 0 t rfl rfl S.ta tt (by omega)
  subst q2
  obtain ⟨rs2, e2⟩ : ∃ q, rs1.set 1 ⟨t, ((0 : Nat) : Int), a, b⟩ = q := ⟨_, rfl⟩
  have l2 : rs2.length = 2 := by rw [← e2, List.length_set]; exact l1
  have x2 : rs2[1]? = some ⟨t, ((0 : Nat) : Int), a, b⟩ := by rw [← e2, List.getElem?_set_self (by omega)]
  have sp2 : ∀ z ∈ rs2, SpIs s z := by rw [← e2]; exact sp_set' sp1 hz2
  have S2 : SpAt s B ⟨t, ((0 : Nat) : Int), a, b⟩ t 0 a b t 0 i := ⟨rfl, htl, S.ha, tt, S.ta, Nat.zero_le _, S.hb, pl_zero, S.hi, Nat.zero_le _⟩
  -- the end again
  obtain ⟨z3, _, _, hz3, d3, C3⟩ := pend_ok spIs_lives wf u (by omega) sp2 1 t (sizeAt s t) _ x2 htl (Nat.le_refl _)
  have q3 := d3 t 0 t rfl rfl tt tt (by omega)
  subst q3
  have e3 : rs2.set 1 ⟨t, ((0 : Nat) : Int), t, (sizeAt s t : Int)⟩ = rs1 := by rw [← e2, List.set_set, ← e1, List.set_set]
  -- behind
  obtain ⟨z4, _, _, hz4, d4, C4⟩ := pstart_ok spIs_lives wf u (by omega) sp1 1 c d _ x1 S.hc S.hd
  have q4 := d4 t (sizeAt s t) t rfl rfl S.tc tt (by omega)
  subst q4
  obtain ⟨rs4, e4⟩ : ∃ q, rs1.set 1 ⟨c, d, t, (sizeAt s t : Int)⟩ = q := ⟨_, rfl⟩
  have l4 : rs4.length = 2 := by rw [← e4, List.length_set]; exact l1
  have x4 : rs4[1]? = some ⟨c, d, t, (sizeAt s t : Int)⟩ := by rw [← e4, List.getElem?_set_self (by omega)]
  have sp4 : ∀ z ∈ rs4, SpIs s z := by rw [← e4]; exact sp_set' sp1 hz4
  have S4 : SpAt s B ⟨c, d, t, (sizeAt s t : Int)⟩ c d t (sizeAt s t) t j ((plF s (B + 1) t).length - 1) := ⟨rfl, S.hc, htl, S.tc, tt, S.hd, Nat.le_refl _, S.hj, pl_end wf htl, by omega⟩
  -- the range
  obtain ⟨r4, hr4⟩ : ∃ x, rs4[0]? = some x := ⟨_, List.getElem?_eq_getElem (by omega)⟩
  obtain ⟨⟨za, zb, zc, zd⟩, hza, hzb, hz5, _, C5⟩ := pstart_ok spIs_lives wf u (by omega) sp4 0 a b r4 hr4 S.ha S.hb
  obtain rfl : za = (a : Int) := hza
  obtain rfl : zb = (b : Int) := hzb
  obtain ⟨rs5, e5⟩ : ∃ q, rs4.set 0 ⟨a, b, zc, zd⟩ = q := ⟨_, rfl⟩
  have l5 : rs5.length = 2 := by rw [← e5, List.length_set]; exact l4
  have x5 : rs5[0]? = some ⟨a, b, zc, zd⟩ := by rw [← e5, List.getElem?_set_self (by omega)]
  have sp5 : ∀ z ∈ rs5, SpIs s z := by rw [← e5]; exact sp_set' sp4 hz5
  obtain ⟨z6, _, _, hz6, d6, C6⟩ := pend_ok spIs_lives wf u (by omega) sp5 0 c d _ x5 S.hc S.hd
  have q6 := d6 a b t rfl rfl S.tc S.ta (by omega)
  subst q6
  obtain ⟨rs6, e6⟩ : ∃ q, rs5.set 0 ⟨(a : Int), b, c, d⟩ = q := ⟨_, rfl⟩
  have l6 : rs6.length = 2 := by rw [← e6, List.length_set]; exact l5
  have x6 : rs6[0]? = some ⟨(a : Int), b, c, d⟩ := by rw [← e6, List.getElem?_set_self (by omega)]
  have sp6 : ∀ z ∈ rs6, SpIs s z := by rw [← e6]; exact sp_set' sp5 hz6
  -- Delete
  obtain ⟨s', f, jp', jq', wf', hl', R, hlv, hpl, C7⟩ := pdelete_ok wf u rs6 (by omega) sp6 0 _ x6
  obtain ⟨h2, B', u'⟩ := wf'.up
  obtain ⟨hall, jp, rfl, tp⟩ := gone_facts wf u S R wf' u'
  have hpl2 := hpl
  obtain ⟨jp2, jq, ejp, rfl, hpn, hpk⟩ := hpl2
  obtain rfl : jp = jp2 := by omega
  obtain ⟨rs7, e7⟩ : ∃ q, (rs6.map (mvSp f)).set 0 ⟨(jp : Int), (jq : Int), (jp : Int), (jq : Int)⟩ = q := ⟨_, rfl⟩
  have l7 : rs7.length = 2 := by rw [← e7, List.length_set, List.length_map]; exact l6
  have x7 : rs7[0]? = some ⟨(jp : Int), (jq : Int), (jp : Int), (jq : Int)⟩ := by rw [← e7, List.getElem?_set_self (by rw [List.length_map]; omega)]
  have sp7 : ∀ z ∈ rs7, SpIs s' z := by rw [← e7]; exact sp_set' (mapV sp6 hlv) (spIs_one wf' hpl)
  obtain ⟨wy, hwy⟩ := way_there wf' tp hpn
  obtain ⟨i', _, hi'⟩ := wh_mem (way_pl wf' u' hwy hpk)
  have S7 : SpAt s' B' ⟨(jp : Int), (jq : Int), (jp : Int), (jq : Int)⟩ jp jq jp jq t i' i' := ⟨rfl, hpn, hpn, tp, tp, hpk, hpk, hi', hi', Nat.le_refl _⟩
  obtain ⟨r7, hr7⟩ : ∃ x, rs7[1]? = some x := ⟨_, List.getElem?_eq_getElem (by omega)⟩
  refine ⟨catB (readR s (plF s (B + 1) t) 0 i), catB (readR s (plF s (B + 1) t) i (j - i)), catB (readR s (plF s (B + 1) t) j ((plF s (B + 1) t).length - 1 - j)), (sizeAt s t : Int), rs1, rs2, rs4, rs5, rs6, s', rs7, rs7.set 1 ⟨t, 0, t, (sizeAt s' t : Int)⟩, jp, jq, ?_⟩
  refine ⟨?_, fun F' W h => ?_, fun F' W h => ?_, fun F' W h => ?_, fun F' W h => ?_, fun F' W h => ?_, fun F' W h => ?_, fun F' W h => ?_, fun F' W h => ?_, fun F' W h => ?_, fun F' W h => ?_, fun F' W h => ?_, fun F' W h => ?_, fun F' W h => ?_, fun F' W h => ?_⟩
  · have h1 := txt_size wf (B + 1) htl
    rw [← allC_txt wf u htl tt, all_three S, catB_append, catB_append] at h1
    simp only [ByteArray.size_append] at h1
    exact h1
  · have := whole_at hg wf u (by omega) sp s.length (Nat.le_refl _) h 1 r1 hr1 a b t S.ha S.hb S.ta htl
    rw [all_three S, catB_append, catB_append] at this
    rw [← e1]
    exact this
  · exact pspan_ok (h.gg hg) h.doc 1 _ x1
  · have := C2 W F' bx (h.gg hg) h.doc
    rw [nil0, e2] at this
    exact this
  · have := pread_yes wf u 1 t 0 a b t 0 i _ x2 S2 W F' bx (h.gg hg) h.doc
    rw [nil0] at this
    exact this
  · have := C3 W F' bx (h.gg hg) h.doc
    rw [nil0, e3] at this
    exact this
  · have := C4 W F' bx (h.gg hg) h.doc
    rw [nil0, e4] at this
    exact this
  · have := pread_yes wf u 1 c d t (sizeAt s t) t j ((plF s (B + 1) t).length - 1) _ x4 S4 W F' bx (h.gg hg) h.doc
    rw [nil0] at this
    exact this
  · have := C5 W F' bx (h.gg hg) h.doc
    rw [nil0, e5] at this
    exact this
  · have := C6 W F' bx (h.gg hg) h.doc
    rw [nil0, e6] at this
    exact this
  · have := pread_yes wf u 0 a b c d t i j _ x6 S W F' bx (h.gg hg) h.doc
    rw [nil0] at this
    exact this
  · have := C7 W F' bx (h.gg hg) h.doc
    rw [nil0, e7] at this
    exact this
  · have := pread_yes wf' u' 0 jp jq jp jq t i' i' _ x7 S7 W F' bx (h.gg hg) h.doc
    rw [nil0, Nat.sub_self] at this
    exact this
  · exact pspan_ok (h.gg hg) h.doc 0 _ x7
  · have := whole_at hg wf' u' (by omega) sp7 s.length (by omega) h 1 r7 hr7 jp jq t hpn hpk tp htl
    rw [hall, catB_append] at this
    exact this
end
end Go.Proofs.YtabogkonklplcaaGreatDoor

namespace Go.Proofs.YtabogkonklplcaaGreatDoor
open Go.RowKit
set_option linter.unusedSimpArgs false
set_option linter.unusedVariables false
theorem DeskO.setOwn {w0 w : World} {F : Nat → Prop} {bw bx b : Nat} {n mine : Int} {st : St} {l : List (Nat × Obj)} {c : Array Value} {t : TypeId} (h : DeskO w0 F w bw bx n mine st ((b, .cells c t (0, 0)) :: l)) (hb : w0.heap.size ≤ b) (hne : ∀ p ∈ l, p.1 ≠ b) (hbw : b ≠ bw) (k : Nat) (v : Value) :
    DeskO w0 F (w.setCell ⟨b, k, none⟩ v) bw bx n mine st ((b, .cells (c.setIfInBounds k v) t (0, 0)) :: l) := by
  have hk : Keeps (fun x => x = b) w (w.setCell ⟨b, k, none⟩ v) := (Keeps.refl (fun x => x = b) w).setCell (p := ⟨b, k, none⟩) (.inl rfl) v
  have h0 := h.own _ (.head _)
  refine ⟨h.desk.keeps hk (fun x hx e => h0.2 (e ▸ hx)) (fun e => hbw e.symm) (fun x e => by omega), fun p hp => ?_⟩
  rcases List.mem_cons.1 hp with rfl | hp
  · exact ⟨heap_setCell_same w b k c t v h0.1, h0.2⟩
  · have h1 := h.own p (.tail _ hp)
    exact ⟨(Below.heap_setCell w ⟨b, k, none⟩ v p.1 (hne p hp)).trans h1.1, h1.2⟩
theorem DeskO.swap {w0 w : World} {F : Nat → Prop} {bw bx : Nat} {n mine : Int} {st : St} {l : List (Nat × Obj)} {x y : Nat × Obj} (h : DeskO w0 F w bw bx n mine st (x :: y :: l)) : DeskO w0 F w bw bx n mine st (y :: x :: l) :=
  ⟨h.desk, fun p hp => h.own p (by
    rcases List.mem_cons.1 hp with rfl | hp
    · exact .tail _ (.head _)
    · rcases List.mem_cons.1 hp with rfl | hp
      · exact .head _
      · exact .tail _ (.tail _ hp))⟩
theorem DeskO.ne2 {w0 w : World} {F : Nat → Prop} {bw bx b : Nat} {n mine : Int} {st : St} {l : List (Nat × Obj)} {x y : Value} {t : TypeId} (h : DeskO w0 F w bw bx n mine st l) (hm : (b, .cells #[x, y] t (0, 0)) ∈ l) : b ≠ bw := fun e => by
  have h1 := (h.own _ hm).1
  simp only at h1
  rw [e, h.desk.at_] at h1
  simp at h1
theorem DeskO.put {w0 w : World} {F : Nat → Prop} {bw bx b b2 : Nat} {n mine : Int} {st : St} {o : Obj} {x y : Value} {t : TypeId} (h : DeskO w0 F w bw bx n mine st [(b, .cells #[x, y] t (0, 0)), (b2, o)]) (hb : w0.heap.size ≤ b) (hne : b2 ≠ b) (x' y' : Value) :
    DeskO w0 F (w.setCell ⟨b, 0, none⟩ x') bw bx n mine st [(b, .cells #[x', y] t (0, 0)), (b2, o)] ∧ DeskO w0 F ((w.setCell ⟨b, 0, none⟩ x').setCell ⟨b, 1, none⟩ y') bw bx n mine st [(b, .cells #[x', y'] t (0, 0)), (b2, o)] := by
  have hn : ∀ p ∈ [(b2, o)], p.1 ≠ b := fun p hp => by
    rcases List.mem_cons.1 hp with rfl | hp
    · exact hne
    · cases hp
  have hw := h.ne2 (.head _)
  have h1 := h.setOwn hb hn hw 0 x'
  have h2 := h1.setOwn hb hn hw 1 y'
  exact ⟨h1, h2⟩
theorem DeskO.take2 {w0 w : World} {F : Nat → Prop} {bw bx : Nat} {n mine : Int} {st : St} {l : List (Nat × Obj)} {x y : Nat × Obj} (h : DeskO w0 F w bw bx n mine st (x :: y :: l)) : DeskO w0 F w bw bx n mine st [x, y] :=
  ⟨h.desk, fun p hp => h.own p (by
    rcases List.mem_cons.1 hp with rfl | hp
    · exact .head _
    · rcases List.mem_cons.1 hp with rfl | hp
      · exact .tail _ (.head _)
      · cases hp)⟩
theorem spAt_of {s : List Nd} (wf : WF s) {h : Nat → Nat} {B : Nat} (u : Up s h B) {a b c d t : Nat} (ha : a < s.length) (hb : b ≤ sizeAt s a) (hc : c < s.length) (hd : d ≤ sizeAt s c) (ta : IsTop s a t) (tc : IsTop s c t) (hle : wh (plF s (B + 1) t) (a, b) ≤ wh (plF s (B + 1) t) (c, d)) : ∃ i j, SpAt s B ⟨a, b, c, d⟩ a b c d t i j := by
  obtain ⟨l, wl⟩ := way_there wf ta ha
  obtain ⟨l2, wl2⟩ := way_there wf tc hc
  obtain ⟨i, ei, hi⟩ := wh_mem (way_pl wf u wl hb)
  obtain ⟨j, ej, hj⟩ := wh_mem (way_pl wf u wl2 hd)
  exact ⟨i, j, rfl, ha, hc, ta, tc, hb, hd, hi, hj, by omega⟩
theorem cmp_cases {s : List Nd} (wf : WF s) {h : Nat → Nat} {B : Nat} (u : Up s h B) {a b c d : Nat} (ha : a < s.length) (hb : b ≤ sizeAt s a) (hc : c < s.length) (hd : d ≤ sizeAt s c) {v : Int} {ev : Value} (C : CmpIs s B a b c d v ev) :
    (Flt ev ∧ ∃ t i j, SpAt s B ⟨a, b, a, b⟩ a b a b t i j) ∨ (ev = .nilIface ∧ 0 < v ∧ ∃ t i j, SpAt s B ⟨c, d, a, b⟩ c d a b t i j) ∨ (ev = .nilIface ∧ ¬ 0 < v ∧ ∃ t i j, SpAt s B ⟨a, b, c, d⟩ a b c d t i j) := by
  obtain ⟨t, ta⟩ := top_there wf a ha
  obtain ⟨t2, tc⟩ := top_there wf c hc
  by_cases e : t = t2
  · subst e
    obtain ⟨h1, h2⟩ := C.same ta tc
    by_cases hlt : wh (plF s (B + 1) t) (c, d) < wh (plF s (B + 1) t) (a, b)
    · rw [if_neg (by omega), if_pos hlt] at h2
      exact .inr (.inl ⟨h1, by omega, t, spAt_of wf u hc hd ha hb tc ta (by omega)⟩)
    · refine .inr (.inr ⟨h1, ?_, t, spAt_of wf u ha hb hc hd ta tc (by omega)⟩)
      rw [if_neg hlt] at h2
      split at h2 <;> omega
  · exact .inl ⟨(C.other ta tc e).2, t, spAt_of wf u ha hb ha hb ta ta (Int.le_refl _)⟩
end Go.Proofs.YtabogkonklplcaaGreatDoor
