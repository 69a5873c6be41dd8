import Derived.Test.YtabogkonklplcaaGreatDoorK27
import Derived.Test.YtabogkonklplcaaGreatDoorK25
import Derived.Test.YtabogkonklplcaaGreatDoorK19
import Derived.Test.YtabogkonklplcaaGreatDoorK15
import Derived.Test.YtabogkonklplcaaGreatDoorK22
import Derived.Test.YtabogkonklplcaaGreatDoorK13
import Derived.Test.YtabogkonklplcaaGreatDoorK09
import Derived.Test.YtabogkonklplcaaGreatDoorK16
import Derived.Test.YtabogkonklplcaaGreatDoorK23
import Derived.Test.YtabogkonklplcaaGreatDoorK10
import Derived.Test.YtabogkonklplcaaGreatDoorK28
import Derived.Test.YtabogkonklplcaaGreatDoorK18

namespace Go.Proofs.YtabogkonklplcaaGreatDoor
set_option linter.unusedSimpArgs false
set_option linter.unusedVariables false
abbrev Dact : Type := Nat × Option (Nat × Nat)
inductive Chg : List Nd → Dact → List Nd → Mvf → Prop
  | cut {s : List Nd} {n o e : Nat} {x : Nd} : s[n]? = some x → x.t = true → o ≤ e → e ≤ x.cs.length →
      Chg s (n, some (o, e)) (s.set n { x with cs := x.cs.take o ++ [] ++ x.cs.drop (o + (e - o)) }) (resizeF n o ((e - o : Nat) : Int) (([] : List ByteArray).length : Int))
  | rem {s : List Nd} {i j m : Nat} {x y : Nd} {h2 : Nat → Nat} {H2 : Nat} : s[i]? = some x → x.p = (j : Int) → s[j]? = some y → y.ks[m]? = some i → i ∉ y.ks.take m → i ≠ j →
      WF ((s.set j { y with ks := y.ks.take m ++ y.ks.drop (m + 1) }).set i { x with p := -1 }) → Up ((s.set j { y with ks := y.ks.take m ++ y.ks.drop (m + 1) }).set i { x with p := -1 }) h2 H2 →
      Chg s (i, none) ((s.set j { y with ks := y.ks.take m ++ y.ks.drop (m + 1) }).set i { x with p := -1 }) (gatherF (allF ((s.set j { y with ks := y.ks.take m ++ y.ks.drop (m + 1) }).set i { x with p := -1 }) (h2 i + 1) i) j m (shiftF j m (-1)))
inductive Chgs : List Nd → List Dact → List Nd → List Mvf → Prop
  | nil {s : List Nd} : Chgs s [] s []
  | cons {s s1 s' : List Nd} {a : Dact} {ac : List Dact} {f : Mvf} {fs : List Mvf} : Chg s a s1 f → Chgs s1 ac s' fs → Chgs s (a :: ac) s' (f :: fs)
theorem Chgs.append {s s1 s' : List Nd} {ac bs : List Dact} {fs gs : List Mvf} (h : Chgs s ac s1 fs) (h2 : Chgs s1 bs s' gs) : Chgs s (ac ++ bs) s' (fs ++ gs) := by
  induction h with
  | nil => exact h2
  | cons c _ ih => exact .cons c (ih h2)
theorem Chgs.len {s s' : List Nd} {ac : List Dact} {fs : List Mvf} (h : Chgs s ac s' fs) : fs.length = ac.length := by
  induction h with
  | nil => rfl
  | cons _ _ ih => simp [ih]
def compF (fs : List Mvf) : Mvf := fun a b => fs.foldl (fun p f => f p.1 p.2) (a, b)
theorem compF_nil : mvSp (compF []) = id := by funext z; rfl
theorem compF_cons (f : Mvf) (fs : List Mvf) (z : Sp) : mvSp (compF (f :: fs)) z = mvSp (compF fs) (mvSp f z) := rfl
theorem map_nil' (rs : List Sp) : rs.map (mvSp (compF [])) = rs := by rw [compF_nil]; simp
theorem map_cons' (f : Mvf) (fs : List Mvf) (rs : List Sp) : rs.map (mvSp (compF (f :: fs))) = (rs.map (mvSp f)).map (mvSp (compF fs)) := by
  rw [List.map_map]; rfl
theorem cut_chars {s : List Nd} (wf : WF s) {n o e : Nat} {x : Nd} (hx : s[n]? = some x) (ht : x.t = true) : WF (s.set n { x with cs := x.cs.take o ++ [] ++ x.cs.drop (o + (e - o)) }) := by
  have hch := wf.chars n x hx
  refine wf_chars wf hx ht ⟨by simp; omega, fun c hc => ?_⟩
  rw [List.append_nil] at hc
  rcases List.mem_append.1 hc with hc | hc
  · exact hch.2 c (List.mem_of_mem_take hc)
  · exact hch.2 c (List.mem_of_mem_drop hc)
theorem Chg.wf {s s' : List Nd} {a : Dact} {f : Mvf} (h : Chg s a s' f) (wf : WF s) : WF s' := by
  cases h with
  | cut hx ht _ _ => exact cut_chars wf hx ht
  | rem _ _ _ _ _ _ h _ => exact h
theorem Chgs.wf {s s' : List Nd} {ac : List Dact} {fs : List Mvf} (h : Chgs s ac s' fs) (wf : WF s) : WF s' := by
  induction h with
  | nil => exact wf
  | cons c _ ih => exact ih (c.wf wf)
theorem Chg.lives {V : List Nd → Sp → Prop} (hV : Lives V) {s s' : List Nd} {a : Dact} {f : Mvf} (h : Chg s a s' f) (wf : WF s) {z : Sp} (hz : V s z) : V s' (mvSp f z) := by
  cases h with
  | cut hx ht h1 h2 => exact hV.replace wf hx ht (by omega) (cut_chars wf hx ht) hz
  | rem hx hj hy hm hno hij wf2 u2 =>
    obtain ⟨hh, HH, u⟩ := wf.up
    exact hV.remove _ wf hx hj hy hm hno hij (gone_iff wf u hx hj hy hm hij wf2 u2) hz
theorem Chgs.lives {V : List Nd → Sp → Prop} (hV : Lives V) {s s' : List Nd} {ac : List Dact} {fs : List Mvf} (h : Chgs s ac s' fs) (wf : WF s) : ∀ {z : Sp}, V s z → V s' (mvSp (compF fs) z) := by
  induction h with
  | nil => intro z hz; exact hz
  | cons c _ ih => intro z hz; exact ih (c.wf wf) (c.lives hV wf hz)
def Near (f : Mvf) : Prop := ∀ a b : Int, 0 ≤ b → b ≤ 100 → 0 ≤ (f a b).2 ∧ (f a b).2 ≤ 100
theorem Chg.near {s s' : List Nd} {a : Dact} {f : Mvf} (h : Chg s a s' f) (wf : WF s) : Near f := by
  intro p q h0 h1
  cases h with
  | @cut n o e x hx ht h2 h3 =>
    have := (wf.chars _ _ hx).1
    unfold resizeF shiftF
    split
    · simp only; omega
    · split
      · simp only [List.length_nil]; omega
      · exact ⟨h0, h1⟩
  | @rem i j m x y _ _ hx hj hy hm hno hij wf2 u2 =>
    have := (List.getElem?_eq_some_iff.1 hm).1
    have := kids_le wf hy
    unfold gatherF shiftF
    split
    · simp only; omega
    · split
      · simp only; omega
      · exact ⟨h0, h1⟩
theorem Chgs.near {s s' : List Nd} {ac : List Dact} {fs : List Mvf} (h : Chgs s ac s' fs) (wf : WF s) : ∀ f ∈ fs, Near f := by
  induction h with
  | nil => intro f hf; cases hf
  | cons c _ ih =>
    intro f hf
    rcases List.mem_cons.1 hf with rfl | hf
    · exact c.near wf
    · exact ih (c.wf wf) f hf
def Firsts (s : List Nd) (a b : Nat) (ks : List Nat) : Prop := ∃ y, s[a]? = some y ∧ y.t = false ∧ b ≤ y.ks.length ∧ y.ks.take b = ks
theorem Firsts.ok {s : List Nd} {a b : Nat} {ks : List Nat} (h : Firsts s a b ks) : PlOk s a b := by
  obtain ⟨y, hy, ht, hb, _⟩ := h
  exact ⟨a, b, rfl, rfl, (List.getElem?_eq_some_iff.1 hy).1, by rw [sizeAt_eq hy, sizeN_elem ht]; exact hb⟩
def SameText (s s' : List Nd) (n : Nat) : Prop := ∀ x, s[n]? = some x → ∃ x', s'[n]? = some x' ∧ x'.t = x.t ∧ x'.cs = x.cs
theorem rem_look {s : List Nd} {i j : Nat} {x y : Nd} (hx : s[i]? = some x) (hy : s[j]? = some y) (hij : i ≠ j) (ks : List Nat) (c : Nat) :
    ((s.set j { y with ks := ks }).set i { x with p := -1 })[c]? = (s[c]?).map (fun z => if c = i then { z with p := -1 } else if c = j then { z with ks := ks } else z) :=
  set2_get hy hx (fun e => hij e.symm) ks (-1) c
theorem rem_step {s : List Nd} (wf : WF s) {i : Nat} {x : Nd} (hx : s[i]? = some x) (hp : 0 ≤ x.p) : ∃ s' f, Chg s (i, none) s' f ∧ (∀ n, SameText s s' n) ∧ (∀ n z, n ≠ i → s[n]? = some z → ∃ z', s'[n]? = some z' ∧ z'.p = z.p) ∧
    (∀ a b ks, Firsts s a b ks → i ∉ ks → Firsts s' a b ks) := by
  obtain ⟨j, m, y, hj, hy, hm, hno, _⟩ := wf.place hx hp
  obtain ⟨hij, hwf⟩ := wf_remove wf hx hj hy hm
  obtain ⟨hh2, HH2, u2⟩ := hwf.up
  have hml := (List.getElem?_eq_some_iff.1 hm).1
  refine ⟨_, _, Chg.rem hx hj hy hm hno hij hwf u2, ?_, ?_, ?_⟩
  · intro n z hz
    rw [rem_look hx hy hij, hz]
    refine ⟨_, rfl, ?_, ?_⟩
    · split
      · rfl
      · split <;> rfl
    · split
      · rfl
      · split <;> rfl
  · intro n z hn hz
    rw [rem_look hx hy hij, hz]
    refine ⟨_, rfl, ?_⟩
    simp only [if_neg hn]
    split <;> rfl
  · rintro a b ks ⟨z, hz, ht, hb, hk⟩ hi
    refine ⟨_, by rw [rem_look hx hy hij, hz]; rfl, ?_⟩
    by_cases hai : a = i
    · simp only [if_pos hai]
      exact ⟨ht, hb, hk⟩
    · simp only [if_neg hai]
      by_cases haj : a = j
      · subst haj
        rw [hy] at hz
        cases hz
        simp only [if_true]
        have hbm : b ≤ m := by
          rcases Nat.lt_or_ge m b with hlt | hge
          · exact absurd (hk ▸ mem_take_of hm hlt) hi
          · exact hge
        refine ⟨ht, by simp; omega, ?_⟩
        rw [List.take_append_of_le_length (by simp; omega), List.take_take, Nat.min_eq_left hbm]
        exact hk
      · simp only [if_neg haj]
        exact ⟨ht, hb, hk⟩
theorem rems_there : ∀ (l : List Nat) (s : List Nd), WF s → l.Nodup → (∀ i ∈ l, ∃ x, s[i]? = some x ∧ 0 ≤ x.p) → ∃ s' fs, Chgs s (l.map (fun i => ((i, none) : Dact))) s' fs ∧ (∀ n, SameText s s' n) ∧ (∀ a b ks, Firsts s a b ks → (∀ i ∈ l, i ∉ ks) → Firsts s' a b ks) := by
  intro l
  induction l with
  | nil => intro s wf _ _; exact ⟨s, [], .nil, fun n x hx => ⟨x, hx, rfl, rfl⟩, fun a b ks h _ => h⟩
  | cons i l ih =>
    intro s wf hnd hpar
    obtain ⟨x, hx, hp⟩ := hpar i (by simp)
    obtain ⟨s1, f, hc, ht, hq, hf⟩ := rem_step wf hx hp
    have hnd' := List.nodup_cons.1 hnd
    obtain ⟨s', fs, hcs, ht2, hf2⟩ := ih s1 (hc.wf wf) hnd'.2 (fun k hk => by
      obtain ⟨z, hz, hzp⟩ := hpar k (by simp [hk])
      obtain ⟨z', hz', e⟩ := hq k z (fun e => hnd'.1 (e ▸ hk)) hz
      exact ⟨z', hz', by omega⟩)
    refine ⟨s', f :: fs, .cons hc hcs, fun n z hz => ?_, fun a b ks h hk => ?_⟩
    · obtain ⟨z1, hz1, e1, e2⟩ := ht n z hz
      obtain ⟨z2, hz2, e3, e4⟩ := ht2 n z1 hz1
      exact ⟨z2, hz2, e3.trans e1, e4.trans e2⟩
    · exact hf2 a b ks (hf a b ks h (hk i (by simp))) (fun k hk' => hk k (by simp [hk']))
theorem cut_step {s : List Nd} {n o e : Nat} {x : Nd} (hx : s[n]? = some x) (ht : x.t = true) (h1 : o ≤ e) (h2 : e ≤ x.cs.length) : ∃ s' f, Chg s (n, some (o, e)) s' f ∧ (∀ k : Nat, k ≠ n → SameText s s' k) ∧ (∀ (k : Nat) (z : Nd), s[k]? = some z → ∃ z' : Nd, s'[k]? = some z' ∧ z'.t = z.t ∧ z'.p = z.p ∧ z'.ks = z.ks) := by
  have hn := (List.getElem?_eq_some_iff.1 hx).1
  refine ⟨_, _, .cut hx ht h1 h2, fun k hk z hz => ⟨z, by rw [List.getElem?_set_ne (fun e => hk e.symm)]; exact hz, rfl, rfl⟩, fun k z hz => ?_⟩
  by_cases hk : k = n
  · subst hk
    rw [hx] at hz
    cases hz
    exact ⟨_, List.getElem?_set_self hn, rfl, rfl, rfl⟩
  · exact ⟨z, by rw [List.getElem?_set_ne (fun e => hk e.symm)]; exact hz, rfl, rfl, rfl⟩
theorem Firsts.same {s s' : List Nd} {a b : Nat} {ks : List Nat} (h : Firsts s a b ks) (hs : ∀ (k : Nat) (z : Nd), s[k]? = some z → ∃ z' : Nd, s'[k]? = some z' ∧ z'.t = z.t ∧ z'.p = z.p ∧ z'.ks = z.ks) : Firsts s' a b ks := by
  obtain ⟨y, hy, ht, hb, hk⟩ := h
  obtain ⟨y', hy', e1, _, e3⟩ := hs a y hy
  exact ⟨y', hy', e1.trans ht, by rw [e3]; exact hb, by rw [e3]; exact hk⟩
def endAct (s : List Nd) (n o e : Nat) : List Dact := if (s[n]?.map (·.t)) = some true then [(n, some (o, e))] else []
def delActs (s : List Nd) (B a b c d t : Nat) : List Dact :=
  endAct s a b (csOf s a).length ++ (leaveF s (plF s (B + 1) t) a b c d (allF s (B + 1) t)).map (fun i => ((i, none) : Dact)) ++ endAct s c 0 d
theorem del_there {s : List Nd} (wf : WF s) {B a b c d t : Nat} (hac : a ≠ c ∨ (s[a]?.map (·.t)) = some false) (hc : c < s.length) (ha : a < s.length) (hb : b ≤ sizeAt s a) (hd : d ≤ sizeAt s c) :
    ∃ s' fs, Chgs s (delActs s B a b c d t) s' fs ∧ (∀ a' b' ks, Firsts s a' b' ks → (∀ i ∈ leaveF s (plF s (B + 1) t) a b c d (allF s (B + 1) t), i ∉ ks) → Firsts s' a' b' ks) := by
  obtain ⟨x, hx⟩ : ∃ x, s[a]? = some x := ⟨_, List.getElem?_eq_getElem ha⟩
  obtain ⟨y, hy⟩ : ∃ y, s[c]? = some y := ⟨_, List.getElem?_eq_getElem hc⟩
  obtain ⟨l, hl⟩ : ∃ l, leaveF s (plF s (B + 1) t) a b c d (allF s (B + 1) t) = l := ⟨_, rfl⟩
  have hnd : l.Nodup := by rw [← hl]; exact (all_nodup wf (B + 1) t).sublist List.filter_sublist
  have hpar : ∀ i ∈ l, ∃ z, s[i]? = some z ∧ 0 ≤ z.p := by
    intro i hi
    rw [← hl] at hi
    obtain ⟨z, _, j, _, hz, hj, _⟩ := leave_mem wf hi
    exact ⟨z, hz, by omega⟩
  unfold delActs
  rw [hl]
  -- the cut at the start
  obtain ⟨s1, f1, hc1, wf1, hT1, hK1⟩ : ∃ s1 f1, Chgs s (endAct s a b (csOf s a).length) s1 f1 ∧ WF s1 ∧ (c ≠ a ∨ x.t = false → SameText s s1 c) ∧ (∀ (k : Nat) (z : Nd), s[k]? = some z → ∃ z' : Nd, s1[k]? = some z' ∧ z'.t = z.t ∧ z'.p = z.p ∧ z'.ks = z.ks) := by
    unfold endAct
    by_cases hT : (s[a]?.map (·.t)) = some true
    · have ht : x.t = true := by rw [hx] at hT; simpa using hT
      rw [if_pos hT, csOf_eq hx]
      obtain ⟨s1, f, h1, h2, h3⟩ := cut_step (o := b) (e := x.cs.length) hx ht (by rw [sizeAt_eq hx, sizeN_text ht] at hb; exact hb) (Nat.le_refl _)
      exact ⟨s1, [f], .cons h1 .nil, h1.wf wf, fun h => h.elim (fun h => h2 c h) (fun h => by rw [ht] at h; cases h), h3⟩
    · rw [if_neg hT]
      exact ⟨s, [], .nil, wf, fun _ z hz => ⟨z, hz, rfl, rfl⟩, fun k z hz => ⟨z, hz, rfl, rfl, rfl⟩⟩
  obtain ⟨s2, f2, hc2, hT2, hF2⟩ := rems_there l s1 wf1 hnd (fun i hi => by
    obtain ⟨z, hz, hp⟩ := hpar i hi
    obtain ⟨z', hz', _, e, _⟩ := hK1 i z hz
    exact ⟨z', hz', by omega⟩)
  have hSc : SameText s s2 c := by
    intro z hz
    have h1 := hT1 (by
      rcases hac with h | h
      · exact .inl (fun e => h e.symm)
      · right; rw [hx] at h; simpa using h)
    obtain ⟨z1, hz1, e1, e2⟩ := h1 z hz
    obtain ⟨z2, hz2, e3, e4⟩ := hT2 c z1 hz1
    exact ⟨z2, hz2, e3.trans e1, e4.trans e2⟩
  obtain ⟨s3, f3, hc3, hK3⟩ : ∃ s3 f3, Chgs s2 (endAct s c 0 d) s3 f3 ∧ (∀ (k : Nat) (z : Nd), s2[k]? = some z → ∃ z' : Nd, s3[k]? = some z' ∧ z'.t = z.t ∧ z'.p = z.p ∧ z'.ks = z.ks) := by
    unfold endAct
    by_cases hT : (s[c]?.map (·.t)) = some true
    · have ht : y.t = true := by rw [hy] at hT; simpa using hT
      rw [if_pos hT]
      obtain ⟨y2, hy2, e1, e2⟩ := hSc y hy
      obtain ⟨s3, f, h1, h2, h3⟩ := cut_step (o := 0) (e := d) hy2 (e1.trans ht) (Nat.zero_le _) (by rw [e2]; rw [sizeAt_eq hy, sizeN_text ht] at hd; exact hd)
      exact ⟨s3, [f], .cons h1 .nil, h3⟩
    · rw [if_neg hT]
      exact ⟨s2, [], .nil, fun k z hz => ⟨z, hz, rfl, rfl, rfl⟩⟩
  exact ⟨s3, _, (hc1.append hc2).append hc3, fun a' b' ks h hk => (hF2 a' b' ks (h.same hK1) hk).same hK3⟩
end Go.Proofs.YtabogkonklplcaaGreatDoor

namespace Go.Proofs.YtabogkonklplcaaGreatDoor
open Go.RowKit Go.Lib
set_option linter.unusedSimpArgs false
set_option linter.unusedVariables false
def AnsP (s : List Nd) (rs : List Sp) (pf : FuncId) (args : List Value) (pres : Value → Value) (R : Int → Int → List Nd → Mvf → Prop) : Prop :=
  ∃ (a y : Int) (s' : List Nd) (f : Mvf), WF s' ∧ R a y s' f ∧ (∀ V : List Nd → Sp → Prop, Lives V → ∀ z, V s z → V s' (mvSp f z)) ∧
    ∀ (w : World) (F : Nat → Prop) (bx : Nat), GG w → PLies w F bx ⟨s, rs⟩ → Calls Tryz.prog pf (ptr bx :: args).toArray w (PLPost F w bx ⟨s', rs.map (mvSp f)⟩ (pres (errV a y)))
theorem AnsP.no {s : List Nd} (wf : WF s) {rs : List Sp} {pf : FuncId} {args : List Value} {pres : Value → Value} {R : Int → Int → List Nd → Mvf → Prop} (a y : Int) (hR : R a y s (compF []))
    (h : ∀ (w : World) (F : Nat → Prop) (bx : Nat), GG w → PLies w F bx ⟨s, rs⟩ → Calls Tryz.prog pf (ptr bx :: args).toArray w (PLPost F w bx ⟨s, rs⟩ (pres (errV a y)))) : AnsP s rs pf args pres R :=
  ⟨a, y, s, compF [], wf, hR, fun V _ z hz => by rw [compF_nil]; exact hz, fun w F bx hg hP => by rw [map_nil']; exact h w F bx hg hP⟩
def InsR (s : List Nd) (A B C : Int) (a y : Int) (s' : List Nd) (f : Mvf) : Prop :=
  (y ≠ 0 ∧ s' = s ∧ f = compF []) ∨ (y = 0 ∧ ∃ (i j c : Nat) (x v : Nd), A = (i : Int) ∧ B = (j : Int) ∧ C = (c : Int) ∧ InsOk s i j x v ∧ Lim (fun c => withinF s c (i : Int) (j : Int)) false ∧ c ≤ x.ks.length ∧ i ≠ j ∧ s' = (s.set i { x with ks := x.ks.take c ++ j :: x.ks.drop c }).set j { v with p := (i : Int) } ∧ f = shiftF i c 1)
theorem pans_insert (s : List Nd) (wf : WF s) (rs : List Sp) (h6 : rs.length ≤ 6) (hrs : ∀ z ∈ rs, SpOk s z) (A B C : Int) : AnsP s rs 54 [.int .i64 A, .int .i64 B, .int .i64 C] (fun v => v) (InsR s A B C) := by
  have hcap := wf.cap
  have no : ∀ (n y : Int), y ≠ 0 → (∀ (w : World) (F : Nat → Prop) (bf bn cap : Nat) (pn : List PN), PForAt w F bf bn cap pn s → Calls Tryz.prog 146 #[ptr bf, .int .i64 A, .int .i64 B, .int .i64 C] w fun e w' => e = .returned (refusalV n y) ∧ Below w.heap.size w w') →
      AnsP s rs 54 [.int .i64 A, .int .i64 B, .int .i64 C] (fun v => v) (InsR s A B C) := by
    intro n y hy hT
    refine AnsP.no wf n y (.inl ⟨hy, rfl, rfl⟩) ?_
    intro w F bx hg hP
    refine minsert_no hg hP A B C (errOf_P n y hy) (fun F' bf h => tinsert_no h A B C n y ?_)
    obtain ⟨bn, cap, pn, h⟩ := h
    exact hT w F' bf bn cap pn h
  cases hA : isB s A with
  | false => exact no A 1 (by decide) (fun w F bf bn cap pn h => may_parent h A B C hA)
  | true =>
    cases hB : isB s B with
    | false => exact no B 1 (by decide) (fun w F bf bn cap pn h => may_node h A B C hA hB)
    | true =>
      obtain ⟨a1, a2⟩ := isB_true hA
      obtain ⟨b1, b2⟩ := isB_true hB
      obtain ⟨i, rfl⟩ : ∃ i : Nat, A = (i : Int) := ⟨A.toNat, by omega⟩
      obtain ⟨j, rfl⟩ : ∃ j : Nat, B = (j : Int) := ⟨B.toNat, by omega⟩
      have hi : i < s.length := by omega
      have hj : j < s.length := by omega
      obtain ⟨x, hx⟩ : ∃ x, s[i]? = some x := ⟨_, List.getElem?_eq_getElem hi⟩
      obtain ⟨y, hy⟩ : ∃ y, s[j]? = some y := ⟨_, List.getElem?_eq_getElem hj⟩
      cases ht : x.t with
      | true => exact no i 2 (by decide) (fun w F bf bn cap pn h => may_kind h i j C x hx hj ht)
      | false =>
        by_cases hj0 : j = 0
        · subst hj0
          exact no _ 4 (by decide) (fun w F bf bn cap pn h => may_root h i C x hx ht)
        · by_cases hp : 0 ≤ y.p
          · exact no j 4 (by decide) (fun w F bf bn cap pn h => may_has h i j C x y hx hy ht (by omega) hp)
          · have hI : InsOk s i j x y := ⟨hx, hy, ht, by omega, by omega⟩
            obtain ⟨ht0, Bd, u⟩ := wf.up
            by_cases hm : i ∈ allF s (ht0 j + 1) j
            · exact no j 5 (by decide) (fun w F bf bn cap pn h => may_cycle wf u h i j (ht0 j + 1) C x y hI (by omega) hm)
            · have hw := holds_no wf u hi (Nat.lt_succ_self _) hm
              by_cases hC : C < 0 ∨ (x.ks.length : Int) < C
              · exact no i 3 (by decide) (fun w F bf bn cap pn h => may_index wf u h i j (ht0 j + 1) C x y hI (by omega) hm hC)
              · obtain ⟨c, rfl⟩ : ∃ c : Nat, C = (c : Int) := ⟨C.toNat, by omega⟩
                have hc : c ≤ x.ks.length := by omega
                obtain ⟨hij, hwf⟩ := wf_insert wf hI hw hc
                have hkl : x.ks.length ≤ 40 := Nat.le_trans (nodup_length s.length _ (wf.nodup i x hx) (fun q hq => (wf.kid_lt u hx hq).1)) wf.cap
                refine ⟨0, 0, _, shiftF i c 1, hwf, .inr ⟨rfl, i, j, c, x, y, rfl, rfl, rfl, hI, hw, hc, hij, rfl, rfl⟩, fun V hV z hz => hV.insert wf hI hw hc hij hz, ?_⟩
                intro w F bx hg hP
                exact minsert_go hg hP (Small.of wf hrs) h6 i j c (fun F' bf h => tinsert_done wf u h i j (ht0 j + 1) c x y hI (by omega) hm hc hij (by unfold lots; omega) (by unfold lots; omega))
end Go.Proofs.YtabogkonklplcaaGreatDoor

namespace Go.Proofs.YtabogkonklplcaaGreatDoor
open Go.RowKit Go.Lib
set_option linter.unusedSimpArgs false
set_option linter.unusedVariables false
def NewR (s : List Nd) (nd : Nd) (n : Int) (a y : Int) (s' : List Nd) (f : Mvf) : Prop :=
  f = compF [] ∧ ((y ≠ 0 ∧ s' = s) ∨ (y = 0 ∧ n = (s.length : Int) ∧ s.length < 40 ∧ s' = s ++ [nd]))
theorem pans_element (s : List Nd) (wf : WF s) (rs : List Sp) : ∃ n : Int, AnsP s rs 52 [] (fun v => .tuple #[.int .i64 n, v]) (NewR s rootNd n) := by
  by_cases h40 : s.length < 40
  · have wf' := wf_push wf h40 rootNd rfl rfl (fun _ => rfl) ⟨by decide, fun c hc => by cases hc⟩
    refine ⟨s.length, 0, 0, s ++ [rootNd], compF [], wf', ⟨rfl, .inr ⟨rfl, rfl, h40, rfl⟩⟩, fun V hV z hz => by rw [compF_nil]; exact hV.push rootNd wf wf' rfl hz, ?_⟩
    intro w F bx hg hP
    rw [map_nil']
    exact melement_of hg hP (errOf_nil 0) (fun F' bf h => telement_some h h40)
  · refine ⟨0, AnsP.no wf 0 7 ⟨rfl, .inl ⟨by decide, rfl⟩⟩ ?_⟩
    intro w F bx hg hP
    exact melement_of hg hP (errOf_P 0 7 (by decide)) (fun F' bf h => telement_full h (by omega))
theorem pans_text (s : List Nd) (wf : WF s) (rs : List Sp) (t : ByteArray) (ht : t.size < lots) (l : List ByteArray) (hl : Takes t l) : ∃ n : Int, AnsP s rs 53 [.string t] (fun v => .tuple #[.int .i64 n, v]) (NewR s ⟨true, l, [], -1⟩ n) := by
  by_cases h40 : s.length < 40
  · have wf' := wf_push wf h40 ⟨true, l, [], -1⟩ rfl rfl (fun h => by cases h) ⟨hl.2, charsOf_isCh t.size t l (Nat.le_refl _) hl.1⟩
    refine ⟨s.length, 0, 0, s ++ [⟨true, l, [], -1⟩], compF [], wf', ⟨rfl, .inr ⟨rfl, rfl, h40, rfl⟩⟩, fun V hV z hz => by rw [compF_nil]; exact hV.push _ wf wf' rfl hz, ?_⟩
    intro w F bx hg hP
    rw [map_nil']
    exact mtext_of hg hP t (errOf_nil 0) (fun F' bf h => ttext_some h hg.2 t ht l hl h40)
  · refine ⟨0, AnsP.no wf 0 7 ⟨rfl, .inl ⟨by decide, rfl⟩⟩ ?_⟩
    intro w F bx hg hP
    exact mtext_of hg hP t (errOf_P 0 7 (by decide)) (fun F' bf h => ttext_full h hg.2 t ht l hl (by omega))
def RemR (s : List Nd) (A : Int) (a y : Int) (s' : List Nd) (f : Mvf) : Prop :=
  (y ≠ 0 ∧ s' = s ∧ f = compF []) ∨ (y = 0 ∧ ∃ i : Nat, A = (i : Int) ∧ Chg s (i, none) s' f)
theorem pans_remove (s : List Nd) (wf : WF s) (rs : List Sp) (h6 : rs.length ≤ 6) (hrs : ∀ z ∈ rs, SpOk s z) (A : Int) : AnsP s rs 60 [.int .i64 A] (fun v => v) (RemR s A) := by
  have hcap := wf.cap
  cases hA : isB s A with
  | false =>
    refine AnsP.no wf A 1 (.inl ⟨by decide, rfl, rfl⟩) ?_
    intro w F bx hg hP
    exact mremove_no hg hP A (errOf_P A 1 (by decide)) (fun F' bf h => tremove_node h A hA)
  | true =>
    obtain ⟨h1, h2⟩ := isB_true hA
    obtain ⟨i, rfl⟩ : ∃ i : Nat, A = (i : Int) := ⟨A.toNat, by omega⟩
    have hi : i < s.length := by omega
    obtain ⟨x, hx⟩ : ∃ x, s[i]? = some x := ⟨_, List.getElem?_eq_getElem hi⟩
    by_cases hp : 0 ≤ x.p
    · obtain ⟨j, m, y, hj, hy, hm, hno, hyl⟩ := wf.place hx hp
      obtain ⟨hij, hwf⟩ := wf_remove wf hx hj hy hm
      obtain ⟨hh2, HH2, u2⟩ := hwf.up
      have hcg := Chg.rem hx hj hy hm hno hij hwf u2
      refine ⟨0, 0, _, _, hwf, .inr ⟨rfl, i, rfl, hcg⟩, fun V hV z hz => hcg.lives hV wf hz, ?_⟩
      intro w F bx hg hP
      exact mremove_go hg hP (Small.of wf hrs) h6 i (fun F' bf h => tremove_done h i j m x y hx hj hy hm hno hij (by unfold lots; omega) (by unfold lots; omega) hwf u2)
    · have hp1 : x.p = -1 := by
        rcases wf.par i x hx with h | ⟨j, y, h, _⟩
        · exact h
        · omega
      refine AnsP.no wf i 4 (.inl ⟨by decide, rfl, rfl⟩) ?_
      intro w F bx hg hP
      exact mremove_no hg hP i (errOf_P i 4 (by decide)) (fun F' bf h => tremove_none h i x hx hp1 (by unfold lots; omega))
end Go.Proofs.YtabogkonklplcaaGreatDoor

namespace Go.Proofs.YtabogkonklplcaaGreatDoor
open Go.RowKit Go.Lib
set_option linter.unusedSimpArgs false
set_option linter.unusedVariables false
def RepR (s : List Nd) (A B C : Int) (t : ByteArray) (a y : Int) (s' : List Nd) (f : Mvf) : Prop :=
  (y ≠ 0 ∧ s' = s ∧ f = compF []) ∨ (y = 0 ∧ ∃ (n o cm : Nat) (x : Nd) (lf : List ByteArray), A = (n : Int) ∧ B = (o : Int) ∧ cm = (min C ((x.cs.length : Int) - o)).toNat ∧ s[n]? = some x ∧ x.t = true ∧ 0 ≤ C ∧ o + cm ≤ x.cs.length ∧ charsOf t = some lf ∧ s' = s.set n { x with cs := x.cs.take o ++ lf ++ x.cs.drop (o + cm) } ∧ f = resizeF n o cm lf.length)
theorem pans_replace (s : List Nd) (wf : WF s) (rs : List Sp) (h6 : rs.length ≤ 6) (hrs : ∀ z ∈ rs, SpOk s z) (A B C : Int) (t : ByteArray) (hts : t.size < lots) : AnsP s rs 34 [.int .i64 A, .int .i64 B, .int .i64 C, .string t] (fun v => v) (RepR s A B C t) := by
  have hcap := wf.cap
  cases hA : isB s A with
  | false =>
    refine AnsP.no wf A 1 (.inl ⟨by decide, rfl, rfl⟩) ?_
    intro w F bx hg hP
    refine mreplace_no hg hP A B C t (fun F' bf h => ?_)
    have h' := h
    obtain ⟨bn, cap, pn, h⟩ := h
    exact (treplace_unfit h' A B C t _ (findText_no h A hA)).mono fun e w' hh => ⟨_, _, errOf_P A 1 (by decide), hh⟩
  | true =>
    obtain ⟨h1, h2⟩ := isB_true hA
    obtain ⟨n, rfl⟩ : ∃ n : Nat, A = (n : Int) := ⟨A.toNat, by omega⟩
    have hn : n < s.length := by omega
    obtain ⟨x, hx⟩ : ∃ x, s[n]? = some x := ⟨_, List.getElem?_eq_getElem hn⟩
    have hch := wf.chars n x hx
    have hl' : x.cs.length < lots := by unfold lots; omega
    cases ht : x.t with
    | false =>
      refine AnsP.no wf n 2 (.inl ⟨by decide, rfl, rfl⟩) ?_
      intro w F bx hg hP
      refine mreplace_no hg hP n B C t (fun F' bf h => ?_)
      have h' := h
      obtain ⟨bn, cap, pn, h⟩ := h
      exact (treplace_unfit h' n B C t _ (findText_kind h n x hx ht)).mono fun e w' hh => ⟨_, _, errOf_P n 2 (by decide), hh⟩
    | true =>
      by_cases hB : B < 0 ∨ (x.cs.length : Int) < B
      · refine AnsP.no wf n 3 (.inl ⟨by decide, rfl, rfl⟩) ?_
        intro w F bx hg hP
        refine mreplace_no hg hP n B C t (fun F' bf h => ?_)
        refine (treplace_bad h n B C t x hx ht (Q := fun u => u = outV B) (fun w1 _ => (splice_off x.cs hch.2 hl' B C hB t w1).mono fun e w' hh => ⟨⟨_, _, rfl, hh.1⟩, hh.2⟩)).mono ?_
        rintro e w' ⟨u, rfl, hh⟩
        exact ⟨_, _, errOf_O n B, hh⟩
      · obtain ⟨o, rfl⟩ : ∃ o : Nat, B = (o : Int) := ⟨B.toNat, by omega⟩
        have ho : o ≤ x.cs.length := by omega
        by_cases hC : C < 0
        · refine AnsP.no wf n 3 (.inl ⟨by decide, rfl, rfl⟩) ?_
          intro w F bx hg hP
          refine mreplace_no hg hP n o C t (fun F' bf h => ?_)
          refine (treplace_bad h n o C t x hx ht (Q := fun u => u = outV C) (fun w1 _ => (splice_cnt x.cs hch.2 hl' o ho C hC t w1).mono fun e w' hh => ⟨⟨_, _, rfl, hh.1⟩, hh.2⟩)).mono ?_
          rintro e w' ⟨u, rfl, hh⟩
          exact ⟨_, _, errOf_O n C, hh⟩
        · obtain ⟨cm, hcm⟩ : ∃ cm : Nat, cm = (min C ((x.cs.length : Int) - o)).toNat := ⟨_, rfl⟩
          have hcl : o + cm ≤ x.cs.length := by omega
          have em : 30 - o - (x.cs.length - (o + cm)) = 30 - (x.cs.length - cm) := by omega
          by_cases hY : ∃ lf, TakesM (30 - o - (x.cs.length - (o + cm))) t lf
          · obtain ⟨lf, hlf⟩ := hY
            have hlf30 : lf.length ≤ 30 := by have := hlf.2; omega
            have hsum : x.cs.length - cm + lf.length ≤ 30 := by have := hlf.2; omega
            have hcs : (x.cs.take o ++ lf ++ x.cs.drop (o + cm)).length ≤ 30 ∧ ∀ c ∈ x.cs.take o ++ lf ++ x.cs.drop (o + cm), IsCh c := by
              refine ⟨by simp; omega, fun c hc => ?_⟩
              rcases List.mem_append.1 hc with hc | hc
              · rcases List.mem_append.1 hc with hc | hc
                · exact hch.2 c (List.mem_of_mem_take hc)
                · exact charsOf_isCh t.size t lf (Nat.le_refl _) hlf.1 c hc
              · exact hch.2 c (List.mem_of_mem_drop hc)
            refine ⟨0, 0, _, resizeF n o cm lf.length, wf_chars wf hx ht hcs, .inr ⟨rfl, n, o, cm, x, lf, rfl, rfl, hcm, hx, ht, by omega, hcl, hlf.1, rfl, rfl⟩, fun V hV z hz => hV.replace wf hx ht hcl (wf_chars wf hx ht hcs) hz, ?_⟩
            intro w F bx hg hP
            refine mreplace_go hg hP (Small.of wf hrs) h6 n o C t (fun F' bf h => ?_)
            have hmin : min C ((x.cs.length : Int) - o) = (cm : Int) := by omega
            have hT := treplace_done h n o C t x hx ht hch.1 hch.2 ho lf (x.cs.take o ++ lf ++ x.cs.drop (o + cm)) hlf.1 hlf30 (by omega) (fun w1 hb => ?_)
            · rw [hmin] at hT
              exact hT
            have hT := hg.2.below hb
            by_cases hbig : (x.cs.length : Int) - o < C
            · exact splice_yes_big x.cs hch.2 hch.1 o cm C ho (by omega) (by omega) hbig t hts lf hlf w1 hT
            · exact splice_yes_small x.cs hch.2 hch.1 o cm C ho (by omega) (by omega) hcl t hts lf hlf w1 hT
          · have hN : ∀ l', ¬ TakesM (30 - o - (x.cs.length - (o + cm))) t l' := fun l' h => hY ⟨l', h⟩
            refine AnsP.no wf n 6 (.inl ⟨by decide, rfl, rfl⟩) ?_
            intro w F bx hg hP
            refine mreplace_no hg hP n o C t (fun F' bf h => ?_)
            refine (treplace_bad h n o C t x hx ht (Q := fun u => ∃ k, u = flawV k) (fun w1 hb => ?_)).mono ?_
            · have hT := hg.2.below hb
              by_cases hbig : (x.cs.length : Int) - o < C
              · exact (splice_no_big x.cs hch.2 hch.1 o cm C ho (by omega) (by omega) hbig t hts hN w1 hT).mono fun e w' ⟨k, h1, h2⟩ => ⟨⟨_, _, ⟨k, rfl⟩, h1⟩, h2⟩
              · exact (splice_no_small x.cs hch.2 hch.1 o cm C ho (by omega) (by omega) hcl t hts hN w1 hT).mono fun e w' ⟨k, h1, h2⟩ => ⟨⟨_, _, ⟨k, rfl⟩, h1⟩, h2⟩
            · rintro e w' ⟨u, ⟨k, rfl⟩, hh⟩
              exact ⟨_, _, errOf_F n k, hh⟩
def SplOk (s : List Nd) (A B : Int) : Prop := ∃ (n k : Nat) (x : Nd), A = (n : Int) ∧ B = (k : Int) ∧ s[n]? = some x ∧ x.t = true ∧ k ≤ x.cs.length
def SplR (s : List Nd) (A B : Int) (r : Int) (a y : Int) (s' : List Nd) (f : Mvf) : Prop :=
  (y ≠ 0 ∧ s' = s ∧ f = compF [] ∧ (40 ≤ s.length ∨ ¬ SplOk s A B)) ∨ (y = 0 ∧ r = (s.length : Int) ∧ s.length < 40 ∧ ∃ (n k : Nat) (x : Nd), A = (n : Int) ∧ B = (k : Int) ∧ s[n]? = some x ∧ x.t = true ∧ k ≤ x.cs.length ∧
    ((x.p = -1 ∧ s' = (s ++ [(⟨true, x.cs.drop k, [], -1⟩ : Nd)]).set n { x with cs := x.cs.take k } ∧ f = resizeF n k ((x.cs.length - k : Nat) : Int) 0) ∨
     ∃ (j m : Nat) (y : Nd), x.p = (j : Int) ∧ s[j]? = some y ∧ y.ks[m]? = some n ∧ n ∉ y.ks.take m ∧ n ≠ j ∧ s' = (((s ++ [(⟨true, x.cs.drop k, [], -1⟩ : Nd)]).set n { x with cs := x.cs.take k }).set j { y with ks := y.ks.take (m + 1) ++ s.length :: y.ks.drop (m + 1) }).set s.length ⟨true, x.cs.drop k, [], (j : Int)⟩ ∧ f = carryF n k s.length (shiftF j m 1)))
theorem pans_split (s : List Nd) (wf : WF s) (rs : List Sp) (h6 : rs.length ≤ 6) (hrs : ∀ z ∈ rs, SpOk s z) (A B : Int) : ∃ n : Int, AnsP s rs 30 [.int .i64 A, .int .i64 B] (fun v => .tuple #[.int .i64 n, v]) (SplR s A B n) := by
  have hcap := wf.cap
  cases hA : isB s A with
  | false =>
    refine ⟨0, AnsP.no wf A 1 (.inl ⟨by decide, rfl, rfl, .inr (fun ⟨n2, k2, x2, e1, e2, h3, h4, h5⟩ => by subst e1; have := isB_of (s := s) (k := n2) (by have := (List.getElem?_eq_some_iff.1 h3).1; omega); rw [hA] at this; cases this)⟩) ?_⟩
    intro w F bx hg hP
    refine msplit_no hg hP A B (errOf_P A 1 (by decide)) (fun F' bf h => ?_)
    have h' := h
    obtain ⟨bn, cap, pn, h⟩ := h
    exact tsplit_unfit h' A B _ (findText_no h A hA)
  | true =>
    obtain ⟨h1, h2⟩ := isB_true hA
    obtain ⟨n, rfl⟩ : ∃ n : Nat, A = (n : Int) := ⟨A.toNat, by omega⟩
    have hn : n < s.length := by omega
    obtain ⟨x, hx⟩ : ∃ x, s[n]? = some x := ⟨_, List.getElem?_eq_getElem hn⟩
    have hch := wf.chars n x hx
    have hl' : x.cs.length < lots := by unfold lots; omega
    cases ht : x.t with
    | false =>
      refine ⟨0, AnsP.no wf n 2 (.inl ⟨by decide, rfl, rfl, .inr (fun ⟨n2, k2, x2, e1, e2, h3, h4, h5⟩ => by obtain rfl : n = n2 := (by omega); rw [hx] at h3; cases h3; rw [ht] at h4; cases h4)⟩) ?_⟩
      intro w F bx hg hP
      refine msplit_no hg hP n B (errOf_P n 2 (by decide)) (fun F' bf h => ?_)
      have h' := h
      obtain ⟨bn, cap, pn, h⟩ := h
      exact tsplit_unfit h' n B _ (findText_kind h n x hx ht)
    | true =>
      by_cases hB : B < 0 ∨ (x.cs.length : Int) < B
      · refine ⟨0, AnsP.no wf n 3 (.inl ⟨by decide, rfl, rfl, .inr (fun ⟨n2, k2, x2, e1, e2, h3, h4, h5⟩ => by obtain rfl : n = n2 := (by omega); rw [hx] at h3; cases h3; omega)⟩) ?_⟩
        intro w F bx hg hP
        exact msplit_no hg hP n B (errOf_O n B) (fun F' bf h => tsplit_out h n B x hx ht hch.2 hl' hB)
      · obtain ⟨k, rfl⟩ : ∃ k : Nat, B = (k : Int) := ⟨B.toNat, by omega⟩
        have hk : k ≤ x.cs.length := by omega
        by_cases h40 : s.length < 40
        · have wf4 := wf_half wf h40 (k := k) hx ht
          rcases wf.par n x hx with hp | ⟨j, y, hp, hy, hmem⟩
          · refine ⟨s.length, 0, 0, _, resizeF n k ((x.cs.length - k : Nat) : Int) 0, wf4, .inr ⟨rfl, rfl, h40, n, k, x, rfl, rfl, hx, ht, hk, .inl ⟨hp, rfl, rfl⟩⟩, fun V hV z hz => hV.splitTop wf hx ht hk hp h40 hz, ?_⟩
            intro w F bx hg hP
            exact msplit_go hg hP (Small.of wf hrs) h6 n k (fun F' bf h => tsplit_top h n k x hx ht hch.2 hch.1 hk h40 hp)
          · obtain ⟨j', m, y', hj', hy', hm, hno, hyl⟩ := wf.place hx (by omega)
            obtain rfl : j = j' := by omega
            obtain rfl : y = y' := Option.some.inj (hy.symm.trans hy')
            have hjl := (List.getElem?_eq_some_iff.1 hy).1
            have hml : m < y.ks.length := (List.getElem?_eq_some_iff.1 hm).1
            have hyt : y.t = false := by
              cases h : y.t with
              | false => rfl
              | true => have := (wf.elem j y hy).1 h; rw [this] at hmem; cases hmem
            have hnj : n ≠ j := by
              intro e; subst e
              obtain rfl : x = y := Option.some.inj (hx.symm.trans hy)
              rw [ht] at hyt; cases hyt
            have hx4 : ((s ++ [(⟨true, x.cs.drop k, [], -1⟩ : Nd)]).set n { x with cs := x.cs.take k })[j]? = some y := by rw [List.getElem?_set_ne hnj, List.getElem?_append_left hjl]; exact hy
            have hz4 : ((s ++ [(⟨true, x.cs.drop k, [], -1⟩ : Nd)]).set n { x with cs := x.cs.take k })[s.length]? = some (⟨true, x.cs.drop k, [], -1⟩ : Nd) := by rw [List.getElem?_set_ne (by omega), List.getElem?_append_right (Nat.le_refl _)]; simp
            have hI : InsOk ((s ++ [(⟨true, x.cs.drop k, [], -1⟩ : Nd)]).set n { x with cs := x.cs.take k }) j s.length y ⟨true, x.cs.drop k, [], -1⟩ := ⟨hx4, hz4, hyt, by omega, by show (-1 : Int) < 0; decide⟩
            obtain ⟨h4, B4, u4⟩ := wf4.up
            have hnm : j ∉ allF ((s ++ [(⟨true, x.cs.drop k, [], -1⟩ : Nd)]).set n { x with cs := x.cs.take k }) (h4 s.length + 1) s.length := by
              rw [allF, kidsOf_eq hz4]
              simp
              omega
            have hw := holds_no wf4 u4 (d := j) (by rw [List.length_set, List.length_append]; omega) (Nat.lt_succ_self _) hnm
            obtain ⟨_, hwf⟩ := wf_insert wf4 hI hw (k := m + 1) (by omega)
            refine ⟨s.length, 0, 0, _, carryF n k s.length (shiftF j m 1), hwf, .inr ⟨rfl, rfl, h40, n, k, x, rfl, rfl, hx, ht, hk, .inr ⟨j, m, y, hp, hy, hm, hno, hnj, rfl, rfl⟩⟩, fun V hV z hz => hV.splitIn wf hx ht hk hp hy hm hno hnj h40 hwf hz, ?_⟩
            intro w F bx hg hP
            exact msplit_go hg hP (Small.of wf hrs) h6 n k (fun F' bf h => tsplit_in h n k x hx ht hch.2 hch.1 hk h40 j m y hp hy hm hno (by unfold lots; omega) hnj)
        · refine ⟨0, AnsP.no wf n 7 (.inl ⟨by decide, rfl, rfl, .inl (by omega)⟩) ?_⟩
          intro w F bx hg hP
          exact msplit_no hg hP n k (errOf_P n 7 (by decide)) (fun F' bf h => tsplit_full h n k x hx ht hch.2 hch.1 hk (by omega))
end Go.Proofs.YtabogkonklplcaaGreatDoor

namespace Go.Proofs.YtabogkonklplcaaGreatDoor
open Go.RowKit
set_option linter.unusedSimpArgs false
set_option linter.unusedVariables false
theorem way_pl {s : List Nd} (wf : WF s) {h : Nat → Nat} {B : Nat} (u : Up s h B) {t n k : Nat} {l : List Nat} (wy : Way s t n l) (hk : k ≤ sizeAt s n) : (n, k) ∈ plF s (B + 1) t := by
  have h1 := way_len wf u wy
  have h2 := u.le t
  have h3 := way_pp wf wy (B - l.length + 1) _ (pp_here (k := B - l.length) hk)
  have e : B - l.length + 1 + l.length = B + 1 := by omega
  rw [e] at h3
  rw [← pp_fst]
  exact List.mem_map.2 ⟨_, h3, rfl⟩
theorem lexC_of_leP {l l2 : List Nat} {k k2 : Nat} (h : leP (pw l k) (pw l2 k2)) : lexC (l ++ [k]) (l2 ++ [k2]) ≤ 0 := by
  rcases h with h | h
  · rw [pw_inj h, lexC_self]; exact Int.le_refl 0
  · rw [lexC_lt _ _ _ _ h]; decide
structure SpAt (s : List Nd) (B : Nat) (z : Sp) (a b c d t i j : Nat) : Prop where
  eq : z = ⟨a, b, c, d⟩
  ha : a < s.length
  hc : c < s.length
  ta : IsTop s a t
  tc : IsTop s c t
  hb : b ≤ sizeAt s a
  hd : d ≤ sizeAt s c
  hi : (plF s (B + 1) t)[i]? = some (a, b)
  hj : (plF s (B + 1) t)[j]? = some (c, d)
  hij : i ≤ j
theorem spIs_at {s : List Nd} (wf : WF s) {h : Nat → Nat} {B : Nat} (u : Up s h B) {z : Sp} (hz : SpIs s z) : ∃ a b c d t i j, SpAt s B z a b c d t i j := by
  obtain ⟨a, b, c, d, t, l, l2, rfl, h1, h2, ta, wa, wc, hle⟩ := hz
  obtain ⟨a', b', ea, eb, ha, hb⟩ := h1
  obtain ⟨c', d', ec, ed, hc, hd⟩ := h2
  obtain rfl : a = a' := by omega
  obtain rfl : b = b' := by omega
  obtain rfl : c = c' := by omega
  obtain rfl : d = d' := by omega
  obtain ⟨x, hx, hp⟩ := ta.2
  have tc := way_top wf wc hx hp
  obtain ⟨i, ei, hi⟩ := wh_mem (way_pl wf u wa hb)
  obtain ⟨j, ej, hj⟩ := wh_mem (way_pl wf u wc hd)
  refine ⟨a, b, c, d, t, i, j, rfl, ha, hc, ta, tc, hb, hd, hi, hj, ?_⟩
  have := lexC_of_leP hle
  rw [cmp_ways wf u wa wc hb hd (wh_is _ _) (wh_is _ _), ei, ej] at this
  rcases Nat.lt_or_ge j i with h | h
  · rw [if_neg (by omega), if_pos (by omega)] at this
    omega
  · exact h
end Go.Proofs.YtabogkonklplcaaGreatDoor

namespace Go.Proofs.YtabogkonklplcaaGreatDoor
open Go.RowKit Go.Lib
set_option linter.unusedSimpArgs false
set_option linter.unusedVariables false
set_option maxRecDepth 20000 in
set_option maxHeartbeats 1000000 in
theorem cut_any (bf : Nat) (n o e : Int) (w : World) : Calls Tryz.prog 187 #[ptr bf, .int .i64 n, .int .i64 o, .int .i64 e] w fun r w' =>
    r = .returned (.func (.func 198) #[] #[ptr w.heap.size, ptr (w.heap.size + 1), ptr (w.heap.size + 2), ptr (w.heap.size + 3)]) ∧ w' = (((w.alloc (.cells #[ptr bf] 91)).alloc (.cells #[.int .i64 n] 3)).alloc (.cells #[.int .i64 o] 3)).alloc (.cells #[.int .i64 e] 3) := by
  go_enter Tryz.func187, Tryz.ntmps187
  go_wp2
  go_ret
  exact ⟨rfl, rfl⟩
def FnAt (w : World) (C : Nat → Prop) (bf : Nat) : Dact → Value → Prop
  | (n, some (o, e)), cv => ∃ x0 x1 x2 x3, cv = .func (.func 198) #[] #[ptr x0, ptr x1, ptr x2, ptr x3] ∧ w.cell? ⟨x0, 0, none⟩ = some (ptr bf) ∧ w.cell? ⟨x1, 0, none⟩ = some (.int .i64 (n : Int)) ∧ w.cell? ⟨x2, 0, none⟩ = some (.int .i64 (o : Int)) ∧ w.cell? ⟨x3, 0, none⟩ = some (.int .i64 (e : Int)) ∧ C x0 ∧ C x1 ∧ C x2 ∧ C x3
  | (i, none), cv => ∃ x0 x1, cv = .func (.func 189) #[] #[ptr x0, ptr x1] ∧ w.cell? ⟨x0, 0, none⟩ = some (ptr bf) ∧ w.cell? ⟨x1, 0, none⟩ = some (.int .i64 (i : Int)) ∧ C x0 ∧ C x1
theorem FnAt.keeps {w W : World} {C : Nat → Prop} {bf : Nat} {act : Dact} {cv : Value} {G : Nat → Prop} (h : FnAt w C bf act cv) (hk : Keeps G w W) (hG : ∀ b, C b → ¬ G b) : FnAt W C bf act cv := by
  obtain ⟨n, oe⟩ := act
  cases oe with
  | none =>
    obtain ⟨x0, x1, e, h0, h1, l0, l1⟩ := h
    exact ⟨x0, x1, e, hk.cell h0 (hG _ l0), hk.cell h1 (hG _ l1), l0, l1⟩
  | some oe =>
    obtain ⟨o, e'⟩ := oe
    obtain ⟨x0, x1, x2, x3, e, h0, h1, h2, h3, l0, l1, l2, l3⟩ := h
    exact ⟨x0, x1, x2, x3, e, hk.cell h0 (hG _ l0), hk.cell h1 (hG _ l1), hk.cell h2 (hG _ l2), hk.cell h3 (hG _ l3), l0, l1, l2, l3⟩
theorem FnAt.wider {w : World} {C C' : Nat → Prop} {bf : Nat} {act : Dact} {cv : Value} (h : FnAt w C bf act cv) (hC : ∀ b, C b → C' b) : FnAt w C' bf act cv := by
  obtain ⟨n, oe⟩ := act
  cases oe with
  | none =>
    obtain ⟨x0, x1, e, h0, h1, l0, l1⟩ := h
    exact ⟨x0, x1, e, h0, h1, hC _ l0, hC _ l1⟩
  | some oe =>
    obtain ⟨o, e'⟩ := oe
    obtain ⟨x0, x1, x2, x3, e, h0, h1, h2, h3, l0, l1, l2, l3⟩ := h
    exact ⟨x0, x1, x2, x3, e, h0, h1, h2, h3, hC _ l0, hC _ l1, hC _ l2, hC _ l3⟩
set_option maxRecDepth 20000 in
set_option maxHeartbeats 1000000 in
theorem cut1_run {W : World} {F : Nat → Prop} {f : Mvf} {s' : List Nd} {bf n o e x0 x1 x2 x3 : Nat} (h0 : W.cell? ⟨x0, 0, none⟩ = some (ptr bf)) (h1 : W.cell? ⟨x1, 0, none⟩ = some (.int .i64 (n : Int))) (h2 : W.cell? ⟨x2, 0, none⟩ = some (.int .i64 (o : Int))) (h3 : W.cell? ⟨x3, 0, none⟩ = some (.int .i64 (e : Int))) (hoe : o ≤ e) (he : e ≤ 30)
    (hT : Calls Tryz.prog 68 #[ptr bf, .int .i64 (n : Int), .int .i64 (o : Int), .int .i64 ((e : Int) - (o : Int)), .string ⟨#[]⟩] W (TMv f F W bf s')) :
    Calls Tryz.prog 198 #[ptr x0, ptr x1, ptr x2, ptr x3] W (TMv f F W bf s') := by
  have l0 := World.block_lt_of_cell? W _ h0
  have l1 := World.block_lt_of_cell? W _ h1
  have l2 := World.block_lt_of_cell? W _ h2
  have l3 := World.block_lt_of_cell? W _ h3
  have C := hid hT
  have q1 : IntKind.i64.wrap ((e : Int) - (o : Int)) = (e : Int) - (o : Int) := by rw [IntKind.wrap_i64]; omega
  clear hT
  go_enter Tryz.func198, Tryz.ntmps198
  go_wp2_with (
    go_at_call 68
    refine C.out.mono ?_
    rintro r w1 ⟨mv, m, rfl, hk, h1', h2', hf, hm⟩
    obtain ⟨gf, lb, rfl, hE, hR⟩ := hm.runs
    have H1 := hid (And.intro hk (And.intro h1' (And.intro h2' (And.intro hf (MoveOk.mk ⟨gf, lb, rfl, hE, hR⟩)))))
    clear hk h1' h2' hf hm hE hR)
  go_ret2
  obtain ⟨hk, h1', h2', hf, hm⟩ := H1.out
  exact ⟨_, m, rfl, hk, h1', h2', hf, hm⟩
set_option maxRecDepth 20000 in
set_option maxHeartbeats 1000000 in
theorem rem1_run {W : World} {F : Nat → Prop} {f : Mvf} {s' : List Nd} {bf i x0 x1 : Nat} (h0 : W.cell? ⟨x0, 0, none⟩ = some (ptr bf)) (h1 : W.cell? ⟨x1, 0, none⟩ = some (.int .i64 (i : Int)))
    (hT : Calls Tryz.prog 97 #[ptr bf, .int .i64 (i : Int)] W (TMv f F W bf s')) :
    Calls Tryz.prog 189 #[ptr x0, ptr x1] W (TMv f F W bf s') := by
  have l0 := World.block_lt_of_cell? W _ h0
  have l1 := World.block_lt_of_cell? W _ h1
  have C := hid hT
  clear hT
  go_enter Tryz.func189, Tryz.ntmps189
  go_wp2_with (
    go_at_call 97
    refine C.out.mono ?_
    rintro r w1 ⟨mv, m, rfl, hk, h1', h2', hf, hm⟩
    obtain ⟨gf, lb, rfl, hE, hR⟩ := hm.runs
    have H1 := hid (And.intro hk (And.intro h1' (And.intro h2' (And.intro hf (MoveOk.mk ⟨gf, lb, rfl, hE, hR⟩)))))
    clear hk h1' h2' hf hm hE hR)
  go_ret2
  obtain ⟨hk, h1', h2', hf, hm⟩ := H1.out
  exact ⟨_, m, rfl, hk, h1', h2', hf, hm⟩
theorem chars_empty : charsOf ⟨#[]⟩ = some [] := by
  unfold charsOf
  rfl
theorem fn_run {W : World} {F C : Nat → Prop} {bf : Nat} {act : Dact} {cv : Value} {s s' : List Nd} {f : Mvf} (h : FnAt W C bf act cv) (hD : PFor W F bf s) (hc : Chg s act s' f) (wf : WF s) (hT : Tabs W) :
    ∃ gf lb, cv = .func (.func gf) #[] lb ∧ (∀ args w, (callFunc gf args).run Tryz.prog w = .ok (.enter gf args) w) ∧ Calls Tryz.prog gf lb W (TMv f F W bf s') := by
  have hcap := wf.cap
  cases hc with
  | @cut n o e x hx ht h1 h2 =>
    obtain ⟨x0, x1, x2, x3, rfl, c0, c1, c2, c3, _⟩ := h
    refine ⟨_, _, rfl, enters_of Tryz.func198 (by kernel_rfl) rfl, ?_⟩
    have hch := wf.chars n x hx
    refine cut1_run c0 c1 c2 c3 h1 (by omega) ?_
    have hY : TakesM (30 - o - (x.cs.length - (o + (e - o)))) ⟨#[]⟩ [] := ⟨chars_empty, Nat.zero_le _⟩
    have hR := treplace_done hD n o ((e : Int) - (o : Int)) ⟨#[]⟩ x hx ht hch.1 hch.2 (by omega) [] (x.cs.take o ++ [] ++ x.cs.drop (o + (e - o))) chars_empty (by simp) (by omega) (fun w1 hb =>
      splice_yes_small x.cs hch.2 hch.1 o (e - o) ((e : Int) - (o : Int)) (by omega) (by omega) (by omega) (by omega) ⟨#[]⟩ (by unfold lots; show (0 : Nat) < _; omega) [] hY w1 (hT.below hb))
    have hmin : min ((e : Int) - (o : Int)) ((x.cs.length : Int) - o) = ((e - o : Nat) : Int) := by omega
    rw [hmin] at hR
    exact hR
  | @rem i j k x y h2 H2 hx hj hy hk hno hij wf2 u2 =>
    obtain ⟨x0, x1, rfl, c0, c1, _⟩ := h
    refine ⟨_, _, rfl, enters_of Tryz.func189 (by kernel_rfl) rfl, ?_⟩
    have hkl := kids_le wf hy
    exact rem1_run c0 c1 (tremove_done hD i j k x y hx hj hy hk hno hij (by unfold lots; omega) (by unfold lots; omega) wf2 u2)
end Go.Proofs.YtabogkonklplcaaGreatDoor
