import Derived.Test.YtabogkonklplcaaGreatDoorQ23
import Derived.Test.YtabogkonklplcaaGreatDoorQ25
import Derived.Test.YtabogkonklplcaaGreatDoorQ13
import Derived.Test.YtabogkonklplcaaGreatDoorQ18

namespace Go.Proofs.YtabogkonklplcaaGreatDoor
open Go.RowKit
set_option linter.unusedSimpArgs false
set_option linter.unusedVariables false
structure Lives (V : List Nd → Sp → Prop) : Prop where
  place : ∀ {s : List Nd} {z : Sp}, V s z → SpOk s z
  fresh : ∀ {s : List Nd}, WF s → V s ⟨0, 0, 0, 0⟩
  push : ∀ {s : List Nd} {z : Sp} (nd : Nd), WF s → WF (s ++ [nd]) → nd.p = -1 → V s z → V (s ++ [nd]) z
  insert : ∀ {s : List Nd} {i j k : Nat} {x y : Nd} {z : Sp}, WF s → InsOk s i j x y → Lim (fun c => withinF s c (i : Int) (j : Int)) false → k ≤ x.ks.length → i ≠ j → V s z →
    V ((s.set i { x with ks := x.ks.take k ++ j :: x.ks.drop k }).set j { y with p := i }) (mvSp (shiftF i k 1) z)
  remove : ∀ {s : List Nd} {i j m : Nat} {x y : Nd} {z : Sp} (l : List Nat), WF s → s[i]? = some x → x.p = (j : Int) → s[j]? = some y → y.ks[m]? = some i → i ∉ y.ks.take m → i ≠ j → (∀ a : Nat, a < s.length → (a ∈ l ↔ ∃ q, climb s q a = (i : Int))) → V s z →
    V ((s.set j { y with ks := y.ks.take m ++ y.ks.drop (m + 1) }).set i { x with p := -1 }) (mvSp (gatherF l j m (shiftF j m (-1))) z)
  replace : ∀ {s : List Nd} {n o c : Nat} {x : Nd} {lf : List ByteArray} {z : Sp}, WF s → s[n]? = some x → x.t = true → o + c ≤ x.cs.length → WF (s.set n { x with cs := x.cs.take o ++ lf ++ x.cs.drop (o + c) }) → V s z → V (s.set n { x with cs := x.cs.take o ++ lf ++ x.cs.drop (o + c) }) (mvSp (resizeF n o c lf.length) z)
  splitTop : ∀ {s : List Nd} {n k : Nat} {x : Nd} {z : Sp}, WF s → s[n]? = some x → x.t = true → k ≤ x.cs.length → x.p = -1 → s.length < 40 → V s z →
    V ((s ++ [(⟨true, x.cs.drop k, [], -1⟩ : Nd)]).set n { x with cs := x.cs.take k }) (mvSp (resizeF n k ((x.cs.length - k : Nat) : Int) 0) z)
  splitIn : ∀ {s : List Nd} {n k j m : Nat} {x y : Nd} {z : Sp}, WF s → s[n]? = some x → x.t = true → k ≤ x.cs.length → x.p = (j : Int) → s[j]? = some y → y.ks[m]? = some n → n ∉ y.ks.take m → n ≠ j → s.length < 40 → WF ((((s ++ [(⟨true, x.cs.drop k, [], -1⟩ : Nd)]).set n { x with cs := x.cs.take k }).set j { y with ks := y.ks.take (m + 1) ++ s.length :: y.ks.drop (m + 1) }).set s.length { (⟨true, x.cs.drop k, [], -1⟩ : Nd) with p := j }) → V s z →
    V ((((s ++ [(⟨true, x.cs.drop k, [], -1⟩ : Nd)]).set n { x with cs := x.cs.take k }).set j { y with ks := y.ks.take (m + 1) ++ s.length :: y.ks.drop (m + 1) }).set s.length { (⟨true, x.cs.drop k, [], -1⟩ : Nd) with p := j }) (mvSp (carryF n k s.length (shiftF j m 1)) z)
  one : ∀ {s : List Nd} {a b : Int}, WF s → PlOk s a b → V s ⟨a, b, a, b⟩
  two : ∀ {s : List Nd} {n k n2 k2 t : Nat} {l l2 : List Nat}, WF s → PlOk s n k → PlOk s n2 k2 → IsTop s n t → Way s t n l → Way s t n2 l2 → lexC (l ++ [k]) (l2 ++ [k2]) ≤ 0 → V s ⟨n, k, n2, k2⟩
theorem mapV {V W : Sp → Prop} {f : Sp → Sp} {rs : List Sp} (h : ∀ z ∈ rs, V z) (hf : ∀ z, V z → W (f z)) : ∀ z ∈ rs.map f, W z := by
  intro z hz
  obtain ⟨y, hy, rfl⟩ := List.mem_map.1 hz
  exact hf y (h y hy)
theorem allF_same {s s' : List Nd} : ∀ (k i : Nat), (∀ d ∈ allF s k i, kidsOf s' d = kidsOf s d) → allF s' k i = allF s k i := by
  intro k
  induction k with
  | zero => intro i _; rfl
  | succ k ih =>
    intro i h
    have h0 : kidsOf s' i = kidsOf s i := h i (by simp [allF])
    simp only [allF, h0]
    congr 1
    have : ∀ l : List Nat, (∀ c ∈ l, c ∈ kidsOf s i) → l.flatMap (allF s' k) = l.flatMap (allF s k) := by
      intro l
      induction l with
      | nil => intro _; rfl
      | cons c l ih2 =>
        intro hl
        rw [List.flatMap_cons, List.flatMap_cons, ih2 (fun d hd => hl d (by simp [hd])), ih c (fun d hd => h d (by
          simp only [allF, List.mem_cons, List.mem_flatMap]
          exact .inr ⟨c, hl c (by simp), hd⟩))]
    exact this _ (fun c hc => hc)
section
variable {s : List Nd} {i j m : Nat} {x y : Nd} {h h2 : Nat → Nat} {B B2 : Nat}
theorem gone_all (wf : WF s) (u : Up s h B) (hx : s[i]? = some x) (hj : x.p = (j : Int)) (hy : s[j]? = some y) (hm : y.ks[m]? = some i) (hij : i ≠ j)
    (wf2 : WF ((s.set j { y with ks := y.ks.take m ++ y.ks.drop (m + 1) }).set i { x with p := -1 })) (u2 : Up ((s.set j { y with ks := y.ks.take m ++ y.ks.drop (m + 1) }).set i { x with p := -1 }) h2 B2) :
    ∃ K, h i < K ∧ allF ((s.set j { y with ks := y.ks.take m ++ y.ks.drop (m + 1) }).set i { x with p := -1 }) (h2 i + 1) i = allF s K i := by
  have hjl := (List.getElem?_eq_some_iff.1 hy).1
  have hil := (List.getElem?_eq_some_iff.1 hx).1
  refine ⟨max (h2 i + 1) (h i + 1), by omega, ?_⟩
  rw [all_stable wf2 u2 (h2 i + 1) (max (h2 i + 1) (h i + 1)) i (by omega) (by omega)]
  refine allF_same _ _ (fun d hd => ?_)
  have hdj : d ≠ j := fun e => by
    subst e
    exact all_head_not wf u (show i ∈ kidsOf s d by rw [kidsOf_eq hy]; exact List.mem_of_getElem? hm) hd
  unfold kidsOf
  by_cases hdi : d = i
  · subst hdi
    rw [List.getElem?_set_self (by simpa using hil), hx]
  · rw [List.getElem?_set_ne (fun e => hdi e.symm), List.getElem?_set_ne (fun e => hdj e.symm)]
theorem gone_iff (wf : WF s) (u : Up s h B) (hx : s[i]? = some x) (hj : x.p = (j : Int)) (hy : s[j]? = some y) (hm : y.ks[m]? = some i) (hij : i ≠ j)
    (wf2 : WF ((s.set j { y with ks := y.ks.take m ++ y.ks.drop (m + 1) }).set i { x with p := -1 })) (u2 : Up ((s.set j { y with ks := y.ks.take m ++ y.ks.drop (m + 1) }).set i { x with p := -1 }) h2 B2) :
    ∀ a : Nat, a < s.length → (a ∈ allF ((s.set j { y with ks := y.ks.take m ++ y.ks.drop (m + 1) }).set i { x with p := -1 }) (h2 i + 1) i ↔ ∃ q, climb s q a = (i : Int)) := by
  obtain ⟨K, hK, e⟩ := gone_all wf u hx hj hy hm hij wf2 u2
  intro a ha
  rw [e]
  exact ⟨fun h => all_climb wf K i a h, fun ⟨q, hq⟩ => all_of_climb wf u K i hK q a ha hq⟩
end
end Go.Proofs.YtabogkonklplcaaGreatDoor

namespace Go.Proofs.YtabogkonklplcaaGreatDoor
set_option linter.unusedSimpArgs false
set_option linter.unusedVariables false
abbrev Dact : Type := Nat × Option (Nat × Nat)
inductive Chg : List Nd → Dact → List Nd → Mvf → Prop
  | cut {s : List Nd} {n o e : Nat} {x : Nd} : s[n]? = some x → x.t = true → o ≤ e → e ≤ x.cs.length →
      Chg s (n, some (o, e)) (s.set n { x with cs := x.cs.take o ++ [] ++ x.cs.drop (o + (e - o)) }) (resizeF n o ((e - o : Nat) : Int) (([] : List ByteArray).length : Int))
  | rem {s : List Nd} {i j m : Nat} {x y : Nd} {h2 : Nat → Nat} {H2 : Nat} : s[i]? = some x → x.p = (j : Int) → s[j]? = some y → y.ks[m]? = some i → i ∉ y.ks.take m → i ≠ j →
      WF ((s.set j { y with ks := y.ks.take m ++ y.ks.drop (m + 1) }).set i { x with p := -1 }) → Up ((s.set j { y with ks := y.ks.take m ++ y.ks.drop (m + 1) }).set i { x with p := -1 }) h2 H2 →
      Chg s (i, none) ((s.set j { y with ks := y.ks.take m ++ y.ks.drop (m + 1) }).set i { x with p := -1 }) (gatherF (allF ((s.set j { y with ks := y.ks.take m ++ y.ks.drop (m + 1) }).set i { x with p := -1 }) (h2 i + 1) i) j m (shiftF j m (-1)))
inductive Chgs : List Nd → List Dact → List Nd → List Mvf → Prop
  | nil {s : List Nd} : Chgs s [] s []
  | cons {s s1 s' : List Nd} {a : Dact} {ac : List Dact} {f : Mvf} {fs : List Mvf} : Chg s a s1 f → Chgs s1 ac s' fs → Chgs s (a :: ac) s' (f :: fs)
theorem Chgs.append {s s1 s' : List Nd} {ac bs : List Dact} {fs gs : List Mvf} (h : Chgs s ac s1 fs) (h2 : Chgs s1 bs s' gs) : Chgs s (ac ++ bs) s' (fs ++ gs) := by
  induction h with
  | nil => exact h2
  | cons c _ ih => exact .cons c (ih h2)
theorem Chgs.len {s s' : List Nd} {ac : List Dact} {fs : List Mvf} (h : Chgs s ac s' fs) : fs.length = ac.length := by
  induction h with
  | nil => rfl
  | cons _ _ ih => simp [ih]
def compF (fs : List Mvf) : Mvf := fun a b => fs.foldl (fun p f => f p.1 p.2) (a, b)
theorem compF_nil : mvSp (compF []) = id := by funext z; rfl
theorem compF_cons (f : Mvf) (fs : List Mvf) (z : Sp) : mvSp (compF (f :: fs)) z = mvSp (compF fs) (mvSp f z) := rfl
theorem map_nil' (rs : List Sp) : rs.map (mvSp (compF [])) = rs := by rw [compF_nil]; simp
theorem map_cons' (f : Mvf) (fs : List Mvf) (rs : List Sp) : rs.map (mvSp (compF (f :: fs))) = (rs.map (mvSp f)).map (mvSp (compF fs)) := by
  rw [List.map_map]; rfl
theorem cut_chars {s : List Nd} (wf : WF s) {n o e : Nat} {x : Nd} (hx : s[n]? = some x) (ht : x.t = true) : WF (s.set n { x with cs := x.cs.take o ++ [] ++ x.cs.drop (o + (e - o)) }) := by
  have hch := wf.chars n x hx
  refine wf_chars wf hx ht ⟨by simp; omega, fun c hc => ?_⟩
  rw [List.append_nil] at hc
  rcases List.mem_append.1 hc with hc | hc
  · exact hch.2 c (List.mem_of_mem_take hc)
  · exact hch.2 c (List.mem_of_mem_drop hc)
theorem Chg.wf {s s' : List Nd} {a : Dact} {f : Mvf} (h : Chg s a s' f) (wf : WF s) : WF s' := by
  cases h with
  | cut hx ht _ _ => exact cut_chars wf hx ht
  | rem _ _ _ _ _ _ h _ => exact h
theorem Chgs.wf {s s' : List Nd} {ac : List Dact} {fs : List Mvf} (h : Chgs s ac s' fs) (wf : WF s) : WF s' := by
  induction h with
  | nil => exact wf
  | cons c _ ih => exact ih (c.wf wf)
theorem Chg.lives {V : List Nd → Sp → Prop} (hV : Lives V) {s s' : List Nd} {a : Dact} {f : Mvf} (h : Chg s a s' f) (wf : WF s) {z : Sp} (hz : V s z) : V s' (mvSp f z) := by
  cases h with
  | cut hx ht h1 h2 => exact hV.replace wf hx ht (by omega) (cut_chars wf hx ht) hz
  | rem hx hj hy hm hno hij wf2 u2 =>
    obtain ⟨hh, HH, u⟩ := wf.up
    exact hV.remove _ wf hx hj hy hm hno hij (gone_iff wf u hx hj hy hm hij wf2 u2) hz
theorem Chgs.lives {V : List Nd → Sp → Prop} (hV : Lives V) {s s' : List Nd} {ac : List Dact} {fs : List Mvf} (h : Chgs s ac s' fs) (wf : WF s) : ∀ {z : Sp}, V s z → V s' (mvSp (compF fs) z) := by
  induction h with
  | nil => intro z hz; exact hz
  | cons c _ ih => intro z hz; exact ih (c.wf wf) (c.lives hV wf hz)
def Firsts (s : List Nd) (a b : Nat) (ks : List Nat) : Prop := ∃ y, s[a]? = some y ∧ y.t = false ∧ b ≤ y.ks.length ∧ y.ks.take b = ks
theorem Firsts.ok {s : List Nd} {a b : Nat} {ks : List Nat} (h : Firsts s a b ks) : PlOk s a b := by
  obtain ⟨y, hy, ht, hb, _⟩ := h
  exact ⟨a, b, rfl, rfl, (List.getElem?_eq_some_iff.1 hy).1, by rw [sizeAt_eq hy, sizeN_elem ht]; exact hb⟩
theorem Firsts.same {s s' : List Nd} {a b : Nat} {ks : List Nat} (h : Firsts s a b ks) (hs : ∀ (k : Nat) (z : Nd), s[k]? = some z → ∃ z' : Nd, s'[k]? = some z' ∧ z'.t = z.t ∧ z'.p = z.p ∧ z'.ks = z.ks) : Firsts s' a b ks := by
  obtain ⟨y, hy, ht, hb, hk⟩ := h
  obtain ⟨y', hy', e1, _, e3⟩ := hs a y hy
  exact ⟨y', hy', e1.trans ht, by rw [e3]; exact hb, by rw [e3]; exact hk⟩
end Go.Proofs.YtabogkonklplcaaGreatDoor

namespace Go.Proofs.YtabogkonklplcaaGreatDoor
open Go.RowKit Go.Lib
set_option linter.unusedSimpArgs false
set_option linter.unusedVariables false
def AnsP (s : List Nd) (rs : List Sp) (pf : FuncId) (args : List Value) (pres : Value → Value) (R : Int → Int → List Nd → Mvf → Prop) : Prop :=
  ∃ (a y : Int) (s' : List Nd) (f : Mvf), WF s' ∧ R a y s' f ∧ (∀ V : List Nd → Sp → Prop, Lives V → ∀ z, V s z → V s' (mvSp f z)) ∧
    ∀ (w : World) (F : Nat → Prop) (bx : Nat), GG w → PLies w F bx ⟨s, rs⟩ → Calls Tryz.prog pf (ptr bx :: args).toArray w (PLPost F w bx ⟨s', rs.map (mvSp f)⟩ (pres (errV a y)))
theorem AnsP.no {s : List Nd} (wf : WF s) {rs : List Sp} {pf : FuncId} {args : List Value} {pres : Value → Value} {R : Int → Int → List Nd → Mvf → Prop} (a y : Int) (hR : R a y s (compF []))
    (h : ∀ (w : World) (F : Nat → Prop) (bx : Nat), GG w → PLies w F bx ⟨s, rs⟩ → Calls Tryz.prog pf (ptr bx :: args).toArray w (PLPost F w bx ⟨s, rs⟩ (pres (errV a y)))) : AnsP s rs pf args pres R :=
  ⟨a, y, s, compF [], wf, hR, fun V _ z hz => by rw [compF_nil]; exact hz, fun w F bx hg hP => by rw [map_nil']; exact h w F bx hg hP⟩
def InsR (s : List Nd) (A B C : Int) (a y : Int) (s' : List Nd) (f : Mvf) : Prop :=
  (y ≠ 0 ∧ s' = s ∧ f = compF []) ∨ (y = 0 ∧ ∃ (i j c : Nat) (x v : Nd), A = (i : Int) ∧ B = (j : Int) ∧ C = (c : Int) ∧ InsOk s i j x v ∧ Lim (fun c => withinF s c (i : Int) (j : Int)) false ∧ c ≤ x.ks.length ∧ i ≠ j ∧ s' = (s.set i { x with ks := x.ks.take c ++ j :: x.ks.drop c }).set j { v with p := (i : Int) } ∧ f = shiftF i c 1)
theorem pans_insert (s : List Nd) (wf : WF s) (rs : List Sp) (h6 : rs.length ≤ 6) (hrs : ∀ z ∈ rs, SpOk s z) (A B C : Int) : AnsP s rs 54 [.int .i64 A, .int .i64 B, .int .i64 C] (fun v => v) (InsR s A B C) := by
  have hcap := wf.cap
  have no : ∀ (n y : Int), y ≠ 0 → (∀ (w : World) (F : Nat → Prop) (bf bn cap : Nat) (pn : List PN), PForAt w F bf bn cap pn s → Calls Tryz.prog 146 #[ptr bf, .int .i64 A, .int .i64 B, .int .i64 C] w fun e w' => e = .returned (refusalV n y) ∧ Below w.heap.size w w') →
      AnsP s rs 54 [.int .i64 A, .int .i64 B, .int .i64 C] (fun v => v) (InsR s A B C) := by
    intro n y hy hT
    refine AnsP.no wf n y (.inl ⟨hy, rfl, rfl⟩) ?_
    intro w F bx hg hP
    refine minsert_no hg hP A B C (errOf_P n y hy) (fun F' bf h => tinsert_no h A B C n y ?_)
    obtain ⟨bn, cap, pn, h⟩ := h
    exact hT w F' bf bn cap pn h
  cases hA : isB s A with
  | false => exact no A 1 (by decide) (fun w F bf bn cap pn h => may_parent h A B C hA)
  | true =>
    cases hB : isB s B with
    | false => exact no B 1 (by decide) (fun w F bf bn cap pn h => may_node h A B C hA hB)
    | true =>
      obtain ⟨a1, a2⟩ := isB_true hA
      obtain ⟨b1, b2⟩ := isB_true hB
      obtain ⟨i, rfl⟩ : ∃ i : Nat, A = (i : Int) := ⟨A.toNat, by omega⟩
      obtain ⟨j, rfl⟩ : ∃ j : Nat, B = (j : Int) := ⟨B.toNat, by omega⟩
      have hi : i < s.length := by omega
      have hj : j < s.length := by omega
      obtain ⟨x, hx⟩ : ∃ x, s[i]? = some x := ⟨_, List.getElem?_eq_getElem hi⟩
      obtain ⟨y, hy⟩ : ∃ y, s[j]? = some y := ⟨_, List.getElem?_eq_getElem hj⟩
      cases ht : x.t with
      | true => exact no i 2 (by decide) (fun w F bf bn cap pn h => may_kind h i j C x hx hj ht)
      | false =>
        by_cases hj0 : j = 0
        · subst hj0
          exact no _ 4 (by decide) (fun w F bf bn cap pn h => may_root h i C x hx ht)
        · by_cases hp : 0 ≤ y.p
          · exact no j 4 (by decide) (fun w F bf bn cap pn h => may_has h i j C x y hx hy ht (by omega) hp)
          · have hI : InsOk s i j x y := ⟨hx, hy, ht, by omega, by omega⟩
            obtain ⟨ht0, Bd, u⟩ := wf.up
            by_cases hm : i ∈ allF s (ht0 j + 1) j
            · exact no j 5 (by decide) (fun w F bf bn cap pn h => may_cycle wf u h i j (ht0 j + 1) C x y hI (by omega) hm)
            · have hw := holds_no wf u hi (Nat.lt_succ_self _) hm
              by_cases hC : C < 0 ∨ (x.ks.length : Int) < C
              · exact no i 3 (by decide) (fun w F bf bn cap pn h => may_index wf u h i j (ht0 j + 1) C x y hI (by omega) hm hC)
              · obtain ⟨c, rfl⟩ : ∃ c : Nat, C = (c : Int) := ⟨C.toNat, by omega⟩
                have hc : c ≤ x.ks.length := by omega
                obtain ⟨hij, hwf⟩ := wf_insert wf hI hw hc
                have hkl : x.ks.length ≤ 40 := Nat.le_trans (nodup_length s.length _ (wf.nodup i x hx) (fun q hq => (wf.kid_lt u hx hq).1)) wf.cap
                refine ⟨0, 0, _, shiftF i c 1, hwf, .inr ⟨rfl, i, j, c, x, y, rfl, rfl, rfl, hI, hw, hc, hij, rfl, rfl⟩, fun V hV z hz => hV.insert wf hI hw hc hij hz, ?_⟩
                intro w F bx hg hP
                exact minsert_go hg hP (Small.of wf hrs) h6 i j c (fun F' bf h => tinsert_done wf u h i j (ht0 j + 1) c x y hI (by omega) hm hc hij (by unfold lots; omega) (by unfold lots; omega))
end Go.Proofs.YtabogkonklplcaaGreatDoor
