import Derived.Test.YtabogkonklplcaaGreatDoorF36
import Derived.Test.YtabogkonklplcaaGreatDoorF30
import Derived.Test.YtabogkonklplcaaGreatDoorF11
import Derived.Test.YtabogkonklplcaaGreatDoorF35
import Derived.Test.YtabogkonklplcaaGreatDoorF37
import Derived.Test.YtabogkonklplcaaGreatDoorF33
import Derived.Test.YtabogkonklplcaaGreatDoorF27
import Derived.Test.YtabogkonklplcaaGreatDoorF10
import Derived.Test.YtabogkonklplcaaGreatDoorF13
import Derived.Test.YtabogkonklplcaaGreatDoorF21
import Derived.Stop.RegionWithIn
import Derived.Deep.RegionHeld3
import Derived.Test.YtabogkonklplcaaGreatDoorF06

/- Documents that have ranges: what states there are. -/
namespace Go.Proofs.YtabogkonklplcaaGreatDoor
open Go.RowKit
set_option linter.unusedSimpArgs false
set_option linter.unusedVariables false

/-- What is true of a range (V), whatever is done. -/
structure Lives (V : List Nd → Sp → Prop) : Prop where
  place : ∀ {s : List Nd} {z : Sp}, V s z → SpOk s z
  fresh : ∀ {s : List Nd}, WF s → V s ⟨0, 0, 0, 0⟩
  push : ∀ {s : List Nd} {z : Sp} (nd : Nd), WF s → WF (s ++ [nd]) → nd.p = -1 → V s z → V (s ++ [nd]) z
  insert : ∀ {s : List Nd} {i j k : Nat} {x y : Nd} {z : Sp}, WF s → InsOk s i j x y → Lim (fun c => withinF s c (i : Int) (j : Int)) false → k ≤ x.ks.length → i ≠ j → V s z →
    V ((s.set i { x with ks := x.ks.take k ++ j :: x.ks.drop k }).set j { y with p := i }) (mvSp (shiftF i k 1) z)
  remove : ∀ {s : List Nd} {i j m : Nat} {x y : Nd} {z : Sp} (l : List Nat), WF s → s[i]? = some x → x.p = (j : Int) → s[j]? = some y → y.ks[m]? = some i → i ∉ y.ks.take m → i ≠ j → (∀ a : Nat, a < s.length → (a ∈ l ↔ ∃ q, climb s q a = (i : Int))) → V s z →
    V ((s.set j { y with ks := y.ks.take m ++ y.ks.drop (m + 1) }).set i { x with p := -1 }) (mvSp (gatherF l j m (shiftF j m (-1))) z)
  replace : ∀ {s : List Nd} {n o c : Nat} {x : Nd} {lf : List ByteArray} {z : Sp}, WF s → s[n]? = some x → x.t = true → o + c ≤ x.cs.length → WF (s.set n { x with cs := x.cs.take o ++ lf ++ x.cs.drop (o + c) }) → V s z → V (s.set n { x with cs := x.cs.take o ++ lf ++ x.cs.drop (o + c) }) (mvSp (resizeF n o c lf.length) z)
  splitTop : ∀ {s : List Nd} {n k : Nat} {x : Nd} {z : Sp}, WF s → s[n]? = some x → x.t = true → k ≤ x.cs.length → x.p = -1 → s.length < 40 → V s z →
    V ((s ++ [(⟨true, x.cs.drop k, [], -1⟩ : Nd)]).set n { x with cs := x.cs.take k }) (mvSp (resizeF n k ((x.cs.length - k : Nat) : Int) 0) z)
  splitIn : ∀ {s : List Nd} {n k j m : Nat} {x y : Nd} {z : Sp}, WF s → s[n]? = some x → x.t = true → k ≤ x.cs.length → x.p = (j : Int) → s[j]? = some y → y.ks[m]? = some n → n ∉ y.ks.take m → n ≠ j → s.length < 40 → WF ((((s ++ [(⟨true, x.cs.drop k, [], -1⟩ : Nd)]).set n { x with cs := x.cs.take k }).set j { y with ks := y.ks.take (m + 1) ++ s.length :: y.ks.drop (m + 1) }).set s.length { (⟨true, x.cs.drop k, [], -1⟩ : Nd) with p := j }) → V s z →
    V ((((s ++ [(⟨true, x.cs.drop k, [], -1⟩ : Nd)]).set n { x with cs := x.cs.take k }).set j { y with ks := y.ks.take (m + 1) ++ s.length :: y.ks.drop (m + 1) }).set s.length { (⟨true, x.cs.drop k, [], -1⟩ : Nd) with p := j }) (mvSp (carryF n k s.length (shiftF j m 1)) z)
  one : ∀ {s : List Nd} {a b : Int}, WF s → PlOk s a b → V s ⟨a, b, a, b⟩
  two : ∀ {s : List Nd} {n k n2 k2 t : Nat} {l l2 : List Nat}, WF s → PlOk s n k → PlOk s n2 k2 → IsTop s n t → Way s t n l → Way s t n2 l2 → lexC (l ++ [k]) (l2 ++ [k2]) ≤ 0 → V s ⟨n, k, n2, k2⟩

/-- The documents whose ranges are such. -/
def PDocV (V : List Nd → Sp → Prop) : PDT where
  lies := PLies
  ok := fun st => WF st.n ∧ st.r.length ≤ 6 ∧ ∀ z ∈ st.r, V st.n z

theorem mapV {V W : Sp → Prop} {f : Sp → Sp} {rs : List Sp} (h : ∀ z ∈ rs, V z) (hf : ∀ z, V z → W (f z)) : ∀ z ∈ rs.map f, W z := by
  intro z hz
  obtain ⟨y, hy, rfl⟩ := List.mem_map.1 hz
  exact hf y (h y hy)

theorem pdocV_ok (V : List Nd → Sp → Prop) : PDOk (PDocV V) where
  keeps := fun h hk hG => PLies.keeps h hk hG
  wider := fun h hG => PLies.wider h hG
  narrow := fun h => PLies.narrow h
  root := ⟨wf_root, Nat.zero_le _, fun z hz => by cases hz⟩

theorem RDoc.afterR {w w' : World} {F : Nat → Prop} {bd : Nat} {s : List Nd} {rs : List Sp} (h : RDoc w F bd s rs) (hb : Below w.heap.size w w') : RDoc w' (grow F w) bd s rs := by
  obtain ⟨bn, cap, rn, rv, h⟩ := h
  exact ⟨bn, cap, rn, rv, (h.below hb).wider (fun b e => .inl e)⟩
theorem RDoc.unchangedR {w w' : World} {F : Nat → Prop} {bd : Nat} {s : List Nd} {rs : List Sp} (h : RDoc w F bd s rs) (hb : Below w.heap.size w w') {v : Value} {e : Ending} (he : e = .returned v) : RPost F w bd ⟨s, rs⟩ v e w' := ⟨he, Keeps.of_below hb, h.afterR hb⟩

/-- What is within a node that goes is what was within it. -/
theorem allF_same {s s' : List Nd} : ∀ (k i : Nat), (∀ d ∈ allF s k i, kidsOf s' d = kidsOf s d) → allF s' k i = allF s k i := by
  intro k
  induction k with
  | zero => intro i _; rfl
  | succ k ih =>
    intro i h
    have h0 : kidsOf s' i = kidsOf s i := h i (by simp [allF])
    simp only [allF, h0]
    congr 1
    have : ∀ l : List Nat, (∀ c ∈ l, c ∈ kidsOf s i) → l.flatMap (allF s' k) = l.flatMap (allF s k) := by
      intro l
      induction l with
      | nil => intro _; rfl
      | cons c l ih2 =>
        intro hl
        rw [List.flatMap_cons, List.flatMap_cons, ih2 (fun d hd => hl d (by simp [hd])), ih c (fun d hd => h d (by
          simp only [allF, List.mem_cons, List.mem_flatMap]
          exact .inr ⟨c, hl c (by simp), hd⟩))]
    exact this _ (fun c hc => hc)

section
variable {s : List Nd} {i j m : Nat} {x y : Nd} {h h2 : Nat → Nat} {B B2 : Nat}

theorem gone_all (wf : WF s) (u : Up s h B) (hx : s[i]? = some x) (hj : x.p = (j : Int)) (hy : s[j]? = some y) (hm : y.ks[m]? = some i) (hij : i ≠ j)
    (wf2 : WF ((s.set j { y with ks := y.ks.take m ++ y.ks.drop (m + 1) }).set i { x with p := -1 })) (u2 : Up ((s.set j { y with ks := y.ks.take m ++ y.ks.drop (m + 1) }).set i { x with p := -1 }) h2 B2) :
    ∃ K, h i < K ∧ allF ((s.set j { y with ks := y.ks.take m ++ y.ks.drop (m + 1) }).set i { x with p := -1 }) (h2 i + 1) i = allF s K i := by
  have hjl := (List.getElem?_eq_some_iff.1 hy).1
  have hil := (List.getElem?_eq_some_iff.1 hx).1
  refine ⟨max (h2 i + 1) (h i + 1), by omega, ?_⟩
  rw [all_stable wf2 u2 (h2 i + 1) (max (h2 i + 1) (h i + 1)) i (by omega) (by omega)]
  refine allF_same _ _ (fun d hd => ?_)
  have hdj : d ≠ j := fun e => by
    subst e
    exact all_head_not wf u (show i ∈ kidsOf s d by rw [kidsOf_eq hy]; exact List.mem_of_getElem? hm) hd
  unfold kidsOf
  by_cases hdi : d = i
  · subst hdi
    rw [List.getElem?_set_self (by simpa using hil), hx]
  · rw [List.getElem?_set_ne (fun e => hdi e.symm), List.getElem?_set_ne (fun e => hdj e.symm)]

theorem gone_iff (wf : WF s) (u : Up s h B) (hx : s[i]? = some x) (hj : x.p = (j : Int)) (hy : s[j]? = some y) (hm : y.ks[m]? = some i) (hij : i ≠ j)
    (wf2 : WF ((s.set j { y with ks := y.ks.take m ++ y.ks.drop (m + 1) }).set i { x with p := -1 })) (u2 : Up ((s.set j { y with ks := y.ks.take m ++ y.ks.drop (m + 1) }).set i { x with p := -1 }) h2 B2) :
    ∀ a : Nat, a < s.length → (a ∈ allF ((s.set j { y with ks := y.ks.take m ++ y.ks.drop (m + 1) }).set i { x with p := -1 }) (h2 i + 1) i ↔ ∃ q, climb s q a = (i : Int)) := by
  obtain ⟨K, hK, e⟩ := gone_all wf u hx hj hy hm hij wf2 u2
  intro a ha
  rw [e]
  exact ⟨fun h => all_climb wf K i a h, fun ⟨q, hq⟩ => all_of_climb wf u K i hK q a ha hq⟩

theorem gone_lim (wf : WF s) (u : Up s h B) (hx : s[i]? = some x) (hj : x.p = (j : Int)) (hy : s[j]? = some y) (hm : y.ks[m]? = some i) (hij : i ≠ j)
    (wf2 : WF ((s.set j { y with ks := y.ks.take m ++ y.ks.drop (m + 1) }).set i { x with p := -1 })) (u2 : Up ((s.set j { y with ks := y.ks.take m ++ y.ks.drop (m + 1) }).set i { x with p := -1 }) h2 B2) :
    ∀ a : Nat, a < s.length → Lim (fun c => withinF s c (a : Int) (i : Int)) ((allF ((s.set j { y with ks := y.ks.take m ++ y.ks.drop (m + 1) }).set i { x with p := -1 }) (h2 i + 1) i).contains a) := by
  obtain ⟨K, hK, e⟩ := gone_all wf u hx hj hy hm hij wf2 u2
  intro a ha
  rw [e]
  by_cases hm : a ∈ allF s K i
  · rw [List.contains_iff_mem.2 hm]
    exact holds_yes wf ha hm
  · have : (allF s K i).contains a = false := by
      rw [← Bool.not_eq_true]
      exact fun h => hm (List.contains_iff_mem.1 h)
    rw [this]
    exact holds_no wf u ha hK hm
end

theorem split_twice (n k t fr j m : Nat) (hfr : n ≠ fr) (hj : n ≠ j) : mvSp (resizeF n k (t : Int) 0) ∘ mvSp (carryF n k fr (shiftF j m 1)) = mvSp (carryF n k fr (shiftF j m 1)) := by
  have key : ∀ a b : Int, resizeF n k (t : Int) 0 (carryF n k fr (shiftF j m 1) a b).1 (carryF n k fr (shiftF j m 1) a b).2 = carryF n k fr (shiftF j m 1) a b := by
    intro a b
    unfold carryF
    by_cases h1 : a = (n : Int) ∧ (k : Int) < b
    · rw [if_pos h1]
      unfold resizeF shiftF
      rw [if_neg (by simp only; omega), if_neg (by simp only; omega)]
    · rw [if_neg h1]
      unfold shiftF
      by_cases h2 : a = (j : Int) ∧ (m : Int) < b
      · rw [if_pos h2]
        unfold resizeF shiftF
        rw [if_neg (by simp only; omega), if_neg (by simp only; omega)]
      · rw [if_neg h2]
        unfold resizeF shiftF
        rw [if_neg (by simp only; omega), if_neg (by simp only; omega)]
  funext z
  simp only [Function.comp, mvSp, key]

theorem carry_small {s : List Nd} (wf : WF s) {rs : List Sp} (h : ∀ z ∈ rs, SpOk s z) (n k fr j m : Nat) : Small (rs.map (mvSp (carryF n k fr (shiftF j m 1)))) := by
  have key : ∀ a b : Int, 0 ≤ b ∧ b ≤ 40 → 0 ≤ (carryF n k fr (shiftF j m 1) a b).2 ∧ (carryF n k fr (shiftF j m 1) a b).2 ≤ 100 := by
    intro a b hb
    unfold carryF
    split
    · simp only; omega
    · unfold shiftF
      split <;> simp only <;> omega
  intro z hz
  obtain ⟨y, hy, rfl⟩ := List.mem_map.1 hz
  have h1 := key y.a y.b ((h y hy).1.small wf)
  have h2 := key y.c y.d ((h y hy).2.small wf)
  exact ⟨h1.1, h1.2, h2.1, h2.2⟩

end Go.Proofs.YtabogkonklplcaaGreatDoor

/- With ranges: Element, Text, Show. -/
namespace Go.Proofs.YtabogkonklplcaaGreatDoor
open Go.RowKit Go.Lib
set_option linter.unusedSimpArgs false
set_option linter.unusedVariables false

theorem vans_element {V : List Nd → Sp → Prop} (hV : Lives V) (s : List Nd) (wf : WF s) (rs : List Sp) (h6 : rs.length ≤ 6) (hrs : ∀ z ∈ rs, V s z) : ∃ n : Int, Ans (PDocV V) GG ⟨s, rs⟩ 52 73 [] (fun v => .tuple #[.int .i64 n, v]) (fun v => .tuple #[.int .i64 n, v]) := by
  by_cases h40 : s.length < 40
  · refine ⟨s.length, 0, 0, ⟨s ++ [rootNd], rs⟩, ⟨wf_push wf h40 rootNd rfl rfl (fun _ => rfl) ⟨by decide, fun c hc => by cases hc⟩, h6, fun z hz => hV.push rootNd wf (wf_push wf h40 rootNd rfl rfl (fun _ => rfl) ⟨by decide, fun c hc => by cases hc⟩) rfl (hrs z hz)⟩, ?_, ?_⟩
    · intro w F bx hg hP
      exact melement_of hg hP (errOf_nil 0) (fun F' bf h => telement_some h h40)
    · rintro w F bd ⟨bn, cap, rn, rv, hD⟩
      exact (relement_some hD h40).mono fun e w' h => h
  · refine ⟨0, 0, 7, ⟨s, rs⟩, ⟨wf, h6, hrs⟩, ?_, ?_⟩
    · intro w F bx hg hP
      exact melement_of hg hP (errOf_P 0 7 (by decide)) (fun F' bf h => telement_full h (by omega))
    · intro w F bd hR
      have hR' := hR
      obtain ⟨bn, cap, rn, rv, hD⟩ := hR
      exact (relement_full (s := s) hD (by omega)).mono fun e w' ⟨h1, h2⟩ => ⟨h1, Keeps.of_below h2, hR'.afterR h2⟩


theorem vans_text {V : List Nd → Sp → Prop} (hV : Lives V) (s : List Nd) (wf : WF s) (rs : List Sp) (h6 : rs.length ≤ 6) (hrs : ∀ z ∈ rs, V s z) (t : ByteArray) (ht : t.size < lots) : ∃ n : Int, Ans (PDocV V) GG ⟨s, rs⟩ 53 74 [.string t] (fun v => .tuple #[.int .i64 n, v]) (fun v => .tuple #[.int .i64 n, v]) := by
  by_cases hk : ∃ l, Takes t l
  · obtain ⟨l, hl⟩ := hk
    by_cases h40 : s.length < 40
    · refine ⟨s.length, 0, 0, ⟨s ++ [⟨true, l, [], -1⟩], rs⟩, ⟨wf_push wf h40 _ rfl rfl (fun h => by cases h) ⟨hl.2, charsOf_isCh t.size t l (Nat.le_refl _) hl.1⟩, h6, fun z hz => hV.push _ wf (wf_push wf h40 _ rfl rfl (fun h => by cases h) ⟨hl.2, charsOf_isCh t.size t l (Nat.le_refl _) hl.1⟩) rfl (hrs z hz)⟩, ?_, ?_⟩
      · intro w F bx hg hP
        exact mtext_of hg hP t (errOf_nil 0) (fun F' bf h => ttext_some h hg.2 t ht l hl h40)
      · rintro w F bd ⟨bn, cap, rn, rv, hD⟩
        exact (rtext_some hD t ht l hl.1 hl.2 h40).mono fun e w' h => h
    · refine ⟨0, 0, 7, ⟨s, rs⟩, ⟨wf, h6, hrs⟩, ?_, ?_⟩
      · intro w F bx hg hP
        exact mtext_of hg hP t (errOf_P 0 7 (by decide)) (fun F' bf h => ttext_full h hg.2 t ht l hl (by omega))
      · intro w F bd hR
        have hR' := hR
        obtain ⟨bn, cap, rn, rv, hD⟩ := hR
        exact (rtext_full (s := s) hD t ht l hl.1 hl.2 (by omega)).mono fun e w' ⟨h1, h2⟩ => ⟨h1, Keeps.of_below h2, hR'.afterR h2⟩
  · refine ⟨0, 0, 6, ⟨s, rs⟩, ⟨wf, h6, hrs⟩, ?_, ?_⟩
    · intro w F bx hg hP
      exact mtext_flaw hg hP t (fun F' bf h => ttext_no h hg.2 t ht (fun l hl => hk ⟨l, hl⟩))
    · intro w F bd hR
      have hR' := hR
      obtain ⟨bn, cap, rn, rv, hD⟩ := hR
      cases hc : charsOf t with
      | none => exact (rtext_no hD t ht hc).mono fun e w' ⟨h1, h2⟩ => ⟨h1, Keeps.of_below h2, hR'.afterR h2⟩
      | some l =>
        have h30 : 30 < l.length := by
          rcases Nat.lt_or_ge 30 l.length with h | h
          · exact h
          · exact absurd ⟨l, hc, h⟩ hk
        exact (rtext_long hD t ht l hc h30).mono fun e w' ⟨h1, h2⟩ => ⟨h1, Keeps.of_below h2, hR'.afterR h2⟩


theorem vans_show {V : List Nd → Sp → Prop} (hV : Lives V) (s : List Nd) (wf : WF s) (rs : List Sp) (h6 : rs.length ≤ 6) (hrs : ∀ z ∈ rs, V s z) (A : Int) : ∃ b : ByteArray, Ans (PDocV V) GG ⟨s, rs⟩ 55 77 [.int .i64 A] (fun v => .tuple #[.string b, v]) (fun v => .tuple #[.string b, v]) := by
  cases hA : isB s A with
  | false =>
    refine ⟨⟨#[]⟩, A, 1, ⟨s, rs⟩, ⟨wf, h6, hrs⟩, ?_, ?_⟩
    · intro w F bx hg hP
      exact mshow_of hg hP A (errOf_P A 1 (by decide)) (fun F' bf h => tshow_no h A hA)
    · intro w F bd hR
      have hR' := hR
      obtain ⟨bn, cap, rn, rv, hD⟩ := hR
      exact (rshow_no hD A hA).mono fun e w' ⟨h1, h2⟩ => ⟨h1, Keeps.of_below h2, hR'.afterR h2⟩
  | true =>
    obtain ⟨h1, h2⟩ := isB_true hA
    obtain ⟨i, rfl⟩ : ∃ i : Nat, A = (i : Int) := ⟨A.toNat, by omega⟩
    have hi : i < s.length := by omega
    obtain ⟨h, H, u⟩ := wf.up
    have hl := shown_lim wf u (k := h i + 1) (n := i) (by omega)
    refine ⟨shownF s (h i + 1) i, 0, 0, ⟨s, rs⟩, ⟨wf, h6, hrs⟩, ?_, ?_⟩
    · intro w F bx hg hP
      exact mshow_of hg hP i (errOf_nil 0) (fun F' bf h => tshow_yes wf h i hi _ hl)
    · intro w F bd hR
      have hR' := hR
      obtain ⟨bn, cap, rn, rv, hD⟩ := hR
      exact (rshow_yes wf hD i hi _ hl).mono fun e w' ⟨h1, h2⟩ => ⟨h1, Keeps.of_below h2, hR'.afterR h2⟩


end Go.Proofs.YtabogkonklplcaaGreatDoor

/- marginref's Split of a text without a parent, with ranges. -/
namespace Go.Proofs.YtabogkonklplcaaGreatDoor
open Go.RowKit
set_option linter.unusedSimpArgs false
set_option linter.unusedVariables false

section
variable {w : World} {F : Nat → Prop} {bd bn cap : Nat} {rn : List RN} {rv : Value} {s : List Nd} {rs : List Sp}

set_option maxRecDepth 20000 in
set_option maxHeartbeats 16000000 in
theorem rsplit_topR (hD : RDocAt w F bd bn cap rn rv s rs) (n k : Nat) (x : Nd) (hx : s[n]? = some x) (ht : x.t = true) (hlen : x.cs.length ≤ 30) (hk : k ≤ x.cs.length) (h40 : s.length < 40) (hp : x.p < 0) (hsm : Small rs) (h6 : rs.length ≤ 6) :
    Calls Tryz.prog 79 #[.pointer (some ⟨bd, 0, none⟩), .int .i64 n, .int .i64 k] w fun e w' => e = .returned (.tuple #[.int .i64 s.length, rfltV 0 0]) ∧ Keeps F w w' ∧
      RDoc w' (fun b => F b ∨ w.heap.size ≤ b) bd ((s ++ [(⟨true, x.cs.drop k, [], x.p⟩ : Nd)]).set n { x with cs := x.cs.take k }) (rs.map (mvSp (resizeF n k ((x.cs.length - k : Nat) : Int) 0))) := by
  obtain ⟨i0, hi, hz0, hz1, hz2⟩ := info_parts Tryz.info9
  obtain ⟨j0, hj, jz0, jz1, jz2⟩ := info_parts Tryz.info119
  have hn : n < s.length := (List.getElem?_eq_some_iff.1 hx).1
  have CF := hid (textFits_ok (hD.below (one0_below w)) n k x hx ht hk)
  have h1b : ((0 : Int) == 0) = true := rfl
  have h40b : decide ((40 : Int) ≤ (s.length : Int)) = false := decide_eq_false (by omega)
  have h0 := hD.nodesCell
  have hlt := hD.lt
  have hlenE := hD.len
  have hpd : decide (0 ≤ x.p) = false := decide_eq_false (by omega)
  have hpd' : ¬ (0 : Int) ≤ x.p := by omega
  obtain ⟨r, hr, ho, -, hc1, -, hc3⟩ := hD.look hx
  obtain ⟨ta, tc, hsl, hsrc⟩ := slice_tail (t := 107) Tryz.underlying107 Tryz.elem107 Tryz.sizeOf9 ho.chars (strsV_one _) k hk (fun w => by kernel_rfl)
  obtain ⟨ca, cc, hcv⟩ := slice_shape ho.chars
  rw [hcv] at hc1 hsl hsrc
  have HROW := hid ho.chars
  rw [hcv] at HROW
  have HSRC := hid hsrc
  have HTB := hid (one0_below w)
  have HD := hid hD
  have HSM := hid hsm
  clear hsm
  have HX := hid hx
  clear hD hr ho hcv hx ht hsrc
  go_enter Tryz.func79, Tryz.ntmps79
  go_wp2_with (first
    | (go_at_call 123; refine CF.out.mono ?_; rintro e w1 ⟨rfl, hb1⟩
       have hq2 : w1.heap[w.heap.size]? = some (.cells #[.int .i64 0, .int .i64 0] 32 (0, 0)) := by
         rw [hb1.block _ (by simp)]
         exact heap_alloc_new w _
       have hs1 : w.heap.size + 1 ≤ w1.heap.size := by have := hb1.size; simpa using this
       have HB1 := hid (HTB.out.trans (hb1.mono HTB.out.size))
       have HQ2 := hid hq2
       clear hb1 hq2)
    | (go_at_call 124; refine (fine_any 0 0 _).mono ?_; rintro e w2 ⟨rfl, hb2⟩
       have hf2 : w2.heap[w1.heap.size]? = some (.cells #[.int .i64 0, .int .i64 0] 32 (0, 0)) := (hb2.block _ (by simp)).trans (heap_alloc_new w1 _)
       have hz2 : w2.heap[w.heap.size]? = some (.cells #[.int .i64 0, .int .i64 0] 32 (0, 0)) :=
         (hb2.block _ (by simp; omega)).trans ((((Below.refl _ w1).alloc (Nat.le_refl _) _).block _ (by omega)).trans HQ2.out)
       have cf0 : w2.cell? ⟨w1.heap.size, 0, none⟩ = some (.int .i64 0) := cell_of_heap hf2 0
       have cf1 : w2.cell? ⟨w1.heap.size, 1, none⟩ = some (.int .i64 0) := cell_of_heap hf2 1
       have cz0 : w2.cell? ⟨w.heap.size, 0, none⟩ = some (.int .i64 0) := cell_of_heap hz2 0
       have cz1 : w2.cell? ⟨w.heap.size, 1, none⟩ = some (.int .i64 0) := cell_of_heap hz2 1
       have fz0 := frozen_of_heap hz2 0
       have fz1 := frozen_of_heap hz2 1
       have HB2 := hid ((HB1.out.alloc HB1.out.size _).trans (hb2.mono (Nat.le_trans HB1.out.size (by simp))))
       have hs2 : w.heap.size + 1 ≤ w2.heap.size := by have := hb2.size; simp at this; omega
       clear hb2
       have HZ := hid hz2
       have d0 := (HB2.out.cell (p := ⟨bd, 0, none⟩) hlt.1).trans h0
       have d1 := (HB2.out.cell (p := ⟨bn, n * 4 + 1, none⟩) hlt.2).trans hc1
       have d3 := (HB2.out.cell (p := ⟨bn, n * 4 + 3, none⟩) hlt.2).trans hc3
       have S2 := hid (HSRC.out w2 ((Keeps.of_below (F := fun _ => False) HB2.out).row HROW.out (fun _ _ e => e)))
       have HF := hid (And.intro hf2 hf2)
       clear hz2
       rw [h1b])
    | (at_builtin; refine wpList_append_any _ rfl (.tmp 32) (.tmp 42) 107 rfl w2.heap.size 9 i0 (.string ByteArray.empty) 1 16 Tryz.underlying107 hi hz0 hz1 hz2 rfl (by decide) (.slice none 0 0) 0 [] rfl (World.ownsRow_nil _ _ _ _) _ _ _ rfl S2.out (by unfold maxLen; omega) (by omega) (Nat.le_refl _) ?_
       intro v1 w3 ho1 hb1
       obtain ⟨va, vc, hv1⟩ := slice_shape ho1
       subst hv1
       have hh := HB2.out.trans (hb1.mono HB2.out.size)
       have hz := hh.size
       have d0' := (hh.cell (p := ⟨bd, 0, none⟩) hlt.1).trans h0
       have d3' := (hh.cell (p := ⟨bn, n * 4 + 3, none⟩) hlt.2).trans hc3
       have HO1 := hid ho1
       have HB3 := hid hh
       have hz3 : w3.heap[w.heap.size]? = some (.cells #[.int .i64 0, .int .i64 0] 32 (0, 0)) := (hb1.block _ (heap_lt HZ.out)).trans HZ.out
       have HZ3 := hid hz3
       have HW3 := hid (And.intro hz (heap_lt hz3))
       go_must (have HD2 : Hid (RDocAt (w3.alloc (.cells #[.bool true, .slice va (0 + (x.cs.length - k)) vc, .slice none 0 0, .int .i64 x.p] 119)) (fun b => F b ∧ b < w.heap.size) bd bn cap rn rv s rs) :=
         HD.out.narrow.below (hh.alloc hh.size _))
       clear ho1 hb1 hh hz3)
    | (at_builtin
       refine wpList_append_lies _ rfl (.tmp 61) (.tmp 65) 120 rfl 0 119 j0 _ 4 64 Tryz.underlying120 hj jz0 jz1 jz2 rfl (by decide) (.slice (some ⟨bn, 0, none⟩) s.length cap) s.length _ rfl (by have := HD2.out.nodes; rw [hlenE] at this; simp only [Nat.zero_add] at this; exact this) ⟨w3.heap.size, 0, none⟩ 1 1 [.bool true, .slice va (x.cs.length - k) vc, .slice none 0 0, .int .i64 x.p] rfl rfl (World.news_of_block (heap_alloc_new w3 _)) (by simp [Value.oneCell']) (by decide) (by unfold maxLen; omega) (by omega) (Nat.zero_le _) (w3.heap.size + 1) (by simp) ?_
       intro g cap' w4 ho (hg : World.grownBy _ w4 (some bn)) (hgn : some bn = some g ∨ _) _
       have z0 := HW3.out.1
       have z1 := HW3.out.2
       have hD2 := HD2.out
       simp only [Nat.zero_add] at hD2
       have hd1 := (hg.block bd (by simp only [World.size_alloc]; omega) (by simpa using hD2.ne)).trans hD2.doc
       have hcD : w4.cell? ⟨bd, 0, none⟩ = some (.slice (some ⟨bn, 0, none⟩) rn.length cap) := cell_of_heap hd1 0
       have hfD := frozen_of_heap hd1 0
       have hq1 := (hg.block w.heap.size (by simp only [World.size_alloc]; omega) (by simp; omega)).trans ((Below.heap_alloc _ _ _ z1).trans HZ3.out)
       have hcr := HO1.out
       simp only [Nat.zero_add, List.nil_append] at hcr
       have hcb : ∀ b, (Value.slice va (x.cs.length - k) vc).ownBlock = some b → w2.heap.size ≤ b := fun b e => (hcr.lt b e).1
       have hcs : (x.cs.drop k).length = x.cs.length - k := by simp
       have hcv : (strsV x.cs).drop k = strsV (x.cs.drop k) := by simp [strsV]
       have hp5 := hD2.pushed (B := w.heap.size + 1) (x := ⟨true, x.cs.drop k, [], x.p⟩) (r := ⟨true, .slice va (x.cs.length - k) vc, .slice none 0 0, x.p⟩) (by simp only [World.size_alloc]; omega) hg (by rw [hlenE]; exact ho) (by rcases hgn with e | e; exact .inl (by cases e; rfl); exact .inr (by simpa using e))
         ⟨rfl, rfl, by rw [hcs, ← hcv]; exact ownsRow_zero (hcr.alloc _), World.ownsRow_nil _ _ _ _, fun b e => ⟨.inr (by have := hcb b e; omega), by have := hcb b e; omega, by have := hcb b e; omega, fun e2 => by have := hcb b e; have := (HD.out.ranges.lt b e2).2; omega⟩, fun b e => (by cases e)⟩
       rw [hlenE] at hp5 hcD
       have hk0 : Keeps F w w4 := ((Keeps.of_below (F := F) HB3.out).alloc _).trans (Keeps.grown hg (fun k e => by cases e; exact .inl (.inl HD.out.Fn)))
       have hq5 : (w4.setCell ⟨bd, 0, none⟩ (.slice (some ⟨g, 0, none⟩) (s.length + 1) cap')).heap[w.heap.size]? = some (.cells #[.int .i64 0, .int .i64 0] 32 (0, 0)) := by
         rw [Below.heap_setCell _ _ _ _ (by simp; omega)]; exact hq1
       have HP5 := hid hp5
       have HK0 := hid hk0
       have HQ5 := hid hq5
       have CR := hid (replace_anyR hp5 n k (x.cs.length - k) x (by rw [List.getElem?_append_left hn]; exact HX.out) hlen (by omega) (.slice none 0 0) [] (by decide) (World.ownsRow_nil _ _ _ _) HSM.out h6 (by decide))
       clear hd1 hq1 hg ho hgn hp5 hk0 hq5 hD2 hcr hcb hcs hcv)
    | (go_at_call 125
       refine CR.out.mono ?_
       rintro e w5 ⟨rfl, hk5, hr5⟩
       have hz5 := (hk5.block _ (heap_lt HQ5.out) (fun e => by rcases e with e | e; exact Nat.lt_irrefl _ e.2; omega)).trans HQ5.out
       have cz5 : w5.cell? ⟨w.heap.size, 0, none⟩ = some (.int .i64 0) := cell_of_heap hz5 0
       have cz6 : w5.cell? ⟨w.heap.size, 1, none⟩ = some (.int .i64 0) := cell_of_heap hz5 1
       have fz5 := frozen_of_heap hz5 0
       have fz6 := frozen_of_heap hz5 1
       have hs5 := heap_lt hz5
       have HK5 := hid hk5
       have HR5 := hid hr5
       clear hk5 hr5 hz5))
  refine bodyPost_ret (v := .tuple #[.int .i64 s.length, rfltV 0 0]) (by simp [results, Tryz.results79, go_sem, cz5, cz6, fz5, fz6, hs5]) rfl ?_
  have hk6 : Keeps F w w5 := (HK0.out.setCell (p := ⟨bd, 0, none⟩) (.inl HD.out.Fd) _).trans (HK5.out.mono (fun b _ e => by rcases e with e | e; exact .inl e.1; exact .inr (by omega)))
  have hk7 : Keeps (fun b => b = w.heap.size) w5 ((w5.setCell ⟨w.heap.size, 0, none⟩ (.int .i64 0)).setCell ⟨w.heap.size, 1, none⟩ (.int .i64 0)) := ((Keeps.refl (fun b => b = w.heap.size) w5).setCell (p := ⟨w.heap.size, 0, none⟩) (.inl rfl) _).setCell (p := ⟨w.heap.size, 1, none⟩) (.inl rfl) _
  obtain ⟨bn6, cap6, rn6, rv6, hD6⟩ := HR5.out.keeps hk7 (fun b e e2 => by have := heap_lt HQ5.out; rcases e with (e | e) | e <;> omega)
  refine ⟨rfl, (hk6.setCell (p := ⟨w.heap.size, 0, none⟩) (.inr (Nat.le_refl _)) _).setCell (p := ⟨w.heap.size, 1, none⟩) (.inr (Nat.le_refl _)) _, bn6, cap6, rn6, rv6, ?_⟩
  have e7 : x.cs.take k ++ [] ++ x.cs.drop (k + (x.cs.length - k)) = x.cs.take k := by rw [List.drop_of_length_le (by omega)]; simp
  rw [e7] at hD6
  refine hD6.wider (fun b e => ?_)
  rcases e with (e | e) | e
  · exact .inl e.1
  · exact .inr (by omega)
  · exact .inr (by have := heap_lt HQ5.out; omega)
end

end Go.Proofs.YtabogkonklplcaaGreatDoor

/- marginref's SetStart, SetEnd. -/
namespace Go.Proofs.YtabogkonklplcaaGreatDoor
open Go.RowKit
set_option linter.unusedSimpArgs false
set_option linter.unusedVariables false

set_option maxRecDepth 20000 in
set_option maxHeartbeats 1000000 in
theorem rstart_no {w : World} {bd : Nat} (r p0 p1 a y : Int) (hS : ∀ W, Below w.heap.size w W → Calls Tryz.prog 130 #[.pointer (some ⟨bd, 0, none⟩), .int .i64 r, .agg #[.int .i64 p0, .int .i64 p1], .bool true] W fun e w' => e = .returned (rfltV a y) ∧ Below W.heap.size W w') :
    Calls Tryz.prog 82 #[.pointer (some ⟨bd, 0, none⟩), .int .i64 r, .agg #[.int .i64 p0, .int .i64 p1]] w fun e w' => e = .returned (rfltV a y) ∧ Below w.heap.size w w' := by
  have HB0 := hid (show Below w.heap.size w (pf w p0 p1) from ((Below.refl _ w).alloc (Nat.le_refl _) _).alloc (by simp) _)
  have C := hid (hS _ HB0.out)
  have a1 : (pf w p0 p1).heap[w.heap.size + 1]? = some (.cells #[.int .i64 0, .int .i64 0] 32 (0, 0)) := by
    have := heap_alloc_new (w.alloc (.cells #[.int .i64 p0, .int .i64 p1] 37)) (.cells #[.int .i64 0, .int .i64 0] 32)
    simpa using this
  have HA1 := hid a1
  clear hS a1
  go_enter Tryz.func82, Tryz.ntmps82
  go_wp2_with (
    go_at_call 130
    refine C.out.mono ?_
    rintro e w1 ⟨rfl, hb1⟩
    have hz := (hb1.block _ (heap_lt HA1.out)).trans HA1.out
    have z0 := cell_of_heap hz 0
    have z1 := cell_of_heap hz 1
    have f0 := frozen_of_heap hz 0
    have f1 := frozen_of_heap hz 1
    have hl := heap_lt hz
    have HB1 := hid (HB0.out.trans (hb1.mono HB0.out.size))
    clear hb1 hz)
  refine bodyPost_ret (v := rfltV a y) (by simp [results, Tryz.results82, go_sem, z0, z1, f0, f1, hl]) rfl ?_
  exact ⟨rfl, (HB1.out.setCell (p := ⟨w.heap.size + 1, 0, none⟩) (Nat.le_succ _) _).setCell (p := ⟨w.heap.size + 1, 1, none⟩) (Nat.le_succ _) _⟩

set_option maxRecDepth 20000 in
set_option maxHeartbeats 1000000 in
theorem rstart_ok {w : World} {F : Nat → Prop} {bd : Nat} {s : List Nd} {rs rs' : List Sp} (hD : RDoc w F bd s rs) (r p0 p1 : Int) (hS : ∀ (W : World) (G : Nat → Prop), RDoc W G bd s rs → Calls Tryz.prog 130 #[.pointer (some ⟨bd, 0, none⟩), .int .i64 r, .agg #[.int .i64 p0, .int .i64 p1], .bool true] W fun e w' => e = .returned (rfltV 0 0) ∧ Keeps G W w' ∧ RDoc w' (fun b => G b ∨ W.heap.size ≤ b) bd s rs') :
    Calls Tryz.prog 82 #[.pointer (some ⟨bd, 0, none⟩), .int .i64 r, .agg #[.int .i64 p0, .int .i64 p1]] w fun e w' => e = .returned (rfltV 0 0) ∧ Keeps F w w' ∧ RDoc w' (grow F w) bd s rs' := by
  have HB0 := hid (show Below w.heap.size w (pf w p0 p1) from ((Below.refl _ w).alloc (Nat.le_refl _) _).alloc (by simp) _)
  have hD0 : RDoc (pf w p0 p1) (fun b => F b ∧ b < w.heap.size) bd s rs := by
    obtain ⟨bn, cap, rn, rv, h⟩ := hD
    exact ⟨bn, cap, rn, rv, h.narrow.below HB0.out⟩
  have C := hid (hS _ _ hD0)
  have a1 : (pf w p0 p1).heap[w.heap.size + 1]? = some (.cells #[.int .i64 0, .int .i64 0] 32 (0, 0)) := by
    have := heap_alloc_new (w.alloc (.cells #[.int .i64 p0, .int .i64 p1] 37)) (.cells #[.int .i64 0, .int .i64 0] 32)
    simpa using this
  have HA1 := hid a1
  clear hS a1 hD0 hD
  go_enter Tryz.func82, Tryz.ntmps82
  go_wp2_with (
    go_at_call 130
    refine C.out.mono ?_
    rintro e w1 ⟨rfl, hk1, hd1⟩
    have hz := (hk1.block _ (heap_lt HA1.out) (fun e => by omega)).trans HA1.out
    have z0 := cell_of_heap hz 0
    have z1 := cell_of_heap hz 1
    have f0 := frozen_of_heap hz 0
    have f1 := frozen_of_heap hz 1
    have hl := heap_lt hz
    have H1 := hid (And.intro hk1 hd1)
    clear hk1 hd1 hz)
  refine bodyPost_ret (v := rfltV 0 0) (by simp [results, Tryz.results82, go_sem, z0, z1, f0, f1, hl]) rfl ?_
  obtain ⟨hk1, hd1⟩ := H1.out
  have hk2 : Keeps F w w1 := (Keeps.of_below HB0.out).trans (hk1.mono (fun b _ e => .inl e.1))
  refine ⟨rfl, (hk2.setCell (p := ⟨w.heap.size + 1, 0, none⟩) (.inr (Nat.le_succ _)) _).setCell (p := ⟨w.heap.size + 1, 1, none⟩) (.inr (Nat.le_succ _)) _, ?_⟩
  refine (hd1.keeps (((Keeps.refl (fun b => b = w.heap.size + 1) _).setCell (p := ⟨w.heap.size + 1, 0, none⟩) (.inl rfl) _).setCell (p := ⟨w.heap.size + 1, 1, none⟩) (.inl rfl) _) ?_).wider ?_
  · intro b hb e
    rcases hb with hb | hb
    · omega
    · simp only [World.size_alloc] at hb
      omega
  · intro b hb
    rcases hb with hb | hb
    · exact .inl hb.1
    · simp only [World.size_alloc] at hb
      exact .inr (by omega)

set_option maxRecDepth 20000 in
set_option maxHeartbeats 1000000 in
theorem rend_no {w : World} {bd : Nat} (r p0 p1 a y : Int) (hS : ∀ W, Below w.heap.size w W → Calls Tryz.prog 130 #[.pointer (some ⟨bd, 0, none⟩), .int .i64 r, .agg #[.int .i64 p0, .int .i64 p1], .bool false] W fun e w' => e = .returned (rfltV a y) ∧ Below W.heap.size W w') :
    Calls Tryz.prog 83 #[.pointer (some ⟨bd, 0, none⟩), .int .i64 r, .agg #[.int .i64 p0, .int .i64 p1]] w fun e w' => e = .returned (rfltV a y) ∧ Below w.heap.size w w' := by
  have HB0 := hid (show Below w.heap.size w (pf w p0 p1) from ((Below.refl _ w).alloc (Nat.le_refl _) _).alloc (by simp) _)
  have C := hid (hS _ HB0.out)
  have a1 : (pf w p0 p1).heap[w.heap.size + 1]? = some (.cells #[.int .i64 0, .int .i64 0] 32 (0, 0)) := by
    have := heap_alloc_new (w.alloc (.cells #[.int .i64 p0, .int .i64 p1] 37)) (.cells #[.int .i64 0, .int .i64 0] 32)
    simpa using this
  have HA1 := hid a1
  clear hS a1
  go_enter Tryz.func83, Tryz.ntmps83
  go_wp2_with (
    go_at_call 130
    refine C.out.mono ?_
    rintro e w1 ⟨rfl, hb1⟩
    have hz := (hb1.block _ (heap_lt HA1.out)).trans HA1.out
    have z0 := cell_of_heap hz 0
    have z1 := cell_of_heap hz 1
    have f0 := frozen_of_heap hz 0
    have f1 := frozen_of_heap hz 1
    have hl := heap_lt hz
    have HB1 := hid (HB0.out.trans (hb1.mono HB0.out.size))
    clear hb1 hz)
  refine bodyPost_ret (v := rfltV a y) (by simp [results, Tryz.results83, go_sem, z0, z1, f0, f1, hl]) rfl ?_
  exact ⟨rfl, (HB1.out.setCell (p := ⟨w.heap.size + 1, 0, none⟩) (Nat.le_succ _) _).setCell (p := ⟨w.heap.size + 1, 1, none⟩) (Nat.le_succ _) _⟩

set_option maxRecDepth 20000 in
set_option maxHeartbeats 1000000 in
theorem rend_ok {w : World} {F : Nat → Prop} {bd : Nat} {s : List Nd} {rs rs' : List Sp} (hD : RDoc w F bd s rs) (r p0 p1 : Int) (hS : ∀ (W : World) (G : Nat → Prop), RDoc W G bd s rs → Calls Tryz.prog 130 #[.pointer (some ⟨bd, 0, none⟩), .int .i64 r, .agg #[.int .i64 p0, .int .i64 p1], .bool false] W fun e w' => e = .returned (rfltV 0 0) ∧ Keeps G W w' ∧ RDoc w' (fun b => G b ∨ W.heap.size ≤ b) bd s rs') :
    Calls Tryz.prog 83 #[.pointer (some ⟨bd, 0, none⟩), .int .i64 r, .agg #[.int .i64 p0, .int .i64 p1]] w fun e w' => e = .returned (rfltV 0 0) ∧ Keeps F w w' ∧ RDoc w' (grow F w) bd s rs' := by
  have HB0 := hid (show Below w.heap.size w (pf w p0 p1) from ((Below.refl _ w).alloc (Nat.le_refl _) _).alloc (by simp) _)
  have hD0 : RDoc (pf w p0 p1) (fun b => F b ∧ b < w.heap.size) bd s rs := by
    obtain ⟨bn, cap, rn, rv, h⟩ := hD
    exact ⟨bn, cap, rn, rv, h.narrow.below HB0.out⟩
  have C := hid (hS _ _ hD0)
  have a1 : (pf w p0 p1).heap[w.heap.size + 1]? = some (.cells #[.int .i64 0, .int .i64 0] 32 (0, 0)) := by
    have := heap_alloc_new (w.alloc (.cells #[.int .i64 p0, .int .i64 p1] 37)) (.cells #[.int .i64 0, .int .i64 0] 32)
    simpa using this
  have HA1 := hid a1
  clear hS a1 hD0 hD
  go_enter Tryz.func83, Tryz.ntmps83
  go_wp2_with (
    go_at_call 130
    refine C.out.mono ?_
    rintro e w1 ⟨rfl, hk1, hd1⟩
    have hz := (hk1.block _ (heap_lt HA1.out) (fun e => by omega)).trans HA1.out
    have z0 := cell_of_heap hz 0
    have z1 := cell_of_heap hz 1
    have f0 := frozen_of_heap hz 0
    have f1 := frozen_of_heap hz 1
    have hl := heap_lt hz
    have H1 := hid (And.intro hk1 hd1)
    clear hk1 hd1 hz)
  refine bodyPost_ret (v := rfltV 0 0) (by simp [results, Tryz.results83, go_sem, z0, z1, f0, f1, hl]) rfl ?_
  obtain ⟨hk1, hd1⟩ := H1.out
  have hk2 : Keeps F w w1 := (Keeps.of_below HB0.out).trans (hk1.mono (fun b _ e => .inl e.1))
  refine ⟨rfl, (hk2.setCell (p := ⟨w.heap.size + 1, 0, none⟩) (.inr (Nat.le_succ _)) _).setCell (p := ⟨w.heap.size + 1, 1, none⟩) (.inr (Nat.le_succ _)) _, ?_⟩
  refine (hd1.keeps (((Keeps.refl (fun b => b = w.heap.size + 1) _).setCell (p := ⟨w.heap.size + 1, 0, none⟩) (.inl rfl) _).setCell (p := ⟨w.heap.size + 1, 1, none⟩) (.inl rfl) _) ?_).wider ?_
  · intro b hb e
    rcases hb with hb | hb
    · omega
    · simp only [World.size_alloc] at hb
      omega
  · intro b hb
    rcases hb with hb | hb
    · exact .inl hb.1
    · simp only [World.size_alloc] at hb
      exact .inr (by omega)

end Go.Proofs.YtabogkonklplcaaGreatDoor

/- That the places of ranges are there, whatever is done. -/
namespace Go.Proofs.YtabogkonklplcaaGreatDoor
open Go.RowKit
set_option linter.unusedSimpArgs false
set_option linter.unusedVariables false

theorem PlOk.splitTop {s : List Nd} {n k : Nat} {x : Nd} (hx : s[n]? = some x) (ht : x.t = true) (hk : k ≤ x.cs.length) {a b : Int} (h : PlOk s a b) :
    PlOk ((s ++ [(⟨true, x.cs.drop k, [], -1⟩ : Nd)]).set n { x with cs := x.cs.take k }) (resizeF n k ((x.cs.length - k : Nat) : Int) 0 a b).1 (resizeF n k ((x.cs.length - k : Nat) : Int) 0 a b).2 := by
  have hn := (List.getElem?_eq_some_iff.1 hx).1
  have := (h.push (⟨true, x.cs.drop k, [], -1⟩ : Nd)).replace (i := n) (o := k) (c := x.cs.length - k) (x := x) (cs := x.cs.take k) (g := 0) (by rw [List.getElem?_append_left hn]; exact hx) ht (by omega) (by simp; omega)
  exact this

theorem PlOk.splitIn {s : List Nd} {n k j m : Nat} {x y : Nd} (hx : s[n]? = some x) (ht : x.t = true) (hk : k ≤ x.cs.length) (hy : s[j]? = some y) (hyt : y.t = false) (hm : m < y.ks.length) (hnj : n ≠ j) {a b : Int} (h : PlOk s a b) :
    PlOk ((((s ++ [(⟨true, x.cs.drop k, [], -1⟩ : Nd)]).set n { x with cs := x.cs.take k }).set j { y with ks := y.ks.take (m + 1) ++ s.length :: y.ks.drop (m + 1) }).set s.length { (⟨true, x.cs.drop k, [], -1⟩ : Nd) with p := j }) (carryF n k s.length (shiftF j m 1) a b).1 (carryF n k s.length (shiftF j m 1) a b).2 := by
  have hn := (List.getElem?_eq_some_iff.1 hx).1
  have hj := (List.getElem?_eq_some_iff.1 hy).1
  obtain ⟨c, d, rfl, rfl, hc, hd⟩ := h
  have hsn : sizeAt s n = x.cs.length := by rw [sizeAt_eq hx, sizeN_text ht]
  have hsj : sizeAt s j = y.ks.length := by rw [sizeAt_eq hy, sizeN_elem hyt]
  have hsz : ∀ q, sizeAt ((((s ++ [(⟨true, x.cs.drop k, [], -1⟩ : Nd)]).set n { x with cs := x.cs.take k }).set j { y with ks := y.ks.take (m + 1) ++ s.length :: y.ks.drop (m + 1) }).set s.length { (⟨true, x.cs.drop k, [], -1⟩ : Nd) with p := j }) q =
      if q = s.length then x.cs.length - k else if q = j then y.ks.length + 1 else if q = n then k else sizeAt (s ++ [(⟨true, x.cs.drop k, [], -1⟩ : Nd)]) q := by
    intro q
    rw [sizeAt_set (by simp), sizeAt_set (by simp; omega), sizeAt_set (by simp; omega)]
    rw [sizeN_text (x := { (⟨true, x.cs.drop k, [], -1⟩ : Nd) with p := j }) rfl, sizeN_elem (x := { y with ks := y.ks.take (m + 1) ++ s.length :: y.ks.drop (m + 1) }) hyt, sizeN_text (x := { x with cs := x.cs.take k }) ht]
    have e1 : (x.cs.drop k).length = x.cs.length - k := by simp
    have e2 : (y.ks.take (m + 1) ++ s.length :: y.ks.drop (m + 1)).length = y.ks.length + 1 := by simp; omega
    have e3 : (x.cs.take k).length = k := by simp; omega
    simp only [e1, e2, e3]
  have hlen : ((((s ++ [(⟨true, x.cs.drop k, [], -1⟩ : Nd)]).set n { x with cs := x.cs.take k }).set j { y with ks := y.ks.take (m + 1) ++ s.length :: y.ks.drop (m + 1) }).set s.length { (⟨true, x.cs.drop k, [], -1⟩ : Nd) with p := j }).length = s.length + 1 := by simp
  unfold carryF
  by_cases h1 : (c : Int) = (n : Int) ∧ (k : Int) < (d : Int)
  · rw [if_pos h1]
    obtain rfl : c = n := by omega
    refine ⟨s.length, d - k, rfl, by show (d : Int) - k = _; omega, by rw [hlen]; omega, ?_⟩
    rw [hsz, if_pos rfl]
    omega
  · rw [if_neg h1]
    have hcne : c ≠ s.length := by omega
    unfold shiftF
    by_cases h2 : (c : Int) = (j : Int) ∧ (m : Int) < (d : Int)
    · rw [if_pos h2]
      obtain rfl : c = j := by omega
      refine ⟨c, d + 1, rfl, rfl, by rw [hlen]; omega, ?_⟩
      rw [hsz, if_neg hcne, if_pos rfl]
      omega
    · rw [if_neg h2]
      refine ⟨c, d, rfl, rfl, by rw [hlen]; omega, ?_⟩
      rw [hsz, if_neg hcne]
      by_cases h3 : c = j
      · subst h3
        rw [if_pos rfl]
        omega
      · rw [if_neg h3]
        by_cases h4 : c = n
        · subst h4
          rw [if_pos rfl]
          omega
        · rw [if_neg h4, sizeAt_push _ hc]
          exact hd

theorem spOk_lives : Lives SpOk where
  place := fun h => h
  fresh := fun wf => ⟨⟨0, 0, rfl, rfl, wf.pos, Nat.zero_le _⟩, ⟨0, 0, rfl, rfl, wf.pos, Nat.zero_le _⟩⟩
  push := fun nd _ _ _ h => ⟨h.1.push nd, h.2.push nd⟩
  insert := fun wf hI hw hk hij h => h.mv (fun a b hp => hp.insert hI.hx hI.hy hij hI.ht hk)
  remove := by
    intro s i j m x y z l wf hx hj hy hm hno hij hl h
    have hyt : y.t = false := by
      cases hyt : y.t with
      | false => rfl
      | true => have := (wf.elem j y hy).1 hyt; rw [this] at hm; cases hm
    have hjl := (List.getElem?_eq_some_iff.1 hy).1
    refine h.mv (fun a b hp => hp.remove hx hy hij hyt (List.getElem?_eq_some_iff.1 hm).1 l (fun hmem => ?_))
    obtain ⟨q, hq⟩ := (hl j hjl).1 hmem
    obtain ⟨hh, B, u⟩ := wf.up
    have h1 := (climb_height u q j i hq).1
    have h2 := (wf.kid_lt u hy (List.mem_of_getElem? hm)).2
    omega
  replace := by
    intro s n o c x lf z wf hx ht hc _ h
    exact h.mv (fun a b hp => hp.replace hx ht hc (by simp; omega))
  splitTop := fun wf hx ht hk hp _ h => h.mv (fun a b hp => hp.splitTop hx ht hk)
  splitIn := by
    intro s n k j m x y z wf hx ht hk hp hy hm hno hnj _ _ h
    have hyt : y.t = false := by
      cases hyt : y.t with
      | false => rfl
      | true => have := (wf.elem j y hy).1 hyt; rw [this] at hm; cases hm
    exact h.mv (fun a b hp => hp.splitIn hx ht hk hy hyt (List.getElem?_eq_some_iff.1 hm).1 hnj)
  one := fun wf h => ⟨h, h⟩
  two := fun wf h1 h2 _ _ _ _ => ⟨h1, h2⟩

end Go.Proofs.YtabogkonklplcaaGreatDoor

/- Ways that are changed below one node: what stood ahead stands ahead then, too. Plain mathematics. -/
namespace Go.Proofs.YtabogkonklplcaaGreatDoor
set_option linter.unusedSimpArgs false
set_option linter.unusedVariables false

/-- A way's own form: each step odd. -/
abbrev enc (l : List Nat) : List Nat := l.map (fun i => 2 * i + 1)
theorem pw_eq (l : List Nat) (k : Nat) : pw l k = enc l ++ [2 * k] := rfl
def leP (P Q : List Nat) : Prop := P = Q ∨ lexN P Q

/-- What lies below P1 is changed by g. -/
def under : List Nat → (List Nat → List Nat) → List Nat → List Nat
  | [], g, P => g P
  | _ :: _, _, [] => []
  | p :: P1, g, q :: P => if q = p then q :: under P1 g P else q :: P

theorem under_at (P1 : List Nat) (g : List Nat → List Nat) (P : List Nat) : under P1 g (P1 ++ P) = P1 ++ g P := by
  induction P1 with
  | nil => rfl
  | cons p P1 ih => simp [under, ih]

theorem leP_cons {a : Nat} {P Q : List Nat} (h : leP P Q) : leP (a :: P) (a :: Q) := by
  rcases h with rfl | h
  · exact .inl rfl
  · exact .inr (.cons h)

/-- Steps down, then a place: odd ones, then an even one. -/
def IsPw (P : List Nat) : Prop := ∃ l k, P = pw l k
theorem IsPw.tail {a : Nat} {P : List Nat} (h : IsPw (a :: P)) (ha : a % 2 = 1) : IsPw P := by
  obtain ⟨l, k, h⟩ := h
  cases l with
  | nil => simp [pw] at h; omega
  | cons b l =>
    rw [pw_cons] at h
    injection h with h1 h2
    exact ⟨l, k, h2⟩
theorem IsPw.even {a : Nat} {P : List Nat} (h : IsPw (a :: P)) (ha : a % 2 = 0) : P = [] := by
  obtain ⟨l, k, h⟩ := h
  cases l with
  | nil => simp [pw] at h; exact h.2
  | cons b l =>
    rw [pw_cons] at h
    injection h with h1 h2
    omega
theorem IsPw.ne {P : List Nat} (h : IsPw P) : P ≠ [] := by
  obtain ⟨l, k, rfl⟩ := h
  simp [pw]

theorem under_le {g : List Nat → List Nat} (hg : ∀ P Q, IsPw P → IsPw Q → lexN P Q → leP (g P) (g Q)) :
    ∀ (P1 : List Nat), (∀ a ∈ P1, a % 2 = 1) → ∀ P Q, IsPw P → IsPw Q → lexN P Q → leP (under P1 g P) (under P1 g Q) := by
  intro P1
  induction P1 with
  | nil => intro _ P Q hP hQ h; exact hg P Q hP hQ h
  | cons p P1 ih =>
    intro hodd P Q hP hQ h
    cases P with
    | nil => exact absurd rfl hP.ne
    | cons a P =>
      cases Q with
      | nil => exact absurd rfl hQ.ne
      | cons b Q =>
        have hp := hodd p (by simp)
        have ih := ih (fun a ha => hodd a (by simp [ha]))
        rcases lexN_cons h with hab | ⟨rfl, hPQ⟩
        · have : ∃ X Y, under (p :: P1) g (a :: P) = a :: X ∧ under (p :: P1) g (b :: Q) = b :: Y := by
            simp only [under]
            by_cases h1 : a = p <;> by_cases h2 : b = p <;> simp [h1, h2]
          obtain ⟨X, Y, e1, e2⟩ := this
          rw [e1, e2]
          exact .inr (.rel hab)
        · simp only [under]
          by_cases h1 : a = p
          · subst h1
            simp only [if_true]
            exact leP_cons (ih P Q (hP.tail hp) (hQ.tail hp) hPQ)
          · simp only [h1, if_false]
            exact .inr (.cons hPQ)

/-- A step more, below a node that is not the one. -/
theorem under_snoc {g : List Nat → List Nat} (hg : ∀ a r e, g (a :: r ++ [e]) = g (a :: r) ++ [e]) : ∀ (P1 X : List Nat) (e : Nat), X ≠ P1 → under P1 g (X ++ [e]) = under P1 g X ++ [e] ∨ (∃ Y, P1 = X ++ e :: Y) := by
  intro P1
  induction P1 with
  | nil =>
    intro X e hX
    cases X with
    | nil => exact absurd rfl hX
    | cons a X => exact .inl (hg a X e)
  | cons p P1 ih =>
    intro X e hX
    cases X with
    | nil =>
      by_cases h : e = p
      · subst h; exact .inr ⟨P1, rfl⟩
      · left; simp [under, h]
    | cons a X =>
      by_cases h : a = p
      · subst h
        rcases ih X e (fun e => hX (by rw [e])) with h1 | ⟨Y, h1⟩
        · left; simp [under, h1]
        · right; exact ⟨Y, by rw [h1]; rfl⟩
      · left; simp [under, h]

/-- Up to the node itself nothing is changed. -/
theorem under_short {g : List Nat → List Nat} (h0 : g [] = []) : ∀ (P1 X Y : List Nat), P1 = X ++ Y → under P1 g X = X := by
  intro P1
  induction P1 with
  | nil => intro X Y h; simp at h; rw [h.1]; exact h0
  | cons p P1 ih =>
    intro X Y h
    cases X with
    | nil => rfl
    | cons a X =>
      simp at h
      obtain ⟨rfl, h⟩ := h
      simp [under, ih X Y h]

theorem under_snoc0 {g : List Nat → List Nat} (hg : ∀ a r e, g (a :: r ++ [e]) = g (a :: r) ++ [e]) (h0 : g [] = []) (P1 X : List Nat) (e : Nat) (hX : X ≠ P1) : under P1 g (X ++ [e]) = under P1 g X ++ [e] := by
  rcases under_snoc hg P1 X e hX with h | ⟨Y, h⟩
  · exact h
  · rw [under_short h0 P1 (X ++ [e]) Y (by rw [h]; simp), under_short h0 P1 X (e :: Y) h]

theorem enc_inj {l m : List Nat} (h : enc l = enc m) : l = m := (List.map_inj_right (fun a b e => by omega)).1 h

theorem snoc_cases {α : Type} (l : List α) : l = [] ∨ ∃ m a, l = m ++ [a] := by
  rcases List.eq_nil_or_concat l with h | ⟨m, a, h⟩
  · exact .inl h
  · exact .inr ⟨m, a, by rw [h, List.concat_eq_append]⟩

/-- A way leads to one node. -/
theorem Way.node {s : List Nd} {t n : Nat} {l : List Nat} (w : Way s t n l) : ∀ {m : Nat}, Way s t m l → n = m := by
  induction w with
  | top =>
    intro m w
    generalize hl : ([] : List Nat) = l at w
    cases w with
    | top => rfl
    | down _ _ _ => simp at hl
  | @down q c i l y w hq hi ih =>
    intro m w2
    generalize hl : l ++ [i] = l2 at w2
    cases w2 with
    | top => simp at hl
    | @down q2 _ i2 l2 y2 w3 hq2 hi2 =>
      have h1 := List.append_inj_left' hl rfl
      have h2 := List.append_inj_right' hl rfl
      subst h1
      simp at h2
      subst h2
      obtain rfl := ih w3
      rw [hq] at hq2
      cases hq2
      rw [hi] at hi2
      exact Option.some.inj hi2

/-- Only one way leads to a node. -/
theorem Way.only {s : List Nd} (wf : WF s) {t n : Nat} {l : List Nat} (w : Way s t n l) (ht : ∃ x, s[t]? = some x ∧ x.p = -1) : ∀ {l2 : List Nat}, Way s t n l2 → l = l2 := by
  induction w with
  | top =>
    intro l2 w2
    cases w2 with
    | top => rfl
    | @down q _ i l y w3 hq hi =>
      exfalso
      obtain ⟨x, hx, hp⟩ := ht
      obtain ⟨z, hz, hzp⟩ := wf.kid q y hq t (List.mem_of_getElem? hi)
      rw [hx] at hz
      cases hz
      omega
  | @down q c i l y w hq hi ih =>
    intro l2 w2
    obtain ⟨z, hz, hzp⟩ := wf.kid q y hq c (List.mem_of_getElem? hi)
    cases w2 with
    | top =>
      exfalso
      obtain ⟨x, hx, hp⟩ := ht
      rw [hx] at hz
      cases hz
      omega
    | @down q2 _ i2 l2 y2 w3 hq2 hi2 =>
      obtain ⟨z2, hz2, hzp2⟩ := wf.kid q2 y2 hq2 c (List.mem_of_getElem? hi2)
      rw [hz] at hz2
      cases hz2
      obtain rfl : q = q2 := by omega
      rw [hq] at hq2
      cases hq2
      obtain rfl := ih w3
      have hnd := wf.nodup q y hq
      have : i = i2 := by
        have h1 := (List.getElem?_eq_some_iff.1 hi)
        have h2 := (List.getElem?_eq_some_iff.1 hi2)
        exact (List.getElem_inj hnd).1 (h1.2.trans h2.2.symm)
      rw [this]

/-- Ways behind a change of one node's children (p), of which some may be out of the tree (out). -/
theorem Way.moved {s s' : List Nd} (wf : WF s) {t p : Nat} {lp : List Nat} (ht : ∃ x, s[t]? = some x ∧ x.p = -1) (wp : Way s t p lp) (out : Nat → Prop) (φ : Nat → Nat) {g : List Nat → List Nat} (g0 : g [] = []) (gs : ∀ a r e, g (a :: r ++ [e]) = g (a :: r) ++ [e])
    (g1 : ∀ (i c : Nat) (y : Nd), s[p]? = some y → y.ks[i]? = some c → ¬ out c → g [2 * i + 1] = [2 * φ i + 1])
    (h1 : ∀ (i c : Nat) (y : Nd), s[p]? = some y → y.ks[i]? = some c → ¬ out c → ∃ y', s'[p]? = some y' ∧ y'.ks[φ i]? = some c)
    (h2 : ∀ (q i c : Nat) (y : Nd), q ≠ p → s[q]? = some y → y.ks[i]? = some c → ¬ out c → ∃ y', s'[q]? = some y' ∧ y'.ks[i]? = some c)
    (ho : ∀ (q i c : Nat) (y : Nd), s[q]? = some y → y.ks[i]? = some c → ¬ out c → ¬ out q) {n : Nat} {l : List Nat} (w : Way s t n l) : ¬ out n → ∃ l', Way s' t n l' ∧ enc l' = under (enc lp) g (enc l) := by
  induction w with
  | top =>
    intro _
    refine ⟨[], .top, ?_⟩
    cases hlp : enc lp with
    | nil => simp [under, g0]
    | cons a r => simp [under]
  | @down q c i l y w hq hi ih =>
    intro hc
    obtain ⟨l', w', e'⟩ := ih (ho q i c y hq hi hc)
    have e1 : enc (l ++ [i]) = enc l ++ [2 * i + 1] := by simp [enc]
    by_cases hqp : q = p
    · subst hqp
      obtain rfl := wp.only wf ht w
      obtain ⟨y', hy', hi'⟩ := h1 i c y hq hi hc
      have e2 : l' = lp := by
        have h3 := under_at (enc lp) g []
        rw [List.append_nil, g0, List.append_nil] at h3
        rw [h3] at e'
        exact enc_inj e'
      subst e2
      refine ⟨l' ++ [φ i], .down w' hy' hi', ?_⟩
      rw [e1, under_at, g1 i c y hq hi hc]
      simp [enc]
    · obtain ⟨y', hy', hi'⟩ := h2 q i c y hqp hq hi hc
      refine ⟨l' ++ [i], .down w' hy' hi', ?_⟩
      have hne : enc l ≠ enc lp := fun e => hqp (w.node (by rw [enc_inj e]; exact wp))
      rw [e1, under_snoc0 gs g0 _ _ _ hne, ← e']
      simp [enc]

theorem lex_three : ∀ (P Q : List Nat), lexN P Q ∨ P = Q ∨ lexN Q P := by
  intro P
  induction P with
  | nil =>
    intro Q
    cases Q with
    | nil => exact .inr (.inl rfl)
    | cons b Q => exact .inl .nil
  | cons a P ih =>
    intro Q
    cases Q with
    | nil => exact .inr (.inr .nil)
    | cons b Q =>
      rcases Nat.lt_trichotomy a b with h | h | h
      · exact .inl (.rel h)
      · subst h
        rcases ih Q with h | h | h
        · exact .inl (.cons h)
        · exact .inr (.inl (by rw [h]))
        · exact .inr (.inr (.cons h))
      · exact .inr (.inr (.rel h))

theorem leP_of_lexC {l l2 : List Nat} {k k2 : Nat} (h : lexC (l ++ [k]) (l2 ++ [k2]) ≤ 0) : leP (pw l k) (pw l2 k2) := by
  rcases lex_three (pw l k) (pw l2 k2) with h1 | h1 | h1
  · exact .inr h1
  · exact .inl h1
  · have := lexC_lt _ _ _ _ h1
    rw [lexC_neg, this] at h
    simp at h

theorem way_to {s : List Nd} (wf : WF s) {n t : Nat} (ht : IsTop s n t) (hn : n < s.length) : ∃ l, Way s t n l := by
  obtain ⟨⟨m, hm⟩, x, hx, hp⟩ := ht
  have key : ∀ (m n : Nat), n < s.length → climb s m n = (t : Int) → ∃ l, Way s t n l := by
    intro m
    induction m with
    | zero =>
      intro n hn h
      have : n = t := by simp [climb] at h; omega
      subst this
      exact ⟨[], .top⟩
    | succ m ih =>
      intro n hn h
      have hx := List.getElem?_eq_getElem hn
      rcases wf.par n _ hx with hp | ⟨i, y, hp, hy, hc⟩
      · exfalso
        have h1 : climb s 1 n = -1 := by simp [climb, parOf, hx, hp]
        have h2 := climb_neg (s := s) (j := 1) (n := n) (by rw [h1]; decide) m
        rw [Nat.add_comm] at h2
        omega
      · have h1 : climb s 1 n = (i : Int) := by simp [climb, parOf, hx, hp]
        have h2 := climb_add h1 m
        rw [Nat.add_comm] at h2
        rw [h2] at h
        obtain ⟨l, wl⟩ := ih i (List.getElem?_eq_some_iff.1 hy).1 h
        obtain ⟨k, hk, e⟩ := List.mem_iff_getElem.1 hc
        exact ⟨l ++ [k], .down wl hy (by rw [List.getElem?_eq_getElem hk, e])⟩
  exact key m n hn hm

/-- Both places of a range are in one tree, and its end does not come first. -/
def SpIs (s : List Nd) (z : Sp) : Prop := ∃ (n k n2 k2 t : Nat) (l l2 : List Nat), z = ⟨n, k, n2, k2⟩ ∧ PlOk s n k ∧ PlOk s n2 k2 ∧ IsTop s n t ∧ Way s t n l ∧ Way s t n2 l2 ∧ leP (pw l k) (pw l2 k2)
theorem SpIs.ok {s : List Nd} {z : Sp} (h : SpIs s z) : SpOk s z := by
  obtain ⟨n, k, n2, k2, t, l, l2, rfl, h1, h2, _⟩ := h
  exact ⟨h1, h2⟩

/-- The way to a place of a tree. -/
def Good (s : List Nd) (t : Nat) (P : List Nat) : Prop := ∃ (n k : Nat) (l : List Nat), PlOk s n k ∧ Way s t n l ∧ P = pw l k

/-- How a change moves the places of one tree. -/
structure Moves (s s' : List Nd) (t t' : Nat) (f : Mvf) (E : List Nat → List Nat) : Prop where
  mono : ∀ P Q, Good s t P → Good s t Q → lexN P Q → leP (E P) (E Q)
  top : ∃ x, s'[t']? = some x ∧ x.p = -1
  one : ∀ (n k : Nat) (l : List Nat), PlOk s n k → Way s t n l → ∃ (n' k' : Nat) (l' : List Nat), f n k = ((n' : Int), (k' : Int)) ∧ PlOk s' n' k' ∧ Way s' t' n' l' ∧ pw l' k' = E (pw l k)

theorem SpIs.mv {s s' : List Nd} (wf' : WF s') {f : Mvf} (h : ∀ t, (∃ x, s[t]? = some x ∧ x.p = -1) → ∃ t' E, Moves s s' t t' f E) {z : Sp} (hz : SpIs s z) : SpIs s' (mvSp f z) := by
  obtain ⟨n, k, n2, k2, t, l, l2, rfl, h1, h2, ht, w1, w2, hle⟩ := hz
  obtain ⟨t', E, M⟩ := h t ht.2
  obtain ⟨n', k', l', e1, p1, w1', q1⟩ := M.one n k l h1 w1
  obtain ⟨n2', k2', l2', e2, p2, w2', q2⟩ := M.one n2 k2 l2 h2 w2
  obtain ⟨x, hx, hp⟩ := M.top
  refine ⟨n', k', n2', k2', t', l', l2', ?_, p1, p2, way_top wf' w1' hx hp, w1', w2', ?_⟩
  · simp only [mvSp, e1, e2]
  · rw [q1, q2]
    rcases hle with h | h
    · exact .inl (by rw [h])
    · exact M.mono _ _ ⟨_, _, _, h1, w1, rfl⟩ ⟨_, _, _, h2, w2, rfl⟩ h

/-- The order below one node is kept, and so all is. -/
theorem under_le2 {g : List Nat → List Nat} {ok : List Nat → Prop} (hg : ∀ R R', ok R → ok R' → lexN R R' → leP (g R) (g R')) :
    ∀ (P1 P Q : List Nat), (∀ R, P = P1 ++ R → ok R) → (∀ R, Q = P1 ++ R → ok R) → lexN P Q → leP (under P1 g P) (under P1 g Q) := by
  intro P1
  induction P1 with
  | nil => intro P Q hP hQ h; exact hg P Q (hP P rfl) (hQ Q rfl) h
  | cons p P1 ih =>
    intro P Q hP hQ h
    cases Q with
    | nil => exact absurd h (fun h => lexN_nil h)
    | cons b Q =>
      cases P with
      | nil =>
        have : ∃ Y, under (p :: P1) g (b :: Q) = b :: Y := by
          simp only [under]
          by_cases h2 : b = p <;> simp [h2]
        obtain ⟨Y, e⟩ := this
        rw [e]
        exact .inr .nil
      | cons a P =>
        rcases lexN_cons h with hab | ⟨rfl, hPQ⟩
        · have : ∃ X Y, under (p :: P1) g (a :: P) = a :: X ∧ under (p :: P1) g (b :: Q) = b :: Y := by
            simp only [under]
            by_cases h1 : a = p <;> by_cases h2 : b = p <;> simp [h1, h2]
          obtain ⟨X, Y, e1, e2⟩ := this
          rw [e1, e2]
          exact .inr (.rel hab)
        · simp only [under]
          by_cases h1 : a = p
          · subst h1
            simp only [if_true]
            exact leP_cons (ih P Q (fun R e => hP R (by rw [e]; rfl)) (fun R e => hQ R (by rw [e]; rfl)) hPQ)
          · simp only [h1, if_false]
            exact .inr (.cons hPQ)

/-- A way that is cut: where it leads so far, and which child is next. -/
theorem Way.cut {s : List Nd} {t n : Nat} {l : List Nat} (w : Way s t n l) : ∀ (l1 : List Nat) (c : Nat) (l2 : List Nat), l = l1 ++ c :: l2 → ∃ (p q : Nat) (y : Nd), Way s t p l1 ∧ s[p]? = some y ∧ y.ks[c]? = some q ∧ Way s q n l2 := by
  induction w with
  | top => intro l1 c l2 h; simp at h
  | @down q c i l y w hq hi ih =>
    intro l1 d l2 h
    rcases snoc_cases l2 with rfl | ⟨l3, a, rfl⟩
    · have h1 := List.append_inj_left' h rfl
      have h2 := List.append_inj_right' h rfl
      simp at h2
      subst h1
      subst h2
      exact ⟨q, c, y, w, hq, hi, .top⟩
    · have e : l1 ++ d :: (l3 ++ [a]) = (l1 ++ d :: l3) ++ [a] := by simp
      rw [e] at h
      have h1 := List.append_inj_left' h rfl
      have h2 := List.append_inj_right' h rfl
      simp at h2
      subst h2
      obtain ⟨p, q2, y2, w1, hy2, hq2, w2⟩ := ih l1 d l3 h1
      exact ⟨p, q2, y2, w1, hy2, hq2, .down w2 hq hi⟩

theorem Way.append {s : List Nd} {t q n : Nat} {l1 l2 : List Nat} (w1 : Way s t q l1) (w2 : Way s q n l2) : Way s t n (l1 ++ l2) := by
  induction w2 with
  | top => simpa using w1
  | @down p c i l y w hp hi ih => rw [← List.append_assoc]; exact .down ih hp hi

/-- Where nothing changes on the way it stays. -/
theorem Way.same {s s' : List Nd} {t n : Nat} {l : List Nat} (w : Way s t n l) (h : ∀ (q : Nat) (l : List Nat) (y : Nd), Way s t q l → s[q]? = some y → ∃ y', s'[q]? = some y' ∧ y'.ks = y.ks) : Way s' t n l := by
  induction w with
  | top => exact .top
  | @down q c i l y w hq hi ih =>
    obtain ⟨y', hy', e⟩ := h q l y w hq
    exact .down ih hy' (by rw [e]; exact hi)

/-- What a way below a node's own way is. -/
theorem pw_below {lp l : List Nat} {k : Nat} {R : List Nat} (h : pw l k = enc lp ++ R) : ∃ l2, l = lp ++ l2 ∧ R = pw l2 k := by
  induction lp generalizing l with
  | nil => exact ⟨l, rfl, by simpa using h.symm⟩
  | cons a lp ih =>
    cases l with
    | nil => simp [pw] at h; omega
    | cons b l =>
      rw [pw_cons] at h
      simp only [enc, List.map_cons, List.cons_append] at h
      injection h with h1 h2
      obtain ⟨l2, e1, e2⟩ := ih h2
      exact ⟨l2, by rw [e1]; simp; omega, e2⟩

theorem enc_below {lp l : List Nat} {R : List Nat} (h : enc l = enc lp ++ R) : ∃ l2, l = lp ++ l2 ∧ R = enc l2 := by
  induction lp generalizing l with
  | nil => exact ⟨l, rfl, by simpa using h.symm⟩
  | cons a lp ih =>
    cases l with
    | nil => simp at h
    | cons b l =>
      simp only [enc, List.map_cons, List.cons_append] at h
      injection h with h1 h2
      obtain ⟨l2, e1, e2⟩ := ih h2
      exact ⟨l2, by rw [e1]; simp; omega, e2⟩

end Go.Proofs.YtabogkonklplcaaGreatDoor

/- tree.Read. -/
namespace Go.Proofs.YtabogkonklplcaaGreatDoor
open Go.RowKit Go.Shelf
set_option linter.unusedSimpArgs false
set_option linter.unusedVariables false
attribute [local go_sem] Oper.semAt_some

theorem cat_byteCells (l : List ByteArray) : Lib.strCells (catB l) = Lib.byteCells (catB l).data.toList := rfl
theorem pk_mem {cs : List ByteArray} {c : Nat → Bool} {k : Nat} {x : ByteArray} (h : x ∈ pk cs c k) : x ∈ cs := by
  unfold pk at h
  obtain ⟨b, _, hb⟩ := List.mem_flatMap.1 h
  split at hb
  · cases e : cs[b]? with
    | none => rw [e] at hb; simp at hb
    | some y => rw [e] at hb; simp at hb; subst hb; exact List.mem_of_getElem? e
  · simp at hb
theorem pk_len (cs : List ByteArray) (c : Nat → Bool) (k : Nat) : (pk cs c k).length ≤ k := by
  induction k with
  | zero => simp [pk]
  | succ k ih =>
    rw [pk_succ, List.length_append]
    have : (if c k then cs[k]?.toList else []).length ≤ 1 := by
      split
      · cases cs[k]? <;> simp
      · simp
    omega
theorem readP_ch {s : List Nd} (wf : WF s) (L : List (Nat × Nat)) (a b c d : Nat) (ns : List Nat) : ∀ x ∈ readP s L a b c d ns, IsCh x := by
  intro x hx
  obtain ⟨n, _, hx⟩ := List.mem_flatMap.1 hx
  have hx := pk_mem hx
  unfold csOf at hx
  split at hx
  · rename_i y hy
    exact (wf.chars n y hy).2 x hx
  · simp at hx
theorem readP_len {s : List Nd} (wf : WF s) (L : List (Nat × Nat)) (a b c d : Nat) (ns : List Nat) : (readP s L a b c d ns).length ≤ 30 * ns.length := by
  induction ns with
  | nil => simp [readP]
  | cons n ns ih =>
    have e : readP s L a b c d (n :: ns) = pk (csOf s n) (cov L a b c d n) (csOf s n).length ++ readP s L a b c d ns := by simp [readP]
    have h1 := pk_len (csOf s n) (cov L a b c d n) (csOf s n).length
    have h2 : (csOf s n).length ≤ 30 := by
      unfold csOf
      split
      · rename_i y hy
        exact (wf.chars n y hy).1
      · simp
    rw [e, List.length_append, List.length_cons]
    omega
theorem readP_snoc (s : List Nd) (L : List (Nat × Nat)) (a b c d : Nat) (ns : List Nat) (n : Nat) : readP s L a b c d (ns ++ [n]) = readP s L a b c d ns ++ pk (csOf s n) (cov L a b c d n) (csOf s n).length := by simp [readP]

theorem keeps_iterAt {F : Nat → Prop} {a w : World} (h : Keeps F a w) {k : Nat} (hk : F k ∨ a.heap.size ≤ k) (z : ByteArray) (q : Nat) : Keeps F a (w.iterAt k z q) :=
  h.trans ⟨rfl, rfl, rfl, by rw [Lib.iterAt_size]; exact Nat.le_refl _, fun j hj hF => Lib.iterAt_other w k j z q (fun e => hF (by rw [e]; exact hk))⟩
theorem cat_rune (l : List ByteArray) (h : ∀ c ∈ l, IsCh c) (k : Nat) (c : ByteArray) (hk : l[k]? = some c) :
    ∃ R : Nat, Utf8.decode (catB l) (catB (l.take k)).size = (R, c.size) ∧ Lib.runeCells (R : Int) = Lib.strCells c ∧ R ≤ 2147483647 ∧ (catB (l.take k)).size < (catB l).size ∧ (catB (l.take (k + 1))).size = (catB (l.take k)).size + c.size := by
  obtain ⟨hkl, rfl⟩ := List.getElem?_eq_some_iff.1 hk
  have e : l = l.take k ++ l[k] :: l.drop (k + 1) := by rw [List.getElem_cons_drop, List.take_append_drop]
  obtain ⟨R, h1, h2, h3, h4, h5⟩ := decode_place (l.take k) l[k] (l.drop (k + 1)) (h _ (List.getElem_mem hkl))
  rw [← e] at h1 h4
  exact ⟨R, h1, h2, h3, h4, by rw [List.take_succ_eq_append_getElem hkl]; exact h5⟩

/-- The state of Read's inner loop: so many characters of one text are looked at. -/
def RdInv (bo bp : Nat) (n : Nat) (cs out : List ByteArray) (c : Nat → Bool) (O : Nat → Prop) (W wr : World) : Prop :=
  ∃ (k : Nat) (v : Value), k ≤ cs.length ∧ wr.heap[bp]? = some (.cells #[.int .i64 (n : Int), .int .i64 (k : Int)] 37 (0, 0)) ∧ wr.heap[bp + 1]? = some (.stringIter (catB cs) (catB (cs.take k)).size) ∧
    BldV bo v (Lib.strCells (catB (out ++ pk cs c k))) wr ∧ Keeps O W wr ∧ (∀ j, v.ownBlock = some j → O j ∨ W.heap.size ≤ j) ∧ v.ownBlock ≠ some bp

set_option maxRecDepth 20000 in
set_option maxHeartbeats 4000000 in
theorem tread_any {s : List Nd} (wf : WF s) {h : Nat → Nat} {B : Nat} (u : Up s h B) {F : Nat → Prop} {bf bn cap : Nat} {pn : List PN} {w : World} (hD : PForAt w F bf bn cap pn s) (a b c d t : Nat) (ha : a < s.length) (hc : c < s.length) (ta : IsTop s a t) (tc : IsTop s c t) (hb : b ≤ sizeAt s a) (hd : d ≤ sizeAt s c) :
    Calls Tryz.prog 112 #[ptr bf, spV ⟨a, b, c, d⟩] w fun e w' => e = .returned (.string (catB (readP s (plF s (B + 1) t) a b c d (allF s (B + 1) t)))) ∧ Below w.heap.size w w' := by
  have HD := hid hD.narrow
  clear hD
  refine callsIn_wide.1 (callsIn_of_wp_marks (F := Fence.wide) (n := 1) Tryz.func112 rfl trivial ?_ rfl)
  simp only [Tryz.ntmps112, List.size_toArray, List.length_cons, List.length_nil, Nat.reduceAdd, Nat.reduceSub, Array.replicate_succ, Array.replicate_zero, List.push_toArray, List.append_toArray, List.nil_append, List.cons_append]
  have C := hid (fun (W : World) => all_any bf t W)
  have CT := hid (fun (W : World) (hb : Below w.heap.size w W) => ttop_at wf (HD.out.below hb) ta ha)
  gi_wp2
  obtain ⟨w0, hw0⟩ : ∃ w0, ((w.alloc (.cells #[ptr bf] 91)).alloc (.cells #[.int .i64 (a : Int), .int .i64 (b : Int), .int .i64 (c : Int), .int .i64 (d : Int)] 79)).alloc (.cells #[.pointer none, .slice none 0 0] 219) = w0 := ⟨_, rfl⟩
  have hb0 : Below w.heap.size w w0 := by rw [← hw0]; exact (((Below.refl _ w).alloc (Nat.le_refl _) _).alloc (by simp) _).alloc (by simp only [World.size_alloc]; omega) _
  have hsz0 : w0.heap.size = w.heap.size + 3 := by rw [← hw0]; simp
  have y0 : w0.heap[w.heap.size]? = some (.cells #[ptr bf] 91 (0, 0)) := by
    rw [← hw0, Below.heap_alloc _ _ _ (by simp only [World.size_alloc]; omega), Below.heap_alloc _ _ _ (by simp), heap_alloc_new]
  have y1 : w0.heap[w.heap.size + 1]? = some (.cells #[.int .i64 (a : Int), .int .i64 (b : Int), .int .i64 (c : Int), .int .i64 (d : Int)] 79 (0, 0)) := by
    rw [← hw0, Below.heap_alloc _ _ _ (by simp)]
    have := heap_alloc_new (w.alloc (.cells #[ptr bf] 91)) (.cells #[.int .i64 (a : Int), .int .i64 (b : Int), .int .i64 (c : Int), .int .i64 (d : Int)] 79)
    rwa [World.size_alloc] at this
  have y2 : w0.heap[w.heap.size + 2]? = some (.cells #[.pointer none, .slice none 0 0] 219 (0, 0)) := by
    rw [← hw0]
    have := heap_alloc_new ((w.alloc (.cells #[ptr bf] 91)).alloc (.cells #[.int .i64 (a : Int), .int .i64 (b : Int), .int .i64 (c : Int), .int .i64 (d : Int)] 79)) (.cells #[.pointer none, .slice none 0 0] 219)
    rwa [World.size_alloc, World.size_alloc] at this
  rw [hw0]
  have e0 : w0.cell? ⟨w.heap.size, 0, none⟩ = some (ptr bf) := cell_of_heap y0 0
  have e1 : w0.cell? ⟨w.heap.size + 1, 0, none⟩ = some (.int .i64 (a : Int)) := cell_of_heap y1 0
  have HH := hid (And.intro hb0 (And.intro hsz0 (And.intro y0 (And.intro y1 (And.intro y2 hw0)))))
  clear hb0 hsz0 y0 y1 y2 hw0
  refine wpIn_wide.2 ?_
  go_region_held3 (fun w' => w'.cell? ⟨w.heap.size, 0, none⟩ = some (ptr bf) ∧ w'.cell? ⟨w.heap.size + 1, 0, none⟩ = some (.int .i64 (a : Int))) (first | exact KP.out | go_keep) (first
    | (go_at_call 99; refine (CT.out _ (by first | exact HH.out.1 | exact HH.out.1.drew)).mono ?_; rintro e w3 ⟨rfl, hw3⟩; replace hw3 := hw3.symm; subst hw3)
    | (go_at_call 90; refine (C.out _).mono ?_; rintro e w3 ⟨rfl, hw3⟩; replace hw3 := hw3.symm; subst hw3))
  all_goals
    gi_wp2
    obtain ⟨wb, hwb⟩ : ∃ wb, ((w0.alloc (.cells #[ptr bf] 91)).alloc (.cells #[.int .i64 (t : Int)] 3)).drew = wb := ⟨_, rfl⟩
    obtain ⟨hb0, hsz0, y0, y1, y2, _⟩ := HH.out
    have hszb : wb.heap.size = w.heap.size + 5 := by rw [← hwb]; simp [hsz0]
    have hb1 : Below w0.heap.size w0 wb := by rw [← hwb]; exact (((Below.refl _ w0).alloc (Nat.le_refl _) _).alloc (by simp) _).drew
    have hbb : Below w.heap.size w wb := hb0.trans (hb1.mono hb0.size)
    have x0 : wb.heap[w.heap.size]? = some (.cells #[ptr bf] 91 (0, 0)) := (hb1.block _ (heap_lt y0)).trans y0
    have x1 : wb.heap[w.heap.size + 1]? = some (.cells #[.int .i64 (a : Int), .int .i64 (b : Int), .int .i64 (c : Int), .int .i64 (d : Int)] 79 (0, 0)) := (hb1.block _ (heap_lt y1)).trans y1
    have x2 : wb.heap[w.heap.size + 2]? = some (.cells #[.pointer none, .slice none 0 0] 219 (0, 0)) := (hb1.block _ (heap_lt y2)).trans y2
    have x3 : wb.heap[w0.heap.size]? = some (.cells #[ptr bf] 91 (0, 0)) := by
      have h1 : ((w0.alloc (.cells #[ptr bf] 91)).alloc (.cells #[.int .i64 (t : Int)] 3)).heap[w0.heap.size]? = some (.cells #[ptr bf] 91 (0, 0)) := by
        rw [Below.heap_alloc _ _ _ (by simp)]
        exact heap_alloc_new w0 _
      rw [← hwb]; exact h1
    have x4 : wb.heap[w0.heap.size + 1]? = some (.cells #[.int .i64 (t : Int)] 3 (0, 0)) := by
      have h1 := heap_alloc_new (w0.alloc (.cells #[ptr bf] 91)) (.cells #[.int .i64 (t : Int)] 3)
      rw [World.size_alloc] at h1
      rw [← hwb]; exact h1
    rw [hwb]
    rw [hsz0] at x3 x4
    simp only [hsz0]
    have hDb := HD.out.below hbb
    have hHt := u.le t
    refine range_mine (gf := 138) (lb := #[ptr (w.heap.size + 3 + 1), ptr (w.heap.size + 3)]) rfl (enters_of Tryz.func138 (by kernel_rfl) rfl) rfl (O := fun k => k = w.heap.size + 2) (fun k e => by omega)
      (all1_ok wf u (B + 1) t ta.lt (by omega) wb _ _ _ hDb (fun k hk => ⟨by have := hk.2; omega, by have := hk.2; omega⟩) (cell_of_heap x4 0) (cell_of_heap x3 0) (by omega) (by omega))
      (fun pre O3 W => ∃ v, O3 = (fun k => k = w.heap.size + 2 ∨ v.ownBlock = some k) ∧ BldV (w.heap.size + 2) v (Lib.strCells (catB (readP s (plF s (B + 1) t) a b c d pre))) W ∧ Stp (fun k => k = w.heap.size + 2) O3 wb W)
      (fun _ _ _ => False) ?mI ?mIx ?h0
      (fun y => Act.mk #[ptr bf, spV { a := a, b := b, c := c, d := d }, Value.pointer (some { block := w.heap.size, off := 0 }),
          Value.pointer (some { block := w.heap.size + 1, off := 0 }), Value.string { data := #[] },
          Value.pointer (some { block := w.heap.size + 1 + 1, off := 0 }), .int .i64 (y : Int), undef, undef, undef, ptr bf,
          ptr bf, Value.pointer (some { block := w.heap.size + 1, off := 0 }),
          Value.pointer (some { block := w.heap.size + 1, off := 0 }), Value.int IntKind.i64 a, Value.int IntKind.i64 t,
          Value.func (Fn.func 138) #[] #[ptr (w.heap.size + 3 + 1), ptr (w.heap.size + 3)], .int .i64 (y : Int), undef, undef, undef, undef, undef, undef, undef, undef, undef, undef, undef, undef, undef, undef, undef, undef, undef, undef, undef, undef, undef, undef, undef, undef, undef] []) ?assign ?body ?done ?stop
    case mI =>
      rintro pre O3 X Y ⟨v, rfl, h1, h2⟩ hk
      exact ⟨v, rfl, h1.keeps hk (fun e => e.1 (.inl rfl)) (fun k e e2 => e2.1 (.inr e)), stp_mine (Nat.le_refl _) h2 hk⟩
    case mIx => intro pre O3 X Y h _; exact h
    case h0 =>
      refine ⟨.slice none 0 0, ?_, ⟨.inl x2, World.ownsRow_nil _ _ _ _, fun e => by cases e⟩, ?_⟩
      · funext k; simp [Value.ownBlock]
      · exact Stp.refl (fun k e => by omega)
    case assign =>
      intro m l' y W K hK
      dsimp only [encN]
      gi_wp2
      exact hK
    case body =>
      rintro m l' pre y O3 W hpre hO3 ⟨v, rfl, h1, h2⟩
      have hyall : y ∈ allF s (B + 1) t := hpre.subset (by simp)
      have hyl : y < s.length := all_lt wf (B + 1) t ta.lt y hyall
      obtain ⟨x, hx⟩ : ∃ x, s[y]? = some x := ⟨_, List.getElem?_eq_getElem hyl⟩
      have hch := wf.chars y x hx
      have hty : IsTop s y t := ⟨all_climb wf (B + 1) t y hyall, ta.2⟩
      have hpl : pre.length + 1 ≤ 40 := by
        have h3 := hpre.length_le
        have h4 := all_length wf (B + 1) t ta.lt
        simp at h3
        omega
      have hO3' : ∀ k, (k = w.heap.size + 2 ∨ v.ownBlock = some k) → ¬ k < w.heap.size + 2 := fun k e => by
        rcases h2.gains k e with e1 | e1 <;> omega
      have hDW := hDb.keeps h2.keeps (fun k hk e => by have := hk.2; omega)
      have g0 : W.cell? ⟨w.heap.size, 0, none⟩ = some (ptr bf) := h2.keeps.cell (cell_of_heap x0 0) (by simp)
      have z1 : W.heap[w.heap.size + 1]? = some (.cells #[.int .i64 (a : Int), .int .i64 (b : Int), .int .i64 (c : Int), .int .i64 (d : Int)] 79 (0, 0)) := by
        rw [h2.keeps.block _ (heap_lt x1) (by simp)]; exact x1
      have z0 : W.heap[w.heap.size]? = some (.cells #[ptr bf] 91 (0, 0)) := by
        rw [h2.keeps.block _ (heap_lt x0) (by simp)]; exact x0
      obtain ⟨r, hr, ho, d0, d1, d2, d3⟩ := hDW.look hx
      have n0 := hDW.nodesCell
      have hcov := fun (k : Nat) (hk : k < x.cs.length) (Wr : World) (hkp : Keeps (fun k => k = w.heap.size + 2 ∨ v.ownBlock = some k) W Wr) =>
        tcovers_any (w := Wr) wf u (hDW.keeps hkp (fun k hk e => hO3' k e (by have := hk.2; omega))) a b c d y k t ha hc hyl ta tc hty hb hd (by
          have ht : x.t = true := by
            cases e : x.t with
            | true => rfl
            | false => rw [(wf.elem y x hx).2 e] at hk; simp at hk
          rw [sizeAt_eq hx, sizeN_text ht]; omega)
      have hcs : csOf s y = x.cs := csOf_eq hx
      have hrl : (readP s (plF s (B + 1) t) a b c d pre).length ≤ 1170 := by
        have := readP_len wf (plF s (B + 1) t) a b c d pre
        omega
      have hrc := readP_ch wf (plF s (B + 1) t) a b c d pre
      have hsn := readP_snoc s (plF s (B + 1) t) a b c d pre y
      rw [hcs] at hsn
      obtain ⟨out, hout⟩ : ∃ out, readP s (plF s (B + 1) t) a b c d pre = out := ⟨_, rfl⟩
      rw [hout] at h1 hrl hrc hsn
      obtain ⟨cf, hcf⟩ : ∃ cf, cov (plF s (B + 1) t) a b c d y = cf := ⟨_, rfl⟩
      rw [hcf] at hcov hsn
      have hlW : W.heap.size ≥ w.heap.size + 5 := by have := h2.keeps.size; omega
      have hlen : ∀ k, k ≤ x.cs.length → (Lib.strCells (catB (out ++ pk x.cs cf k))).length < lots := by
        intro k hk
        have h5 := pk_len x.cs cf k
        have h6 := cat_size (out ++ pk x.cs cf k) (fun z hz => by
          rcases List.mem_append.1 hz with hz | hz
          · exact hrc z hz
          · exact hch.2 z (pk_mem hz))
        rw [List.length_append] at h6
        rw [Lib.strCells_length]
        unfold lots
        have := hch.1
        omega
      have hbo := h1.lt
      have hfl := hDW.lt
      have q0 : ¬ w.heap.size = W.heap.size := by omega
      have q1 : ¬ bf = W.heap.size := by omega
      have q2 : ¬ bn = W.heap.size := by omega
      have q3 : w.heap.size < W.heap.size := by omega
      have hvl : ∀ k, v.ownBlock = some k → k < W.heap.size := fun k e => hO3 k (.inr e)
      have G := hid (And.intro h1 (And.intro hO3 (And.intro hO3' (And.intro z0 (And.intro z1 (And.intro hcov (And.intro hsn (And.intro hlen (And.intro hch.2 (And.intro h2 hvl))))))))))
      have hcl := hch.1
      have hylI : (y : Int) < (s.length : Int) := by omega
      clear h1 hO3 hO3' z0 z1 hcov hsn hlen hch h2 hvl hDW d0 d1 d2 hr ho hpre hyall hty x0 x1 x2 x3 x4 hDb hb1 y0 y1 y2 hb0 hwb hcs hrl hrc hout hcf hx hszb hHt hsz0 HH HD C CT e0 e1 wf u ta tc ha hc hb hd hpl
      generalize x.cs = cs at *
      gi_wp2
      gi_loopw [9] (fun _ wr => RdInv (w.heap.size + 2) W.heap.size y cs out cf (fun k => k = w.heap.size + 2 ∨ v.ownBlock = some k) W wr) (fun _ wr => (catB cs).size - wr.iterPos (W.heap.size + 1))
      case atStart =>
        obtain ⟨h1, hO3, hO3', z0, z1, hcov, hsn, hlen, hch, h2, hvl⟩ := G.out
        refine ⟨0, v, Nat.zero_le _, ?_, ?_, ?_, ((Keeps.refl _ W).alloc _).alloc _, fun k e => .inl (.inr e), fun e => by have := hvl _ e; omega⟩
        · show ((W.alloc (.cells #[.int .i64 (y : Int), .int .i64 0] 37)).alloc (.stringIter (catB cs) 0)).heap[W.heap.size]? = _
          rw [Below.heap_alloc _ _ _ (by simp)]
          exact heap_alloc_new W _
        · have := heap_alloc_new (W.alloc (.cells #[.int .i64 (y : Int), .int .i64 0] 37)) (.stringIter (catB cs) 0)
          rw [World.size_alloc] at this
          exact this
        · rw [pk_zero, List.append_nil]
          exact h1.keeps (F := fun _ => False) (((Keeps.refl _ W).alloc _).alloc _) (fun e => e) (fun _ _ e => e)
      case round =>
        obtain ⟨h1, hO3, hO3', z0, z1, hcov, hsn, hlen, hch, h2, hvl⟩ := G.out
        obtain ⟨k, v', hk, hp, hi, hbv, hkp, hg, hne⟩ := hrel
        have hbpl := heap_lt hp
        have hbil := heap_lt hi
        by_cases hlt : k < cs.length
        · obtain ⟨ch, hchk⟩ : ∃ ch, cs[k]? = some ch := ⟨_, List.getElem?_eq_getElem hlt⟩
          obtain ⟨R, hd, hR, hR1, hp3, hsz⟩ := cat_rune cs hch k ch hchk
          have hch0 : ch.size ≠ 0 := (hch ch (List.mem_of_getElem? hchk)).1
          have hnx := fun ty => Lib.run_next_any_at (P := Tryz.prog) _ (W.heap.size + 1) (catB cs) _ ty hi hp3
          rw [hd] at hnx
          simp only at hnx
          obtain ⟨q, hq⟩ : ∃ q, (catB (cs.take k)).size = q := ⟨_, rfl⟩
          rw [hq] at hnx hi hp3 hsz
          have hi2 := Lib.iterAt_heap wr (W.heap.size + 1) (catB cs) _ (q + ch.size) hi
          have hki : Keeps (fun k => k = W.heap.size + 1) wr (wr.iterAt (W.heap.size + 1) (catB cs) (q + ch.size)) := keeps_iterAt (Keeps.refl (fun k => k = W.heap.size + 1) wr) (k := W.heap.size + 1) (.inl rfl) _ _
          have hkp2 := keeps_iterAt hkp (k := W.heap.size + 1) (.inr (by omega)) (catB cs) (q + ch.size)
          have hbv2 : BldV (w.heap.size + 2) v' (Lib.strCells (catB (out ++ pk cs cf k))) (wr.iterAt (W.heap.size + 1) (catB cs) (q + ch.size)) := by
            refine hbv.keeps hki (by omega) (fun j e e2 => ?_)
            subst e2
            obtain ⟨_, ho2, _⟩ := hbv
            rcases ho2.2 with ⟨hv, _⟩ | ⟨g, cap', cur, hv, _, hh, _⟩
            · rw [hv] at e; cases e
            · rw [hv] at e
              cases e
              rw [hi] at hh; cases hh
          have hp2 : (wr.iterAt (W.heap.size + 1) (catB cs) (q + ch.size)).heap[W.heap.size]? = some (.cells #[.int .i64 (y : Int), .int .i64 (k : Int)] 37 (0, 0)) := by
            rw [hki.block _ hbpl (by omega)]; exact hp
          have zz1 := (hkp2.block _ (heap_lt z1) (fun e => hO3' _ e (by omega))).trans z1
          have zz0 := (hkp2.block _ (heap_lt z0) (fun e => hO3' _ e (by omega))).trans z0
          obtain ⟨wi, hwi⟩ : ∃ wi, wr.iterAt (W.heap.size + 1) (catB cs) (q + ch.size) = wi := ⟨_, rfl⟩
          rw [hwi] at hi2 hki hkp2 hbv2 hp2 zz1 zz0 hnx
          have CC := hid (hcov k hlt wi hkp2)
          have cp0 := cell_of_heap hp2 0
          have cp1 := cell_of_heap hp2 1
          have c00 := cell_of_heap zz0 0
          have c10 := cell_of_heap zz1 0
          have c11 := cell_of_heap zz1 1
          have c12 := cell_of_heap zz1 2
          have c13 := cell_of_heap zz1 3
          have IP := iterPos_of hi
          have hwil : wi.heap.size = wr.heap.size := by rw [← hwi, Lib.iterAt_size]
          have hlen2 := hlen k hk
          have hsz1 : (catB cs).size - (q + ch.size) < (catB cs).size - q := by omega
          have H := hid (And.intro hi2 (And.intro hkp2 (And.intro hbv2 (And.intro hp2 (And.intro hg (And.intro hne (And.intro hsz (And.intro hlen2 (And.intro hR hchk)))))))))
          have HWI := hid hwi
          have HG := hid (And.intro hO3' hvl)
          clear hi2 hkp2 hbv2 hp2 hg hne hsz hlen2 hR hchk h1 hO3 hO3' z0 z1 hcov hsn hlen hch h2 hvl hp hi hbv hkp hki zz0 zz1 hd hwi hp3 hq
          cases hck : cf k with
          | true =>
            rw [hck] at CC
            gi_wp2_with (first
              | (refine ⟨trivial, fun h => by simp [Fence.wide] at h, ?_⟩
                 gi_at_call 159
                 refine (CallsIn.inRound l' (callsIn_wide.2 CC.out)).mono ?_
                 rintro e w6 ⟨rfl, hb6⟩
                 obtain ⟨hi2, hkp2, hbv2, hp2, hg, hne, hsz, hlen2, hR, hchk⟩ := H.out
                 have hk6 : Keeps (fun _ => False) wi w6 := Keeps.of_below hb6
                 have CR := hid (bruneV (R : Int) (by omega) (by omega) (hbv2.keeps hk6 (fun e => e) (fun _ _ e => e)) hlen2)
                 rw [hR] at CR
                 have H6 := hid hk6
                 have hs6 := hb6.size
                 clear hi2 hkp2 hbv2 hp2 hg hne hsz hlen2 hR hchk hk6 hb6)
              | (refine ⟨trivial, fun h => by simp [Fence.wide] at h, ?_⟩
                 gi_at_call 160
                 refine (CallsIn.inRound l' (callsIn_wide.2 CR.out)).mono ?_
                 rintro e w7 ⟨n7, v7, rfl, hbv7, hk7, hg7, hi7⟩
                 obtain ⟨hi2, hkp2, hbv2, hp2, hg, hne, hsz, hlen2, hR, hchk⟩ := H.out
                 have hp6 := (H6.out.block _ (heap_lt hp2) (fun e => e)).trans hp2
                 have hp7 := (hk7.block _ (heap_lt hp6) (fun e => e.elim (fun e => by omega) (fun e => hne e))).trans hp6
                 have cq1 := cell_of_heap hp7 1
                 have cf1 := frozen_of_heap hp7 1
                 have H7 := hid (And.intro hbv7 (And.intro hk7 (And.intro hg7 (And.intro hi7 hp7))))
                 clear hi2 hkp2 hbv2 hp2 hg hne hsz hlen2 hR hchk hp6 hp7 hbv7 hk7 hg7 hi7))
            obtain ⟨hi2, hkp2, hbv2, hp2, hg, hne, hsz, hlen2, hR, hchk⟩ := H.out
            obtain ⟨hbv7, hk7, hg7, hi7, hp7⟩ := H7.out
            have hi8 : (w7.setCell ⟨W.heap.size, 1, none⟩ (.int .i64 ((k : Int) + 1))).heap[W.heap.size + 1]? = some (.stringIter (catB cs) (q + ch.size)) :=
              IterKept.setCell _ hp7 _ _ _ (hi7 _ _ _ ((H6.out.block _ (heap_lt hi2) (fun e => e)).trans hi2))
            have hkS := (Keeps.refl (fun j => j = W.heap.size) w7).setCell (p := ⟨W.heap.size, 1, none⟩) (.inl rfl) (.int .i64 ((k : Int) + 1))
            have hne7 : v7.ownBlock ≠ some W.heap.size := fun e => by
              rcases hg7 _ e with e1 | e1
              · exact hne e1
              · omega
            go_roundw
            case rel =>
              refine ⟨k + 1, v7, by omega, ?_, by rw [hsz]; exact hi8, ?_, ?_, ?_, hne7⟩
              · rw [heap_setCell_same w7 _ 1 _ _ _ hp7]; rfl
              · have := hbv7.keeps hkS (by omega) (fun j e e2 => hne7 (e2 ▸ e))
                have e1 : catB [ch] = ch := by show ByteArray.empty ++ ch = ch; simp
                rw [pk_succ, hck, if_pos rfl, hchk, ← List.append_assoc, catB_append, strCells_append, Option.toList_some, e1]
                exact this
              · refine (((hkp2.trans (H6.out.mono (fun j _ e => e.elim))).trans (hk7.mono (fun j _ e => ?_))).setCell (p := ⟨W.heap.size, 1, none⟩) (.inr (Nat.le_refl _)) _)
                rcases e with e | e
                · exact .inl (.inl e)
                · exact hg j e
              · intro j e
                rcases hg7 j e with e1 | e1
                · exact hg j e1
                · exact .inr (by omega)
            case measure =>
              rw [iterPos_of hi8, IP]
              exact hsz1
          | false =>
            rw [hck] at CC
            gi_wp2_with (
                 refine ⟨trivial, fun h => by simp [Fence.wide] at h, ?_⟩
                 gi_at_call 159
                 refine (CallsIn.inRound l' (callsIn_wide.2 CC.out)).mono ?_
                 rintro e w7 ⟨rfl, hb6⟩
                 obtain ⟨hi2, hkp2, hbv2, hp2, hg, hne, hsz, hlen2, hR, hchk⟩ := H.out
                 have hk6 : Keeps (fun _ => False) wi w7 := Keeps.of_below hb6
                 have H6 := hid hk6
                 have hs6 := hb6.size
                 have hp7 := (hk6.block _ (heap_lt hp2) (fun e => e)).trans hp2
                 have cq1 := cell_of_heap hp7 1
                 have cf1 := frozen_of_heap hp7 1
                 have H7 := hid hp7
                 clear hi2 hkp2 hbv2 hp2 hg hne hsz hlen2 hR hchk hk6 hb6 hp7)
            obtain ⟨hi2, hkp2, hbv2, hp2, hg, hne, hsz, hlen2, hR, hchk⟩ := H.out
            have hp7 := H7.out
            have hi8 : (w7.setCell ⟨W.heap.size, 1, none⟩ (.int .i64 ((k : Int) + 1))).heap[W.heap.size + 1]? = some (.stringIter (catB cs) (q + ch.size)) :=
              IterKept.setCell _ hp7 _ _ _ ((H6.out.block _ (heap_lt hi2) (fun e => e)).trans hi2)
            have hkS := (Keeps.refl (fun j => j = W.heap.size) w7).setCell (p := ⟨W.heap.size, 1, none⟩) (.inl rfl) (.int .i64 ((k : Int) + 1))
            go_roundw
            case rel =>
              refine ⟨k + 1, v', by omega, ?_, by rw [hsz]; exact hi8, ?_, ?_, hg, hne⟩
              · rw [heap_setCell_same w7 _ 1 _ _ _ hp7]; rfl
              · have := (hbv2.keeps H6.out (fun e => e) (fun _ _ e => e)).keeps hkS (by omega) (fun j e e2 => hne (e2 ▸ e))
                rw [pk_succ, hck, if_neg (by decide), List.append_nil]
                exact this
              · exact ((hkp2.trans (H6.out.mono (fun j _ e => e.elim))).setCell (p := ⟨W.heap.size, 1, none⟩) (.inr (Nat.le_refl _)) _)
            case measure =>
              rw [iterPos_of hi8, IP]
              exact hsz1
        · obtain rfl : k = cs.length := by omega
          rw [List.take_length] at hi
          have hnx := fun ty => Lib.run_next_end_at (P := Tryz.prog) _ (W.heap.size + 1) (catB cs) _ ty hi (Nat.lt_irrefl _)
          have H := hid (And.intro hbv (And.intro hkp hg))
          have HG := hid (And.intro hsn h2)
          clear h1 hO3 hO3' z0 z1 hcov hsn hlen hch h2 hvl hp hbv hkp hg hi
          gi_wp2
          obtain ⟨hbv, hkp, hg⟩ := H.out
          obtain ⟨hsn, h2⟩ := HG.out
          have hs : Stp (fun k => k = w.heap.size + 2 ∨ v.ownBlock = some k) (fun k => k = w.heap.size + 2 ∨ v'.ownBlock = some k) W wr := by
            refine ⟨hkp, ?_, ?_⟩
            · rintro j (e | e)
              · exact .inl (.inl e)
              · exact hg j e
            · rintro j (e | e)
              · rw [e]; exact hbv.lt
              · exact (hbv.2.1.lt j e).2
          exact ⟨_, hs, v', rfl, by rw [hsn]; exact hbv, h2.trans hs⟩
    case done =>
      rintro O5 W st5 hn5 ⟨v, rfl, h1, h2⟩ hD5
      have CS := hid (bstringV (catB (readP s (plF s (B + 1) t) a b c d (allF s (B + 1) t))).data.toList h1)
      have H := hid (And.intro st5 (And.intro hn5 hD5))
      have HZ := hid hszb
      clear st5 hn5 h1 h2 hD5 x0 x1 x2 x3 x4 hszb hDb hb1 y0 y1 y2 hb0 hwb
      gi_wp2_with (refine ⟨trivial, ?_⟩; gi_at_call 148; refine (callsIn_wide.2 CS.out).mono ?_; rintro e w5 ⟨rfl, hk5⟩)
      obtain ⟨st5, hn5, hD5⟩ := H.out
      have hszb := HZ.out
      refine leaves_marks [wb.heap.size] _ (by simp) (fun D hm => ?_) (fun w' hk' => ⟨.string (catB (readP s (plF s (B + 1) t) a b c d (allF s (B + 1) t))), ?_, rfl, ?_⟩)
      · obtain rfl : D = wb.heap.size := by simpa using hm
        rw [hk5.block _ (heap_lt hD5) (fun e => hn5 (.inr e))]
        exact hD5
      · exact results_tmp (fn := Tryz.f112) (t := 4) rfl _ _ _
      · have k1 : Keeps (fun _ => False) w wb := Keeps.of_below hbb
        have k2 : Keeps (fun _ => False) w W := k1.trans (st5.keeps.mono (fun k _ e => .inr (by omega)))
        have k3 : Keeps (fun _ => False) w w5 := k2.trans (hk5.mono (fun k _ e => .inr (by
          rcases st5.gains k (.inr e) with e1 | e1 <;> omega)))
        exact (k3.trans (hk'.mono (fun k _ e => .inr (by simp at e; omega)))).below
    case stop =>
      rintro O5 pre W hpre st5 hn5 h hD5
      exact h.elim

end Go.Proofs.YtabogkonklplcaaGreatDoor

/- Ranges are ranges, whatever is done: pushing, inserting, replacing. Plain mathematics. -/
namespace Go.Proofs.YtabogkonklplcaaGreatDoor
set_option linter.unusedSimpArgs false
set_option linter.unusedVariables false

theorem leP_append (C : List Nat) {P Q : List Nat} (h : leP P Q) : leP (C ++ P) (C ++ Q) := by
  induction C with
  | nil => exact h
  | cons a C ih => exact leP_cons ih

theorem way_climb {s : List Nd} (wf : WF s) {t n : Nat} {l : List Nat} (w : Way s t n l) : ∃ q, climb s q n = (t : Int) := by
  induction w with
  | top => exact ⟨0, rfl⟩
  | @down q c i l y w hq hi ih =>
    obtain ⟨m, hm⟩ := ih
    obtain ⟨z, hz, hzp⟩ := wf.kid q y hq c (List.mem_of_getElem? hi)
    have h1 : climb s 1 c = (q : Int) := by simp [climb, parOf, hz, hzp]
    exact ⟨1 + m, by rw [climb_add h1 m]; exact hm⟩

theorem way_lt {s : List Nd} (wf : WF s) {t n : Nat} {l : List Nat} (w : Way s t n l) (ht : t < s.length) : n < s.length := by
  cases w with
  | top => exact ht
  | @down q c i l y w hq hi =>
    obtain ⟨z, hz, _⟩ := wf.kid q y hq n (List.mem_of_getElem? hi)
    exact (List.getElem?_eq_some_iff.1 hz).1

/-- Nothing happens in a tree. -/
theorem Moves.still {s s' : List Nd} {t : Nat} {f : Mvf} (hp : ∀ (n k : Nat) (l : List Nat), PlOk s n k → Way s t n l → f n k = ((n : Int), (k : Int)) ∧ PlOk s' n k) (top : ∃ x, s'[t]? = some x ∧ x.p = -1)
    (h : ∀ (q : Nat) (l : List Nat) (y : Nd), Way s t q l → s[q]? = some y → ∃ y', s'[q]? = some y' ∧ y'.ks = y.ks) : Moves s s' t t f (fun P => P) where
  mono := fun P Q _ _ h => .inr h
  top := top
  one := fun n k l hk w => ⟨n, k, l, (hp n k l hk w).1, (hp n k l hk w).2, w.same h, rfl⟩

theorem spIs_push {s : List Nd} {z : Sp} (nd : Nd) (wf : WF s) (h : SpIs s z) : SpIs (s ++ [nd]) z := by
  obtain ⟨n, k, n2, k2, t, l, l2, rfl, h1, h2, ht, w1, w2, hle⟩ := h
  have same : ∀ (q : Nat) (y : Nd), s[q]? = some y → (s ++ [nd])[q]? = some y := fun q y hq => by
    rw [List.getElem?_append_left (List.getElem?_eq_some_iff.1 hq).1]; exact hq
  have hw : ∀ {n l}, Way s t n l → Way (s ++ [nd]) t n l := fun w => w.same (fun q l y _ hq => ⟨y, same q y hq, rfl⟩)
  refine ⟨n, k, n2, k2, t, l, l2, rfl, h1.push nd, h2.push nd, ?_, hw w1, hw w2, hle⟩
  obtain ⟨⟨m, hm⟩, x, hx, hp⟩ := ht
  refine ⟨?_, x, same t x hx, hp⟩
  have key : ∀ (m n : Nat), n < s.length → climb s m n = (t : Int) → ∃ m', climb (s ++ [nd]) m' n = (t : Int) := by
    intro m
    induction m with
    | zero => intro n _ h; exact ⟨0, by simpa [climb] using h⟩
    | succ m ih =>
      intro n hn h
      have hx := List.getElem?_eq_getElem hn
      rcases wf.par n _ hx with hp | ⟨i, y, hp, hy, hc⟩
      · exfalso
        have h1 : climb s 1 n = -1 := by simp [climb, parOf, hx, hp]
        have h2 := climb_neg (s := s) (j := 1) (n := n) (by rw [h1]; decide) m
        rw [Nat.add_comm] at h2
        omega
      · have h1 : climb s 1 n = (i : Int) := by simp [climb, parOf, hx, hp]
        have h2 := climb_add h1 m
        rw [Nat.add_comm] at h2
        rw [h2] at h
        obtain ⟨m', hm'⟩ := ih i (List.getElem?_eq_some_iff.1 hy).1 h
        have h3 : climb (s ++ [nd]) 1 n = (i : Int) := by simp [climb, parOf, same n _ hx, hp]
        exact ⟨1 + m', by rw [climb_add h3 m']; exact hm'⟩
  obtain ⟨n0, k0, e1, e2, hn, _⟩ := h1
  exact key m n (by omega) hm

section
variable {s : List Nd} {i j k : Nat} {x y : Nd}

def gIns (k : Nat) : List Nat → List Nat
  | [] => []
  | a :: r => (if 2 * k < a then a + 2 else a) :: r

theorem gIns_mono (k : Nat) (R R' : List Nat) (h : lexN R R') : leP (gIns k R) (gIns k R') := by
  cases R' with
  | nil => exact absurd h (fun h => lexN_nil h)
  | cons b R' =>
    cases R with
    | nil => exact .inr .nil
    | cons a R =>
      rcases lexN_cons h with hab | ⟨rfl, h'⟩
      · refine .inr (.rel ?_)
        show (if 2 * k < a then a + 2 else a) < (if 2 * k < b then b + 2 else b)
        split <;> split <;> omega
      · exact .inr (.cons h')

theorem ins_get (ks : List Nat) (k c d j : Nat) (h : ks[c]? = some d) : (ks.take k ++ j :: ks.drop k)[if k ≤ c then c + 1 else c]? = some d := by
  have hc := (List.getElem?_eq_some_iff.1 h).1
  by_cases hk : k ≤ c
  · rw [if_pos hk, List.getElem?_append_right (by simp; omega)]
    have e : c + 1 - (ks.take k).length = (c - k) + 1 := by simp; omega
    rw [e, List.getElem?_cons_succ, List.getElem?_drop]
    rw [show k + (c - k) = c by omega]
    exact h
  · rw [if_neg hk, List.getElem?_append_left (by simp; omega), List.getElem?_take, if_pos (by omega)]
    exact h

theorem moves_insert (wf : WF s) (hI : InsOk s i j x y) (hw : Lim (fun c => withinF s c (i : Int) (j : Int)) false) (hk : k ≤ x.ks.length) (hij : i ≠ j) (t : Nat) (ht : ∃ z, s[t]? = some z ∧ z.p = -1) :
    ∃ t' E, Moves s ((s.set i { x with ks := x.ks.take k ++ j :: x.ks.drop k }).set j { y with p := i }) t t' (shiftF i k 1) E := by
  obtain ⟨hx, hy, hxt, hj0, hyp⟩ := hI
  have hil := (List.getElem?_eq_some_iff.1 hx).1
  have hjl := (List.getElem?_eq_some_iff.1 hy).1
  obtain ⟨h, B, u⟩ := wf.up
  obtain ⟨ti, hti⟩ := top_there wf i hil
  obtain ⟨li, wi⟩ := way_to wf hti hil
  obtain ⟨xt, hxt', hpt⟩ := hti.2
  have hpl : ∀ (a b : Int), PlOk s a b → PlOk ((s.set i { x with ks := x.ks.take k ++ j :: x.ks.drop k }).set j { y with p := i }) (shiftF i k 1 a b).1 (shiftF i k 1 a b).2 := fun a b hp => hp.insert hx hy hij hxt hk
  have gi : ((s.set i { x with ks := x.ks.take k ++ j :: x.ks.drop k }).set j { y with p := i })[i]? = some { x with ks := x.ks.take k ++ j :: x.ks.drop k } := by
    rw [List.getElem?_set_ne (fun e => hij e.symm), List.getElem?_set_self hil]
  have gj : ((s.set i { x with ks := x.ks.take k ++ j :: x.ks.drop k }).set j { y with p := i })[j]? = some { y with p := i } := by
    rw [List.getElem?_set_self (by simpa using hjl)]
  have go : ∀ q, q ≠ i → q ≠ j → ((s.set i { x with ks := x.ks.take k ++ j :: x.ks.drop k }).set j { y with p := i })[q]? = s[q]? := fun q h1 h2 => by
    rw [List.getElem?_set_ne (fun e => h2 e.symm), List.getElem?_set_ne (fun e => h1 e.symm)]
  have same : ∀ (q : Nat) (z : Nd), q ≠ i → s[q]? = some z → ∃ z', ((s.set i { x with ks := x.ks.take k ++ j :: x.ks.drop k }).set j { y with p := i })[q]? = some z' ∧ z'.ks = z.ks := fun q z hq hz => by
    by_cases hqj : q = j
    · subst hqj
      rw [hy] at hz
      cases hz
      exact ⟨_, gj, rfl⟩
    · exact ⟨z, by rw [go q hq hqj]; exact hz, rfl⟩
  have notin : ∀ l, ¬ Way s j i l := fun l w => by
    obtain ⟨q, hq⟩ := way_climb wf w
    have := (within_true_of_climb u q i j hil hq).unique hw
    cases this
  have htij : ti ≠ j := fun e => by subst e; exact notin li wi
  have topi : ∃ z, ((s.set i { x with ks := x.ks.take k ++ j :: x.ks.drop k }).set j { y with p := i })[ti]? = some z ∧ z.p = -1 := by
    by_cases e : ti = i
    · subst e
      rw [hx] at hxt'
      cases hxt'
      exact ⟨_, gi, hpt⟩
    · exact ⟨xt, by rw [go ti e htij]; exact hxt', hpt⟩
  have hway : ∀ {n l}, Way s ti n l → ∃ l', Way ((s.set i { x with ks := x.ks.take k ++ j :: x.ks.drop k }).set j { y with p := i }) ti n l' ∧ enc l' = under (enc li) (gIns k) (enc l) := fun w =>
    Way.moved wf ⟨xt, hxt', hpt⟩ wi (fun _ => False) (fun c => if k ≤ c then c + 1 else c) rfl (fun a r e => rfl)
      (fun c d z _ _ _ => by
        show [if 2 * k < 2 * c + 1 then 2 * c + 1 + 2 else 2 * c + 1] = [2 * (if k ≤ c then c + 1 else c) + 1]
        by_cases hc : k ≤ c
        · rw [if_pos (by omega), if_pos hc]
          exact congrArg (fun a => [a]) (by omega)
        · rw [if_neg (by omega), if_neg hc])
      (fun c d z hz hd _ => by
        rw [hx] at hz
        cases hz
        exact ⟨_, gi, ins_get x.ks k c d j hd⟩)
      (fun q c d z hq hz hd _ => by
        obtain ⟨z', h1, h2⟩ := same q z hq hz
        exact ⟨z', h1, by rw [h2]; exact hd⟩)
      (fun _ _ _ _ _ _ h => h) w (fun h => h)
  have hli : ∀ {l'}, Way ((s.set i { x with ks := x.ks.take k ++ j :: x.ks.drop k }).set j { y with p := i }) ti i l' → enc l' = under (enc li) (gIns k) (enc li) → l' = li := fun w e => by
    have h3 := under_at (enc li) (gIns k) []
    rw [List.append_nil] at h3
    rw [h3] at e
    exact enc_inj (by simpa [gIns] using e)
  by_cases h1 : t = ti
  · subst h1
    refine ⟨t, under (enc li) (gIns k), ⟨fun P Q hP hQ h => under_le2 (ok := fun _ => True) (fun R R' _ _ h => gIns_mono k R R' h) _ P Q (fun _ _ => trivial) (fun _ _ => trivial) h, topi, fun n m l hm w => ?_⟩⟩
    obtain ⟨l', w', e'⟩ := hway w
    have hp := hpl n m hm
    by_cases hn : n = i
    · subst hn
      obtain rfl := wi.only wf ⟨xt, hxt', hpt⟩ w
      obtain rfl := hli w' e'
      by_cases hkm : (k : Int) < (m : Int)
      · have e1 : shiftF n k 1 n m = ((n : Int), ((m + 1 : Nat) : Int)) := by simp [shiftF, hkm]
        rw [e1] at hp
        refine ⟨n, m + 1, l', e1, hp, w', ?_⟩
        rw [pw_eq, pw_eq, under_at]
        show enc l' ++ [2 * (m + 1)] = enc l' ++ [if 2 * k < 2 * m then 2 * m + 2 else 2 * m]
        rw [if_pos (by omega)]
        exact congrArg (fun a => enc l' ++ [a]) (by omega)
      · have e1 : shiftF n k 1 n m = ((n : Int), (m : Int)) := by simp [shiftF, hkm]
        rw [e1] at hp
        refine ⟨n, m, l', e1, hp, w', ?_⟩
        rw [pw_eq, under_at]
        show enc l' ++ [2 * m] = enc l' ++ [if 2 * k < 2 * m then 2 * m + 2 else 2 * m]
        rw [if_neg (by omega)]
    · have e1 : shiftF i k 1 n m = ((n : Int), (m : Int)) := by
        have : ¬ (n : Int) = (i : Int) := by omega
        simp [shiftF, this]
      rw [e1] at hp
      refine ⟨n, m, l', e1, hp, w', ?_⟩
      have hne : enc l ≠ enc li := fun e => hn (w.node (by rw [enc_inj e]; exact wi))
      rw [pw_eq, pw_eq, under_snoc0 (fun a r e => rfl) rfl _ _ _ hne, e']
  · have hni : ∀ (q : Nat) (l : List Nat), Way s t q l → q ≠ i := fun q l w e => by
      subst e
      obtain ⟨z, hz, hp⟩ := ht
      exact h1 ((way_top wf w hz hp).one hti)
    have hsh : ∀ (n m : Nat) (l : List Nat), Way s t n l → shiftF i k 1 n m = ((n : Int), (m : Int)) := fun n m l w => by
      have : ¬ (n : Int) = (i : Int) := by have := hni n l w; omega
      simp [shiftF, this]
    by_cases h2 : t = j
    · subst h2
      refine ⟨ti, fun P => enc li ++ (2 * k + 1) :: P, ⟨fun P Q _ _ h => leP_append _ (leP_cons (.inr h)), topi, fun n m l hm w => ?_⟩⟩
      have hp := hpl n m hm
      rw [hsh n m l w] at hp
      obtain ⟨l', w', e'⟩ := hway wi
      obtain rfl := hli w' e'
      have wj : Way ((s.set i { x with ks := x.ks.take k ++ t :: x.ks.drop k }).set t { y with p := i }) ti t (l' ++ [k]) := .down w' gi (by
        show (x.ks.take k ++ t :: x.ks.drop k)[k]? = some t
        rw [List.getElem?_append_right (by simp; omega)]
        have : k - (x.ks.take k).length = 0 := by simp; omega
        rw [this]; rfl)
      have wn := w.same (s' := (s.set i { x with ks := x.ks.take k ++ t :: x.ks.drop k }).set t { y with p := i }) (fun q l2 z wq hz => same q z (hni q l2 wq) hz)
      refine ⟨n, m, (l' ++ [k]) ++ l, hsh n m l w, hp, wj.append wn, ?_⟩
      simp [pw_eq, enc]
    · obtain ⟨z, hz, hzp⟩ := ht
      have hti' : t ≠ i := hni t [] .top
      exact ⟨t, _, Moves.still (fun n m l hm w => ⟨hsh n m l w, by have := hpl n m hm; rw [hsh n m l w] at this; exact this⟩) ⟨z, by rw [go t hti' h2]; exact hz, hzp⟩ (fun q l y w hq => same q y (hni q l w) hq)⟩

end

end Go.Proofs.YtabogkonklplcaaGreatDoor

/- Ranges are ranges, whatever is done: removing, replacing, splitting. Plain mathematics. -/
namespace Go.Proofs.YtabogkonklplcaaGreatDoor
set_option linter.unusedSimpArgs false
set_option linter.unusedVariables false

/-- Below the node that loses a child. -/
def gRem (m : Nat) : List Nat → List Nat
  | [] => []
  | a :: r => if a = 2 * m + 1 then [2 * m] else (if a ≤ 2 * m then a else a - 2) :: r
def gRem0 (m : Nat) : List Nat → List Nat
  | [] => []
  | a :: r => (if a ≤ 2 * m then a else a - 2) :: r

def evenEnd (R : List Nat) : Prop := ∀ a r, R = a :: r → a % 2 = 0 → r = []

theorem gRem_mono (m : Nat) (R R' : List Nat) (h1 : evenEnd R) (h2 : evenEnd R') (h : lexN R R') : leP (gRem m R) (gRem m R') := by
  cases R' with
  | nil => exact absurd h (fun h => lexN_nil h)
  | cons b R' =>
    cases R with
    | nil =>
      have : ∃ a Y, gRem m (b :: R') = a :: Y := by
        simp only [gRem]
        by_cases hb : b = 2 * m + 1 <;> simp [hb]
      obtain ⟨a, Y, e⟩ := this
      rw [e]
      exact .inr .nil
    | cons a R =>
      simp only [gRem]
      rcases lexN_cons h with hab | ⟨rfl, h'⟩
      · by_cases ha : a = 2 * m + 1
        · rw [if_pos ha, if_neg (by omega), if_neg (by omega)]
          by_cases hb : b = 2 * m + 2
          · have := h2 b R' rfl (by omega)
            subst this
            exact .inl (by rw [hb]; rfl)
          · exact .inr (.rel (by omega))
        · rw [if_neg ha]
          by_cases hb : b = 2 * m + 1
          · rw [if_pos hb, if_pos (by omega)]
            by_cases hc : a = 2 * m
            · have := h1 a R rfl (by omega)
              subst this
              exact .inl (by rw [hc])
            · exact .inr (.rel (by omega))
          · rw [if_neg hb]
            by_cases hc : a = 2 * m ∧ b = 2 * m + 2
            · have e1 := h1 a R rfl (by omega)
              have e2 := h2 b R' rfl (by omega)
              subst e1 e2
              rw [if_pos (by omega), if_neg (by omega)]
              exact .inl (by rw [hc.1, hc.2]; rfl)
            · refine .inr (.rel ?_)
              split <;> split <;> omega
      · by_cases ha : a = 2 * m + 1
        · rw [if_pos ha, if_pos ha]
          exact .inl rfl
        · rw [if_neg ha, if_neg ha]
          exact .inr (.cons h')

theorem under_rem (m : Nat) : ∀ (P1 P : List Nat), (∀ r, P ≠ P1 ++ (2 * m + 1) :: r) → under P1 (gRem m) P = under P1 (gRem0 m) P := by
  intro P1
  induction P1 with
  | nil =>
    intro P h
    cases P with
    | nil => rfl
    | cons a r =>
      have : ¬ a = 2 * m + 1 := fun e => h r (by rw [e]; rfl)
      simp [under, gRem, gRem0, this]
  | cons p P1 ih =>
    intro P h
    cases P with
    | nil => rfl
    | cons a r =>
      simp only [under]
      by_cases ha : a = p
      · subst ha
        simp only [if_true]
        rw [ih r (fun r' e => h r' (by rw [e]; rfl))]
      · simp [ha]

theorem pw_evenEnd (l : List Nat) (k : Nat) : evenEnd (pw l k) := by
  intro a r h he
  cases l with
  | nil => simp [pw] at h; exact h.2
  | cons b l =>
    rw [pw_cons] at h
    injection h with h1 h2
    omega

theorem rem_get (ks : List Nat) (m c d : Nat) (hc : c ≠ m) (h : ks[c]? = some d) : (ks.take m ++ ks.drop (m + 1))[if c ≤ m then c else c - 1]? = some d := by
  have hl := (List.getElem?_eq_some_iff.1 h).1
  by_cases hk : c ≤ m
  · rw [if_pos hk, List.getElem?_append_left (by simp; omega), List.getElem?_take, if_pos (by omega)]
    exact h
  · rw [if_neg hk, List.getElem?_append_right (by simp; omega)]
    have e : c - 1 - (ks.take m).length = c - 1 - m := by simp; omega
    rw [e, List.getElem?_drop, show m + 1 + (c - 1 - m) = c by omega]
    exact h

theorem way_of_climb {s : List Nd} (wf : WF s) {t : Nat} : ∀ (m n : Nat), n < s.length → climb s m n = (t : Int) → ∃ l, Way s t n l := by
  intro m
  induction m with
  | zero =>
    intro n hn h
    have : n = t := by simp [climb] at h; omega
    subst this
    exact ⟨[], .top⟩
  | succ m ih =>
    intro n hn h
    have hx := List.getElem?_eq_getElem hn
    rcases wf.par n _ hx with hp | ⟨i, y, hp, hy, hc⟩
    · exfalso
      have h1 : climb s 1 n = -1 := by simp [climb, parOf, hx, hp]
      have h2 := climb_neg (s := s) (j := 1) (n := n) (by rw [h1]; decide) m
      rw [Nat.add_comm] at h2
      omega
    · have h1 : climb s 1 n = (i : Int) := by simp [climb, parOf, hx, hp]
      have h2 := climb_add h1 m
      rw [Nat.add_comm] at h2
      rw [h2] at h
      obtain ⟨l, wl⟩ := ih i (List.getElem?_eq_some_iff.1 hy).1 h
      obtain ⟨k, hk, e⟩ := List.mem_iff_getElem.1 hc
      exact ⟨l ++ [k], .down wl hy (by rw [List.getElem?_eq_getElem hk, e])⟩

section
variable {s : List Nd} {i j m : Nat} {x y : Nd}

theorem moves_remove (wf : WF s) (hx : s[i]? = some x) (hj : x.p = (j : Int)) (hy : s[j]? = some y) (hm : y.ks[m]? = some i) (hij : i ≠ j) (L : List Nat) (hL : ∀ a : Nat, a < s.length → (a ∈ L ↔ ∃ q, climb s q a = (i : Int))) (t : Nat) (ht : ∃ z, s[t]? = some z ∧ z.p = -1) :
    ∃ t' E, Moves s ((s.set j { y with ks := y.ks.take m ++ y.ks.drop (m + 1) }).set i { x with p := -1 }) t t' (gatherF L j m (shiftF j m (-1))) E := by
  have hil := (List.getElem?_eq_some_iff.1 hx).1
  have hjl := (List.getElem?_eq_some_iff.1 hy).1
  have hml := (List.getElem?_eq_some_iff.1 hm).1
  obtain ⟨h, B, u⟩ := wf.up
  obtain ⟨tj, htj⟩ := top_there wf j hjl
  obtain ⟨lj, wj⟩ := way_to wf htj hjl
  obtain ⟨xt, hxt', hpt⟩ := htj.2
  have hyt : y.t = false := by
    cases hyt : y.t with
    | false => rfl
    | true => have := (wf.elem j y hy).1 hyt; rw [this] at hm; cases hm
  have hjL : j ∉ L := fun hmem => by
    obtain ⟨q, hq⟩ := (hL j hjl).1 hmem
    have h1 := (climb_height u q j i hq).1
    have h2 := (wf.kid_lt u hy (List.mem_of_getElem? hm)).2
    omega
  have hpl : ∀ (a b : Int), PlOk s a b → PlOk ((s.set j { y with ks := y.ks.take m ++ y.ks.drop (m + 1) }).set i { x with p := -1 }) (gatherF L j m (shiftF j m (-1)) a b).1 (gatherF L j m (shiftF j m (-1)) a b).2 := fun a b hp => hp.remove hx hy hij hyt hml L hjL
  have gj : ((s.set j { y with ks := y.ks.take m ++ y.ks.drop (m + 1) }).set i { x with p := -1 })[j]? = some { y with ks := y.ks.take m ++ y.ks.drop (m + 1) } := by
    rw [List.getElem?_set_ne hij, List.getElem?_set_self hjl]
  have gi : ((s.set j { y with ks := y.ks.take m ++ y.ks.drop (m + 1) }).set i { x with p := -1 })[i]? = some { x with p := -1 } := by
    rw [List.getElem?_set_self (by simpa using hil)]
  have go : ∀ q, q ≠ j → q ≠ i → ((s.set j { y with ks := y.ks.take m ++ y.ks.drop (m + 1) }).set i { x with p := -1 })[q]? = s[q]? := fun q h1 h2 => by
    rw [List.getElem?_set_ne (fun e => h2 e.symm), List.getElem?_set_ne (fun e => h1 e.symm)]
  have same : ∀ (q : Nat) (z : Nd), q ≠ j → s[q]? = some z → ∃ z', ((s.set j { y with ks := y.ks.take m ++ y.ks.drop (m + 1) }).set i { x with p := -1 })[q]? = some z' ∧ z'.ks = z.ks := fun q z hq hz => by
    by_cases hqi : q = i
    · subst hqi
      rw [hx] at hz
      cases hz
      exact ⟨_, gi, rfl⟩
    · exact ⟨z, by rw [go q hq hqi]; exact hz, rfl⟩
  have hout : ∀ n : Nat, n ∉ L → ∀ b : Nat, gatherF L j m (shiftF j m (-1)) n b = shiftF j m (-1) n b := fun n hn b => by
    unfold gatherF
    rw [if_neg]
    intro hc
    simp at hc
    obtain ⟨c, hc1, hc2⟩ := hc
    obtain rfl : c = n := by omega
    exact hn hc1
  have hin : ∀ n : Nat, n ∈ L → ∀ b : Nat, gatherF L j m (shiftF j m (-1)) n b = ((j : Int), (m : Int)) := fun n hn b => by
    unfold gatherF
    rw [if_pos]
    simp
    exact ⟨n, hn, rfl⟩
  have wi : Way s tj i (lj ++ [m]) := .down wj hy hm
  have topj : ∃ z, ((s.set j { y with ks := y.ks.take m ++ y.ks.drop (m + 1) }).set i { x with p := -1 })[tj]? = some z ∧ z.p = -1 := by
    by_cases e : tj = j
    · subst e
      rw [hy] at hxt'
      cases hxt'
      exact ⟨_, gj, hpt⟩
    · by_cases e2 : tj = i
      · exact ⟨_, by rw [e2]; exact gi, rfl⟩
      · exact ⟨xt, by rw [go tj e e2]; exact hxt', hpt⟩
  have hway : ∀ {n l}, Way s tj n l → ¬ (∃ q, climb s q n = (i : Int)) → ∃ l', Way ((s.set j { y with ks := y.ks.take m ++ y.ks.drop (m + 1) }).set i { x with p := -1 }) tj n l' ∧ enc l' = under (enc lj) (gRem0 m) (enc l) := fun w hn =>
    Way.moved wf ⟨xt, hxt', hpt⟩ wj (fun n => ∃ q, climb s q n = (i : Int)) (fun c => if c ≤ m then c else c - 1) rfl (fun a r e => rfl)
      (fun c d z hz hd hno => by
        rw [hy] at hz
        cases hz
        have hcm : c ≠ m := fun e => by
          subst e
          rw [hm] at hd
          cases hd
          exact hno ⟨0, rfl⟩
        show [if 2 * c + 1 ≤ 2 * m then 2 * c + 1 else 2 * c + 1 - 2] = [2 * (if c ≤ m then c else c - 1) + 1]
        by_cases hc : c ≤ m
        · rw [if_pos (by omega), if_pos hc]
        · rw [if_neg (by omega), if_neg hc]
          exact congrArg (fun a => [a]) (by omega))
      (fun c d z hz hd hno => by
        rw [hy] at hz
        cases hz
        have hcm : c ≠ m := fun e => by
          subst e
          rw [hm] at hd
          cases hd
          exact hno ⟨0, rfl⟩
        exact ⟨_, gj, rem_get y.ks m c d hcm hd⟩)
      (fun q c d z hq hz hd _ => by
        obtain ⟨z', h1, h2⟩ := same q z hq hz
        exact ⟨z', h1, by rw [h2]; exact hd⟩)
      (fun q c d z hz hd hno ⟨r, hr⟩ => by
        obtain ⟨d', hd', hdp⟩ := wf.kid q z hz d (List.mem_of_getElem? hd)
        have h1 : climb s 1 d = (q : Int) := by simp [climb, parOf, hd', hdp]
        exact hno ⟨1 + r, by rw [climb_add h1 r]; exact hr⟩) w hn
  have hnotj : ¬ ∃ q, climb s q j = (i : Int) := fun hq => hjL ((hL j hjl).2 hq)
  by_cases h1 : t = tj
  · subst h1
    refine ⟨t, under (enc lj) (gRem m), ⟨fun P Q hP hQ h => ?_, topj, fun n b l hb w => ?_⟩⟩
    · obtain ⟨n1, k1, l1, _, _, rfl⟩ := hP
      obtain ⟨n2, k2, l2, _, _, rfl⟩ := hQ
      refine under_le2 (ok := evenEnd) (fun R R' h1 h2 h => gRem_mono m R R' h1 h2 h) _ _ _ (fun R e => ?_) (fun R e => ?_) h
      · obtain ⟨l3, _, rfl⟩ := pw_below e; exact pw_evenEnd _ _
      · obtain ⟨l3, _, rfl⟩ := pw_below e; exact pw_evenEnd _ _
    · have hnl : n < s.length := by obtain ⟨n0, k0, e1, e2, h3, _⟩ := hb; omega
      have hp := hpl n b hb
      by_cases hn : n ∈ L
      · obtain ⟨q, hq⟩ := (hL n hnl).1 hn
        obtain ⟨l2, w2⟩ := way_of_climb wf q n hnl hq
        obtain rfl := w.only wf ⟨xt, hxt', hpt⟩ (wi.append w2)
        obtain ⟨l', w', e'⟩ := hway wj hnotj
        have e3 : l' = lj := by
          have h3 := under_at (enc lj) (gRem0 m) []
          rw [List.append_nil] at h3
          rw [h3] at e'
          exact enc_inj (by simpa [gRem0] using e')
        subst e3
        rw [hin n hn b] at hp
        refine ⟨j, m, l', hin n hn b, hp, w', ?_⟩
        have e4 : pw (l' ++ [m] ++ l2) b = enc l' ++ (2 * m + 1) :: pw l2 b := by simp [pw, enc]
        rw [e4, under_at, pw_eq]
        simp [gRem]
      · have hno : ¬ ∃ q, climb s q n = (i : Int) := fun hq => hn ((hL n hnl).2 hq)
        obtain ⟨l', w', e'⟩ := hway w hno
        have hnp : ∀ (b : Nat) (r : List Nat), pw l b ≠ enc lj ++ (2 * m + 1) :: r := fun b r e => by
          obtain ⟨l3, rfl, e3⟩ := pw_below e
          cases l3 with
          | nil => simp [pw] at e3; omega
          | cons c l3 =>
            rw [pw_cons] at e3
            injection e3 with e4 e5
            obtain rfl : c = m := by omega
            obtain ⟨p, q, z, w1, hz, hq, w2⟩ := w.cut lj c l3 rfl
            obtain rfl := w1.node wj
            rw [hy] at hz
            cases hz
            rw [hm] at hq
            cases hq
            exact hno (way_climb wf w2)
        rw [hout n hn b] at hp
        by_cases hnj : n = j
        · subst hnj
          obtain rfl := wj.only wf ⟨xt, hxt', hpt⟩ w
          have e3 : l' = lj := by
            have h3 := under_at (enc lj) (gRem0 m) []
            rw [List.append_nil] at h3
            rw [h3] at e'
            exact enc_inj (by simpa [gRem0] using e')
          subst e3
          by_cases hmb : (m : Int) < (b : Int)
          · have e1 : shiftF n m (-1) n b = ((n : Int), ((b - 1 : Nat) : Int)) := by
              unfold shiftF
              rw [if_pos ⟨rfl, hmb⟩]
              exact congrArg (fun a => ((n : Int), a)) (by omega)
            rw [e1] at hp
            refine ⟨n, b - 1, l', by rw [hout n hn b]; exact e1, hp, w', ?_⟩
            rw [pw_eq, pw_eq, under_at]
            simp only [gRem]
            rw [if_neg (by omega), if_neg (by omega)]
            exact congrArg (fun a => enc l' ++ [a]) (by omega)
          · have e1 : shiftF n m (-1) n b = ((n : Int), (b : Int)) := by
              unfold shiftF
              rw [if_neg (fun h => hmb h.2)]
            rw [e1] at hp
            refine ⟨n, b, l', by rw [hout n hn b]; exact e1, hp, w', ?_⟩
            rw [pw_eq, under_at]
            simp only [gRem]
            rw [if_neg (by omega), if_pos (by omega)]
        · have e1 : shiftF j m (-1) n b = ((n : Int), (b : Int)) := by
            unfold shiftF
            rw [if_neg (fun h => hnj (by omega))]
          rw [e1] at hp
          refine ⟨n, b, l', by rw [hout n hn b]; exact e1, hp, w', ?_⟩
          have hne : enc l ≠ enc lj := fun e => hnj (w.node (by rw [enc_inj e]; exact wj))
          rw [under_rem m _ _ (hnp b), pw_eq, pw_eq, under_snoc0 (fun a r e => rfl) rfl _ _ _ hne, e']
  · obtain ⟨z, hz, hzp⟩ := ht
    have hnj : ∀ (q : Nat) (l : List Nat), Way s t q l → q ≠ j := fun q l w e => by
      subst e
      exact h1 ((way_top wf w hz hzp).one htj)
    have hni : ∀ (q : Nat) (l : List Nat), Way s t q l → q < s.length → q ∉ L := fun q l w hq hmem => by
      obtain ⟨r, hr⟩ := (hL q hq).1 hmem
      obtain ⟨l2, w2⟩ := way_of_climb wf r q hq hr
      exact h1 ((way_top wf w hz hzp).one (way_top wf (wi.append w2) hxt' hpt))
    have hsh : ∀ (n b : Nat) (l : List Nat), n < s.length → Way s t n l → gatherF L j m (shiftF j m (-1)) n b = ((n : Int), (b : Int)) := fun n b l hn w => by
      rw [hout n (hni n l w hn) b]
      unfold shiftF
      rw [if_neg (fun h => hnj n l w (by omega))]
    have htl := (List.getElem?_eq_some_iff.1 hz).1
    have hti : t ≠ i := fun e => by
      subst e
      rw [hx] at hz
      cases hz
      omega
    refine ⟨t, _, Moves.still (fun n b l hb w => ?_) ⟨z, by rw [go t (hnj t [] .top) hti]; exact hz, hzp⟩ (fun q l y w hq => same q y (hnj q l w) hq)⟩
    have hnl : n < s.length := way_lt wf w htl
    refine ⟨hsh n b l hnl w, ?_⟩
    have := hpl n b hb
    rw [hsh n b l hnl w] at this
    exact this
end

end Go.Proofs.YtabogkonklplcaaGreatDoor
