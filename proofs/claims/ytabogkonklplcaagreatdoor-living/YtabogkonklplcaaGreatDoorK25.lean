import Derived.Test.YtabogkonklplcaaGreatDoorK20
import Derived.Test.YtabogkonklplcaaGreatDoorK23
import Derived.Test.YtabogkonklplcaaGreatDoorK24
import Derived.Test.YtabogkonklplcaaGreatDoorK22
import Derived.Test.YtabogkonklplcaaGreatDoorK16

namespace Go.Proofs.YtabogkonklplcaaGreatDoor
open Go.RowKit
set_option linter.unusedSimpArgs false
set_option linter.unusedVariables false
section
variable {w : World} {F : Nat → Prop} {bx bf bl : Nat} {sv : Value} {s : List Nd} {rs : List Sp}
theorem PDocAt.moved {w' : World} {rs' : List Sp} (h : PDocAt w F bx bf bl sv ⟨s, rs⟩) (hk : Keeps (fun b => sv.ownBlock = some b) w w') (ho : w'.ownsRow 0 79 4 sv rs'.length (rs'.flatMap Sp.cells)) : PDocAt w' F bx bf bl sv ⟨s, rs'⟩ :=
  ⟨h.Fx, h.Hx, by rw [hk.block bx (heap_lt h.doc) (fun e => (h.apart bx e).2.2.1 rfl)]; exact h.doc, h.Fl, h.Hl, h.ne, by rw [hk.block bl (heap_lt h.list) (fun e => (h.apart bl e).2.2.2 rfl)]; exact h.list, ho, h.apart, h.nodes.keeps hk (fun b hb e => hb.2.2.2.1 e)⟩
theorem lfollow_go (hD : PDocAt w F bx bf bl sv ⟨s, rs⟩) {m : Nat} {mv : Value} {f : Mvf} (hgm : ∀ b, sv.ownBlock = some b → b < m) (hm : MoveOk m w mv f) (hsm : Small rs) (h6 : rs.length ≤ 6) :
    Calls Tryz.prog 110 #[ptr bl, mv] w fun e w' => e = .returned (.tuple #[]) ∧ Keeps (fun b => sv.ownBlock = some b) w w' ∧ PDocAt w' F bx bf bl sv ⟨s, rs.map (mvSp f)⟩ := by
  rcases row_cases hD.spans with ⟨h1, h2⟩ | ⟨g, c, h1⟩
  · have hr0 : rs = [] := List.length_eq_zero_iff.1 h2
    subst hr0
    refine (lfollow_nil hD.list hD.spans mv).mono ?_
    rintro e w' ⟨rfl, hb⟩
    exact ⟨rfl, Keeps.of_below hb, hD.below hb⟩
  · simp only at h1
    have hl := hD.list
    have hr := hD.spans
    simp only at hr
    rw [h1] at hl hr
    have ha := hD.apart g (by rw [h1]; rfl)
    refine (lfollow_some hl hr ha.2.2.2 (hgm g (by rw [h1]; rfl)) hm hsm h6).mono ?_
    rintro e w' ⟨rfl, hk, ho⟩
    have hk' : Keeps (fun b => sv.ownBlock = some b) w w' := hk.mono (fun b _ e => by rw [e, h1]; rfl)
    refine ⟨rfl, hk', hD.moved hk' ?_⟩
    rw [h1, List.length_map]
    exact ho
set_option maxHeartbeats 400000 in
theorem mfollow_go (hD : PDocAt w F bx bf bl sv ⟨s, rs⟩) {m : Nat} {mv : Value} {f : Mvf} (hgm : ∀ b, sv.ownBlock = some b → b < m) (hm : MoveOk m w mv f) (hsm : Small rs) (h6 : rs.length ≤ 6) :
    Calls Tryz.prog 64 #[ptr bx, mv, .nilIface] w fun e w' => e = .returned .nilIface ∧ Keeps (fun b => sv.ownBlock = some b) w w' ∧ PDocAt w' F bx bf bl sv ⟨s, rs.map (mvSp f)⟩ := by
  have C := hid (lfollow_go hD hgm hm hsm h6)
  have c1 : w.cell? ⟨bx, 1, none⟩ = some (ptr bl) := cell_of_heap hD.doc 1
  clear hD hm hsm
  go_enter Tryz.func64, Tryz.ntmps64
  go_wp2_with (go_at_call 110; refine C.out.mono ?_; rintro e w1 ⟨rfl, hk1, hd1⟩; have H1 := hid (And.intro hk1 hd1); clear hk1 hd1)
  go_ret
  exact ⟨rfl, H1.out.1, H1.out.2⟩
end
theorem after_go {w w1 w2 : World} {F : Nat → Prop} {bx bf bl : Nat} {sv : Value} {s s' : List Nd} {rs rs' : List Sp} (hD : PDocAt w F bx bf bl sv ⟨s, rs⟩) (hk1 : Keeps F w w1) (hk2 : Keeps (fun b => sv.ownBlock = some b) w1 w2) (hd2 : PDocAt w2 (grow F w) bx bf bl sv ⟨s', rs'⟩) : Keeps F w w2 ∧ PLies w2 (grow F w) bx ⟨s', rs'⟩ :=
  ⟨hk1.trans (hk2.mono (fun b _ e => .inl (hD.apart b e).1)), _, _, _, hd2⟩
theorem before_go {w w1 : World} {F : Nat → Prop} {bx bf bl m : Nat} {sv : Value} {s s' : List Nd} {rs : List Sp} (hg : GG w) (hD : PDocAt w F bx bf bl sv ⟨s, rs⟩) (hk : Keeps (inner F bx bl sv) w w1) (hm1 : w.heap.size ≤ m) (hf : PFor w1 (fun b => inner F bx bl sv b ∨ (w.heap.size ≤ b ∧ b < m)) bf s') :
    (Keeps F w w1 ∧ PDocAt w1 (grow F w) bx bf bl sv ⟨s', rs⟩) ∧ ∀ b, sv.ownBlock = some b → b < m :=
  ⟨pdoc_after hg hD hk (hf.wider (fun b h => h.imp id And.left)) (Below.refl _ _), fun b e => by have := (hD.spans.lt b e).2; omega⟩
set_option maxHeartbeats 400000 in
theorem minsert_go {w : World} {F : Nat → Prop} {bx : Nat} {s s' : List Nd} {rs : List Sp} {f : Mvf} (hg : GG w) (hP : PLies w F bx ⟨s, rs⟩) (hsm : Small rs) (h6 : rs.length ≤ 6) (A B C : Int)
    (hT : ∀ (F' : Nat → Prop) (bf : Nat), PFor w F' bf s → Calls Tryz.prog 94 #[ptr bf, .int .i64 A, .int .i64 B, .int .i64 C] w (TMv f F' w bf s')) :
    Calls Tryz.prog 54 #[ptr bx, .int .i64 A, .int .i64 B, .int .i64 C] w (PLPost F w bx ⟨s', rs.map (mvSp f)⟩ (errV 0 0)) := by
  obtain ⟨bf, bl, sv, hD⟩ := hP
  have C := hid (hT _ _ hD.nodes)
  have c0 : w.cell? ⟨bx, 0, none⟩ = some (ptr bf) := cell_of_heap hD.doc 0
  have BG := hid (fun w1 m => before_go (w1 := w1) (m := m) (s' := s') hg hD)
  have AG := hid (fun w1 w2 => after_go (w1 := w1) (w2 := w2) (s' := s') (rs' := rs.map (mvSp f)) hD)
  have HSM := hid hsm
  clear hD hT hg hsm
  go_enter Tryz.func54, Tryz.ntmps54
  go_wp2_with first
    | (go_at_call 94; refine C.out.mono ?_; rintro e w1 ⟨mv, m, rfl, hk, h1, h2, hf, hm⟩
       have A1 := hid (BG.out w1 m hk h1 hf)
       have E1 := hid (mfollow_go A1.out.1.2 A1.out.2 hm HSM.out h6)
       clear hk h1 h2 hf hm)
    | (go_at_call 64; refine E1.out.mono ?_; rintro e w2 ⟨rfl, hk2, hd2⟩
       have A2 := hid (AG.out w1 w2 A1.out.1.1 hk2 hd2)
       clear hk2 hd2)
  go_ret
  exact ⟨by simp [errV], A2.out.1, A2.out.2⟩
set_option maxHeartbeats 400000 in
theorem mremove_go {w : World} {F : Nat → Prop} {bx : Nat} {s s' : List Nd} {rs : List Sp} {f : Mvf} (hg : GG w) (hP : PLies w F bx ⟨s, rs⟩) (hsm : Small rs) (h6 : rs.length ≤ 6) (A : Int)
    (hT : ∀ (F' : Nat → Prop) (bf : Nat), PFor w F' bf s → Calls Tryz.prog 97 #[ptr bf, .int .i64 A] w (TMv f F' w bf s')) :
    Calls Tryz.prog 60 #[ptr bx, .int .i64 A] w (PLPost F w bx ⟨s', rs.map (mvSp f)⟩ (errV 0 0)) := by
  obtain ⟨bf, bl, sv, hD⟩ := hP
  have C := hid (hT _ _ hD.nodes)
  have c0 : w.cell? ⟨bx, 0, none⟩ = some (ptr bf) := cell_of_heap hD.doc 0
  have BG := hid (fun w1 m => before_go (w1 := w1) (m := m) (s' := s') hg hD)
  have AG := hid (fun w1 w2 => after_go (w1 := w1) (w2 := w2) (s' := s') (rs' := rs.map (mvSp f)) hD)
  have HSM := hid hsm
  clear hD hT hg hsm
  go_enter Tryz.func60, Tryz.ntmps60
  go_wp2_with first
    | (go_at_call 97; refine C.out.mono ?_; rintro e w1 ⟨mv, m, rfl, hk, h1, h2, hf, hm⟩
       have A1 := hid (BG.out w1 m hk h1 hf)
       have E1 := hid (mfollow_go A1.out.1.2 A1.out.2 hm HSM.out h6)
       clear hk h1 h2 hf hm)
    | (go_at_call 64; refine E1.out.mono ?_; rintro e w2 ⟨rfl, hk2, hd2⟩
       have A2 := hid (AG.out w1 w2 A1.out.1.1 hk2 hd2)
       clear hk2 hd2)
  go_ret
  exact ⟨by simp [errV], A2.out.1, A2.out.2⟩
set_option maxHeartbeats 400000 in
theorem mreplace_go {w : World} {F : Nat → Prop} {bx : Nat} {s s' : List Nd} {rs : List Sp} {f : Mvf} (hg : GG w) (hP : PLies w F bx ⟨s, rs⟩) (hsm : Small rs) (h6 : rs.length ≤ 6) (A B C : Int) (t : ByteArray)
    (hT : ∀ (F' : Nat → Prop) (bf : Nat), PFor w F' bf s → Calls Tryz.prog 68 #[ptr bf, .int .i64 A, .int .i64 B, .int .i64 C, .string t] w (TMv f F' w bf s')) :
    Calls Tryz.prog 34 #[ptr bx, .int .i64 A, .int .i64 B, .int .i64 C, .string t] w (PLPost F w bx ⟨s', rs.map (mvSp f)⟩ (errV 0 0)) := by
  obtain ⟨bf, bl, sv, hD⟩ := hP
  have C := hid (hT _ _ hD.nodes)
  have c0 : w.cell? ⟨bx, 0, none⟩ = some (ptr bf) := cell_of_heap hD.doc 0
  have BG := hid (fun w1 m => before_go (w1 := w1) (m := m) (s' := s') hg hD)
  have AG := hid (fun w1 w2 => after_go (w1 := w1) (w2 := w2) (s' := s') (rs' := rs.map (mvSp f)) hD)
  have HSM := hid hsm
  clear hD hT hg hsm
  go_enter Tryz.func34, Tryz.ntmps34
  go_wp2_with first
    | (go_at_call 68; refine C.out.mono ?_; rintro e w1 ⟨mv, m, rfl, hk, h1, h2, hf, hm⟩
       have A1 := hid (BG.out w1 m hk h1 hf)
       have E1 := hid (mfollow_go A1.out.1.2 A1.out.2 hm HSM.out h6)
       clear hk h1 h2 hf hm)
    | (go_at_call 64; refine E1.out.mono ?_; rintro e w2 ⟨rfl, hk2, hd2⟩
       have A2 := hid (AG.out w1 w2 A1.out.1.1 hk2 hd2)
       clear hk2 hd2)
  go_ret
  exact ⟨by simp [errV], A2.out.1, A2.out.2⟩
set_option maxHeartbeats 400000 in
theorem msplit_go {w : World} {F : Nat → Prop} {bx : Nat} {s s' : List Nd} {rs : List Sp} {f : Mvf} (hg : GG w) (hP : PLies w F bx ⟨s, rs⟩) (hsm : Small rs) (h6 : rs.length ≤ 6) {n : Int} (A B : Int)
    (hT : ∀ (F' : Nat → Prop) (bf : Nat), PFor w F' bf s → Calls Tryz.prog 63 #[ptr bf, .int .i64 A, .int .i64 B] w (TSv f F' w bf s' n)) :
    Calls Tryz.prog 30 #[ptr bx, .int .i64 A, .int .i64 B] w (PLPost F w bx ⟨s', rs.map (mvSp f)⟩ (.tuple #[.int .i64 n, errV 0 0])) := by
  obtain ⟨bf, bl, sv, hD⟩ := hP
  have C := hid (hT _ _ hD.nodes)
  have c0 : w.cell? ⟨bx, 0, none⟩ = some (ptr bf) := cell_of_heap hD.doc 0
  have BG := hid (fun w1 m => before_go (w1 := w1) (m := m) (s' := s') hg hD)
  have AG := hid (fun w1 w2 => after_go (w1 := w1) (w2 := w2) (s' := s') (rs' := rs.map (mvSp f)) hD)
  have HSM := hid hsm
  clear hD hT hg hsm
  go_enter Tryz.func30, Tryz.ntmps30
  go_wp2_with first
    | (go_at_call 63; refine C.out.mono ?_; rintro e w1 ⟨mv, m, rfl, hk, h1, h2, hf, hm⟩
       have A1 := hid (BG.out w1 m hk h1 hf)
       have E1 := hid (mfollow_go A1.out.1.2 A1.out.2 hm HSM.out h6)
       clear hk h1 h2 hf hm)
    | (go_at_call 64; refine E1.out.mono ?_; rintro e w2 ⟨rfl, hk2, hd2⟩
       have A2 := hid (AG.out w1 w2 A1.out.1.1 hk2 hd2)
       clear hk2 hd2)
  go_ret2
  exact ⟨by simp [errV], A2.out.1, A2.out.2⟩
end Go.Proofs.YtabogkonklplcaaGreatDoor

namespace Go.Proofs.YtabogkonklplcaaGreatDoor
open Go.RowKit
set_option linter.unusedSimpArgs false
set_option linter.unusedVariables false
structure Lives (V : List Nd → Sp → Prop) : Prop where
  place : ∀ {s : List Nd} {z : Sp}, V s z → SpOk s z
  fresh : ∀ {s : List Nd}, WF s → V s ⟨0, 0, 0, 0⟩
  push : ∀ {s : List Nd} {z : Sp} (nd : Nd), WF s → WF (s ++ [nd]) → nd.p = -1 → V s z → V (s ++ [nd]) z
  insert : ∀ {s : List Nd} {i j k : Nat} {x y : Nd} {z : Sp}, WF s → InsOk s i j x y → Lim (fun c => withinF s c (i : Int) (j : Int)) false → k ≤ x.ks.length → i ≠ j → V s z →
    V ((s.set i { x with ks := x.ks.take k ++ j :: x.ks.drop k }).set j { y with p := i }) (mvSp (shiftF i k 1) z)
  remove : ∀ {s : List Nd} {i j m : Nat} {x y : Nd} {z : Sp} (l : List Nat), WF s → s[i]? = some x → x.p = (j : Int) → s[j]? = some y → y.ks[m]? = some i → i ∉ y.ks.take m → i ≠ j → (∀ a : Nat, a < s.length → (a ∈ l ↔ ∃ q, climb s q a = (i : Int))) → V s z →
    V ((s.set j { y with ks := y.ks.take m ++ y.ks.drop (m + 1) }).set i { x with p := -1 }) (mvSp (gatherF l j m (shiftF j m (-1))) z)
  replace : ∀ {s : List Nd} {n o c : Nat} {x : Nd} {lf : List ByteArray} {z : Sp}, WF s → s[n]? = some x → x.t = true → o + c ≤ x.cs.length → WF (s.set n { x with cs := x.cs.take o ++ lf ++ x.cs.drop (o + c) }) → V s z → V (s.set n { x with cs := x.cs.take o ++ lf ++ x.cs.drop (o + c) }) (mvSp (resizeF n o c lf.length) z)
  splitTop : ∀ {s : List Nd} {n k : Nat} {x : Nd} {z : Sp}, WF s → s[n]? = some x → x.t = true → k ≤ x.cs.length → x.p = -1 → s.length < 40 → V s z →
    V ((s ++ [(⟨true, x.cs.drop k, [], -1⟩ : Nd)]).set n { x with cs := x.cs.take k }) (mvSp (resizeF n k ((x.cs.length - k : Nat) : Int) 0) z)
  splitIn : ∀ {s : List Nd} {n k j m : Nat} {x y : Nd} {z : Sp}, WF s → s[n]? = some x → x.t = true → k ≤ x.cs.length → x.p = (j : Int) → s[j]? = some y → y.ks[m]? = some n → n ∉ y.ks.take m → n ≠ j → s.length < 40 → WF ((((s ++ [(⟨true, x.cs.drop k, [], -1⟩ : Nd)]).set n { x with cs := x.cs.take k }).set j { y with ks := y.ks.take (m + 1) ++ s.length :: y.ks.drop (m + 1) }).set s.length { (⟨true, x.cs.drop k, [], -1⟩ : Nd) with p := j }) → V s z →
    V ((((s ++ [(⟨true, x.cs.drop k, [], -1⟩ : Nd)]).set n { x with cs := x.cs.take k }).set j { y with ks := y.ks.take (m + 1) ++ s.length :: y.ks.drop (m + 1) }).set s.length { (⟨true, x.cs.drop k, [], -1⟩ : Nd) with p := j }) (mvSp (carryF n k s.length (shiftF j m 1)) z)
  one : ∀ {s : List Nd} {a b : Int}, WF s → PlOk s a b → V s ⟨a, b, a, b⟩
  two : ∀ {s : List Nd} {n k n2 k2 t : Nat} {l l2 : List Nat}, WF s → PlOk s n k → PlOk s n2 k2 → IsTop s n t → Way s t n l → Way s t n2 l2 → lexC (l ++ [k]) (l2 ++ [k2]) ≤ 0 → V s ⟨n, k, n2, k2⟩
theorem mapV {V W : Sp → Prop} {f : Sp → Sp} {rs : List Sp} (h : ∀ z ∈ rs, V z) (hf : ∀ z, V z → W (f z)) : ∀ z ∈ rs.map f, W z := by
  intro z hz
  obtain ⟨y, hy, rfl⟩ := List.mem_map.1 hz
  exact hf y (h y hy)
theorem allF_same {s s' : List Nd} : ∀ (k i : Nat), (∀ d ∈ allF s k i, kidsOf s' d = kidsOf s d) → allF s' k i = allF s k i := by
  intro k
  induction k with
  | zero => intro i _; rfl
  | succ k ih =>
    intro i h
    have h0 : kidsOf s' i = kidsOf s i := h i (by simp [allF])
    simp only [allF, h0]
    congr 1
    have : ∀ l : List Nat, (∀ c ∈ l, c ∈ kidsOf s i) → l.flatMap (allF s' k) = l.flatMap (allF s k) := by
      intro l
      induction l with
      | nil => intro _; rfl
      | cons c l ih2 =>
        intro hl
        rw [List.flatMap_cons, List.flatMap_cons, ih2 (fun d hd => hl d (by simp [hd])), ih c (fun d hd => h d (by
          simp only [allF, List.mem_cons, List.mem_flatMap]
          exact .inr ⟨c, hl c (by simp), hd⟩))]
    exact this _ (fun c hc => hc)
section
variable {s : List Nd} {i j m : Nat} {x y : Nd} {h h2 : Nat → Nat} {B B2 : Nat}
theorem gone_all (wf : WF s) (u : Up s h B) (hx : s[i]? = some x) (hj : x.p = (j : Int)) (hy : s[j]? = some y) (hm : y.ks[m]? = some i) (hij : i ≠ j)
    (wf2 : WF ((s.set j { y with ks := y.ks.take m ++ y.ks.drop (m + 1) }).set i { x with p := -1 })) (u2 : Up ((s.set j { y with ks := y.ks.take m ++ y.ks.drop (m + 1) }).set i { x with p := -1 }) h2 B2) :
    ∃ K, h i < K ∧ allF ((s.set j { y with ks := y.ks.take m ++ y.ks.drop (m + 1) }).set i { x with p := -1 }) (h2 i + 1) i = allF s K i := by
  have hjl := (List.getElem?_eq_some_iff.1 hy).1
  have hil := (List.getElem?_eq_some_iff.1 hx).1
  refine ⟨max (h2 i + 1) (h i + 1), by omega, ?_⟩
  rw [all_stable wf2 u2 (h2 i + 1) (max (h2 i + 1) (h i + 1)) i (by omega) (by omega)]
  refine allF_same _ _ (fun d hd => ?_)
  have hdj : d ≠ j := fun e => by
    subst e
    exact all_head_not wf u (show i ∈ kidsOf s d by rw [kidsOf_eq hy]; exact List.mem_of_getElem? hm) hd
  unfold kidsOf
  by_cases hdi : d = i
  · subst hdi
    rw [List.getElem?_set_self (by simpa using hil), hx]
  · rw [List.getElem?_set_ne (fun e => hdi e.symm), List.getElem?_set_ne (fun e => hdj e.symm)]
theorem gone_iff (wf : WF s) (u : Up s h B) (hx : s[i]? = some x) (hj : x.p = (j : Int)) (hy : s[j]? = some y) (hm : y.ks[m]? = some i) (hij : i ≠ j)
    (wf2 : WF ((s.set j { y with ks := y.ks.take m ++ y.ks.drop (m + 1) }).set i { x with p := -1 })) (u2 : Up ((s.set j { y with ks := y.ks.take m ++ y.ks.drop (m + 1) }).set i { x with p := -1 }) h2 B2) :
    ∀ a : Nat, a < s.length → (a ∈ allF ((s.set j { y with ks := y.ks.take m ++ y.ks.drop (m + 1) }).set i { x with p := -1 }) (h2 i + 1) i ↔ ∃ q, climb s q a = (i : Int)) := by
  obtain ⟨K, hK, e⟩ := gone_all wf u hx hj hy hm hij wf2 u2
  intro a ha
  rw [e]
  exact ⟨fun h => all_climb wf K i a h, fun ⟨q, hq⟩ => all_of_climb wf u K i hK q a ha hq⟩
end
end Go.Proofs.YtabogkonklplcaaGreatDoor

namespace Go.Proofs.YtabogkonklplcaaGreatDoor
open Go.RowKit
set_option linter.unusedSimpArgs false
set_option linter.unusedVariables false
theorem PlOk.splitTop {s : List Nd} {n k : Nat} {x : Nd} (hx : s[n]? = some x) (ht : x.t = true) (hk : k ≤ x.cs.length) {a b : Int} (h : PlOk s a b) :
    PlOk ((s ++ [(⟨true, x.cs.drop k, [], -1⟩ : Nd)]).set n { x with cs := x.cs.take k }) (resizeF n k ((x.cs.length - k : Nat) : Int) 0 a b).1 (resizeF n k ((x.cs.length - k : Nat) : Int) 0 a b).2 := by
  have hn := (List.getElem?_eq_some_iff.1 hx).1
  have := (h.push (⟨true, x.cs.drop k, [], -1⟩ : Nd)).replace (i := n) (o := k) (c := x.cs.length - k) (x := x) (cs := x.cs.take k) (g := 0) (by rw [List.getElem?_append_left hn]; exact hx) ht (by omega) (by simp; omega)
  exact this
theorem PlOk.splitIn {s : List Nd} {n k j m : Nat} {x y : Nd} (hx : s[n]? = some x) (ht : x.t = true) (hk : k ≤ x.cs.length) (hy : s[j]? = some y) (hyt : y.t = false) (hm : m < y.ks.length) (hnj : n ≠ j) {a b : Int} (h : PlOk s a b) :
    PlOk ((((s ++ [(⟨true, x.cs.drop k, [], -1⟩ : Nd)]).set n { x with cs := x.cs.take k }).set j { y with ks := y.ks.take (m + 1) ++ s.length :: y.ks.drop (m + 1) }).set s.length { (⟨true, x.cs.drop k, [], -1⟩ : Nd) with p := j }) (carryF n k s.length (shiftF j m 1) a b).1 (carryF n k s.length (shiftF j m 1) a b).2 := by
  have hn := (List.getElem?_eq_some_iff.1 hx).1
  have hj := (List.getElem?_eq_some_iff.1 hy).1
  obtain ⟨c, d, rfl, rfl, hc, hd⟩ := h
  have hsn : sizeAt s n = x.cs.length := by rw [sizeAt_eq hx, sizeN_text ht]
  have hsj : sizeAt s j = y.ks.length := by rw [sizeAt_eq hy, sizeN_elem hyt]
  have hsz : ∀ q, sizeAt ((((s ++ [(⟨true, x.cs.drop k, [], -1⟩ : Nd)]).set n { x with cs := x.cs.take k }).set j { y with ks := y.ks.take (m + 1) ++ s.length :: y.ks.drop (m + 1) }).set s.length { (⟨true, x.cs.drop k, [], -1⟩ : Nd) with p := j }) q =
      if q = s.length then x.cs.length - k else if q = j then y.ks.length + 1 else if q = n then k else sizeAt (s ++ [(⟨true, x.cs.drop k, [], -1⟩ : Nd)]) q := by
    intro q
    rw [sizeAt_set (by simp), sizeAt_set (by simp; omega), sizeAt_set (by simp; omega)]
    rw [sizeN_text (x := { (⟨true, x.cs.drop k, [], -1⟩ : Nd) with p := j }) rfl, sizeN_elem (x := { y with ks := y.ks.take (m + 1) ++ s.length :: y.ks.drop (m + 1) }) hyt, sizeN_text (x := { x with cs := x.cs.take k }) ht]
    have e1 : (x.cs.drop k).length = x.cs.length - k := by simp
    have e2 : (y.ks.take (m + 1) ++ s.length :: y.ks.drop (m + 1)).length = y.ks.length + 1 := by simp; omega
    have e3 : (x.cs.take k).length = k := by simp; omega
    simp only [e1, e2, e3]
  have hlen : ((((s ++ [(⟨true, x.cs.drop k, [], -1⟩ : Nd)]).set n { x with cs := x.cs.take k }).set j { y with ks := y.ks.take (m + 1) ++ s.length :: y.ks.drop (m + 1) }).set s.length { (⟨true, x.cs.drop k, [], -1⟩ : Nd) with p := j }).length = s.length + 1 := by simp
  unfold carryF
  by_cases h1 : (c : Int) = (n : Int) ∧ (k : Int) < (d : Int)
  · rw [if_pos h1]
    obtain rfl : c = n := by omega
    refine ⟨s.length, d - k, rfl, by show (d : Int) - k = _; omega, by rw [hlen]; omega, ?_⟩
    rw [hsz, if_pos rfl]
    omega
  · rw [if_neg h1]
    have hcne : c ≠ s.length := by omega
    unfold shiftF
    by_cases h2 : (c : Int) = (j : Int) ∧ (m : Int) < (d : Int)
    · rw [if_pos h2]
      obtain rfl : c = j := by omega
      refine ⟨c, d + 1, rfl, rfl, by rw [hlen]; omega, ?_⟩
      rw [hsz, if_neg hcne, if_pos rfl]
      omega
    · rw [if_neg h2]
      refine ⟨c, d, rfl, rfl, by rw [hlen]; omega, ?_⟩
      rw [hsz, if_neg hcne]
      by_cases h3 : c = j
      · subst h3
        rw [if_pos rfl]
        omega
      · rw [if_neg h3]
        by_cases h4 : c = n
        · subst h4
          rw [if_pos rfl]
          omega
        · rw [if_neg h4, sizeAt_push _ hc]
          exact hd
end Go.Proofs.YtabogkonklplcaaGreatDoor
