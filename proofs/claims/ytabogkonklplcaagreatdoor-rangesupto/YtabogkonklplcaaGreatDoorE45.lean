import Derived.Test.YtabogkonklplcaaGreatDoorE38
import Derived.Test.YtabogkonklplcaaGreatDoorE42
import Derived.Test.YtabogkonklplcaaGreatDoorE31
import Derived.Test.YtabogkonklplcaaGreatDoorE24
import Derived.Test.YtabogkonklplcaaGreatDoorE43
import Derived.Test.YtabogkonklplcaaGreatDoorE44
import Derived.Test.YtabogkonklplcaaGreatDoorE19

/- What the document's calls do to its ranges: Follow behind a change. -/
namespace Go.Proofs.YtabogkonklplcaaGreatDoor
open Go.RowKit
set_option linter.unusedSimpArgs false
set_option linter.unusedVariables false

section
variable {w : World} {F : Nat → Prop} {bx bf bl : Nat} {sv : Value} {s : List Nd} {rs : List Sp}

/-- The ranges are others now, in their own block. -/
theorem PDocAt.moved {w' : World} {rs' : List Sp} (h : PDocAt w F bx bf bl sv ⟨s, rs⟩) (hk : Keeps (fun b => sv.ownBlock = some b) w w') (ho : w'.ownsRow 0 79 4 sv rs'.length (rs'.flatMap Sp.cells)) : PDocAt w' F bx bf bl sv ⟨s, rs'⟩ :=
  ⟨h.Fx, h.Hx, by rw [hk.block bx (heap_lt h.doc) (fun e => (h.apart bx e).2.2.1 rfl)]; exact h.doc, h.Fl, h.Hl, h.ne, by rw [hk.block bl (heap_lt h.list) (fun e => (h.apart bl e).2.2.2 rfl)]; exact h.list, ho, h.apart, h.nodes.keeps hk (fun b hb e => hb.2.2.2.1 e)⟩

theorem lfollow_go (hD : PDocAt w F bx bf bl sv ⟨s, rs⟩) {m : Nat} {mv : Value} {f : Mvf} (hgm : ∀ b, sv.ownBlock = some b → b < m) (hm : MoveOk m w mv f) (hsm : Small rs) (h6 : rs.length ≤ 6) :
    Calls Tryz.prog 110 #[ptr bl, mv] w fun e w' => e = .returned (.tuple #[]) ∧ Keeps (fun b => sv.ownBlock = some b) w w' ∧ PDocAt w' F bx bf bl sv ⟨s, rs.map (mvSp f)⟩ := by
  rcases row_cases hD.spans with ⟨h1, h2⟩ | ⟨g, c, h1⟩
  · have hr0 : rs = [] := List.length_eq_zero_iff.1 h2
    subst hr0
    refine (lfollow_nil hD.list hD.spans mv).mono ?_
    rintro e w' ⟨rfl, hb⟩
    exact ⟨rfl, Keeps.of_below hb, hD.below hb⟩
  · simp only at h1
    have hl := hD.list
    have hr := hD.spans
    simp only at hr
    rw [h1] at hl hr
    have ha := hD.apart g (by rw [h1]; rfl)
    refine (lfollow_some hl hr ha.2.2.2 (hgm g (by rw [h1]; rfl)) hm hsm h6).mono ?_
    rintro e w' ⟨rfl, hk, ho⟩
    have hk' : Keeps (fun b => sv.ownBlock = some b) w w' := hk.mono (fun b _ e => by rw [e, h1]; rfl)
    refine ⟨rfl, hk', hD.moved hk' ?_⟩
    rw [h1, List.length_map]
    exact ho

set_option maxHeartbeats 400000 in
theorem mfollow_go (hD : PDocAt w F bx bf bl sv ⟨s, rs⟩) {m : Nat} {mv : Value} {f : Mvf} (hgm : ∀ b, sv.ownBlock = some b → b < m) (hm : MoveOk m w mv f) (hsm : Small rs) (h6 : rs.length ≤ 6) :
    Calls Tryz.prog 64 #[ptr bx, mv, .nilIface] w fun e w' => e = .returned .nilIface ∧ Keeps (fun b => sv.ownBlock = some b) w w' ∧ PDocAt w' F bx bf bl sv ⟨s, rs.map (mvSp f)⟩ := by
  have C := hid (lfollow_go hD hgm hm hsm h6)
  have c1 : w.cell? ⟨bx, 1, none⟩ = some (ptr bl) := cell_of_heap hD.doc 1
  clear hD hm hsm
  go_enter Tryz.func64, Tryz.ntmps64
  go_wp2_with (go_at_call 110; refine C.out.mono ?_; rintro e w1 ⟨rfl, hk1, hd1⟩; have H1 := hid (And.intro hk1 hd1); clear hk1 hd1)
  go_ret
  exact ⟨rfl, H1.out.1, H1.out.2⟩
end

/-- Behind a change of the forest's and Follow: what is left of the document. -/
theorem after_go {w w1 w2 : World} {F : Nat → Prop} {bx bf bl : Nat} {sv : Value} {s s' : List Nd} {rs rs' : List Sp} (hD : PDocAt w F bx bf bl sv ⟨s, rs⟩) (hk1 : Keeps F w w1) (hk2 : Keeps (fun b => sv.ownBlock = some b) w1 w2) (hd2 : PDocAt w2 (grow F w) bx bf bl sv ⟨s', rs'⟩) : Keeps F w w2 ∧ PLies w2 (grow F w) bx ⟨s', rs'⟩ :=
  ⟨hk1.trans (hk2.mono (fun b _ e => .inl (hD.apart b e).1)), _, _, _, hd2⟩

/-- What Follow asks, behind a change of the forest's. -/
theorem before_go {w w1 : World} {F : Nat → Prop} {bx bf bl m : Nat} {sv : Value} {s s' : List Nd} {rs : List Sp} (hg : GG w) (hD : PDocAt w F bx bf bl sv ⟨s, rs⟩) (hk : Keeps (inner F bx bl sv) w w1) (hm1 : w.heap.size ≤ m) (hf : PFor w1 (fun b => inner F bx bl sv b ∨ (w.heap.size ≤ b ∧ b < m)) bf s') :
    (Keeps F w w1 ∧ PDocAt w1 (grow F w) bx bf bl sv ⟨s', rs⟩) ∧ ∀ b, sv.ownBlock = some b → b < m :=
  ⟨pdoc_after hg hD hk (hf.wider (fun b h => h.imp id And.left)) (Below.refl _ _), fun b e => by have := (hD.spans.lt b e).2; omega⟩

set_option maxHeartbeats 400000 in
theorem minsert_go {w : World} {F : Nat → Prop} {bx : Nat} {s s' : List Nd} {rs : List Sp} {f : Mvf} (hg : GG w) (hP : PLies w F bx ⟨s, rs⟩) (hsm : Small rs) (h6 : rs.length ≤ 6) (A B C : Int)
    (hT : ∀ (F' : Nat → Prop) (bf : Nat), PFor w F' bf s → Calls Tryz.prog 94 #[ptr bf, .int .i64 A, .int .i64 B, .int .i64 C] w (TMv f F' w bf s')) :
    Calls Tryz.prog 54 #[ptr bx, .int .i64 A, .int .i64 B, .int .i64 C] w (PLPost F w bx ⟨s', rs.map (mvSp f)⟩ (errV 0 0)) := by
  obtain ⟨bf, bl, sv, hD⟩ := hP
  have C := hid (hT _ _ hD.nodes)
  have c0 : w.cell? ⟨bx, 0, none⟩ = some (ptr bf) := cell_of_heap hD.doc 0
  have BG := hid (fun w1 m => before_go (w1 := w1) (m := m) (s' := s') hg hD)
  have AG := hid (fun w1 w2 => after_go (w1 := w1) (w2 := w2) (s' := s') (rs' := rs.map (mvSp f)) hD)
  have HSM := hid hsm
  clear hD hT hg hsm
  go_enter Tryz.func54, Tryz.ntmps54
  go_wp2_with first
    | (go_at_call 94; refine C.out.mono ?_; rintro e w1 ⟨mv, m, rfl, hk, h1, h2, hf, hm⟩
       have A1 := hid (BG.out w1 m hk h1 hf)
       have E1 := hid (mfollow_go A1.out.1.2 A1.out.2 hm HSM.out h6)
       clear hk h1 h2 hf hm)
    | (go_at_call 64; refine E1.out.mono ?_; rintro e w2 ⟨rfl, hk2, hd2⟩
       have A2 := hid (AG.out w1 w2 A1.out.1.1 hk2 hd2)
       clear hk2 hd2)
  go_ret
  exact ⟨by simp [errV], A2.out.1, A2.out.2⟩

set_option maxHeartbeats 400000 in
theorem mremove_go {w : World} {F : Nat → Prop} {bx : Nat} {s s' : List Nd} {rs : List Sp} {f : Mvf} (hg : GG w) (hP : PLies w F bx ⟨s, rs⟩) (hsm : Small rs) (h6 : rs.length ≤ 6) (A : Int)
    (hT : ∀ (F' : Nat → Prop) (bf : Nat), PFor w F' bf s → Calls Tryz.prog 97 #[ptr bf, .int .i64 A] w (TMv f F' w bf s')) :
    Calls Tryz.prog 60 #[ptr bx, .int .i64 A] w (PLPost F w bx ⟨s', rs.map (mvSp f)⟩ (errV 0 0)) := by
  obtain ⟨bf, bl, sv, hD⟩ := hP
  have C := hid (hT _ _ hD.nodes)
  have c0 : w.cell? ⟨bx, 0, none⟩ = some (ptr bf) := cell_of_heap hD.doc 0
  have BG := hid (fun w1 m => before_go (w1 := w1) (m := m) (s' := s') hg hD)
  have AG := hid (fun w1 w2 => after_go (w1 := w1) (w2 := w2) (s' := s') (rs' := rs.map (mvSp f)) hD)
  have HSM := hid hsm
  clear hD hT hg hsm
  go_enter Tryz.func60, Tryz.ntmps60
  go_wp2_with first
    | (go_at_call 97; refine C.out.mono ?_; rintro e w1 ⟨mv, m, rfl, hk, h1, h2, hf, hm⟩
       have A1 := hid (BG.out w1 m hk h1 hf)
       have E1 := hid (mfollow_go A1.out.1.2 A1.out.2 hm HSM.out h6)
       clear hk h1 h2 hf hm)
    | (go_at_call 64; refine E1.out.mono ?_; rintro e w2 ⟨rfl, hk2, hd2⟩
       have A2 := hid (AG.out w1 w2 A1.out.1.1 hk2 hd2)
       clear hk2 hd2)
  go_ret
  exact ⟨by simp [errV], A2.out.1, A2.out.2⟩

set_option maxHeartbeats 400000 in
theorem mreplace_go {w : World} {F : Nat → Prop} {bx : Nat} {s s' : List Nd} {rs : List Sp} {f : Mvf} (hg : GG w) (hP : PLies w F bx ⟨s, rs⟩) (hsm : Small rs) (h6 : rs.length ≤ 6) (A B C : Int) (t : ByteArray)
    (hT : ∀ (F' : Nat → Prop) (bf : Nat), PFor w F' bf s → Calls Tryz.prog 68 #[ptr bf, .int .i64 A, .int .i64 B, .int .i64 C, .string t] w (TMv f F' w bf s')) :
    Calls Tryz.prog 34 #[ptr bx, .int .i64 A, .int .i64 B, .int .i64 C, .string t] w (PLPost F w bx ⟨s', rs.map (mvSp f)⟩ (errV 0 0)) := by
  obtain ⟨bf, bl, sv, hD⟩ := hP
  have C := hid (hT _ _ hD.nodes)
  have c0 : w.cell? ⟨bx, 0, none⟩ = some (ptr bf) := cell_of_heap hD.doc 0
  have BG := hid (fun w1 m => before_go (w1 := w1) (m := m) (s' := s') hg hD)
  have AG := hid (fun w1 w2 => after_go (w1 := w1) (w2 := w2) (s' := s') (rs' := rs.map (mvSp f)) hD)
  have HSM := hid hsm
  clear hD hT hg hsm
  go_enter Tryz.func34, Tryz.ntmps34
  go_wp2_with first
    | (go_at_call 68; refine C.out.mono ?_; rintro e w1 ⟨mv, m, rfl, hk, h1, h2, hf, hm⟩
       have A1 := hid (BG.out w1 m hk h1 hf)
       have E1 := hid (mfollow_go A1.out.1.2 A1.out.2 hm HSM.out h6)
       clear hk h1 h2 hf hm)
    | (go_at_call 64; refine E1.out.mono ?_; rintro e w2 ⟨rfl, hk2, hd2⟩
       have A2 := hid (AG.out w1 w2 A1.out.1.1 hk2 hd2)
       clear hk2 hd2)
  go_ret
  exact ⟨by simp [errV], A2.out.1, A2.out.2⟩

set_option maxHeartbeats 400000 in
theorem msplit_go {w : World} {F : Nat → Prop} {bx : Nat} {s s' : List Nd} {rs : List Sp} {f : Mvf} (hg : GG w) (hP : PLies w F bx ⟨s, rs⟩) (hsm : Small rs) (h6 : rs.length ≤ 6) {n : Int} (A B : Int)
    (hT : ∀ (F' : Nat → Prop) (bf : Nat), PFor w F' bf s → Calls Tryz.prog 63 #[ptr bf, .int .i64 A, .int .i64 B] w (TSv f F' w bf s' n)) :
    Calls Tryz.prog 30 #[ptr bx, .int .i64 A, .int .i64 B] w (PLPost F w bx ⟨s', rs.map (mvSp f)⟩ (.tuple #[.int .i64 n, errV 0 0])) := by
  obtain ⟨bf, bl, sv, hD⟩ := hP
  have C := hid (hT _ _ hD.nodes)
  have c0 : w.cell? ⟨bx, 0, none⟩ = some (ptr bf) := cell_of_heap hD.doc 0
  have BG := hid (fun w1 m => before_go (w1 := w1) (m := m) (s' := s') hg hD)
  have AG := hid (fun w1 w2 => after_go (w1 := w1) (w2 := w2) (s' := s') (rs' := rs.map (mvSp f)) hD)
  have HSM := hid hsm
  clear hD hT hg hsm
  go_enter Tryz.func30, Tryz.ntmps30
  go_wp2_with first
    | (go_at_call 63; refine C.out.mono ?_; rintro e w1 ⟨mv, m, rfl, hk, h1, h2, hf, hm⟩
       have A1 := hid (BG.out w1 m hk h1 hf)
       have E1 := hid (mfollow_go A1.out.1.2 A1.out.2 hm HSM.out h6)
       clear hk h1 h2 hf hm)
    | (go_at_call 64; refine E1.out.mono ?_; rintro e w2 ⟨rfl, hk2, hd2⟩
       have A2 := hid (AG.out w1 w2 A1.out.1.1 hk2 hd2)
       clear hk2 hd2)
  go_ret2
  exact ⟨by simp [errV], A2.out.1, A2.out.2⟩

end Go.Proofs.YtabogkonklplcaaGreatDoor

/- Documents that have ranges: what states there are. -/
namespace Go.Proofs.YtabogkonklplcaaGreatDoor
open Go.RowKit
set_option linter.unusedSimpArgs false
set_option linter.unusedVariables false

/-- What is true of a range (V), whatever is done. -/
structure Lives (V : List Nd → Sp → Prop) : Prop where
  place : ∀ {s : List Nd} {z : Sp}, V s z → SpOk s z
  fresh : ∀ {s : List Nd}, WF s → V s ⟨0, 0, 0, 0⟩
  push : ∀ {s : List Nd} {z : Sp} (nd : Nd), WF s → nd.p = -1 → V s z → V (s ++ [nd]) z
  insert : ∀ {s : List Nd} {i j k : Nat} {x y : Nd} {z : Sp}, WF s → InsOk s i j x y → Lim (fun c => withinF s c (i : Int) (j : Int)) false → k ≤ x.ks.length → i ≠ j → V s z →
    V ((s.set i { x with ks := x.ks.take k ++ j :: x.ks.drop k }).set j { y with p := i }) (mvSp (shiftF i k 1) z)
  remove : ∀ {s : List Nd} {i j m : Nat} {x y : Nd} {z : Sp} (l : List Nat), WF s → s[i]? = some x → x.p = (j : Int) → s[j]? = some y → y.ks[m]? = some i → i ∉ y.ks.take m → i ≠ j → (∀ a : Nat, a < s.length → (a ∈ l ↔ ∃ q, climb s q a = (i : Int))) → V s z →
    V ((s.set j { y with ks := y.ks.take m ++ y.ks.drop (m + 1) }).set i { x with p := -1 }) (mvSp (gatherF l j m (shiftF j m (-1))) z)
  replace : ∀ {s : List Nd} {n o c : Nat} {x : Nd} {lf : List ByteArray} {z : Sp}, WF s → s[n]? = some x → x.t = true → o + c ≤ x.cs.length → V s z → V (s.set n { x with cs := x.cs.take o ++ lf ++ x.cs.drop (o + c) }) (mvSp (resizeF n o c lf.length) z)
  splitTop : ∀ {s : List Nd} {n k : Nat} {x : Nd} {z : Sp}, WF s → s[n]? = some x → x.t = true → k ≤ x.cs.length → x.p = -1 → V s z →
    V ((s ++ [(⟨true, x.cs.drop k, [], -1⟩ : Nd)]).set n { x with cs := x.cs.take k }) (mvSp (resizeF n k ((x.cs.length - k : Nat) : Int) 0) z)
  splitIn : ∀ {s : List Nd} {n k j m : Nat} {x y : Nd} {z : Sp}, WF s → s[n]? = some x → x.t = true → k ≤ x.cs.length → x.p = (j : Int) → s[j]? = some y → y.ks[m]? = some n → n ∉ y.ks.take m → n ≠ j → V s z →
    V ((((s ++ [(⟨true, x.cs.drop k, [], -1⟩ : Nd)]).set n { x with cs := x.cs.take k }).set j { y with ks := y.ks.take (m + 1) ++ s.length :: y.ks.drop (m + 1) }).set s.length { (⟨true, x.cs.drop k, [], -1⟩ : Nd) with p := j }) (mvSp (carryF n k s.length (shiftF j m 1)) z)
  one : ∀ {s : List Nd} {a b : Int}, WF s → PlOk s a b → V s ⟨a, b, a, b⟩
  two : ∀ {s : List Nd} {n k n2 k2 t : Nat} {l l2 : List Nat}, WF s → PlOk s n k → PlOk s n2 k2 → IsTop s n t → Way s t n l → Way s t n2 l2 → lexC (l ++ [k]) (l2 ++ [k2]) ≤ 0 → V s ⟨n, k, n2, k2⟩

/-- The documents whose ranges are such. -/
def PDocV (V : List Nd → Sp → Prop) : PDT where
  lies := PLies
  ok := fun st => WF st.n ∧ st.r.length ≤ 6 ∧ ∀ z ∈ st.r, V st.n z

theorem mapV {V W : Sp → Prop} {f : Sp → Sp} {rs : List Sp} (h : ∀ z ∈ rs, V z) (hf : ∀ z, V z → W (f z)) : ∀ z ∈ rs.map f, W z := by
  intro z hz
  obtain ⟨y, hy, rfl⟩ := List.mem_map.1 hz
  exact hf y (h y hy)

theorem pdocV_ok (V : List Nd → Sp → Prop) : PDOk (PDocV V) where
  keeps := fun h hk hG => PLies.keeps h hk hG
  wider := fun h hG => PLies.wider h hG
  narrow := fun h => PLies.narrow h
  root := ⟨wf_root, Nat.zero_le _, fun z hz => by cases hz⟩

theorem RDoc.afterR {w w' : World} {F : Nat → Prop} {bd : Nat} {s : List Nd} {rs : List Sp} (h : RDoc w F bd s rs) (hb : Below w.heap.size w w') : RDoc w' (grow F w) bd s rs := by
  obtain ⟨bn, cap, rn, rv, h⟩ := h
  exact ⟨bn, cap, rn, rv, (h.below hb).wider (fun b e => .inl e)⟩
theorem RDoc.unchangedR {w w' : World} {F : Nat → Prop} {bd : Nat} {s : List Nd} {rs : List Sp} (h : RDoc w F bd s rs) (hb : Below w.heap.size w w') {v : Value} {e : Ending} (he : e = .returned v) : RPost F w bd ⟨s, rs⟩ v e w' := ⟨he, Keeps.of_below hb, h.afterR hb⟩

/-- What is within a node that goes is what was within it. -/
theorem allF_same {s s' : List Nd} : ∀ (k i : Nat), (∀ d ∈ allF s k i, kidsOf s' d = kidsOf s d) → allF s' k i = allF s k i := by
  intro k
  induction k with
  | zero => intro i _; rfl
  | succ k ih =>
    intro i h
    have h0 : kidsOf s' i = kidsOf s i := h i (by simp [allF])
    simp only [allF, h0]
    congr 1
    have : ∀ l : List Nat, (∀ c ∈ l, c ∈ kidsOf s i) → l.flatMap (allF s' k) = l.flatMap (allF s k) := by
      intro l
      induction l with
      | nil => intro _; rfl
      | cons c l ih2 =>
        intro hl
        rw [List.flatMap_cons, List.flatMap_cons, ih2 (fun d hd => hl d (by simp [hd])), ih c (fun d hd => h d (by
          simp only [allF, List.mem_cons, List.mem_flatMap]
          exact .inr ⟨c, hl c (by simp), hd⟩))]
    exact this _ (fun c hc => hc)

section
variable {s : List Nd} {i j m : Nat} {x y : Nd} {h h2 : Nat → Nat} {B B2 : Nat}

theorem gone_all (wf : WF s) (u : Up s h B) (hx : s[i]? = some x) (hj : x.p = (j : Int)) (hy : s[j]? = some y) (hm : y.ks[m]? = some i) (hij : i ≠ j)
    (wf2 : WF ((s.set j { y with ks := y.ks.take m ++ y.ks.drop (m + 1) }).set i { x with p := -1 })) (u2 : Up ((s.set j { y with ks := y.ks.take m ++ y.ks.drop (m + 1) }).set i { x with p := -1 }) h2 B2) :
    ∃ K, h i < K ∧ allF ((s.set j { y with ks := y.ks.take m ++ y.ks.drop (m + 1) }).set i { x with p := -1 }) (h2 i + 1) i = allF s K i := by
  have hjl := (List.getElem?_eq_some_iff.1 hy).1
  have hil := (List.getElem?_eq_some_iff.1 hx).1
  refine ⟨max (h2 i + 1) (h i + 1), by omega, ?_⟩
  rw [all_stable wf2 u2 (h2 i + 1) (max (h2 i + 1) (h i + 1)) i (by omega) (by omega)]
  refine allF_same _ _ (fun d hd => ?_)
  have hdj : d ≠ j := fun e => by
    subst e
    exact all_head_not wf u (show i ∈ kidsOf s d by rw [kidsOf_eq hy]; exact List.mem_of_getElem? hm) hd
  unfold kidsOf
  by_cases hdi : d = i
  · subst hdi
    rw [List.getElem?_set_self (by simpa using hil), hx]
  · rw [List.getElem?_set_ne (fun e => hdi e.symm), List.getElem?_set_ne (fun e => hdj e.symm)]

theorem gone_iff (wf : WF s) (u : Up s h B) (hx : s[i]? = some x) (hj : x.p = (j : Int)) (hy : s[j]? = some y) (hm : y.ks[m]? = some i) (hij : i ≠ j)
    (wf2 : WF ((s.set j { y with ks := y.ks.take m ++ y.ks.drop (m + 1) }).set i { x with p := -1 })) (u2 : Up ((s.set j { y with ks := y.ks.take m ++ y.ks.drop (m + 1) }).set i { x with p := -1 }) h2 B2) :
    ∀ a : Nat, a < s.length → (a ∈ allF ((s.set j { y with ks := y.ks.take m ++ y.ks.drop (m + 1) }).set i { x with p := -1 }) (h2 i + 1) i ↔ ∃ q, climb s q a = (i : Int)) := by
  obtain ⟨K, hK, e⟩ := gone_all wf u hx hj hy hm hij wf2 u2
  intro a ha
  rw [e]
  exact ⟨fun h => all_climb wf K i a h, fun ⟨q, hq⟩ => all_of_climb wf u K i hK q a ha hq⟩

theorem gone_lim (wf : WF s) (u : Up s h B) (hx : s[i]? = some x) (hj : x.p = (j : Int)) (hy : s[j]? = some y) (hm : y.ks[m]? = some i) (hij : i ≠ j)
    (wf2 : WF ((s.set j { y with ks := y.ks.take m ++ y.ks.drop (m + 1) }).set i { x with p := -1 })) (u2 : Up ((s.set j { y with ks := y.ks.take m ++ y.ks.drop (m + 1) }).set i { x with p := -1 }) h2 B2) :
    ∀ a : Nat, a < s.length → Lim (fun c => withinF s c (a : Int) (i : Int)) ((allF ((s.set j { y with ks := y.ks.take m ++ y.ks.drop (m + 1) }).set i { x with p := -1 }) (h2 i + 1) i).contains a) := by
  obtain ⟨K, hK, e⟩ := gone_all wf u hx hj hy hm hij wf2 u2
  intro a ha
  rw [e]
  by_cases hm : a ∈ allF s K i
  · rw [List.contains_iff_mem.2 hm]
    exact holds_yes wf ha hm
  · have : (allF s K i).contains a = false := by
      rw [← Bool.not_eq_true]
      exact fun h => hm (List.contains_iff_mem.1 h)
    rw [this]
    exact holds_no wf u ha hK hm
end

theorem split_twice (n k t fr j m : Nat) (hfr : n ≠ fr) (hj : n ≠ j) : mvSp (resizeF n k (t : Int) 0) ∘ mvSp (carryF n k fr (shiftF j m 1)) = mvSp (carryF n k fr (shiftF j m 1)) := by
  have key : ∀ a b : Int, resizeF n k (t : Int) 0 (carryF n k fr (shiftF j m 1) a b).1 (carryF n k fr (shiftF j m 1) a b).2 = carryF n k fr (shiftF j m 1) a b := by
    intro a b
    unfold carryF
    by_cases h1 : a = (n : Int) ∧ (k : Int) < b
    · rw [if_pos h1]
      unfold resizeF shiftF
      rw [if_neg (by simp only; omega), if_neg (by simp only; omega)]
    · rw [if_neg h1]
      unfold shiftF
      by_cases h2 : a = (j : Int) ∧ (m : Int) < b
      · rw [if_pos h2]
        unfold resizeF shiftF
        rw [if_neg (by simp only; omega), if_neg (by simp only; omega)]
      · rw [if_neg h2]
        unfold resizeF shiftF
        rw [if_neg (by simp only; omega), if_neg (by simp only; omega)]
  funext z
  simp only [Function.comp, mvSp, key]

theorem carry_small {s : List Nd} (wf : WF s) {rs : List Sp} (h : ∀ z ∈ rs, SpOk s z) (n k fr j m : Nat) : Small (rs.map (mvSp (carryF n k fr (shiftF j m 1)))) := by
  have key : ∀ a b : Int, 0 ≤ b ∧ b ≤ 40 → 0 ≤ (carryF n k fr (shiftF j m 1) a b).2 ∧ (carryF n k fr (shiftF j m 1) a b).2 ≤ 100 := by
    intro a b hb
    unfold carryF
    split
    · simp only; omega
    · unfold shiftF
      split <;> simp only <;> omega
  intro z hz
  obtain ⟨y, hy, rfl⟩ := List.mem_map.1 hz
  have h1 := key y.a y.b ((h y hy).1.small wf)
  have h2 := key y.c y.d ((h y hy).2.small wf)
  exact ⟨h1.1, h1.2, h2.1, h2.2⟩

end Go.Proofs.YtabogkonklplcaaGreatDoor

/- With ranges: Replace. -/
namespace Go.Proofs.YtabogkonklplcaaGreatDoor
open Go.RowKit Go.Lib
set_option linter.unusedSimpArgs false
set_option linter.unusedVariables false

theorem vans_replace {V : List Nd → Sp → Prop} (hV : Lives V) (s : List Nd) (wf : WF s) (rs : List Sp) (h6 : rs.length ≤ 6) (hrs : ∀ z ∈ rs, V s z) (A B C : Int) (t : ByteArray) (hts : t.size < lots) : Ans (PDocV V) GG ⟨s, rs⟩ 34 78 [.int .i64 A, .int .i64 B, .int .i64 C, .string t] (fun v => v) (fun v => v) := by
  have hcap := wf.cap
  cases hA : isB s A with
  | false =>
    refine ⟨A, 1, ⟨s, rs⟩, ⟨wf, h6, hrs⟩, ?_, ?_⟩
    · intro w F bx hg hP
      refine mreplace_no hg hP A B C t (fun F' bf h => ?_)
      have h' := h
      obtain ⟨bn, cap, pn, h⟩ := h
      exact (treplace_unfit h' A B C t _ (findText_no h A hA)).mono fun e w' hh => ⟨_, _, errOf_P A 1 (by decide), hh⟩
    · intro w F bd hR
      have hR' := hR
      obtain ⟨bn, cap, rn, rv, hD⟩ := hR
      exact (rreplace_unfit A B C t A 1 (by decide) (textFits_node (hD.below (one0_below w)) A B hA)).mono fun e w' ⟨h1, h2⟩ => hR'.unchangedR h2 h1
  | true =>
    obtain ⟨h1, h2⟩ := isB_true hA
    obtain ⟨n, rfl⟩ : ∃ n : Nat, A = (n : Int) := ⟨A.toNat, by omega⟩
    have hn : n < s.length := by omega
    obtain ⟨x, hx⟩ : ∃ x, s[n]? = some x := ⟨_, List.getElem?_eq_getElem hn⟩
    have hch := wf.chars n x hx
    have hl' : x.cs.length < lots := by unfold lots; omega
    cases ht : x.t with
    | false =>
      refine ⟨n, 2, ⟨s, rs⟩, ⟨wf, h6, hrs⟩, ?_, ?_⟩
      · intro w F bx hg hP
        refine mreplace_no hg hP n B C t (fun F' bf h => ?_)
        have h' := h
        obtain ⟨bn, cap, pn, h⟩ := h
        exact (treplace_unfit h' n B C t _ (findText_kind h n x hx ht)).mono fun e w' hh => ⟨_, _, errOf_P n 2 (by decide), hh⟩
      · intro w F bd hR
        have hR' := hR
        obtain ⟨bn, cap, rn, rv, hD⟩ := hR
        exact (rreplace_unfit n B C t n 2 (by decide) (textFits_kind (hD.below (one0_below w)) n B x hx ht)).mono fun e w' ⟨h1, h2⟩ => hR'.unchangedR h2 h1
    | true =>
      by_cases hB : B < 0 ∨ (x.cs.length : Int) < B
      · refine ⟨n, 3, ⟨s, rs⟩, ⟨wf, h6, hrs⟩, ?_, ?_⟩
        · intro w F bx hg hP
          refine mreplace_no hg hP n B C t (fun F' bf h => ?_)
          refine (treplace_bad h n B C t x hx ht (Q := fun u => u = outV B) (fun w1 _ => (splice_off x.cs hch.2 hl' B C hB t w1).mono fun e w' hh => ⟨⟨_, _, rfl, hh.1⟩, hh.2⟩)).mono ?_
          rintro e w' ⟨u, rfl, hh⟩
          exact ⟨_, _, errOf_O n B, hh⟩
        · intro w F bd hR
          have hR' := hR
          obtain ⟨bn, cap, rn, rv, hD⟩ := hR
          exact (rreplace_unfit n B C t n 3 (by decide) (textFits_index (hD.below (one0_below w)) n B x hx ht hB)).mono fun e w' ⟨h1, h2⟩ => hR'.unchangedR h2 h1
      · obtain ⟨o, rfl⟩ : ∃ o : Nat, B = (o : Int) := ⟨B.toNat, by omega⟩
        have ho : o ≤ x.cs.length := by omega
        by_cases hC : C < 0
        · refine ⟨n, 3, ⟨s, rs⟩, ⟨wf, h6, hrs⟩, ?_, ?_⟩
          · intro w F bx hg hP
            refine mreplace_no hg hP n o C t (fun F' bf h => ?_)
            refine (treplace_bad h n o C t x hx ht (Q := fun u => u = outV C) (fun w1 _ => (splice_cnt x.cs hch.2 hl' o ho C hC t w1).mono fun e w' hh => ⟨⟨_, _, rfl, hh.1⟩, hh.2⟩)).mono ?_
            rintro e w' ⟨u, rfl, hh⟩
            exact ⟨_, _, errOf_O n C, hh⟩
          · intro w F bd hR
            have hR' := hR
            obtain ⟨bn, cap, rn, rv, hD⟩ := hR
            exact (rreplace_count n o C t hC (textFits_ok (hD.below (one0_below w)) n o x hx ht ho)).mono fun e w' ⟨h1, h2⟩ => hR'.unchangedR h2 h1
        · obtain ⟨cm, hcm⟩ : ∃ cm : Nat, cm = (min C ((x.cs.length : Int) - o)).toNat := ⟨_, rfl⟩
          have hcl : o + cm ≤ x.cs.length := by omega
          have em : 30 - o - (x.cs.length - (o + cm)) = 30 - (x.cs.length - cm) := by omega
          by_cases hY : ∃ lf, TakesM (30 - o - (x.cs.length - (o + cm))) t lf
          · obtain ⟨lf, hlf⟩ := hY
            have hlf30 : lf.length ≤ 30 := by have := hlf.2; omega
            have hsum : x.cs.length - cm + lf.length ≤ 30 := by have := hlf.2; omega
            have hcs : (x.cs.take o ++ lf ++ x.cs.drop (o + cm)).length ≤ 30 ∧ ∀ c ∈ x.cs.take o ++ lf ++ x.cs.drop (o + cm), IsCh c := by
              refine ⟨by simp; omega, fun c hc => ?_⟩
              rcases List.mem_append.1 hc with hc | hc
              · rcases List.mem_append.1 hc with hc | hc
                · exact hch.2 c (List.mem_of_mem_take hc)
                · exact charsOf_isCh t.size t lf (Nat.le_refl _) hlf.1 c hc
              · exact hch.2 c (List.mem_of_mem_drop hc)
            refine ⟨0, 0, ⟨_, rs.map (mvSp (resizeF n o cm lf.length))⟩, ⟨wf_chars wf hx ht hcs, by simpa using h6, mapV hrs (fun z hz => hV.replace wf hx ht hcl hz)⟩, ?_, ?_⟩
            · intro w F bx hg hP
              refine mreplace_go hg hP (Small.of wf (fun z hz => hV.place (hrs z hz))) h6 n o C t (fun F' bf h => ?_)
              have hmin : min C ((x.cs.length : Int) - o) = (cm : Int) := by omega
              have hT := treplace_done h n o C t x hx ht hch.1 hch.2 ho lf (x.cs.take o ++ lf ++ x.cs.drop (o + cm)) hlf.1 hlf30 (by omega) (fun w1 hb => ?_)
              · rw [hmin] at hT
                exact hT
              have hT := hg.2.below hb
              by_cases hbig : (x.cs.length : Int) - o < C
              · exact splice_yes_big x.cs hch.2 hch.1 o cm C ho (by omega) (by omega) hbig t hts lf hlf w1 hT
              · exact splice_yes_small x.cs hch.2 hch.1 o cm C ho (by omega) (by omega) hcl t hts lf hlf w1 hT
            · rintro w F bd ⟨bn, cap, rn, rv, hD⟩
              exact (rreplace_doneR hD n o C x hx ht hch.1 ho (by omega) t hts lf hlf.1 cm hcm hsum (by unfold lots; omega) (Small.of wf (fun z hz => hV.place (hrs z hz))) h6).mono fun e w' h => h
          · have hN : ∀ l', ¬ TakesM (30 - o - (x.cs.length - (o + cm))) t l' := fun l' h => hY ⟨l', h⟩
            refine ⟨n, 6, ⟨s, rs⟩, ⟨wf, h6, hrs⟩, ?_, ?_⟩
            · intro w F bx hg hP
              refine mreplace_no hg hP n o C t (fun F' bf h => ?_)
              refine (treplace_bad h n o C t x hx ht (Q := fun u => ∃ k, u = flawV k) (fun w1 hb => ?_)).mono ?_
              · have hT := hg.2.below hb
                by_cases hbig : (x.cs.length : Int) - o < C
                · exact (splice_no_big x.cs hch.2 hch.1 o cm C ho (by omega) (by omega) hbig t hts hN w1 hT).mono fun e w' ⟨k, h1, h2⟩ => ⟨⟨_, _, ⟨k, rfl⟩, h1⟩, h2⟩
                · exact (splice_no_small x.cs hch.2 hch.1 o cm C ho (by omega) (by omega) hcl t hts hN w1 hT).mono fun e w' ⟨k, h1, h2⟩ => ⟨⟨_, _, ⟨k, rfl⟩, h1⟩, h2⟩
              · rintro e w' ⟨u, ⟨k, rfl⟩, hh⟩
                exact ⟨_, _, errOf_F n k, hh⟩
            · intro w F bd hR
              have hR' := hR
              obtain ⟨bn, cap, rn, rv, hD⟩ := hR
              cases hc : charsOf t with
              | none => exact (rreplace_bad hD n o C x hx ht hch.1 ho (by omega) t hts hc).mono fun e w' ⟨h1, h2⟩ => hR'.unchangedR h2 h1
              | some lf =>
                have h30 : 30 < x.cs.length - (min C ((x.cs.length : Int) - o)).toNat + lf.length := by
                  rw [← hcm]
                  rcases Nat.lt_or_ge 30 (x.cs.length - cm + lf.length) with h | h
                  · exact h
                  · exact absurd ⟨hc, by omega⟩ (hN lf)
                exact (rreplace_long hD n o C x hx ht hch.1 ho (by omega) t hts lf hc h30 (by have := charsOf_length t lf hc; omega)).mono fun e w' ⟨h1, h2⟩ => hR'.unchangedR h2 h1


end Go.Proofs.YtabogkonklplcaaGreatDoor

/- slices.Compare of numbers. -/
namespace Go.Proofs.YtabogkonklplcaaGreatDoor
open Go.RowKit Go.Lib
set_option linter.unusedSimpArgs false
set_option linter.unusedVariables false

def CmpInv (l m : List Nat) (w : World) (a : Value) (wr : World) : Prop := wr = w ∧ ∃ i : Nat, a = .int .i64 (i : Int) ∧ i ≤ l.length ∧ i ≤ m.length ∧ lexC l m = lexC (l.drop i) (m.drop i)

theorem lex_over {l : List Nat} {i : Nat} (h : i < l.length) : lexC (l.drop i) [] = 1 := by
  rw [List.drop_eq_getElem_cons h]; rfl
theorem lex_at {l m : List Nat} {i : Nat} (h : i < l.length) (h' : i < m.length) : lexC (l.drop i) (m.drop i) = if Lib.compareInt (l[i] : Int) (m[i] : Int) = 0 then lexC (l.drop (i + 1)) (m.drop (i + 1)) else Lib.compareInt (l[i] : Int) (m[i] : Int) := by
  rw [List.drop_eq_getElem_cons h, List.drop_eq_getElem_cons h']
  generalize l.drop (i + 1) = A
  generalize m.drop (i + 1) = B
  generalize l[i] = a
  generalize m[i] = b
  have e : lexC (a :: A) (b :: B) = if a < b then -1 else if b < a then 1 else lexC A B := rfl
  rw [e]
  by_cases h1 : a < b
  · have hc : Lib.compareInt (a : Int) (b : Int) = -1 := by unfold Lib.compareInt; rw [if_pos (by omega)]
    rw [hc, if_pos h1, if_neg (by decide)]
  · by_cases h2 : b < a
    · have hc : Lib.compareInt (a : Int) (b : Int) = 1 := by unfold Lib.compareInt; rw [if_neg (by omega), if_pos (by omega)]
      rw [hc, if_neg h1, if_pos h2, if_neg (by decide)]
    · have hc : Lib.compareInt (a : Int) (b : Int) = 0 := by unfold Lib.compareInt; rw [if_neg (by omega), if_neg (by omega)]
      rw [hc, if_neg h1, if_neg h2, if_pos rfl]
theorem lex_done {l m : List Nat} (h : l.length ≤ m.length) : lexC (l.drop l.length) (m.drop l.length) = if l.length < m.length then -1 else 0 := by
  rw [List.drop_length]
  by_cases hl : l.length < m.length
  · rw [if_pos hl, List.drop_eq_getElem_cons hl]; rfl
  · rw [if_neg hl, List.drop_of_length_le (by omega)]; rfl

set_option maxRecDepth 20000 in
set_option maxHeartbeats 1000000 in
theorem scmp_any (l m : List Nat) (g1 c1 g2 c2 : Nat) (w : World) (h1 : ∀ (j x : Nat), l[j]? = some x → w.cell? ⟨g1, j, none⟩ = some (.int .i64 x)) (h2 : ∀ (j x : Nat), m[j]? = some x → w.cell? ⟨g2, j, none⟩ = some (.int .i64 x)) (hl : l.length < lots) (hm : m.length < lots) :
    Calls Tryz.prog 152 #[.slice (some ⟨g1, 0, none⟩) l.length c1, .slice (some ⟨g2, 0, none⟩) m.length c2] w fun e w' => e = .returned (.int .i64 (lexC l m)) ∧ w' = w := by
  have H1 := hid h1
  have H2 := hid h2
  unfold lots at hl hm
  clear h1 h2
  go_enter Tryz.func152, Tryz.ntmps152
  go_wp2
  go_loopw [11] (fun a wr => CmpInv l m w a wr) (fun a _ => l.length - (intOf a).toNat)
  case atStart => exact ⟨rfl, 0, rfl, Nat.zero_le _, Nat.zero_le _, rfl⟩
  case round =>
    obtain ⟨rfl, i, rfl, hi, hi2, he⟩ := hrel
    have HE := hid he
    clear he
    by_cases hlt : i < l.length
    · have a1 := H1.out i l[i] (List.getElem?_eq_getElem hlt)
      have d1 : decide ((i : Int) < (l.length : Int)) = true := decide_eq_true (by omega)
      by_cases hm2 : i < m.length
      · have a2 := H2.out i m[i] (List.getElem?_eq_getElem hm2)
        have d2 : decide ((m.length : Int) ≤ (i : Int)) = false := decide_eq_false (by omega)
        have LA := hid (lex_at hlt hm2)
        have C := hid (Tryz.cmp_Compare_int (l[i] : Int) (m[i] : Int) wr)
        obtain ⟨c, hc⟩ : ∃ c, Lib.compareInt (l[i] : Int) (m[i] : Int) = c := ⟨_, rfl⟩
        rw [hc] at C LA
        clear hc
        generalize l[i] = lv at *
        generalize m[i] = mv at *
        by_cases h0 : c = 0
        · subst h0
          go_wp2_with (go_at_call 180; refine C.out.mono ?_; rintro e w1 ⟨rfl, hw1⟩; replace hw1 := hw1.symm; subst hw1)
          go_roundw
          case rel =>
            refine ⟨rfl, i + 1, by go_num, hlt, hm2, ?_⟩
            rw [HE.out, LA.out]; simp
          case measure =>
            show l.length - ((i : Int) + 1).toNat < l.length - ((i : Int)).toNat
            omega
        · have h0' : (c == 0) = false := by simpa using h0
          go_wp2_with (go_at_call 180; refine C.out.mono ?_; rintro e w1 ⟨rfl, hw1⟩; replace hw1 := hw1.symm; subst hw1)
          go_ret
          refine ⟨?_, rfl⟩
          rw [HE.out, LA.out, if_neg h0]; rfl
      · have d2 : decide ((m.length : Int) ≤ (i : Int)) = true := decide_eq_true (by omega)
        go_wp2
        go_ret
        refine ⟨?_, rfl⟩
        have hd : m.drop i = [] := List.drop_of_length_le (by omega)
        rw [HE.out, hd, lex_over hlt]; rfl
    · obtain rfl : i = l.length := by omega
      have LD := hid (lex_done hi2)
      by_cases hlm : l.length < m.length
      · have d3 : decide ((l.length : Int) < (m.length : Int)) = true := decide_eq_true (by omega)
        go_wp2
        go_ret
        refine ⟨?_, rfl⟩
        rw [HE.out, LD.out, if_pos hlm]; rfl
      · have d3 : decide ((l.length : Int) < (m.length : Int)) = false := decide_eq_false (by omega)
        go_wp2
        go_ret
        refine ⟨?_, rfl⟩
        rw [HE.out, LD.out, if_neg hlm]; rfl

end Go.Proofs.YtabogkonklplcaaGreatDoor

/- tree.path: the way down to a place. -/
namespace Go.Proofs.YtabogkonklplcaaGreatDoor
open Go.RowKit Go.Lib
set_option linter.unusedSimpArgs false
set_option linter.unusedVariables false

theorem below_draw (w : World) (q : Nat) : Below w.heap.size w (w.drewN q) := ⟨rfl, rfl, rfl, Nat.le_refl _, fun _ _ => rfl⟩

theorem flat_len {f : Nat → List Nat} {ks : List Nat} {c : Nat} (h : c ∈ ks) : (f c).length ≤ (ks.flatMap f).length := by
  induction ks with
  | nil => cases h
  | cons a l ih =>
    rw [List.flatMap_cons, List.length_append]
    rcases List.mem_cons.1 h with rfl | h
    · omega
    · have := ih h; omega

/-- No way down is longer than 40. -/
theorem up40 {s : List Nd} (wf : WF s) : ∃ h, Up s h 40 := by
  obtain ⟨h, B, u⟩ := wf.up
  refine ⟨fun n => if n < s.length then (allF s (h n + 1) n).length else 0, fun i => ?_, fun i x hx hp => ?_⟩
  · show (if i < s.length then (allF s (h i + 1) i).length else 0) ≤ 40
    split
    · exact all_length wf _ _ ‹_›
    · omega
  · have hi := (List.getElem?_eq_some_iff.1 hx).1
    obtain ⟨h1, h2⟩ := u.par i x hx hp
    refine ⟨h1, ?_⟩
    rcases wf.par i x hx with e | ⟨q, y, e, hy, hm⟩
    · omega
    · have hq := (List.getElem?_eq_some_iff.1 hy).1
      rw [e] at h2 ⊢
      simp only [Int.toNat_natCast] at h2 ⊢
      rw [if_pos hi, if_pos hq]
      have e2 : allF s (h q + 1) q = q :: (kidsOf s q).flatMap (allF s (h q)) := rfl
      have e3 : allF s (h i + 1) i = allF s (h q) i := all_stable wf u _ _ _ (by omega) h2
      rw [e2, e3, List.length_cons]
      have := flat_len (f := allF s (h q)) (show i ∈ kidsOf s q by rw [kidsOf_eq hy]; exact hm)
      omega

theorem way_top {s : List Nd} {t n : Nat} {l : List Nat} (wf : WF s) (w : Way s t n l) {x : Nd} (hx : s[t]? = some x) (hp : x.p = -1) : IsTop s n t := by
  induction w with
  | top => exact ⟨⟨0, rfl⟩, x, hx, hp⟩
  | @down q c i l y w hq hi ih =>
    obtain ⟨z, hz, hzp⟩ := wf.kid q y hq c (List.mem_of_getElem? hi)
    exact IsTop.up hz hzp ih

/-- The way so far: from a node above on, all that is below it. -/
def PathInv (s : List Nd) (h : Nat → Nat) (n k : Nat) (w : World) (pv nv : Value) (wr : World) : Prop :=
  ∃ (c : Nat) (l : List Nat), nv = .int .i64 (c : Int) ∧ wr.ownsRow (w.heap.size + 1) 3 1 pv (l.length + 1) (intsV (k :: l.reverse)) ∧ Below w.heap.size w wr ∧ w.heap.size + 1 ≤ wr.heap.size ∧ c < s.length ∧ h n + l.length ≤ h c ∧ (∀ t L, Way s t c L → Way s t n (L ++ l))

def PathPost (s : List Nd) (n k : Nat) (w : World) (e : Ending) (w' : World) : Prop :=
  ∃ (t : Nat) (l : List Nat) (g c : Nat), e = .returned (.slice (some ⟨g, 0, none⟩) (l ++ [k]).length c) ∧ Way s t n l ∧ IsTop s n t ∧ l.length ≤ 40 ∧ w.heap.size ≤ g ∧ g < w'.heap.size ∧ (∀ (j x : Nat), (l ++ [k])[j]? = some x → w'.cell? ⟨g, j, none⟩ = some (.int .i64 (x : Int))) ∧ Below w.heap.size w w'

section
variable {w : World} {F : Nat → Prop} {bf bn cap : Nat} {pn : List PN} {s : List Nd}

set_option maxRecDepth 20000 in
set_option maxHeartbeats 1000000 in
theorem tpath_any (wf : WF s) (hD : PForAt w F bf bn cap pn s) (n k : Nat) (hn : n < s.length) :
    Calls Tryz.prog 153 #[ptr bf, .agg #[.int .i64 (n : Int), .int .i64 (k : Int)]] w (PathPost s n k w) := by
  obtain ⟨h, u⟩ := up40 wf
  obtain ⟨i0, hi, hz0, hz1, hz2⟩ := info_parts Tryz.infoInt
  have hcap := wf.cap
  have h0 := hD.nodesCell
  have hlt := hD.lt
  have HD := hid hD
  have HW := hid wf
  have HU := hid u
  clear hD wf u
  go_enter Tryz.func153, Tryz.ntmps153
  go_wp2
  go_loopw [5, 6] (fun pv nv wr => PathInv s h n k w pv nv wr) (fun _ nv _ => upMeas h 40 (intOf nv))
  case atStart =>
    refine ⟨n, [], rfl, ?_, ?_, ?_, hn, by simp, fun t L hw => by simpa using hw⟩
    · have := World.ownsRow_lit (base := w.heap.size + 1) (e := 3) (size := 1) (w.alloc (.cells #[.int .i64 (n : Int), .int .i64 (k : Int)] 37)) #[.int .i64 (k : Int)] 1 (by simp) (by decide) rfl
      simpa [intsV] using this
    · exact ((Below.refl _ w).alloc (Nat.le_refl _) _).alloc (by simp) _
    · simp
  case round =>
    obtain ⟨c, l, rfl, hrow, hb, hsz, hc, hlen, hway⟩ := hrel
    obtain ⟨x, hx⟩ : ∃ x, s[c]? = some x := ⟨_, List.getElem?_eq_getElem hc⟩
    have hD1 := HD.out.below hb
    have g0 := hD1.nodesCell
    obtain ⟨r, hr, ho, c0, c1, c2, c3⟩ := hD1.look hx
    have hl1 := hD1.lt
    have hh40 := HU.out.le c
    clear c1 c2 c3 hr ho
    by_cases hp : 0 ≤ x.p
    · obtain ⟨j, m, y, hj, hy, hm, hno, hyl⟩ := HW.out.place hx hp
      have CI := hid (tindex_at hD1 c j m x y hx hj hy hm hno (by unfold lots; omega) (by unfold lots; omega))
      have hup := (HU.out.par c x hx hp).2
      have hjl := (List.getElem?_eq_some_iff.1 hy).1
      have hum := upMeas_lt HU.out hx
      rw [hj] at c0 hup hum
      have HROW := hid hrow
      have HB := hid hb
      have HD1 := hid hD1
      have HWAY := hid (And.intro hway (And.intro hy hm))
      have HUM := hid hum
      have HXX := hid hx
      have HJ := hid hj
      clear hrow hb hD1 hway hx hy hm hno hum
      go_wp2_with (first
        | (go_at_call 106; refine CI.out.mono ?_; rintro e w1 ⟨rfl, q, rfl⟩
           have e0 := (cell_drewN _ q _).trans g0
           have e1 := (cell_drewN _ q _).trans c0)
        | (at_builtin
           go_must (have HS : Hid (SrcOk ((wr.drewN q).alloc (.cells #[.int .i64 (m : Int)] 3)) 1 (.slice (some ⟨wr.heap.size, 0, none⟩) 1 1) 1 [.int .i64 (m : Int)]) := .inr ⟨_, _, rfl, rfl, cell_one_new (wr.drewN q) _ _, by simp [Value.oneCell']⟩)
           have hr1 : (wr.drewN q).ownsRow (w.heap.size + 1) 3 1 u5 (l.length + 1) (intsV (k :: l.reverse)) := HROW.out
           refine wpList_append_any _ rfl (.tmp 29) (.tmp 33) 24 rfl (w.heap.size + 1) 3 i0 (.int .i64 0) 1 8 Tryz.underlying24 hi hz0 hz1 hz2 rfl (by decide) _ (l.length + 1) _ rfl (hr1.alloc _) _ 1 _ rfl HS.out (by unfold maxLen; omega) (by omega) (by simp; omega) ?_
           intro v2 w2 ho2 hb2
           have hB2 : Below w.heap.size w w2 := HB.out.trans (((below_draw wr q).alloc (Nat.le_refl _) _ |>.mono HB.out.size).trans (hb2.mono (by omega)))
           have f0 := (hB2.cell (p := ⟨bf, 0, none⟩) hlt.1).trans h0
           have f1 := hb2.cell (p := ⟨bn, c * 4, none⟩)
           have HO2 := hid ho2
           have HB2 := hid (And.intro hB2 hb2.size)
           have hD2 := HD.out.below hB2
           obtain ⟨r2, hr2, ho3, k0, -, -, -⟩ := hD2.look HXX.out
           rw [HJ.out] at k0
           clear ho2 hb2 hB2 f1 hr2 ho3 hD2 hr1))
      go_roundw
      case rel =>
        refine ⟨j, m :: l, rfl, ?_, HB2.out.1, ?_, hjl, ?_, fun t L hw => ?_⟩
        · have := HO2.out
          simpa [intsV] using this
        · have := HB2.out.2; simp at this; omega
        · simp at hup ⊢; omega
        · have := HWAY.out.1 t (L ++ [m]) (Way.down hw HWAY.out.2.1 HWAY.out.2.2)
          simpa using this
      case measure => exact HUM.out
    · have hp1 : x.p = -1 := by
        rcases HW.out.par c x hx with e | ⟨q, y, e, _⟩
        · exact e
        · omega
      rw [hp1] at c0
      obtain ⟨g, cp, cur, hv, hh, hn2, hcm, hcs, ht, hcell, hfr⟩ := row_ints (ks := k :: l.reverse) (by simpa using ownsRow_zero hrow) (by simp)
      have hg : w.heap.size + 1 ≤ g := by rw [hv] at hrow; exact (hrow.lt g rfl).1
      have CR := hid (Tryz.slices_Reverse_int_cells g 0 (l.length + 1) cp ((k :: l.reverse).map Int.ofNat) wr (by simp) (by omega) hcell (fun j hj => hfr j (by simpa using hj)))
      have hv' : u5 = .slice (some ⟨g, 0, none⟩) (l.length + 1) cp := by simpa using hv
      have HF := hid (And.intro hcell hfr)
      have hn3 : l.length + 1 ≤ cur.size := by rw [hcs]; simpa using hn2
      have HB := hid hb
      have HH := hid hh
      have HWAY := hid (hway c [] Way.top)
      have HX := hid hx
      subst hv'
      clear hrow hb hcell hfr hh ht hway hx hv
      have hvals : (((k :: l.reverse).map Int.ofNat).take (l.length + 1)).reverse.map (Value.int .i64) = intsV (l ++ [k]) := by
        rw [List.take_of_length_le (by simp)]; simp [intsV]
      rw [hvals] at CR
      clear hvals
      go_wp2_with (go_at_call 181; refine CR.out.mono ?_; rintro e w3 ⟨rfl, q, hw3⟩
                   have hk0 : Keeps (fun b => b = g) wr (wr.drewN q) := ⟨rfl, rfl, rfl, Nat.le_refl _, fun _ _ _ => rfl⟩
                   have hK : Keeps (fun b => b = g) wr w3 := by rw [hw3]; exact keeps_setCells g _ 0 _ hk0 rfl
                   obtain ⟨cur', k1, k2, k3⟩ := heap_setCells g 3 (intsV (l ++ [k])) 0 (wr.drewN q) cur HH.out (by rw [intsV_length]; simp; omega)
                   rw [← hw3] at k1
                   have HK := hid (And.intro hK (And.intro k1 k3))
                   clear hw3 hK k1 k3 k2 hk0)
      go_ret
      obtain ⟨hK, k1, k3⟩ := HK.out
      have hz := HB.out.size
      have hz2 := hK.size
      refine ⟨c, l, g, cp, by simp, by simpa using HWAY.out, way_top HW.out (by simpa using HWAY.out) HX.out hp1, by omega, by omega, heap_lt k1, fun j x hx => ?_, ?_⟩
      · rw [cell_of_heap k1 j, ← Array.getElem?_toList, k3]
        simp only [List.take_zero, List.nil_append]
        have hj : j < (intsV (l ++ [k])).length := by rw [intsV_length]; exact (List.getElem?_eq_some_iff.1 hx).1
        rw [List.getElem?_append_left hj]
        simp only [intsV, List.getElem?_map, hx]
        rfl
      · exact HB.out.trans ⟨hK.os, hK.tape, hK.output, hK.size, fun b hb => hK.block b (by omega) (by omega)⟩
end

end Go.Proofs.YtabogkonklplcaaGreatDoor

/- tree.Compare. -/
namespace Go.Proofs.YtabogkonklplcaaGreatDoor
open Go.RowKit Go.Lib
set_option linter.unusedSimpArgs false
set_option linter.unusedVariables false

theorem scmp_ways (l l2 : List Nat) (k k2 g1 c1 g2 c2 : Nat) (w : World) (h1 : ∀ (j x : Nat), (l ++ [k])[j]? = some x → w.cell? ⟨g1, j, none⟩ = some (.int .i64 x)) (h2 : ∀ (j x : Nat), (l2 ++ [k2])[j]? = some x → w.cell? ⟨g2, j, none⟩ = some (.int .i64 x)) (hl : l.length ≤ 40) (hm : l2.length ≤ 40) :
    Calls Tryz.prog 152 #[.slice (some ⟨g1, 0, none⟩) (l.length + 1) c1, .slice (some ⟨g2, 0, none⟩) (l2.length + 1) c2] w fun e w' => e = .returned (.int .i64 (lexC (l ++ [k]) (l2 ++ [k2]))) ∧ w' = w := by
  have h := scmp_any (l ++ [k]) (l2 ++ [k2]) g1 c1 g2 c2 w h1 h2 (by simp; unfold lots; omega) (by simp; unfold lots; omega)
  rw [show (l ++ [k]).length = l.length + 1 by simp, show (l2 ++ [k2]).length = l2.length + 1 by simp] at h
  exact h

theorem ttop_at {w : World} {F : Nat → Prop} {bf bn cap : Nat} {pn : List PN} {s : List Nd} (wf : WF s) (hD : PForAt w F bf bn cap pn s) {n t : Nat} (ht : IsTop s n t) (hn : n < s.length) :
    Calls Tryz.prog 99 #[ptr bf, .int .i64 n] w fun e w' => e = .returned (.int .i64 t) ∧ w' = w := by
  refine (ttop_any wf hD n hn).mono ?_
  rintro e w' ⟨⟨t', rfl, ht'⟩, rfl⟩
  exact ⟨by rw [ht.one ht'], rfl⟩

section
variable {w : World} {F : Nat → Prop} {bf : Nat} {s : List Nd}

set_option maxHeartbeats 1000000 in
theorem tcompare_a (bf : Nat) (a0 a1 b0 b1 : Int) (u : Value)
    (hA : ∀ W, Below w.heap.size w W → Calls Tryz.prog 98 #[ptr bf, .agg #[.int .i64 a0, .int .i64 a1]] W fun e w' => e = .returned (.iface 145 u) ∧ Below W.heap.size W w') :
    Calls Tryz.prog 62 #[ptr bf, .agg #[.int .i64 a0, .int .i64 a1], .agg #[.int .i64 b0, .int .i64 b1]] w fun e w' => e = .returned (.tuple #[.int .i64 0, .iface 145 u]) ∧ Below w.heap.size w w' := by
  have CA := hid (hA _ (ptwo_below w a0 a1 b0 b1))
  have hz := (ptwo_below w a0 a1 b0 b1).size
  have HT := hid (ptwo_below w a0 a1 b0 b1)
  clear hA
  go_enter Tryz.func62, Tryz.ntmps62
  go_wp2_with (go_at_call 98; refine CA.out.mono ?_; rintro e w1 ⟨rfl, hb1⟩)
  go_ret2
  exact ⟨rfl, HT.out.trans (hb1.mono HT.out.size)⟩

set_option maxHeartbeats 1000000 in
theorem tcompare_b (bf : Nat) (a0 a1 b0 b1 : Int) (u : Value)
    (hA : ∀ W, Below w.heap.size w W → Calls Tryz.prog 98 #[ptr bf, .agg #[.int .i64 a0, .int .i64 a1]] W fun e w' => e = .returned .nilIface ∧ Below W.heap.size W w')
    (hB : ∀ W, Below w.heap.size w W → Calls Tryz.prog 98 #[ptr bf, .agg #[.int .i64 b0, .int .i64 b1]] W fun e w' => e = .returned (.iface 145 u) ∧ Below W.heap.size W w') :
    Calls Tryz.prog 62 #[ptr bf, .agg #[.int .i64 a0, .int .i64 a1], .agg #[.int .i64 b0, .int .i64 b1]] w fun e w' => e = .returned (.tuple #[.int .i64 0, .iface 145 u]) ∧ Below w.heap.size w w' := by
  have CA := hid (hA _ (ptwo_below w a0 a1 b0 b1))
  have CB := hid hB
  have HT := hid (ptwo_below w a0 a1 b0 b1)
  clear hA hB
  go_enter Tryz.func62, Tryz.ntmps62
  go_wp2_with (first
    | (go_at_call 98; refine CA.out.mono ?_; clear CA; rintro e w1 ⟨rfl, hb1⟩
       obtain ⟨q1, q2⟩ := ptwo_cells hb1
       have p0 : w1.cell? ⟨w.heap.size, 0, none⟩ = some (.int .i64 a0) := cell_of_heap q1 0
       have p1 : w1.cell? ⟨w.heap.size, 1, none⟩ = some (.int .i64 a1) := cell_of_heap q1 1
       have p2 : w1.cell? ⟨w.heap.size + 1, 0, none⟩ = some (.int .i64 b0) := cell_of_heap q2 0
       have p3 : w1.cell? ⟨w.heap.size + 1, 1, none⟩ = some (.int .i64 b1) := cell_of_heap q2 1
       have HB1 := hid (HT.out.trans (hb1.mono HT.out.size))
       clear hb1 q1 q2)
    | (go_at_call 98; refine (CB.out _ HB1.out).mono ?_; rintro e w2 ⟨rfl, hb2⟩))
  go_ret2
  exact ⟨rfl, HB1.out.trans (hb2.mono HB1.out.size)⟩

set_option maxRecDepth 20000 in
set_option maxHeartbeats 1000000 in
theorem tcompare_roots (wf : WF s) (hD : PFor w F bf s) (n k n2 k2 : Nat) (tf : Nat → Nat) (htf : ∀ m, m < s.length → IsTop s m (tf m)) (hn : n < s.length) (hn2 : n2 < s.length) (hne : tf n ≠ tf n2)
    (hA : ∀ W, Below w.heap.size w W → Calls Tryz.prog 98 #[ptr bf, .agg #[.int .i64 (n : Int), .int .i64 (k : Int)]] W fun e w' => e = .returned .nilIface ∧ Below W.heap.size W w')
    (hB : ∀ W, Below w.heap.size w W → Calls Tryz.prog 98 #[ptr bf, .agg #[.int .i64 (n2 : Int), .int .i64 (k2 : Int)]] W fun e w' => e = .returned .nilIface ∧ Below W.heap.size W w') :
    Calls Tryz.prog 62 #[ptr bf, .agg #[.int .i64 (n : Int), .int .i64 (k : Int)], .agg #[.int .i64 (n2 : Int), .int .i64 (k2 : Int)]] w fun e w' => e = .returned (.tuple #[.int .i64 0, refusalV n2 9]) ∧ Below w.heap.size w w' := by
  obtain ⟨bn, cap, pn, hD⟩ := hD
  have CA := hid (hA _ (ptwo_below w n k n2 k2))
  have CB := hid hB
  have HT := hid (ptwo_below w n k n2 k2)
  have CT := hid (fun W (hb : Below w.heap.size w W) m (hm : m < s.length) q => ttop_at (w := W.drewN q) wf (hD.below (below_drewN hb q)) (htf m hm) hm)
  have hneI : ¬ (tf n : Int) = (tf n2 : Int) := fun e => hne (by omega)
  clear hA hB hD wf htf
  go_enter Tryz.func62, Tryz.ntmps62
  go_wp2_with (first
    | (go_at_call 98; refine CA.out.mono ?_; clear CA; rintro e w1 ⟨rfl, hb1⟩
       obtain ⟨q1, q2⟩ := ptwo_cells hb1
       have p0 : w1.cell? ⟨w.heap.size, 0, none⟩ = some (.int .i64 (n : Int)) := cell_of_heap q1 0
       have p1 : w1.cell? ⟨w.heap.size, 1, none⟩ = some (.int .i64 (k : Int)) := cell_of_heap q1 1
       have p2 : w1.cell? ⟨w.heap.size + 1, 0, none⟩ = some (.int .i64 (n2 : Int)) := cell_of_heap q2 0
       have p3 : w1.cell? ⟨w.heap.size + 1, 1, none⟩ = some (.int .i64 (k2 : Int)) := cell_of_heap q2 1
       have HB1 := hid (HT.out.trans (hb1.mono HT.out.size))
       have H1 := hid hb1
       clear hb1 q1 q2)
    | (go_at_call 98; refine (CB.out _ HB1.out).mono ?_; clear CB; rintro e w2 ⟨rfl, hb2⟩
       obtain ⟨q1, q2⟩ := ptwo_cells (H1.out.trans (hb2.mono H1.out.size))
       have r0 : w2.cell? ⟨w.heap.size, 0, none⟩ = some (.int .i64 (n : Int)) := cell_of_heap q1 0
       have r1 : w2.cell? ⟨w.heap.size, 1, none⟩ = some (.int .i64 (k : Int)) := cell_of_heap q1 1
       have r2 : w2.cell? ⟨w.heap.size + 1, 0, none⟩ = some (.int .i64 (n2 : Int)) := cell_of_heap q2 0
       have r3 : w2.cell? ⟨w.heap.size + 1, 1, none⟩ = some (.int .i64 (k2 : Int)) := cell_of_heap q2 1
       have HB2 := hid (HB1.out.trans (hb2.mono HB1.out.size))
       clear hb2 q1 q2 p0 p1 p2 p3 HB1))
  go_quiet ((go_at_call 99; exact Calls.quiet_of_same (CT.out w2 HB2.out _ (by first | exact hn | exact hn2) _)))
  have hbne : ((tf n : Int) != (tf n2 : Int)) = true := by simpa using hneI
  rw [hbne]
  go_wp2
  go_region
  go_wp2
  go_ret2
  exact ⟨rfl, below_drewN HB2.out _⟩

set_option maxRecDepth 20000 in
set_option maxHeartbeats 1000000 in
/-- Two places compared by the ways to them. -/
theorem torder_any {bn cap : Nat} {pn : List PN} (wf : WF s) (hD : PForAt w F bf bn cap pn s) (n k n2 k2 : Nat) (hn : n < s.length) (hn2 : n2 < s.length) :
    Calls Tryz.prog 100 #[ptr bf, .agg #[.int .i64 (n : Int), .int .i64 (k : Int)], .agg #[.int .i64 (n2 : Int), .int .i64 (k2 : Int)]] w fun e w' => ∃ t t2 l l2, Way s t n l ∧ IsTop s n t ∧ Way s t2 n2 l2 ∧ IsTop s n2 t2 ∧ e = .returned (.int .i64 (lexC (l ++ [k]) (l2 ++ [k2]))) ∧ Below w.heap.size w w' := by
  have HB2 : Hid (Below w.heap.size w ((w.alloc (.cells #[.int .i64 (n : Int), .int .i64 (k : Int)] 37)).alloc (.cells #[.int .i64 (n2 : Int), .int .i64 (k2 : Int)] 37))) := ptwo_below w n k n2 k2
  obtain ⟨q1, q2⟩ := ptwo_cells (Below.refl (ptwo w n k n2 k2).heap.size (ptwo w n k n2 k2))
  have q1' : ((w.alloc (.cells #[.int .i64 (n : Int), .int .i64 (k : Int)] 37)).alloc (.cells #[.int .i64 (n2 : Int), .int .i64 (k2 : Int)] 37)).heap[w.heap.size]? = _ := q1
  have q2' : ((w.alloc (.cells #[.int .i64 (n : Int), .int .i64 (k : Int)] 37)).alloc (.cells #[.int .i64 (n2 : Int), .int .i64 (k2 : Int)] 37)).heap[w.heap.size + 1]? = _ := q2
  clear q1 q2
  obtain ⟨w2, hw2⟩ : ∃ w2, (w.alloc (.cells #[.int .i64 (n : Int), .int .i64 (k : Int)] 37)).alloc (.cells #[.int .i64 (n2 : Int), .int .i64 (k2 : Int)] 37) = w2 := ⟨_, rfl⟩
  rw [hw2] at HB2 q1' q2'
  have r0 : w2.cell? ⟨w.heap.size, 0, none⟩ = some (.int .i64 (n : Int)) := cell_of_heap q1' 0
  have r1 : w2.cell? ⟨w.heap.size, 1, none⟩ = some (.int .i64 (k : Int)) := cell_of_heap q1' 1
  have r2 : w2.cell? ⟨w.heap.size + 1, 0, none⟩ = some (.int .i64 (n2 : Int)) := cell_of_heap q2' 0
  have r3 : w2.cell? ⟨w.heap.size + 1, 1, none⟩ = some (.int .i64 (k2 : Int)) := cell_of_heap q2' 1
  have CP := hid (fun W (hb : Below w.heap.size w W) m (hm : m < s.length) kk => tpath_any (w := W) wf (hD.below hb) m kk hm)
  have RC := hid (And.intro r0 (And.intro r1 (And.intro r2 r3)))
  have hz2 := HB2.out.size
  have hbx : w.heap.size + 1 < w2.heap.size := World.block_lt_of_cell? w2 _ r2
  have HW2 := hid hw2
  clear hD wf q1' q2' hw2
  go_enter Tryz.func100, Tryz.ntmps100
  go_wp2
  rw [HW2.out]
  clear HW2
  go_region_held3 (fun w' => w'.cell? ⟨w.heap.size, 0, none⟩ = some (.int .i64 (n : Int)) ∧ w'.cell? ⟨w.heap.size, 1, none⟩ = some (.int .i64 (k : Int)) ∧ w'.cell? ⟨w.heap.size + 1, 0, none⟩ = some (.int .i64 (n2 : Int)) ∧ w'.cell? ⟨w.heap.size + 1, 1, none⟩ = some (.int .i64 (k2 : Int))) (first | exact KEEP2.out | exact KEEP1.out | go_keep) (first
    | (go_at_call 152
       refine (scmp_ways l l2 k k2 g3 c3 g4 c4 _ HC4.out HC5.out len3 len4).mono ?_
       rintro e w5 ⟨rfl, hw5⟩
       replace hw5 := hw5.symm
       subst hw5)
    | (go_at_call 153
       have hg := HC3.out
       refine (CP.out _ (by first | exact HB3.out | exact below_drewN HB3.out _ | exact HB3.out.drew) n2 hn2 k2).mono ?_
       rintro e w4 ⟨t4, l2, g4, c4, rfl, way4, top4, len4, hg5, hg6, hcells4, hb4⟩
       have HC4 : Hid (∀ (j x : Nat), (l ++ [k])[j]? = some x → w4.cell? ⟨g3, j, none⟩ = some (.int .i64 (x : Int))) := fun j x hx => (hb4.cell (p := ⟨g3, j, none⟩) (by first | exact hg4 | (simp; exact hg4))).trans (HC3.out j x hx)
       have HC5 := hid hcells4
       have HB4 : Hid (Below w.heap.size w w4) := (by first | exact HB3.out.trans (hb4.mono HB3.out.size) | exact (below_drewN HB3.out _).trans (hb4.mono HB3.out.size))
       have KEEP2 : Hid (w4.cell? ⟨w.heap.size, 0, none⟩ = some (.int .i64 (n : Int)) ∧ w4.cell? ⟨w.heap.size, 1, none⟩ = some (.int .i64 (k : Int)) ∧ w4.cell? ⟨w.heap.size + 1, 0, none⟩ = some (.int .i64 (n2 : Int)) ∧ w4.cell? ⟨w.heap.size + 1, 1, none⟩ = some (.int .i64 (k2 : Int))) :=
         ⟨(hb4.cell (p := ⟨w.heap.size, 0, none⟩) (by simp; omega)).trans KEEP1.out.1, (hb4.cell (p := ⟨w.heap.size, 1, none⟩) (by simp; omega)).trans KEEP1.out.2.1, (hb4.cell (p := ⟨w.heap.size + 1, 0, none⟩) (by simp; omega)).trans KEEP1.out.2.2.1, (hb4.cell (p := ⟨w.heap.size + 1, 1, none⟩) (by simp; omega)).trans KEEP1.out.2.2.2⟩
       have W4 := hid (And.intro way4 top4)
       clear way4 top4 hcells4 hb4 hg)
    | (go_at_call 153
       refine (CP.out _ (by first | exact below_drewN HB2.out _ | exact HB2.out | exact HB2.out.drew) n hn k).mono ?_
       rintro e w3 ⟨t3, l, g3, c3, rfl, way3, top3, len3, hg3, hg4, hcells3, hb3⟩
       have HC3 := hid hcells3
       have HB3 : Hid (Below w.heap.size w w3) := (below_drewN HB2.out _).trans (hb3.mono HB2.out.size)
       have hz3 : w2.heap.size ≤ w3.heap.size := hb3.size
       have KEEP1 : Hid (w3.cell? ⟨w.heap.size, 0, none⟩ = some (.int .i64 (n : Int)) ∧ w3.cell? ⟨w.heap.size, 1, none⟩ = some (.int .i64 (k : Int)) ∧ w3.cell? ⟨w.heap.size + 1, 0, none⟩ = some (.int .i64 (n2 : Int)) ∧ w3.cell? ⟨w.heap.size + 1, 1, none⟩ = some (.int .i64 (k2 : Int))) :=
         ⟨(hb3.cell (p := ⟨w.heap.size, 0, none⟩) (by show w.heap.size < w2.heap.size; omega)).trans RC.out.1, (hb3.cell (p := ⟨w.heap.size, 1, none⟩) (by show w.heap.size < w2.heap.size; omega)).trans RC.out.2.1, (hb3.cell (p := ⟨w.heap.size + 1, 0, none⟩) (by show w.heap.size + 1 < w2.heap.size; omega)).trans RC.out.2.2.1, (hb3.cell (p := ⟨w.heap.size + 1, 1, none⟩) (by show w.heap.size + 1 < w2.heap.size; omega)).trans RC.out.2.2.2⟩
       have W3 := hid (And.intro way3 top3)
       clear way3 top3 hcells3 hb3))
  go_wp2
  go_ret
  obtain ⟨way3, top3⟩ := W3.out
  obtain ⟨way4, top4⟩ := W4.out
  exact ⟨_, _, l, l2, way3, top3, way4, top4, rfl, HB4.out⟩

set_option maxRecDepth 20000 in
set_option maxHeartbeats 1000000 in
theorem tcompare_one (wf : WF s) (hD : PFor w F bf s) (n k n2 k2 : Nat) (tf : Nat → Nat) (htf : ∀ m, m < s.length → IsTop s m (tf m)) (hn : n < s.length) (hn2 : n2 < s.length) (hee : tf n = tf n2)
    (hA : ∀ W, Below w.heap.size w W → Calls Tryz.prog 98 #[ptr bf, .agg #[.int .i64 (n : Int), .int .i64 (k : Int)]] W fun e w' => e = .returned .nilIface ∧ Below W.heap.size W w')
    (hB : ∀ W, Below w.heap.size w W → Calls Tryz.prog 98 #[ptr bf, .agg #[.int .i64 (n2 : Int), .int .i64 (k2 : Int)]] W fun e w' => e = .returned .nilIface ∧ Below W.heap.size W w') :
    Calls Tryz.prog 62 #[ptr bf, .agg #[.int .i64 (n : Int), .int .i64 (k : Int)], .agg #[.int .i64 (n2 : Int), .int .i64 (k2 : Int)]] w fun e w' => ∃ l l2, Way s (tf n) n l ∧ Way s (tf n) n2 l2 ∧ e = .returned (.tuple #[.int .i64 (lexC (l ++ [k]) (l2 ++ [k2])), .nilIface]) ∧ Below w.heap.size w w' := by
  obtain ⟨bn, cap, pn, hD⟩ := hD
  have CA := hid (hA _ (ptwo_below w n k n2 k2))
  have CB := hid hB
  have HT := hid (ptwo_below w n k n2 k2)
  have CT := hid (fun W (hb : Below w.heap.size w W) m (hm : m < s.length) q => ttop_at (w := W.drewN q) wf (hD.below (below_drewN hb q)) (htf m hm) hm)
  have CO := hid (fun W (hb : Below w.heap.size w W) => torder_any (w := W) wf (hD.below hb) n k n2 k2 hn hn2)
  have HTF := hid htf
  clear hA hB hD wf htf
  go_enter Tryz.func62, Tryz.ntmps62
  go_wp2_with (first
    | (go_at_call 98; refine CA.out.mono ?_; clear CA; rintro e w1 ⟨rfl, hb1⟩
       obtain ⟨q1, q2⟩ := ptwo_cells hb1
       have p0 : w1.cell? ⟨w.heap.size, 0, none⟩ = some (.int .i64 (n : Int)) := cell_of_heap q1 0
       have p1 : w1.cell? ⟨w.heap.size, 1, none⟩ = some (.int .i64 (k : Int)) := cell_of_heap q1 1
       have p2 : w1.cell? ⟨w.heap.size + 1, 0, none⟩ = some (.int .i64 (n2 : Int)) := cell_of_heap q2 0
       have p3 : w1.cell? ⟨w.heap.size + 1, 1, none⟩ = some (.int .i64 (k2 : Int)) := cell_of_heap q2 1
       have HB1 := hid (HT.out.trans (hb1.mono HT.out.size))
       have H1 := hid hb1
       clear hb1 q1 q2)
    | (go_at_call 98; refine (CB.out _ HB1.out).mono ?_; clear CB; rintro e w2 ⟨rfl, hb2⟩
       obtain ⟨q1, q2⟩ := ptwo_cells (H1.out.trans (hb2.mono H1.out.size))
       have r0 : w2.cell? ⟨w.heap.size, 0, none⟩ = some (.int .i64 (n : Int)) := cell_of_heap q1 0
       have r1 : w2.cell? ⟨w.heap.size, 1, none⟩ = some (.int .i64 (k : Int)) := cell_of_heap q1 1
       have r2 : w2.cell? ⟨w.heap.size + 1, 0, none⟩ = some (.int .i64 (n2 : Int)) := cell_of_heap q2 0
       have r3 : w2.cell? ⟨w.heap.size + 1, 1, none⟩ = some (.int .i64 (k2 : Int)) := cell_of_heap q2 1
       have HB2 := hid (HB1.out.trans (hb2.mono HB1.out.size))
       clear hb2 q1 q2 p0 p1 p2 p3 HB1))
  go_quiet ((go_at_call 99; exact Calls.quiet_of_same (CT.out w2 HB2.out _ (by first | exact hn | exact hn2) _)))
  go_wp2_with (go_at_call 100; refine (CO.out _ (below_drewN HB2.out _)).mono ?_; rintro e w3 ⟨t3, t4, l, l2, way3, top3, way4, top4, rfl, hb3⟩
               have W3 := hid (And.intro way3 top3)
               have W4 := hid (And.intro way4 top4)
               clear way3 top3 way4 top4)
  go_ret2
  obtain ⟨way3, top3⟩ := W3.out
  obtain ⟨way4, top4⟩ := W4.out
  obtain rfl := top3.one (HTF.out n hn)
  obtain rfl := top4.one (HTF.out n2 hn2)
  refine ⟨l, l2, way3, ?_, rfl, (below_drewN HB2.out _).trans (hb3.mono (below_drewN HB2.out _).size)⟩
  rw [hee]; exact way4
end

end Go.Proofs.YtabogkonklplcaaGreatDoor

/- That the places of ranges are there, whatever is done. -/
namespace Go.Proofs.YtabogkonklplcaaGreatDoor
open Go.RowKit
set_option linter.unusedSimpArgs false
set_option linter.unusedVariables false

theorem PlOk.splitTop {s : List Nd} {n k : Nat} {x : Nd} (hx : s[n]? = some x) (ht : x.t = true) (hk : k ≤ x.cs.length) {a b : Int} (h : PlOk s a b) :
    PlOk ((s ++ [(⟨true, x.cs.drop k, [], -1⟩ : Nd)]).set n { x with cs := x.cs.take k }) (resizeF n k ((x.cs.length - k : Nat) : Int) 0 a b).1 (resizeF n k ((x.cs.length - k : Nat) : Int) 0 a b).2 := by
  have hn := (List.getElem?_eq_some_iff.1 hx).1
  have := (h.push (⟨true, x.cs.drop k, [], -1⟩ : Nd)).replace (i := n) (o := k) (c := x.cs.length - k) (x := x) (cs := x.cs.take k) (g := 0) (by rw [List.getElem?_append_left hn]; exact hx) ht (by omega) (by simp; omega)
  exact this

theorem PlOk.splitIn {s : List Nd} {n k j m : Nat} {x y : Nd} (hx : s[n]? = some x) (ht : x.t = true) (hk : k ≤ x.cs.length) (hy : s[j]? = some y) (hyt : y.t = false) (hm : m < y.ks.length) (hnj : n ≠ j) {a b : Int} (h : PlOk s a b) :
    PlOk ((((s ++ [(⟨true, x.cs.drop k, [], -1⟩ : Nd)]).set n { x with cs := x.cs.take k }).set j { y with ks := y.ks.take (m + 1) ++ s.length :: y.ks.drop (m + 1) }).set s.length { (⟨true, x.cs.drop k, [], -1⟩ : Nd) with p := j }) (carryF n k s.length (shiftF j m 1) a b).1 (carryF n k s.length (shiftF j m 1) a b).2 := by
  have hn := (List.getElem?_eq_some_iff.1 hx).1
  have hj := (List.getElem?_eq_some_iff.1 hy).1
  obtain ⟨c, d, rfl, rfl, hc, hd⟩ := h
  have hsn : sizeAt s n = x.cs.length := by rw [sizeAt_eq hx, sizeN_text ht]
  have hsj : sizeAt s j = y.ks.length := by rw [sizeAt_eq hy, sizeN_elem hyt]
  have hsz : ∀ q, sizeAt ((((s ++ [(⟨true, x.cs.drop k, [], -1⟩ : Nd)]).set n { x with cs := x.cs.take k }).set j { y with ks := y.ks.take (m + 1) ++ s.length :: y.ks.drop (m + 1) }).set s.length { (⟨true, x.cs.drop k, [], -1⟩ : Nd) with p := j }) q =
      if q = s.length then x.cs.length - k else if q = j then y.ks.length + 1 else if q = n then k else sizeAt (s ++ [(⟨true, x.cs.drop k, [], -1⟩ : Nd)]) q := by
    intro q
    rw [sizeAt_set (by simp), sizeAt_set (by simp; omega), sizeAt_set (by simp; omega)]
    rw [sizeN_text (x := { (⟨true, x.cs.drop k, [], -1⟩ : Nd) with p := j }) rfl, sizeN_elem (x := { y with ks := y.ks.take (m + 1) ++ s.length :: y.ks.drop (m + 1) }) hyt, sizeN_text (x := { x with cs := x.cs.take k }) ht]
    have e1 : (x.cs.drop k).length = x.cs.length - k := by simp
    have e2 : (y.ks.take (m + 1) ++ s.length :: y.ks.drop (m + 1)).length = y.ks.length + 1 := by simp; omega
    have e3 : (x.cs.take k).length = k := by simp; omega
    simp only [e1, e2, e3]
  have hlen : ((((s ++ [(⟨true, x.cs.drop k, [], -1⟩ : Nd)]).set n { x with cs := x.cs.take k }).set j { y with ks := y.ks.take (m + 1) ++ s.length :: y.ks.drop (m + 1) }).set s.length { (⟨true, x.cs.drop k, [], -1⟩ : Nd) with p := j }).length = s.length + 1 := by simp
  unfold carryF
  by_cases h1 : (c : Int) = (n : Int) ∧ (k : Int) < (d : Int)
  · rw [if_pos h1]
    obtain rfl : c = n := by omega
    refine ⟨s.length, d - k, rfl, by show (d : Int) - k = _; omega, by rw [hlen]; omega, ?_⟩
    rw [hsz, if_pos rfl]
    omega
  · rw [if_neg h1]
    have hcne : c ≠ s.length := by omega
    unfold shiftF
    by_cases h2 : (c : Int) = (j : Int) ∧ (m : Int) < (d : Int)
    · rw [if_pos h2]
      obtain rfl : c = j := by omega
      refine ⟨c, d + 1, rfl, rfl, by rw [hlen]; omega, ?_⟩
      rw [hsz, if_neg hcne, if_pos rfl]
      omega
    · rw [if_neg h2]
      refine ⟨c, d, rfl, rfl, by rw [hlen]; omega, ?_⟩
      rw [hsz, if_neg hcne]
      by_cases h3 : c = j
      · subst h3
        rw [if_pos rfl]
        omega
      · rw [if_neg h3]
        by_cases h4 : c = n
        · subst h4
          rw [if_pos rfl]
          omega
        · rw [if_neg h4, sizeAt_push _ hc]
          exact hd

theorem spOk_lives : Lives SpOk where
  place := fun h => h
  fresh := fun wf => ⟨⟨0, 0, rfl, rfl, wf.pos, Nat.zero_le _⟩, ⟨0, 0, rfl, rfl, wf.pos, Nat.zero_le _⟩⟩
  push := fun nd _ _ h => ⟨h.1.push nd, h.2.push nd⟩
  insert := fun wf hI hw hk hij h => h.mv (fun a b hp => hp.insert hI.hx hI.hy hij hI.ht hk)
  remove := by
    intro s i j m x y z l wf hx hj hy hm hno hij hl h
    have hyt : y.t = false := by
      cases hyt : y.t with
      | false => rfl
      | true => have := (wf.elem j y hy).1 hyt; rw [this] at hm; cases hm
    have hjl := (List.getElem?_eq_some_iff.1 hy).1
    refine h.mv (fun a b hp => hp.remove hx hy hij hyt (List.getElem?_eq_some_iff.1 hm).1 l (fun hmem => ?_))
    obtain ⟨q, hq⟩ := (hl j hjl).1 hmem
    obtain ⟨hh, B, u⟩ := wf.up
    have h1 := (climb_height u q j i hq).1
    have h2 := (wf.kid_lt u hy (List.mem_of_getElem? hm)).2
    omega
  replace := by
    intro s n o c x lf z wf hx ht hc h
    exact h.mv (fun a b hp => hp.replace hx ht hc (by simp; omega))
  splitTop := fun wf hx ht hk hp h => h.mv (fun a b hp => hp.splitTop hx ht hk)
  splitIn := by
    intro s n k j m x y z wf hx ht hk hp hy hm hno hnj h
    have hyt : y.t = false := by
      cases hyt : y.t with
      | false => rfl
      | true => have := (wf.elem j y hy).1 hyt; rw [this] at hm; cases hm
    exact h.mv (fun a b hp => hp.splitIn hx ht hk hy hyt (List.getElem?_eq_some_iff.1 hm).1 hnj)
  one := fun wf h => ⟨h, h⟩
  two := fun wf h1 h2 _ _ _ _ => ⟨h1, h2⟩

end Go.Proofs.YtabogkonklplcaaGreatDoor
