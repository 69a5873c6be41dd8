import Derived.Test.YtabogkonklplcaaGreatDoorV26
import Derived.Test.YtabogkonklplcaaGreatDoorV22
import Derived.Test.YtabogkonklplcaaGreatDoorV27
import Derived.Test.YtabogkonklplcaaGreatDoorV28

namespace Go.Proofs.YtabogkonklplcaaGreatDoor
open Go.RowKit
set_option linter.unusedSimpArgs false
set_option linter.unusedVariables false
structure Lives (V : List Nd → Sp → Prop) : Prop where
  place : ∀ {s : List Nd} {z : Sp}, V s z → SpOk s z
  fresh : ∀ {s : List Nd}, WF s → V s ⟨0, 0, 0, 0⟩
  push : ∀ {s : List Nd} {z : Sp} (nd : Nd), WF s → WF (s ++ [nd]) → nd.p = -1 → V s z → V (s ++ [nd]) z
  insert : ∀ {s : List Nd} {i j k : Nat} {x y : Nd} {z : Sp}, WF s → InsOk s i j x y → Lim (fun c => withinF s c (i : Int) (j : Int)) false → k ≤ x.ks.length → i ≠ j → V s z →
    V ((s.set i { x with ks := x.ks.take k ++ j :: x.ks.drop k }).set j { y with p := i }) (mvSp (shiftF i k 1) z)
  remove : ∀ {s : List Nd} {i j m : Nat} {x y : Nd} {z : Sp} (l : List Nat), WF s → s[i]? = some x → x.p = (j : Int) → s[j]? = some y → y.ks[m]? = some i → i ∉ y.ks.take m → i ≠ j → (∀ a : Nat, a < s.length → (a ∈ l ↔ ∃ q, climb s q a = (i : Int))) → V s z →
    V ((s.set j { y with ks := y.ks.take m ++ y.ks.drop (m + 1) }).set i { x with p := -1 }) (mvSp (gatherF l j m (shiftF j m (-1))) z)
  replace : ∀ {s : List Nd} {n o c : Nat} {x : Nd} {lf : List ByteArray} {z : Sp}, WF s → s[n]? = some x → x.t = true → o + c ≤ x.cs.length → WF (s.set n { x with cs := x.cs.take o ++ lf ++ x.cs.drop (o + c) }) → V s z → V (s.set n { x with cs := x.cs.take o ++ lf ++ x.cs.drop (o + c) }) (mvSp (resizeF n o c lf.length) z)
  splitTop : ∀ {s : List Nd} {n k : Nat} {x : Nd} {z : Sp}, WF s → s[n]? = some x → x.t = true → k ≤ x.cs.length → x.p = -1 → s.length < 40 → V s z →
    V ((s ++ [(⟨true, x.cs.drop k, [], -1⟩ : Nd)]).set n { x with cs := x.cs.take k }) (mvSp (resizeF n k ((x.cs.length - k : Nat) : Int) 0) z)
  splitIn : ∀ {s : List Nd} {n k j m : Nat} {x y : Nd} {z : Sp}, WF s → s[n]? = some x → x.t = true → k ≤ x.cs.length → x.p = (j : Int) → s[j]? = some y → y.ks[m]? = some n → n ∉ y.ks.take m → n ≠ j → s.length < 40 → WF ((((s ++ [(⟨true, x.cs.drop k, [], -1⟩ : Nd)]).set n { x with cs := x.cs.take k }).set j { y with ks := y.ks.take (m + 1) ++ s.length :: y.ks.drop (m + 1) }).set s.length { (⟨true, x.cs.drop k, [], -1⟩ : Nd) with p := j }) → V s z →
    V ((((s ++ [(⟨true, x.cs.drop k, [], -1⟩ : Nd)]).set n { x with cs := x.cs.take k }).set j { y with ks := y.ks.take (m + 1) ++ s.length :: y.ks.drop (m + 1) }).set s.length { (⟨true, x.cs.drop k, [], -1⟩ : Nd) with p := j }) (mvSp (carryF n k s.length (shiftF j m 1)) z)
  one : ∀ {s : List Nd} {a b : Int}, WF s → PlOk s a b → V s ⟨a, b, a, b⟩
  two : ∀ {s : List Nd} {n k n2 k2 t : Nat} {l l2 : List Nat}, WF s → PlOk s n k → PlOk s n2 k2 → IsTop s n t → Way s t n l → Way s t n2 l2 → lexC (l ++ [k]) (l2 ++ [k2]) ≤ 0 → V s ⟨n, k, n2, k2⟩
theorem mapV {V W : Sp → Prop} {f : Sp → Sp} {rs : List Sp} (h : ∀ z ∈ rs, V z) (hf : ∀ z, V z → W (f z)) : ∀ z ∈ rs.map f, W z := by
  intro z hz
  obtain ⟨y, hy, rfl⟩ := List.mem_map.1 hz
  exact hf y (h y hy)
theorem allF_same {s s' : List Nd} : ∀ (k i : Nat), (∀ d ∈ allF s k i, kidsOf s' d = kidsOf s d) → allF s' k i = allF s k i := by
  intro k
  induction k with
  | zero => intro i _; rfl
  | succ k ih =>
    intro i h
    have h0 : kidsOf s' i = kidsOf s i := h i (by simp [allF])
    simp only [allF, h0]
    congr 1
    have : ∀ l : List Nat, (∀ c ∈ l, c ∈ kidsOf s i) → l.flatMap (allF s' k) = l.flatMap (allF s k) := by
      intro l
      induction l with
      | nil => intro _; rfl
      | cons c l ih2 =>
        intro hl
        rw [List.flatMap_cons, List.flatMap_cons, ih2 (fun d hd => hl d (by simp [hd])), ih c (fun d hd => h d (by
          simp only [allF, List.mem_cons, List.mem_flatMap]
          exact .inr ⟨c, hl c (by simp), hd⟩))]
    exact this _ (fun c hc => hc)
section
variable {s : List Nd} {i j m : Nat} {x y : Nd} {h h2 : Nat → Nat} {B B2 : Nat}
theorem gone_all (wf : WF s) (u : Up s h B) (hx : s[i]? = some x) (hj : x.p = (j : Int)) (hy : s[j]? = some y) (hm : y.ks[m]? = some i) (hij : i ≠ j)
    (wf2 : WF ((s.set j { y with ks := y.ks.take m ++ y.ks.drop (m + 1) }).set i { x with p := -1 })) (u2 : Up ((s.set j { y with ks := y.ks.take m ++ y.ks.drop (m + 1) }).set i { x with p := -1 }) h2 B2) :
    ∃ K, h i < K ∧ allF ((s.set j { y with ks := y.ks.take m ++ y.ks.drop (m + 1) }).set i { x with p := -1 }) (h2 i + 1) i = allF s K i := by
  have hjl := (List.getElem?_eq_some_iff.1 hy).1
  have hil := (List.getElem?_eq_some_iff.1 hx).1
  refine ⟨max (h2 i + 1) (h i + 1), by omega, ?_⟩
  rw [all_stable wf2 u2 (h2 i + 1) (max (h2 i + 1) (h i + 1)) i (by omega) (by omega)]
  refine allF_same _ _ (fun d hd => ?_)
  have hdj : d ≠ j := fun e => by
    subst e
    exact all_head_not wf u (show i ∈ kidsOf s d by rw [kidsOf_eq hy]; exact List.mem_of_getElem? hm) hd
  unfold kidsOf
  by_cases hdi : d = i
  · subst hdi
    rw [List.getElem?_set_self (by simpa using hil), hx]
  · rw [List.getElem?_set_ne (fun e => hdi e.symm), List.getElem?_set_ne (fun e => hdj e.symm)]
theorem gone_iff (wf : WF s) (u : Up s h B) (hx : s[i]? = some x) (hj : x.p = (j : Int)) (hy : s[j]? = some y) (hm : y.ks[m]? = some i) (hij : i ≠ j)
    (wf2 : WF ((s.set j { y with ks := y.ks.take m ++ y.ks.drop (m + 1) }).set i { x with p := -1 })) (u2 : Up ((s.set j { y with ks := y.ks.take m ++ y.ks.drop (m + 1) }).set i { x with p := -1 }) h2 B2) :
    ∀ a : Nat, a < s.length → (a ∈ allF ((s.set j { y with ks := y.ks.take m ++ y.ks.drop (m + 1) }).set i { x with p := -1 }) (h2 i + 1) i ↔ ∃ q, climb s q a = (i : Int)) := by
  obtain ⟨K, hK, e⟩ := gone_all wf u hx hj hy hm hij wf2 u2
  intro a ha
  rw [e]
  exact ⟨fun h => all_climb wf K i a h, fun ⟨q, hq⟩ => all_of_climb wf u K i hK q a ha hq⟩
end
end Go.Proofs.YtabogkonklplcaaGreatDoor

namespace Go.Proofs.YtabogkonklplcaaGreatDoor
open Go.RowKit Go.Lib
set_option linter.unusedSimpArgs false
set_option linter.unusedVariables false
set_option maxRecDepth 20000 in
set_option maxHeartbeats 1000000 in
theorem mcompare_of {w : World} {F : Nat → Prop} {bx : Nat} {st : St} (hg : GG w) (hP : PLies w F bx st) {r : Int} {v : Value} (hv : v = .nilIface ∨ ∃ u, v = .iface 145 u) (p0 p1 q0 q1 : Int) {a y : Int} (hE : ErrOf v a y)
    (hT : ∀ (W : World) (F' : Nat → Prop) (bf : Nat), PFor W F' bf st.n → Calls Tryz.prog 62 #[ptr bf, .agg #[.int .i64 p0, .int .i64 p1], .agg #[.int .i64 q0, .int .i64 q1]] W fun e w' => e = .returned (.tuple #[.int .i64 r, v]) ∧ Below W.heap.size W w') :
    Calls Tryz.prog 26 #[ptr bx, .agg #[.int .i64 p0, .int .i64 p1], .agg #[.int .i64 q0, .int .i64 q1]] w (PLPost F w bx st (.tuple #[.int .i64 r, errV a y])) := by
  have hP' := hP
  obtain ⟨bf, bl, sv, hD⟩ := hP
  have C := hid (fun W (hb : Below w.heap.size w W) => hT W _ _ (hD.nodes.below hb))
  have hlx := heap_lt hD.doc
  have c0 : w.cell? ⟨bx, 0, none⟩ = some (ptr bf) := cell_of_heap hD.doc 0
  have E := hid (fun w1 (hb : Below w.heap.size w w1) => hE w1 (hg.below hb).1)
  have HP := hid hP'
  have HT := hid (ptwo_below w p0 p1 q0 q1)
  clear hD hT hg hE hP'
  rcases hv with rfl | ⟨u, rfl⟩
  all_goals
    go_enter Tryz.func26, Tryz.ntmps26
    go_wp2
    go_region_held3 (fun w' => w'.cell? ⟨bx, 0, none⟩ = some (ptr bf) ∧ w'.cell? ⟨w.heap.size, 0, none⟩ = some (.int .i64 p0) ∧ w'.cell? ⟨w.heap.size, 1, none⟩ = some (.int .i64 p1) ∧ w'.cell? ⟨w.heap.size + 1, 0, none⟩ = some (.int .i64 q0) ∧ w'.cell? ⟨w.heap.size + 1, 1, none⟩ = some (.int .i64 q1)) (first | exact KEEP1.out | go_keep) ((
       go_at_call 62
       refine (C.out _ (by first | exact HT.out | exact HT.out.drew | exact below_drewN HT.out _)).mono ?_
       rintro e w1 ⟨rfl, hb⟩
       have hb' : Below (ptwo w p0 p1 q0 q1).heap.size (ptwo w p0 p1 q0 q1) w1 := ⟨hb.os, hb.tape, hb.output, hb.size, hb.block⟩
       obtain ⟨k1, k2⟩ := ptwo_cells hb'
       have HB1 := hid (HT.out.trans (hb'.mono HT.out.size))
       have KEEP1 : Hid (w1.cell? ⟨bx, 0, none⟩ = some (ptr bf) ∧ w1.cell? ⟨w.heap.size, 0, none⟩ = some (.int .i64 p0) ∧ w1.cell? ⟨w.heap.size, 1, none⟩ = some (.int .i64 p1) ∧ w1.cell? ⟨w.heap.size + 1, 0, none⟩ = some (.int .i64 q0) ∧ w1.cell? ⟨w.heap.size + 1, 1, none⟩ = some (.int .i64 q1)) :=
         ⟨(HB1.out.cell (p := ⟨bx, 0, none⟩) hlx).trans c0, cell_of_heap k1 0, cell_of_heap k1 1, cell_of_heap k2 0, cell_of_heap k2 1⟩
       have E1 := hid (E.out w1 HB1.out)
       clear hb hb' k1 k2))
    go_wp2_with (go_at_call 46; refine E1.out.mono ?_; rintro e w2 ⟨rfl, hb2⟩)
    go_ret2
    have hb := HB1.out.trans (hb2.mono HB1.out.size)
    exact ⟨rfl, Keeps.of_below hb, (HP.out.keeps (Keeps.of_below (F := fun _ => False) hb) (fun _ _ e => e)).wider (fun b h => .inl h)⟩
theorem place_bad {s : List Nd} (wf : WF s) (n k a y : Int) (hf : placeFault s n k = (a, y)) (hy : y ≠ 0) :
    ∃ u, ErrOf (.iface 145 u) a y ∧ ∀ (W : World) (F : Nat → Prop) (bf bn cap : Nat) (pn : List PN), PForAt W F bf bn cap pn s → Calls Tryz.prog 98 #[ptr bf, .agg #[.int .i64 n, .int .i64 k]] W fun e w' => e = .returned (.iface 145 u) ∧ Below W.heap.size W w' := by
  cases hb : isB s n with
  | false =>
    have e : placeFault s n k = (n, 1) := by simp [placeFault, hb]
    rw [e] at hf
    cases hf
    exact ⟨_, errOf_P n 1 (by decide), fun W F bf bn cap pn h => place_no h n k hb⟩
  | true =>
    obtain ⟨h1, h2⟩ := isB_true hb
    obtain ⟨m, rfl⟩ : ∃ m : Nat, n = (m : Int) := ⟨n.toNat, by omega⟩
    have hm : m < s.length := by omega
    obtain ⟨x, hx⟩ : ∃ x, s[m]? = some x := ⟨_, List.getElem?_eq_getElem hm⟩
    have hch := wf.chars m x hx
    by_cases hk : k < 0 ∨ (sizeN x : Int) < k
    · have e : placeFault s m k = ((m : Int), 3) := by simp [placeFault, hb, sizeAt_eq hx, hk]
      rw [e] at hf
      cases hf
      cases ht : x.t with
      | true =>
        rw [sizeN_text ht] at hk
        exact ⟨_, errOf_O m k, fun W F bf bn cap pn h => place_text h m k x hx ht hch.2 (by unfold lots; omega) hk⟩
      | false =>
        rw [sizeN_elem ht] at hk
        exact ⟨_, errOf_P m 3 (by decide), fun W F bf bn cap pn h => place_elem h m k x hx ht hk⟩
    · have e : placeFault s m k = (0, 0) := by simp [placeFault, hb, sizeAt_eq hx, hk]
      rw [e] at hf
      cases hf
      exact absurd rfl hy
theorem place_good {s : List Nd} (wf : WF s) (n k : Int) (a y : Int) (hf : placeFault s n k = (a, y)) (hy : y = 0) :
    ∃ m q : Nat, n = m ∧ k = q ∧ m < s.length ∧ q ≤ sizeAt s m ∧ placeFault s m q = (0, 0) ∧ ∀ (W : World) (F : Nat → Prop) (bf bn cap : Nat) (pn : List PN), PForAt W F bf bn cap pn s → Calls Tryz.prog 98 #[ptr bf, .agg #[.int .i64 (m : Int), .int .i64 (q : Int)]] W fun e w' => e = .returned .nilIface ∧ Below W.heap.size W w' := by
  cases hb : isB s n with
  | false =>
    have e : placeFault s n k = (n, 1) := by simp [placeFault, hb]
    rw [e] at hf
    cases hf
    cases hy
  | true =>
    obtain ⟨h1, h2⟩ := isB_true hb
    obtain ⟨m, rfl⟩ : ∃ m : Nat, n = (m : Int) := ⟨n.toNat, by omega⟩
    have hm : m < s.length := by omega
    obtain ⟨x, hx⟩ : ∃ x, s[m]? = some x := ⟨_, List.getElem?_eq_getElem hm⟩
    have hch := wf.chars m x hx
    by_cases hk : k < 0 ∨ (sizeN x : Int) < k
    · have e : placeFault s m k = ((m : Int), 3) := by simp [placeFault, hb, sizeAt_eq hx, hk]
      rw [e] at hf
      cases hf
      cases hy
    · obtain ⟨q, rfl⟩ : ∃ q : Nat, k = (q : Int) := ⟨k.toNat, by omega⟩
      have hk' : q ≤ sizeN x := by omega
      have e : placeFault s m q = (0, 0) := by simp [placeFault, hb, sizeAt_eq hx, hk']
      exact ⟨m, q, rfl, rfl, hm, by rw [sizeAt_eq hx]; omega, e, fun W F bf bn cap pn h => place_ok h m q x hx hch.2 (by unfold lots; omega) (by omega)⟩
theorem where_there (l : List (Nat × Nat)) (p : Nat × Nat) : ∃ q, IsWhere l p q := by
  induction l with
  | nil => exact ⟨-1, .inr ⟨rfl, by simp⟩⟩
  | cons a l ih =>
    by_cases h : p = a
    · exact ⟨0, .inl ⟨0, rfl, by simp [h], by simp⟩⟩
    · obtain ⟨q, hq | hq⟩ := ih
      · obtain ⟨m, h1, h2, h3⟩ := hq
        exact ⟨(m + 1 : Nat), .inl ⟨m + 1, rfl, by simpa using h2, by simp [h3, h]⟩⟩
      · exact ⟨-1, .inr ⟨rfl, by simp [hq.2, h]⟩⟩
end Go.Proofs.YtabogkonklplcaaGreatDoor
