import Derived.Test.YtabogkonklplcaaGreatDoorC29
import Derived.Test.YtabogkonklplcaaGreatDoorC20
import Derived.Test.YtabogkonklplcaaGreatDoorC26
import Derived.Test.YtabogkonklplcaaGreatDoorC21
import Derived.BigQuiet

/- The functions that move places; all within a node, collected. -/
namespace Go.Proofs.YtabogkonklplcaaGreatDoor
open Go.RowKit
set_option linter.unusedSimpArgs false
set_option linter.unusedVariables false

theorem shift_any (n o by_ : Int) (w : World) : Calls Tryz.prog 109 #[.int .i64 n, .int .i64 o, .int .i64 by_] w fun e w' => ∃ bs, e = .returned (.func (.func 158) #[] bs) ∧ Below w.heap.size w w' := by
  go_enter Tryz.func109, Tryz.ntmps109
  go_wp2
  go_ret
  exact ⟨_, rfl, by go_grown⟩

theorem gather_any (a : Option Addr) (n c : Nat) (p q : Int) (f : Fn) (x y : Array Value) (w : World) : Calls Tryz.prog 151 #[.slice a n c, .agg #[.int .i64 p, .int .i64 q], .func f x y] w fun e w' => ∃ bs, e = .returned (.func (.func 178) #[] bs) ∧ Below w.heap.size w w' := by
  go_enter Tryz.func151, Tryz.ntmps151
  go_wp2
  go_ret
  exact ⟨_, rfl, by go_grown⟩

/-- The numbers of all within a node, in a list of its own. -/
theorem collect_all {W : World} {F : Nat → Prop} {bf bn cap : Nat} {pn : List PN} {s : List Nd} (wf : WF s) {h : Nat → Nat} {B : Nat} (u : Up s h B) (hD : PForAt W F bf bn cap pn s) (k n : Nat) (hn : n < s.length) (hk : h n < k) :
    Calls Tryz.prog 89 #[.func (.func 138) #[] #[ptr (W.heap.size + 1), ptr W.heap.size]] ((W.alloc (.cells #[ptr bf] 91)).alloc (.cells #[.int .i64 (n : Int)] 3)) fun e w' =>
      ∃ a c, e = .returned (.slice a (allF s k n).length c) ∧ Below W.heap.size W w' ∧ w'.ownsRow 0 3 1 (.slice a (allF s k n).length c) (allF s k n).length (intsV (allF s k n)) ∧ (∀ b, (Value.slice a (allF s k n).length c).ownBlock = some b → W.heap.size ≤ b) := by
  have hl := all_length wf k n hn
  have hN := hD.narrow
  have hlt := hD.lt
  obtain ⟨wb, hwb⟩ : ∃ wb, (W.alloc (.cells #[ptr bf] 91)).alloc (.cells #[.int .i64 (n : Int)] 3) = wb := ⟨_, rfl⟩
  have hszb : wb.heap.size = W.heap.size + 2 := by rw [← hwb]; simp
  have hbb : Below W.heap.size W wb := by rw [← hwb]; exact ((Below.refl _ W).alloc (Nat.le_refl _) _).alloc (by simp) _
  have x1 : wb.heap[W.heap.size + 1]? = some (.cells #[.int .i64 (n : Int)] 3 (0, 0)) := by
    have := heap_alloc_new (W.alloc (.cells #[ptr bf] 91)) (.cells #[.int .i64 (n : Int)] 3)
    rw [hwb, World.size_alloc] at this
    exact this
  have x0 : wb.heap[W.heap.size]? = some (.cells #[ptr bf] 91 (0, 0)) := by
    rw [← hwb, Below.heap_alloc _ _ _ (by simp)]
    exact heap_alloc_new W _
  rw [hwb]
  refine (collect_any (gf := 138) (lb := #[ptr (W.heap.size + 1), ptr W.heap.size]) (enters_of Tryz.func138 (by kernel_rfl) rfl) (xs := allF s k n) (by unfold lots; omega) (w := wb)
    (fun w1 O hb hO => all1_ok wf u k n hn hk w1 O _ _ ((hN.below hbb).below hb) (fun b hbF => ⟨by have := hbF.2; have := hb.size; omega, fun e => by have := hO b e; have := hbF.2; omega⟩)
      ((hb.cell (p := ⟨W.heap.size + 1, 0, none⟩) (heap_lt x1)).trans (cell_of_heap x1 0)) ((hb.cell (p := ⟨W.heap.size, 0, none⟩) (heap_lt x0)).trans (cell_of_heap x0 0)) (fun e => by have := hO _ e; omega) (fun e => by have := hO _ e; omega))).mono ?_
  rintro e w' ⟨a, c, rfl, hr, hb, hg⟩
  exact ⟨a, c, rfl, hbb.trans (hb.mono (by omega)), hr, fun g e => by have := hg g e; omega⟩

end Go.Proofs.YtabogkonklplcaaGreatDoor

/- marginref's fine, textFits, size, placeFits. -/
namespace Go.Proofs.YtabogkonklplcaaGreatDoor
open Go.RowKit
set_option linter.unusedSimpArgs false
set_option linter.unusedVariables false

abbrev rfltV (a y : Int) : Value := .agg #[.int .i64 a, .int .i64 y]

set_option maxHeartbeats 400000 in
theorem fine_any (a y : Int) (w : World) : Calls Tryz.prog 124 #[rfltV a y] w fun e w' => e = .returned (.bool (y == 0)) ∧ Below w.heap.size w w' := by
  go_enter Tryz.func124, Tryz.ntmps124
  go_wp2
  go_ret
  exact ⟨rfl, (Below.refl _ w).alloc (Nat.le_refl _) _⟩

section
variable {w : World} {F : Nat → Prop} {bd bn cap : Nat} {rn : List RN} {rv : Value} {s : List Nd} {rs : List Sp}

set_option maxRecDepth 20000 in
set_option maxHeartbeats 1000000 in
theorem textFits_node (hD : RDocAt w F bd bn cap rn rv s rs) (n k : Int) (hn : isB s n = false) :
    Calls Tryz.prog 123 #[.pointer (some ⟨bd, 0, none⟩), .int .i64 n, .int .i64 k] w fun e w' => e = .returned (rfltV n 1) ∧ Below w.heap.size w w' := by
  have HD := hid hD.faultAt
  clear hD
  go_enter Tryz.func123, Tryz.ntmps123
  go_wp2_with (first
    | (go_at_call 47; refine (is_at HD.out _).mono ?_; rintro e w' ⟨rfl, rfl⟩)
    | (go_at_call 48; refine (no_any _ _ _).mono ?_; rintro e w' ⟨rfl, rfl⟩))
  go_returns
  refine ⟨rfl, ?_⟩
  go_grown

set_option maxRecDepth 20000 in
set_option maxHeartbeats 1000000 in
theorem textFits_kind (hD : RDocAt w F bd bn cap rn rv s rs) (n : Nat) (k : Int) (x : Nd) (hx : s[n]? = some x) (ht : x.t = false) :
    Calls Tryz.prog 123 #[.pointer (some ⟨bd, 0, none⟩), .int .i64 n, .int .i64 k] w fun e w' => e = .returned (rfltV n 2) ∧ Below w.heap.size w w' := by
  have hi : n < s.length := (List.getElem?_eq_some_iff.1 hx).1
  have hb : isB s n = true := isB_of (by omega)
  have HD := hid hD.faultAt
  have h0 := hD.faultAt.nodesCell
  obtain ⟨r, hr, ho, c0, c1, c2, c3⟩ := hD.faultAt.look hx
  rw [ht] at c0
  clear hD c1 c2 c3 hr ho hx
  go_enter Tryz.func123, Tryz.ntmps123
  go_wp2_with (first
    | (go_at_call 47; refine (is_at HD.out _).mono ?_; rintro e w' ⟨rfl, rfl⟩)
    | (go_at_call 48; refine (no_any _ _ _).mono ?_; rintro e w' ⟨rfl, rfl⟩))
  go_returns
  refine ⟨rfl, ?_⟩
  go_grown

set_option maxRecDepth 20000 in
set_option maxHeartbeats 1000000 in
theorem textFits_index (hD : RDocAt w F bd bn cap rn rv s rs) (n : Nat) (k : Int) (x : Nd) (hx : s[n]? = some x) (ht : x.t = true) (hk : k < 0 ∨ (x.cs.length : Int) < k) :
    Calls Tryz.prog 123 #[.pointer (some ⟨bd, 0, none⟩), .int .i64 n, .int .i64 k] w fun e w' => e = .returned (rfltV n 3) ∧ Below w.heap.size w w' := by
  have hi : n < s.length := (List.getElem?_eq_some_iff.1 hx).1
  have hb : isB s n = true := isB_of (by omega)
  have HD := hid hD.faultAt
  have h0 := hD.faultAt.nodesCell
  obtain ⟨r, hr, ho, c0, c1, c2, c3⟩ := hD.faultAt.look hx
  rw [ht] at c0
  obtain ⟨sa, sc, hkv⟩ : ∃ a c, r.cv = .slice a x.cs.length c := by
    rcases row_cases ho.chars with ⟨h1, h2⟩ | ⟨g, c, h1⟩
    · exact ⟨none, 0, by rw [h1, h2]⟩
    · exact ⟨_, _, h1⟩
  rw [hkv] at c1
  clear hD c2 c3 hr ho hx hkv
  by_cases hneg : k < 0
  · clear hk c1
    go_enter Tryz.func123, Tryz.ntmps123
    go_wp2_with (first
      | (go_at_call 47; refine (is_at HD.out _).mono ?_; rintro e w' ⟨rfl, rfl⟩)
      | (go_at_call 48; refine (no_any _ _ _).mono ?_; rintro e w' ⟨rfl, rfl⟩))
    go_returns
    refine ⟨rfl, ?_⟩
    go_grown
  · have hk2 : (x.cs.length : Int) < k := by omega
    have hneg2 : decide (k < 0) = false := decide_eq_false hneg
    clear hk
    go_enter Tryz.func123, Tryz.ntmps123
    go_wp2_with (first
      | (go_at_call 47; refine (is_at HD.out _).mono ?_; rintro e w' ⟨rfl, rfl⟩)
      | (go_at_call 48; refine (no_any _ _ _).mono ?_; rintro e w' ⟨rfl, rfl⟩))
    go_returns
    refine ⟨rfl, ?_⟩
    go_grown

set_option maxRecDepth 20000 in
set_option maxHeartbeats 1000000 in
theorem textFits_ok (hD : RDocAt w F bd bn cap rn rv s rs) (n k : Nat) (x : Nd) (hx : s[n]? = some x) (ht : x.t = true) (hk : k ≤ x.cs.length) :
    Calls Tryz.prog 123 #[.pointer (some ⟨bd, 0, none⟩), .int .i64 n, .int .i64 k] w fun e w' => e = .returned (rfltV 0 0) ∧ Below w.heap.size w w' := by
  have hi : n < s.length := (List.getElem?_eq_some_iff.1 hx).1
  have hb : isB s n = true := isB_of (by omega)
  have HD := hid hD.faultAt
  have h0 := hD.faultAt.nodesCell
  obtain ⟨r, hr, ho, c0, c1, c2, c3⟩ := hD.faultAt.look hx
  rw [ht] at c0
  obtain ⟨sa, sc, hkv⟩ : ∃ a c, r.cv = .slice a x.cs.length c := by
    rcases row_cases ho.chars with ⟨h1, h2⟩ | ⟨g, c, h1⟩
    · exact ⟨none, 0, by rw [h1, h2]⟩
    · exact ⟨_, _, h1⟩
  rw [hkv] at c1
  have hk2 : ¬ (x.cs.length : Int) < (k : Int) := by omega
  have hneg2 : decide ((k : Int) < 0) = false := decide_eq_false (by omega)
  have hk3 : decide ((x.cs.length : Int) < (k : Int)) = false := decide_eq_false hk2
  clear hD c2 c3 hr ho hx hkv
  go_enter Tryz.func123, Tryz.ntmps123
  go_wp2_with (first
    | (go_at_call 47; refine (is_at HD.out _).mono ?_; rintro e w' ⟨rfl, rfl⟩)
    | (go_at_call 48; refine (no_any _ _ _).mono ?_; rintro e w' ⟨rfl, rfl⟩))
  go_returns
  refine ⟨rfl, ?_⟩
  go_grown
end

end Go.Proofs.YtabogkonklplcaaGreatDoor

/- marginref's size, top, placeFits. -/
namespace Go.Proofs.YtabogkonklplcaaGreatDoor
open Go.RowKit
set_option linter.unusedSimpArgs false
set_option linter.unusedVariables false

/-- How many places a node has, but one. -/
def sizeN (x : Nd) : Nat := if x.t = true then x.cs.length else x.ks.length
theorem sizeN_text {x : Nd} (h : x.t = true) : sizeN x = x.cs.length := by simp [sizeN, h]
theorem sizeN_elem {x : Nd} (h : x.t = false) : sizeN x = x.ks.length := by simp [sizeN, h]

/-- The top of a node's tree. -/
def IsTop (s : List Nd) (n t : Nat) : Prop := (∃ m, climb s m n = (t : Int)) ∧ ∃ x, s[t]? = some x ∧ x.p = -1
def TopPost (s : List Nd) (n : Nat) (w : World) (e : Ending) (w' : World) : Prop := (∃ t : Nat, e = .returned (.int .i64 t) ∧ IsTop s n t) ∧ w' = w
def TopInv (s : List Nd) (n : Nat) (w : World) (a : Value) (wr : World) : Prop := wr = w ∧ ∃ (c m : Nat), a = .int .i64 c ∧ c < s.length ∧ climb s m n = (c : Int)

section
variable {w : World} {F : Nat → Prop} {bd bn cap : Nat} {rn : List RN} {rv : Value} {s : List Nd} {rs : List Sp}

set_option maxRecDepth 20000 in
set_option maxHeartbeats 1000000 in
theorem size_any (hD : RDocAt w F bd bn cap rn rv s rs) (n : Nat) (x : Nd) (hx : s[n]? = some x) :
    Calls Tryz.prog 168 #[.pointer (some ⟨bd, 0, none⟩), .int .i64 n] w fun e w' => e = .returned (.int .i64 (sizeN x)) ∧ w' = w := by
  have hi : n < s.length := (List.getElem?_eq_some_iff.1 hx).1
  have h0 := hD.nodesCell
  obtain ⟨r, hr, ho, c0, c1, c2, c3⟩ := hD.look hx
  obtain ⟨sa, sc, hcv⟩ : ∃ a c, r.cv = .slice a x.cs.length c := by
    rcases row_cases ho.chars with ⟨h1, h2⟩ | ⟨g, c, h1⟩
    · exact ⟨none, 0, by rw [h1, h2]⟩
    · exact ⟨_, _, h1⟩
  obtain ⟨ka, kc, hkv⟩ : ∃ a c, r.kv = .slice a x.ks.length c := by
    rcases row_cases ho.kids with ⟨h1, h2⟩ | ⟨g, c, h1⟩
    · exact ⟨none, 0, by rw [h1, h2]⟩
    · exact ⟨_, _, h1⟩
  rw [hcv] at c1
  rw [hkv] at c2
  cases ht : x.t with
  | true =>
    rw [ht] at c0
    rw [sizeN_text ht]
    clear hD c2 c3 hr ho hx hkv hcv ht
    go_enter Tryz.func168, Tryz.ntmps168
    go_wp2
    go_ret
    exact ⟨rfl, rfl⟩
  | false =>
    rw [ht] at c0
    rw [sizeN_elem ht]
    clear hD c1 c3 hr ho hx hkv hcv ht
    go_enter Tryz.func168, Tryz.ntmps168
    go_wp2
    go_ret
    exact ⟨rfl, rfl⟩

set_option maxRecDepth 20000 in
set_option maxHeartbeats 1000000 in
theorem top_any (wf : WF s) (hD : RDocAt w F bd bn cap rn rv s rs) (n : Nat) (hn : n < s.length) :
    Calls Tryz.prog 128 #[.pointer (some ⟨bd, 0, none⟩), .int .i64 n] w (TopPost s n w) := by
  obtain ⟨h, B, u⟩ := wf.up
  have h0 := hD.nodesCell
  have HD := hid hD
  have HW := hid wf
  have HU := hid u
  clear hD wf u
  go_enter Tryz.func128, Tryz.ntmps128
  go_wp2
  go_loopw [1] (fun a wr => TopInv s n w a wr) (fun a _ => upMeas h B (intOf a))
  case atStart => exact ⟨rfl, n, 0, rfl, hn, rfl⟩
  case round =>
    obtain ⟨rfl, c, m, rfl, hc, hm⟩ := hrel
    obtain ⟨x, hx⟩ : ∃ x, s[c]? = some x := ⟨_, List.getElem?_eq_getElem hc⟩
    obtain ⟨r, hr, ho, c0, c1, c2, c3⟩ := HD.out.look hx
    have HM := hid hm
    have HX := hid hx
    clear c0 c1 c2 hr ho hm hx
    by_cases hp : 0 ≤ x.p
    · have hup := upMeas_lt HU.out HX.out
      have hpar := (HU.out.par c x HX.out hp).1
      have HUP := hid hup
      clear hup
      go_wp2
      go_roundw
      case rel =>
        obtain ⟨q, hq⟩ := Int.eq_ofNat_of_zero_le hp
        refine ⟨rfl, q, m + 1, by rw [hq], by omega, ?_⟩
        rw [climb_step HM.out]
        simp [parOf, HX.out, hq]
      case measure => exact HUP.out
    · have hp' : x.p < 0 := by omega
      have hp1 : x.p = -1 := by
        rcases HW.out.par c x HX.out with e | ⟨q, y, e, _⟩
        · exact e
        · omega
      go_wp2
      go_ret
      exact ⟨⟨c, rfl, ⟨m, HM.out⟩, x, HX.out, hp1⟩, rfl⟩

/-- The two blocks that placeFits lays. -/
abbrev pf (w : World) (n k : Int) : World := (w.alloc (.cells #[.int .i64 n, .int .i64 k] 37)).alloc (.cells #[.int .i64 0, .int .i64 0] 32)
theorem pf_below (w : World) (n k : Int) (q : Nat) : Below w.heap.size w ((pf w n k).drewN q) := by
  have h : Below w.heap.size w (pf w n k) := ((Below.refl _ w).alloc (Nat.le_refl _) _).alloc (by simp) _
  exact ⟨h.os, h.tape, h.output, h.size, h.block⟩
theorem RDocAt.pf (hD : RDocAt w F bd bn cap rn rv s rs) (n k : Int) : RDocAt (pf w n k) F bd bn cap rn rv s rs := hD.below (((Below.refl _ w).alloc (Nat.le_refl _) _).alloc (by simp) _)

set_option maxRecDepth 20000 in
set_option maxHeartbeats 1000000 in
theorem placeFits_node (hD : RDocAt w F bd bn cap rn rv s rs) (n k : Int) (hn : isB s n = false) :
    Calls Tryz.prog 127 #[.pointer (some ⟨bd, 0, none⟩), .agg #[.int .i64 n, .int .i64 k]] w fun e w' => e = .returned (rfltV n 1) ∧ Below w.heap.size w w' := by
  have HD := hid (hD.pf n k)
  clear hD
  go_enter Tryz.func127, Tryz.ntmps127
  go_wp2_with (first
    | (go_at_call 47; refine (is_at HD.out _).mono ?_; rintro e w' ⟨rfl, rfl⟩)
    | (go_at_call 48; refine (no_any _ _ _).mono ?_; rintro e w' ⟨rfl, rfl⟩))
  go_returns
  refine ⟨rfl, ?_⟩
  go_grown

set_option maxRecDepth 20000 in
set_option maxHeartbeats 1000000 in
theorem placeFits_index (hD : RDocAt w F bd bn cap rn rv s rs) (n : Nat) (k : Int) (x : Nd) (hx : s[n]? = some x) (hk : k < 0 ∨ (sizeN x : Int) < k) :
    Calls Tryz.prog 127 #[.pointer (some ⟨bd, 0, none⟩), .agg #[.int .i64 n, .int .i64 k]] w fun e w' => e = .returned (rfltV n 3) ∧ Below w.heap.size w w' := by
  have hi : n < s.length := (List.getElem?_eq_some_iff.1 hx).1
  have hb : isB s n = true := isB_of (by omega)
  have HD := hid (hD.pf n k)
  have CS := hid (fun q => size_any (w := (pf w n k).drewN q) ((hD.pf n k).keeps (G := fun _ => False) ⟨rfl, rfl, rfl, Nat.le_refl _, fun _ _ _ => rfl⟩ (fun _ _ e => e)) n x hx)
  clear hD hx
  by_cases hneg : k < 0
  · clear hk CS
    go_enter Tryz.func127, Tryz.ntmps127
    go_wp2_with (go_at_call 47; refine (is_at HD.out _).mono ?_; rintro e w' ⟨rfl, rfl⟩)
    go_quiet (fail)
    go_wp2_with (go_at_call 48; refine (no_any _ _ _).mono ?_; rintro e w' ⟨rfl, rfl⟩)
    go_returns
    refine ⟨rfl, ?_⟩
    go_grown
    exact pf_below _ _ _ _
  · have hk2 : (sizeN x : Int) < k := by omega
    have hneg2 : decide (k < 0) = false := decide_eq_false hneg
    clear hk
    go_enter Tryz.func127, Tryz.ntmps127
    go_wp2_with (go_at_call 47; refine (is_at HD.out _).mono ?_; rintro e w' ⟨rfl, rfl⟩)
    go_quiet ((go_at_call 168; exact Calls.quiet_of_same (CS.out _)))
    go_wp2_with (go_at_call 48; refine (no_any _ _ _).mono ?_; rintro e w' ⟨rfl, rfl⟩)
    go_returns
    refine ⟨rfl, ?_⟩
    go_grown
    exact pf_below _ _ _ _

set_option maxRecDepth 20000 in
set_option maxHeartbeats 1000000 in
theorem placeFits_ok (hD : RDocAt w F bd bn cap rn rv s rs) (n k : Nat) (x : Nd) (hx : s[n]? = some x) (hk : k ≤ sizeN x) :
    Calls Tryz.prog 127 #[.pointer (some ⟨bd, 0, none⟩), .agg #[.int .i64 n, .int .i64 k]] w fun e w' => e = .returned (rfltV 0 0) ∧ Below w.heap.size w w' := by
  have hi : n < s.length := (List.getElem?_eq_some_iff.1 hx).1
  have hb : isB s n = true := isB_of (by omega)
  have HD := hid (hD.pf n k)
  have CS := hid (fun q => size_any (w := (pf w n k).drewN q) ((hD.pf n k).keeps (G := fun _ => False) ⟨rfl, rfl, rfl, Nat.le_refl _, fun _ _ _ => rfl⟩ (fun _ _ e => e)) n x hx)
  clear hD hx
  have hk2 : ¬ (sizeN x : Int) < (k : Int) := by omega
  have hneg2 : decide ((k : Int) < 0) = false := decide_eq_false (by omega)
  have hk3 : decide ((sizeN x : Int) < (k : Int)) = false := decide_eq_false hk2
  go_enter Tryz.func127, Tryz.ntmps127
  go_wp2_with (go_at_call 47; refine (is_at HD.out _).mono ?_; rintro e w' ⟨rfl, rfl⟩)
  go_quiet ((go_at_call 168; exact Calls.quiet_of_same (CS.out _)))
  go_wp2
  go_returns
  refine ⟨rfl, ?_⟩
  go_grown
  exact pf_below _ _ _ _
end

end Go.Proofs.YtabogkonklplcaaGreatDoor
