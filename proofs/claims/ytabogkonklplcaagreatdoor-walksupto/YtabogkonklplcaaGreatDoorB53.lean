import Derived.Test.YtabogkonklplcaaGreatDoorB40
import Derived.Test.YtabogkonklplcaaGreatDoorB27
import Derived.Test.YtabogkonklplcaaGreatDoorB52
import Derived.Test.YtabogkonklplcaaGreatDoorB42
import Derived.Test.YtabogkonklplcaaGreatDoorB30

/- tree.Walk, margin.Walk. -/
namespace Go.Proofs.YtabogkonklplcaaGreatDoor
open Go.RowKit
set_option linter.unusedSimpArgs false
set_option linter.unusedVariables false

/-- A function that gives these numbers; what it leans on lies in P. -/
def Walker (w : World) (P : Nat → Prop) (f : Value) (xs : List Nat) : Prop :=
  ∃ b a c, f = .func (.func 136) #[] #[ptr b] ∧ w.heap[b]? = some (.cells #[.slice a xs.length c] 24 (0, 0)) ∧ w.ownsRow 0 3 1 (.slice a xs.length c) xs.length (intsV xs) ∧ P b ∧ (∀ g, (Value.slice a xs.length c).ownBlock = some g → P g)

theorem Walker.keeps {w w' : World} {P G : Nat → Prop} {f : Value} {xs : List Nat} (h : Walker w P f xs) (hk : Keeps G w w') (hG : ∀ b, P b → ¬ G b) : Walker w' P f xs := by
  obtain ⟨b, a, c, h1, h2, h3, h4, h5⟩ := h
  exact ⟨b, a, c, h1, by rw [hk.block b (heap_lt h2) (hG _ h4)]; exact h2, hk.row h3 (fun g e => hG _ (h5 g e)), h4, h5⟩

def WalkPost (w : World) (xs : List Nat) (e : Ending) (w' : World) : Prop := ∃ f, e = .returned (.tuple #[f, .nilIface]) ∧ Below w.heap.size w w' ∧ Walker w' (fun b => w.heap.size ≤ b ∧ b < w'.heap.size) f xs

section
variable {w : World} {F : Nat → Prop} {bf : Nat} {s : List Nd}

set_option maxHeartbeats 400000 in
theorem twalk_no (hD : PFor w F bf s) (n : Int) (h : isB s n = false) : Calls Tryz.prog 45 #[ptr bf, .int .i64 n] w fun e w' => e = .returned (.tuple #[.nilFunc, refusalV n 1]) ∧ Below w.heap.size w w' := by
  obtain ⟨bn, cap, pn, hD⟩ := hD
  have C := hid (find_no hD n h)
  clear hD h
  go_enter Tryz.func45, Tryz.ntmps45
  go_wp2_with (go_at_call 87; refine C.out.mono ?_; rintro e w1 ⟨rfl, rfl⟩)
  go_ret2
  exact ⟨rfl, Below.refl _ _⟩

set_option maxHeartbeats 1000000 in
theorem twalk_yes (wf : WF s) {h : Nat → Nat} {B : Nat} (u : Up s h B) (hD : PFor w F bf s) (k n : Nat) (hn : n < s.length) (hk : h n < k) : Calls Tryz.prog 45 #[ptr bf, .int .i64 n] w (WalkPost w (allF s k n)) := by
  obtain ⟨bn, cap, pn, hD⟩ := hD
  have C := hid (find_yes hD n (isB_of (by omega)))
  have hl := all_length wf k n hn
  have hN := hD.narrow
  have hlt := hD.lt
  have C2 := hid (all_any bf n w)
  obtain ⟨wb, hwb⟩ : ∃ wb, (w.alloc (.cells #[ptr bf] 91)).alloc (.cells #[.int .i64 (n : Int)] 3) = wb := ⟨_, rfl⟩
  have hszb : wb.heap.size = w.heap.size + 2 := by rw [← hwb]; simp
  have hbb : Below w.heap.size w wb := by rw [← hwb]; exact ((Below.refl _ w).alloc (Nat.le_refl _) _).alloc (by simp) _
  have x1 : wb.heap[w.heap.size + 1]? = some (.cells #[.int .i64 (n : Int)] 3 (0, 0)) := by
    have := heap_alloc_new (w.alloc (.cells #[ptr bf] 91)) (.cells #[.int .i64 (n : Int)] 3)
    rw [hwb, World.size_alloc] at this
    exact this
  have x0 : wb.heap[w.heap.size]? = some (.cells #[ptr bf] 91 (0, 0)) := by
    rw [← hwb, Below.heap_alloc _ _ _ (by simp)]
    exact heap_alloc_new w _
  rw [hwb] at C2
  have C3 := hid (collect_any (gf := 138) (lb := #[ptr (w.heap.size + 1), ptr w.heap.size]) (enters_of Tryz.func138 (by kernel_rfl) rfl) (xs := allF s k n) (by unfold lots; omega) (w := wb)
    (fun w1 O hb hO => all1_ok wf u k n hn hk w1 O _ _ ((hN.below hbb).below hb) (fun b hbF => ⟨by have := hbF.2; have := hb.size; omega, fun e => by have := hO b e; have := hbF.2; omega⟩)
      ((hb.cell (p := ⟨w.heap.size + 1, 0, none⟩) (heap_lt x1)).trans (cell_of_heap x1 0)) ((hb.cell (p := ⟨w.heap.size, 0, none⟩) (heap_lt x0)).trans (cell_of_heap x0 0)) (fun e => by have := hO _ e; omega) (fun e => by have := hO _ e; omega)))
  have HBB := hid hbb
  clear hD hN x0 x1 hbb u wf hk
  generalize allF s k n = L at C3 hl ⊢
  go_enter Tryz.func45, Tryz.ntmps45
  go_wp2_with (first
    | (go_at_call 87; refine C.out.mono ?_; rintro e w1 ⟨rfl, hw1⟩; subst hw1)
    | (go_at_call 90; refine C2.out.mono ?_; rintro e w1 ⟨rfl, hw1⟩; subst hw1)
    | (go_at_call 89; refine C3.out.mono ?_; rintro e w2 ⟨a2, c2, rfl, hr, hb, hg⟩; have HR := hid (And.intro hr (And.intro hb hg)); clear hr hb hg)
    | (go_at_call 88; refine (values_any _ _ _ _).mono ?_; rintro e w3 ⟨rfl, rfl⟩))
  go_ret2
  obtain ⟨hr, hb, hg⟩ := HR.out
  have hz := hb.size
  refine ⟨_, rfl, (HBB.out.trans (hb.mono (by omega))).alloc (by omega) _, w2.heap.size, a2, c2, rfl, heap_alloc_new w2 _, hr.alloc _, ?_, ?_⟩
  · simp; omega
  · intro g e
    have h1 := hg g e
    have h2 := (hr.lt g e).2
    simp; omega
end

theorem errOf_nil' (w : World) (hg : Glob w) : Calls Tryz.prog 46 #[.nilIface] w fun e w' => e = .returned .nilIface ∧ Below w.heap.size w w' := (errOf_nil 0 w hg).mono fun e w' ⟨h1, h2⟩ => ⟨by rw [h1]; simp [errV], h2⟩

set_option maxHeartbeats 400000 in
theorem mwalk_no {w : World} {F : Nat → Prop} {bx : Nat} {s : List Nd} {rs : List Sp} (hg : GG w) (hP : PLies w F bx ⟨s, rs⟩) (n : Int) (h : isB s n = false) :
    Calls Tryz.prog 18 #[ptr bx, .int .i64 n] w fun e w' => e = .returned (.tuple #[.nilFunc, errV n 1]) ∧ Below w.heap.size w w' := by
  obtain ⟨bf, bl, sv, hD⟩ := hP
  have C := hid (twalk_no hD.nodes n h)
  have c0 : w.cell? ⟨bx, 0, none⟩ = some (ptr bf) := cell_of_heap hD.doc 0
  have E := hid (fun w1 (hb : Below w.heap.size w w1) => errOf_P n 1 (by decide) w1 (hg.below hb).1)
  clear hD hg
  go_enter Tryz.func18, Tryz.ntmps18
  go_wp2_with first
    | (go_at_call 45; refine C.out.mono ?_; rintro e w1 ⟨rfl, hb1⟩; have E1 := hid (E.out w1 hb1))
    | (go_at_call 46; refine E1.out.mono ?_; rintro e w2 ⟨rfl, hb2⟩)
  go_ret2
  exact ⟨rfl, hb1.trans (hb2.mono hb1.size)⟩

set_option maxHeartbeats 400000 in
theorem mwalk_yes {w : World} {F : Nat → Prop} {bx : Nat} {s : List Nd} {rs : List Sp} (hg : GG w) (hP : PLies w F bx ⟨s, rs⟩) (wf : WF s) {h : Nat → Nat} {B : Nat} (u : Up s h B) (k n : Nat) (hn : n < s.length) (hk : h n < k) :
    Calls Tryz.prog 18 #[ptr bx, .int .i64 n] w (WalkPost w (allF s k n)) := by
  obtain ⟨bf, bl, sv, hD⟩ := hP
  have C := hid (twalk_yes wf u hD.nodes k n hn hk)
  have c0 : w.cell? ⟨bx, 0, none⟩ = some (ptr bf) := cell_of_heap hD.doc 0
  have E := hid (fun w1 (hb : Below w.heap.size w w1) => errOf_nil' w1 (hg.below hb).1)
  clear hD hg u wf hk
  go_enter Tryz.func18, Tryz.ntmps18
  go_wp2_with first
    | (go_at_call 45; refine C.out.mono ?_; rintro e w1 ⟨f, rfl, hb1, hW⟩; obtain ⟨wb, wa, wc, rfl, hW'⟩ := hW; have E1 := hid (E.out w1 hb1); have HW := hid hW'; clear hW')
    | (go_at_call 46; refine E1.out.mono ?_; rintro e w2 ⟨rfl, hb2⟩)
  go_ret2
  have hz := hb2.size
  refine ⟨_, rfl, hb1.trans (hb2.mono hb1.size), ?_⟩
  have hW : Walker w1 (fun b => w.heap.size ≤ b ∧ b < w2.heap.size) (.func (.func 136) #[] #[ptr wb]) (allF s k n) := ⟨wb, wa, wc, rfl, HW.out.1, HW.out.2.1, ⟨HW.out.2.2.1.1, by have := HW.out.2.2.1.2; omega⟩, fun g e => ⟨(HW.out.2.2.2 g e).1, by have := (HW.out.2.2.2 g e).2; omega⟩⟩
  exact hW.keeps (Keeps.of_below (F := fun _ => False) hb2) (fun _ _ e => e)

end Go.Proofs.YtabogkonklplcaaGreatDoor

/- What Walk answers, of the program and of the document; the play taken up anew from a later world. -/
namespace Go.Proofs.YtabogkonklplcaaGreatDoor
open Go.RowKit
set_option linter.unusedSimpArgs false
set_option linter.unusedVariables false

theorem InvE.rebase {PD : PDT} {Q : Nat → Prop} {w0 w w' : World} {yb : Nat} {docs : List DocR} (hPD : PDOk PD) (h : InvE PD Q w0 w yb docs) (hk : Keeps (fun b => b = yb) w w') (hp : ∀ psv, PlayAt w yb psv → PlayAt w' yb psv) :
    ∃ Q' : Nat → Prop, InvE PD Q' w' w' yb docs ∧ Keeps Q w0 w' ∧ (∀ b, Q' b → Q b) ∧ (∀ b, w.heap.size ≤ b → b < w'.heap.size → ¬ Q' b) := by
  obtain ⟨own, psv, h⟩ := h
  have hz := hk.size
  refine ⟨fun b => own b ≠ 0 ∨ w'.heap.size ≤ b, ⟨own, psv, hp psv h.play, hk.row h.row (fun b e e2 => (h.ops b e).2 e2), h.oy, h.ops, fun b e => ⟨.inl e, by have := (h.ol b e).2; omega⟩, fun b e => .inr e, Keeps.refl _ _, fun i d hd => ?_⟩, ?_, ?_, ?_⟩
  · obtain ⟨h1, h2, h3⟩ := h.doc i d hd
    have hy := h.oy
    exact ⟨hPD.keeps h1 hk (fun b e e2 => by rw [e2] at e; omega), h2.keeps hk (fun b e e2 => by rw [e2] at e; omega), h3⟩
  · exact h.fr.trans (hk.mono (fun b _ e => .inl (by rw [e]; exact (h.ol yb (by rw [h.oy]; decide)).1)))
  · rintro b (e | e)
    · exact (h.ol b e).1
    · exact h.bl b (by omega)
  · rintro b hb hb' (e | e)
    · have := (h.ol b e).2; omega
    · omega

theorem PlayAt.below {w w' : World} {yb : Nat} {psv : Value} (h : PlayAt w yb psv) (hb : Below w.heap.size w w') : PlayAt w' yb psv := by
  obtain ⟨l0, a0, y0, hq⟩ := h
  exact ⟨l0, a0, y0, (hb.block yb (heap_lt hq)).trans hq⟩

/-- What Walk gives of a node that there is, and of one that there is not. -/
def WRes (w : World) (P : Nat → Prop) (f : Value) (xs : List Nat) (y : Int) : Prop := (y = 1 ∧ f = .nilFunc ∧ xs = []) ∨ (y = 0 ∧ Walker w P f xs)

theorem WRes.keeps {w w' : World} {P G : Nat → Prop} {f : Value} {xs : List Nat} {y : Int} (h : WRes w P f xs y) (hk : Keeps G w w') (hG : ∀ b, P b → ¬ G b) : WRes w' P f xs y :=
  h.imp id (fun ⟨h1, h2⟩ => ⟨h1, h2.keeps hk hG⟩)
theorem Walker.wider {w : World} {P P' : Nat → Prop} {f : Value} {xs : List Nat} (h : Walker w P f xs) (hP : ∀ b, P b → P' b) : Walker w P' f xs := by
  obtain ⟨b, a, c, h1, h2, h3, h4, h5⟩ := h
  exact ⟨b, a, c, h1, h2, h3, hP _ h4, fun g e => hP _ (h5 g e)⟩
theorem WRes.wider {w : World} {P P' : Nat → Prop} {f : Value} {xs : List Nat} {y : Int} (h : WRes w P f xs y) (hP : ∀ b, P b → P' b) : WRes w P' f xs y :=
  h.imp id (fun ⟨h1, h2⟩ => ⟨h1, h2.wider hP⟩)

theorem nil_eql_nil (w : World) : (binOp .eql 45 .nilFunc .nilFunc).run Tryz.prog w = .ok (.bool true) w := by kernel_rfl
theorem nil_eql_fn (b : Nat) (w : World) : (binOp .eql 45 (.func (.func 136) #[] #[ptr b]) .nilFunc).run Tryz.prog w = .ok (.bool false) w := by kernel_rfl
theorem WRes.eql {w : World} {P : Nat → Prop} {f : Value} {xs : List Nat} {y : Int} (h : WRes w P f xs y) (w' : World) : (binOp .eql 45 f .nilFunc).run Tryz.prog w' = .ok (.bool (y != 0)) w' := by
  rcases h with ⟨rfl, rfl, _⟩ | ⟨rfl, b, a, c, rfl, _⟩
  · exact nil_eql_nil w'
  · exact nil_eql_fn b w'

theorem guard_nil (t : Tmp) (f : Value) (w : World) : (eqGuard .eql 45 (.tmp t) (.const .nilFunc) f .nilFunc).run Tryz.prog w = .ok () w := by cases f <;> rfl

def MWalkPost (w : World) (xs : List Nat) (ab y : Int) (e : Ending) (w' : World) : Prop := ∃ f, e = .returned (.tuple #[f, errV ab y]) ∧ Below w.heap.size w w' ∧ WRes w' (fun b => w.heap.size ≤ b ∧ b < w'.heap.size) f xs y
def RWalkPost (w : World) (xs : List Nat) (ab y : Int) (e : Ending) (w' : World) : Prop := ∃ a c, e = .returned (.tuple #[.slice a xs.length c, .agg #[.int .i64 ab, .int .i64 y]]) ∧ w'.ownsRow w.heap.size 3 1 (.slice a xs.length c) xs.length (intsV xs) ∧ Below w.heap.size w w'

def WalkAns (PD : PDT) (G : World → Prop) : Prop := ∀ s, PD.ok s → ∀ A : Int, ∃ (xs : List Nat) (ab y : Int), xs.length ≤ 40 ∧
  (∀ (w : World) (F : Nat → Prop) (bx : Nat), G w → PD w F bx s → Calls Tryz.prog 18 #[ptr bx, .int .i64 A] w (MWalkPost w xs ab y)) ∧
  (∀ (w : World) (F : Nat → Prop) (bd : Nat), RDocS w F bd s → Calls Tryz.prog 19 #[ptr bd, .int .i64 A] w (RWalkPost w xs ab y))

theorem walkAns : WalkAns PDoc GG := by
  rintro ⟨s, r⟩ ⟨wf, hr⟩ A
  cases hr
  simp only at wf
  cases hA : isB s A with
  | false =>
    refine ⟨[], A, 1, by simp, ?_, ?_⟩
    · intro w F bx hg hP
      exact (mwalk_no hg hP A hA).mono fun e w' ⟨h1, h2⟩ => ⟨_, h1, h2, .inl ⟨rfl, rfl, rfl⟩⟩
    · rintro w F bd ⟨bn, cap, rn, rv, hD⟩
      exact (rwalk_no hD A hA).mono fun e w' ⟨h1, h2⟩ => ⟨none, 0, h1, World.ownsRow_nil _ _ _ _, h2⟩
  | true =>
    obtain ⟨h1, h2⟩ := isB_true hA
    obtain ⟨n, rfl⟩ : ∃ n : Nat, A = (n : Int) := ⟨A.toNat, by omega⟩
    have hn : n < s.length := by omega
    obtain ⟨h, B, u⟩ := wf.up
    refine ⟨allF s (h n + 1) n, 0, 0, all_length wf _ n hn, ?_, ?_⟩
    · intro w F bx hg hP
      refine (mwalk_yes hg hP wf u (h n + 1) n hn (Nat.lt_succ_self _)).mono fun e w' ⟨f, h1, h2, h3⟩ => ⟨f, ?_, h2, .inr ⟨rfl, h3⟩⟩
      rw [h1]; simp [errV]
    · rintro w F bd ⟨bn, cap, rn, rv, hD⟩
      exact (rwalk_yes wf u hD (h n + 1) n hn (Nat.lt_succ_self _)).mono fun e w' h => h

end Go.Proofs.YtabogkonklplcaaGreatDoor
