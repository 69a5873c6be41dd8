import Derived.Test.YtnplbbclgpieaaaGreatDoorW16
import Derived.Test.YtnplbbclgpieaaaGreatDoorW40
import Derived.Test.YtnplbbclgpieaaaGreatDoorW27

/- marginlaw's trees: the steps of a script that change trees, or show them. -/
namespace Go.Proofs.YtnplbbclgpieaaaGreatDoor
open Go.RowKit
set_option linter.unusedSimpArgs false
set_option linter.unusedVariables false

def TreesPost (PD : PDT) (Q : Nat → Prop) (w0 : World) (yb n : Nat) (e : Ending) (w' : World) : Prop := e = .returned (.bool true) ∧ ∃ docs, InvE PD Q w0 w' yb docs ∧ docs.length = n

set_option maxRecDepth 20000 in
set_option maxHeartbeats 4000000 in
theorem ptrees_any {PD : PDT} {G : World → Prop} (hA : Answers PD G) {Q : Nat → Prop} {w0 w : World} {yb : Nat} (hG : ∀ W, Keeps Q w0 W → G W) (a : Option Addr) (g off c : Nat) (script : List OpR) (ha : 0 < script.length → a = some ⟨g, off, none⟩) (hs : ScriptAt w0 g off script) (hok : ∀ o ∈ script, OpOk o) (hlen : script.length + 6 < lots) (hgq : 0 < script.length → ¬ Q g)
    {docs : List DocR} (hI : InvE PD Q w0 w yb docs) (hdl : docs.length < lots) :
    Calls Tryz.prog 9 #[ptr yb, .slice a script.length c] w (TreesPost PD Q w0 yb docs.length) := by
  have SCRAT : Hid (∀ W, Keeps Q w0 W → ScriptAt W g off script) := by
    intro W hk i o ho j u hu
    have hgq := hgq (by have := (List.getElem?_eq_some_iff.1 ho).1; omega)
    exact hk.cell (p := ⟨g, off + i * 10 + j, none⟩) (hs i o ho j u hu) hgq
  have HA := hid hA
  have HGG := hid hG
  have HOK := hid hok
  have HI0 := hid hI
  have HAA := hid ha
  have HDL := hid hdl
  unfold lots at hlen
  clear ha hgq hA hok hI hs hG hdl
  go_enter Tryz.func9, Tryz.ntmps9
  go_wp2
  go_loopw [5] (fun t wr => ∃ (i : Nat) (ds : List DocR), i ≤ script.length ∧ t = .int .i64 i ∧ InvE PD Q w0 wr yb ds ∧ ds.length = docs.length) (fun t _ => leftV script.length t)
  case atStart => exact ⟨0, docs, by omega, rfl, HI0.out, rfl⟩
  case round =>
    obtain ⟨i, ds, hi, rfl, hinv, hdl2⟩ := hrel
    by_cases hlt2 : i < script.length
    · have haa := HAA.out (by omega)
      subst haa
      obtain ⟨o, ho⟩ : ∃ o, script[i]? = some o := ⟨_, List.getElem?_eq_getElem hlt2⟩
      have hoo := HOK.out o (List.mem_of_getElem? ho)
      have hfr := (by obtain ⟨own, psv, hI⟩ := hinv; exact hI.fr : Keeps Q w0 wr)
      have hat := SCRAT.out wr hfr i o ho
      have e0 : wr.cell? ⟨g, off + i * 10, none⟩ = some (.int .i64 o.kind) := by simpa using hat 0 _ rfl
      have hbk : Below wr.heap.size wr (wr.alloc (.cells #[.int .i64 2, .int .i64 3, .int .i64 4, .int .i64 5, .int .i64 6] 3)) := (Below.refl _ wr).alloc (Nat.le_refl _) _
      have hrow : (wr.alloc (.cells #[.int .i64 2, .int .i64 3, .int .i64 4, .int .i64 5, .int .i64 6] 3)).ownsRow 0 3 1 (.slice (some ⟨wr.heap.size, 0, none⟩) 5 5) 5 (([2, 3, 4, 5, 6] : List Int).map (fun k => Value.int .i64 k)) := by
        have := World.ownsRow_lit (base := 0) (e := 3) (size := 1) wr #[.int .i64 2, .int .i64 3, .int .i64 4, .int .i64 5, .int .i64 6] 5 (Nat.zero_le _) (by decide) rfl
        simpa using this
      have CI := hid (in_any o.kind wr.heap.size 5 [2, 3, 4, 5, 6] _ hrow (by decide))
      have hinv2 := hinv.below HA.out.pd hbk
      have hfr2 := hfr.trans (Keeps.of_below hbk)
      have hat2 := SCRAT.out _ hfr2 i o ho
      have b0 : (wr.alloc (.cells #[.int .i64 2, .int .i64 3, .int .i64 4, .int .i64 5, .int .i64 6] 3)).cell? ⟨g, off + i * 10, none⟩ = some (.int .i64 o.kind) := by simpa using hat2 0 _ rfl
      have b1 : (wr.alloc (.cells #[.int .i64 2, .int .i64 3, .int .i64 4, .int .i64 5, .int .i64 6] 3)).cell? ⟨g, off + i * 10 + 1, none⟩ = some (.int .i64 o.D) := by simpa using hat2 1 _ rfl
      have b2 : (wr.alloc (.cells #[.int .i64 2, .int .i64 3, .int .i64 4, .int .i64 5, .int .i64 6] 3)).cell? ⟨g, off + i * 10 + 2, none⟩ = some (.int .i64 o.A) := by simpa using hat2 2 _ rfl
      have b3 : (wr.alloc (.cells #[.int .i64 2, .int .i64 3, .int .i64 4, .int .i64 5, .int .i64 6] 3)).cell? ⟨g, off + i * 10 + 3, none⟩ = some (.int .i64 o.B) := by simpa using hat2 3 _ rfl
      have b4 : (wr.alloc (.cells #[.int .i64 2, .int .i64 3, .int .i64 4, .int .i64 5, .int .i64 6] 3)).cell? ⟨g, off + i * 10 + 4, none⟩ = some (.int .i64 o.C) := by simpa using hat2 4 _ rfl
      have b5 : (wr.alloc (.cells #[.int .i64 2, .int .i64 3, .int .i64 4, .int .i64 5, .int .i64 6] 3)).cell? ⟨g, off + i * 10 + 5, none⟩ = some (.string o.S) := by simpa using hat2 5 _ rfl
      have b6 : (wr.alloc (.cells #[.int .i64 2, .int .i64 3, .int .i64 4, .int .i64 5, .int .i64 6] 3)).cell? ⟨g, off + i * 10 + 6, none⟩ = some (.int .i64 o.p0) := by simpa using hat2 6 _ rfl
      have b7 : (wr.alloc (.cells #[.int .i64 2, .int .i64 3, .int .i64 4, .int .i64 5, .int .i64 6] 3)).cell? ⟨g, off + i * 10 + 7, none⟩ = some (.int .i64 o.p1) := by simpa using hat2 7 _ rfl
      have b8 : (wr.alloc (.cells #[.int .i64 2, .int .i64 3, .int .i64 4, .int .i64 5, .int .i64 6] 3)).cell? ⟨g, off + i * 10 + 8, none⟩ = some (.int .i64 o.q0) := by simpa using hat2 8 _ rfl
      have b9 : (wr.alloc (.cells #[.int .i64 2, .int .i64 3, .int .i64 4, .int .i64 5, .int .i64 6] 3)).cell? ⟨g, off + i * 10 + 9, none⟩ = some (.int .i64 o.q1) := by simpa using hat2 9 _ rfl
      have HINV2 := hid hinv2
      have HOO := hid hoo
      clear hat hat2 ho hoo hinv hinv2 hfr hfr2 hrow hbk
      cases hc : ([2, 3, 4, 5, 6] : List Int).contains o.kind with
      | true =>
        rw [hc] at CI
        have hkk : 2 ≤ o.kind ∧ o.kind ≤ 6 := by simp at hc; omega
        have CS := hid (steps_nodes HA.out HGG.out o HOO.out hkk _ ds HINV2.out (by rw [hdl2]; exact HDL.out))
        clear hc hkk
        go_wp2_with (first
          | (go_at_call 15; refine CI.out.mono ?_; clear CI; rintro e w3 ⟨rfl, rfl⟩)
          | (go_at_call 8; refine CS.out.mono ?_; clear CS; rintro e w3 ⟨rfl, docs', hI', hm', hl'⟩; have HI' := hid hI'; clear hI'))
        exact ⟨⟨i + 1, docs', by omega, by go_num, HI'.out, by omega⟩, by show script.length - ((i : Int) + 1).toNat < script.length - ((i : Int)).toNat; omega⟩
      | false =>
        rw [hc] at CI
        clear hc
        go_wp2_with (go_at_call 15; refine CI.out.mono ?_; clear CI; rintro e w3 ⟨rfl, rfl⟩)
        exact ⟨⟨i + 1, ds, by omega, by go_num, HINV2.out, hdl2⟩, by show script.length - ((i : Int) + 1).toNat < script.length - ((i : Int)).toNat; omega⟩
    · have HINV2 := hid hinv
      clear hinv
      go_wp2
      go_ret
      exact ⟨rfl, ds, HINV2.out, hdl2⟩

end Go.Proofs.YtnplbbclgpieaaaGreatDoor

/- tree.Walk, margin.Walk. -/
namespace Go.Proofs.YtnplbbclgpieaaaGreatDoor
open Go.RowKit
set_option linter.unusedSimpArgs false
set_option linter.unusedVariables false

/-- A function that gives these numbers; what it leans on lies in P. -/
def Walker (w : World) (P : Nat → Prop) (f : Value) (xs : List Nat) : Prop :=
  ∃ b a c, f = .func (.func 95) #[] #[ptr b] ∧ w.heap[b]? = some (.cells #[.slice a xs.length c] 24 (0, 0)) ∧ w.ownsRow 0 3 1 (.slice a xs.length c) xs.length (intsV xs) ∧ P b ∧ (∀ g, (Value.slice a xs.length c).ownBlock = some g → P g)

theorem Walker.keeps {w w' : World} {P G : Nat → Prop} {f : Value} {xs : List Nat} (h : Walker w P f xs) (hk : Keeps G w w') (hG : ∀ b, P b → ¬ G b) : Walker w' P f xs := by
  obtain ⟨b, a, c, h1, h2, h3, h4, h5⟩ := h
  exact ⟨b, a, c, h1, by rw [hk.block b (heap_lt h2) (hG _ h4)]; exact h2, hk.row h3 (fun g e => hG _ (h5 g e)), h4, h5⟩

def WalkPost (w : World) (xs : List Nat) (e : Ending) (w' : World) : Prop := ∃ f, e = .returned (.tuple #[f, .nilIface]) ∧ Below w.heap.size w w' ∧ Walker w' (fun b => w.heap.size ≤ b ∧ b < w'.heap.size) f xs

section
variable {w : World} {F : Nat → Prop} {bf : Nat} {s : List Nd}

set_option maxHeartbeats 400000 in
theorem twalk_no (hD : PFor w F bf s) (n : Int) (h : isB s n = false) : Calls Tryz.prog 21 #[ptr bf, .int .i64 n] w fun e w' => e = .returned (.tuple #[.nilFunc, refusalV n 1]) ∧ Below w.heap.size w w' := by
  obtain ⟨bn, cap, pn, hD⟩ := hD
  have C := hid (find_no hD n h)
  clear hD h
  go_enter Tryz.func21, Tryz.ntmps21
  go_wp2_with (go_at_call 56; refine C.out.mono ?_; rintro e w1 ⟨rfl, rfl⟩)
  go_ret2
  exact ⟨rfl, Below.refl _ _⟩

set_option maxHeartbeats 1000000 in
theorem twalk_yes (wf : WF s) {h : Nat → Nat} {B : Nat} (u : Up s h B) (hD : PFor w F bf s) (k n : Nat) (hn : n < s.length) (hk : h n < k) : Calls Tryz.prog 21 #[ptr bf, .int .i64 n] w (WalkPost w (allF s k n)) := by
  obtain ⟨bn, cap, pn, hD⟩ := hD
  have C := hid (find_yes hD n (isB_of (by omega)))
  have hl := all_length wf k n hn
  have hN := hD.narrow
  have hlt := hD.lt
  have C2 := hid (all_any bf n w)
  obtain ⟨wb, hwb⟩ : ∃ wb, (w.alloc (.cells #[ptr bf] 59)).alloc (.cells #[.int .i64 (n : Int)] 3) = wb := ⟨_, rfl⟩
  have hszb : wb.heap.size = w.heap.size + 2 := by rw [← hwb]; simp
  have hbb : Below w.heap.size w wb := by rw [← hwb]; exact ((Below.refl _ w).alloc (Nat.le_refl _) _).alloc (by simp) _
  have x1 : wb.heap[w.heap.size + 1]? = some (.cells #[.int .i64 (n : Int)] 3 (0, 0)) := by
    have := heap_alloc_new (w.alloc (.cells #[ptr bf] 59)) (.cells #[.int .i64 (n : Int)] 3)
    rw [hwb, World.size_alloc] at this
    exact this
  have x0 : wb.heap[w.heap.size]? = some (.cells #[ptr bf] 59 (0, 0)) := by
    rw [← hwb, Below.heap_alloc _ _ _ (by simp)]
    exact heap_alloc_new w _
  rw [hwb] at C2
  have C3 := hid (collect_any (gf := 97) (lb := #[ptr (w.heap.size + 1), ptr w.heap.size]) (enters_of Tryz.func97 (by kernel_rfl) rfl) (xs := allF s k n) (by unfold lots; omega) (w := wb)
    (fun w1 O hb hO => all1_ok wf u k n hn hk w1 O _ _ ((hN.below hbb).below hb) (fun b hbF => ⟨by have := hbF.2; have := hb.size; omega, fun e => by have := hO b e; have := hbF.2; omega⟩)
      ((hb.cell (p := ⟨w.heap.size + 1, 0, none⟩) (heap_lt x1)).trans (cell_of_heap x1 0)) ((hb.cell (p := ⟨w.heap.size, 0, none⟩) (heap_lt x0)).trans (cell_of_heap x0 0)) (fun e => by have := hO _ e; omega) (fun e => by have := hO _ e; omega)))
  have HBB := hid hbb
  clear hD hN x0 x1 hbb u wf hk
  generalize allF s k n = L at C3 hl ⊢
  go_enter Tryz.func21, Tryz.ntmps21
  go_wp2_with (first
    | (go_at_call 56; refine C.out.mono ?_; rintro e w1 ⟨rfl, hw1⟩; subst hw1)
    | (go_at_call 59; refine C2.out.mono ?_; rintro e w1 ⟨rfl, hw1⟩; subst hw1)
    | (go_at_call 58; refine C3.out.mono ?_; rintro e w2 ⟨a2, c2, rfl, hr, hb, hg⟩; have HR := hid (And.intro hr (And.intro hb hg)); clear hr hb hg)
    | (go_at_call 57; refine (values_any _ _ _ _).mono ?_; rintro e w3 ⟨rfl, rfl⟩))
  go_ret2
  obtain ⟨hr, hb, hg⟩ := HR.out
  have hz := hb.size
  refine ⟨_, rfl, (HBB.out.trans (hb.mono (by omega))).alloc (by omega) _, w2.heap.size, a2, c2, rfl, heap_alloc_new w2 _, hr.alloc _, ?_, ?_⟩
  · simp; omega
  · intro g e
    have h1 := hg g e
    have h2 := (hr.lt g e).2
    simp; omega
end

theorem errOf_nil' (w : World) (hg : Glob w) : Calls Tryz.prog 22 #[.nilIface] w fun e w' => e = .returned .nilIface ∧ Below w.heap.size w w' := (errOf_nil 0 w hg).mono fun e w' ⟨h1, h2⟩ => ⟨by rw [h1]; simp [errV], h2⟩

set_option maxHeartbeats 400000 in
theorem mwalk_no {w : World} {F : Nat → Prop} {bx : Nat} {s : List Nd} {rs : List Sp} (hg : GG w) (hP : PLies w F bx ⟨s, rs⟩) (n : Int) (h : isB s n = false) :
    Calls Tryz.prog 11 #[ptr bx, .int .i64 n] w fun e w' => e = .returned (.tuple #[.nilFunc, errV n 1]) ∧ Below w.heap.size w w' := by
  obtain ⟨bf, bl, sv, hD⟩ := hP
  have C := hid (twalk_no hD.nodes n h)
  have c0 : w.cell? ⟨bx, 0, none⟩ = some (ptr bf) := cell_of_heap hD.doc 0
  have E := hid (fun w1 (hb : Below w.heap.size w w1) => errOf_P n 1 (by decide) w1 (hg.below hb).1)
  clear hD hg
  go_enter Tryz.func11, Tryz.ntmps11
  go_wp2_with first
    | (go_at_call 21; refine C.out.mono ?_; rintro e w1 ⟨rfl, hb1⟩; have E1 := hid (E.out w1 hb1))
    | (go_at_call 22; refine E1.out.mono ?_; rintro e w2 ⟨rfl, hb2⟩)
  go_ret2
  exact ⟨rfl, hb1.trans (hb2.mono hb1.size)⟩

set_option maxHeartbeats 400000 in
theorem mwalk_yes {w : World} {F : Nat → Prop} {bx : Nat} {s : List Nd} {rs : List Sp} (hg : GG w) (hP : PLies w F bx ⟨s, rs⟩) (wf : WF s) {h : Nat → Nat} {B : Nat} (u : Up s h B) (k n : Nat) (hn : n < s.length) (hk : h n < k) :
    Calls Tryz.prog 11 #[ptr bx, .int .i64 n] w (WalkPost w (allF s k n)) := by
  obtain ⟨bf, bl, sv, hD⟩ := hP
  have C := hid (twalk_yes wf u hD.nodes k n hn hk)
  have c0 : w.cell? ⟨bx, 0, none⟩ = some (ptr bf) := cell_of_heap hD.doc 0
  have E := hid (fun w1 (hb : Below w.heap.size w w1) => errOf_nil' w1 (hg.below hb).1)
  clear hD hg u wf hk
  go_enter Tryz.func11, Tryz.ntmps11
  go_wp2_with first
    | (go_at_call 21; refine C.out.mono ?_; rintro e w1 ⟨f, rfl, hb1, hW⟩; obtain ⟨wb, wa, wc, rfl, hW'⟩ := hW; have E1 := hid (E.out w1 hb1); have HW := hid hW'; clear hW')
    | (go_at_call 22; refine E1.out.mono ?_; rintro e w2 ⟨rfl, hb2⟩)
  go_ret2
  have hz := hb2.size
  refine ⟨_, rfl, hb1.trans (hb2.mono hb1.size), ?_⟩
  have hW : Walker w1 (fun b => w.heap.size ≤ b ∧ b < w2.heap.size) (.func (.func 95) #[] #[ptr wb]) (allF s k n) := ⟨wb, wa, wc, rfl, HW.out.1, HW.out.2.1, ⟨HW.out.2.2.1.1, by have := HW.out.2.2.1.2; omega⟩, fun g e => ⟨(HW.out.2.2.2 g e).1, by have := (HW.out.2.2.2 g e).2; omega⟩⟩
  exact hW.keeps (Keeps.of_below (F := fun _ => False) hb2) (fun _ _ e => e)

end Go.Proofs.YtnplbbclgpieaaaGreatDoor
