import Derived.Test.YtabogkonklplcaaGreatDoorC36
import Derived.Test.YtabogkonklplcaaGreatDoorC35
import Derived.Test.YtabogkonklplcaaGreatDoorC29
import Derived.Test.YtabogkonklplcaaGreatDoorC07
import Derived.Deep.RegionWith
import Derived.Deep.Cut
import Derived.Deep.CutRange

/- tree.attach; tree.mayInsert; tree.Insert. -/
namespace Go.Proofs.YtabogkonklplcaaGreatDoor
open Go.RowKit
set_option linter.unusedSimpArgs false
set_option linter.unusedVariables false

section
variable {w : World} {F : Nat → Prop} {bf bn cap : Nat} {pn : List PN} {s : List Nd}

/-- One node's children are others now, in the list's own block or in a new one; then its field is stored. -/
theorem PForAt.setKids (h : PForAt w F bf bn cap pn s) {i g c : Nat} {r : PN} {x : Nd} (hr : pn[i]? = some r) (hx : s[i]? = some x) {w2 : World} {ks : List Nat} (hk : Keeps (fun b => r.kv.ownBlock = some b) w w2)
    (hrow : w2.ownsRow 0 3 1 (.slice (some ⟨g, 0, none⟩) ks.length c) ks.length (intsV ks)) (hg : r.kv.ownBlock = some g ∨ w.heap.size ≤ g) {G : Nat → Prop} (hG : ∀ b, F b ∨ w.heap.size ≤ b → G b) :
    PForAt (w2.setCell ⟨bn, i * 4 + 2, none⟩ (.slice (some ⟨g, 0, none⟩) ks.length c)) G bf bn cap (pn.set i { r with kv := .slice (some ⟨g, 0, none⟩) ks.length c }) (s.set i { x with ks := ks }) := by
  have ho := h.ok i r x hr hx
  have hi := (List.getElem?_eq_some_iff.1 hr).1
  have hi' := (List.getElem?_eq_some_iff.1 hx).1
  have hlt := h.lt
  have hgf : g ≠ bf := by
    rcases hg with e | e
    · exact (ho.apart g e).2.1
    · omega
  have hgn : g ≠ bn := by
    rcases hg with e | e
    · exact (ho.apart g e).2.2
    · omega
  have hk2 : Keeps (fun b => b = bn) w2 (w2.setCell ⟨bn, i * 4 + 2, none⟩ (.slice (some ⟨g, 0, none⟩) ks.length c)) := (Keeps.refl (fun b => b = bn) w2).setCell (p := ⟨bn, i * 4 + 2, none⟩) (.inl rfl) _
  refine ⟨?_, ?_, hG _ (.inl h.Ff), hG _ (.inl h.Fn), h.ne, by simpa using h.len, ?_, ?_⟩
  · have e1 := hk.block bf hlt.1 (fun e => (ho.apart bf e).2.1 rfl)
    rw [hk2.block bf (by have := hk.size; omega) h.ne, e1, List.length_set]
    exact h.forest
  · have hn := hk.row h.nodes (fun b e e2 => by cases e; exact (ho.apart _ e2).2.2 rfl)
    have := (hn.stored (i * 4 + 2) (.slice (some ⟨g, 0, none⟩) ks.length c)).1
    rw [pcells_set pn i r { r with kv := .slice (some ⟨g, 0, none⟩) ks.length c } hr 2 (by omega) _ rfl] at this
    rw [List.length_set]
    exact this
  · intro k r1 x1 h1 h2
    rw [List.getElem?_set] at h1 h2
    by_cases hik : i = k
    · subst hik
      rw [if_pos rfl, if_pos hi] at h1
      rw [if_pos rfl, if_pos hi'] at h2
      cases h1
      cases h2
      refine ⟨ho.t, ho.p, ho.ch, hk2.row hrow (fun b e e2 => by cases e; exact hgn e2), fun b e => ?_⟩
      cases e
      refine ⟨hG _ ?_, hgf, hgn⟩
      rcases hg with e | e
      · exact .inl (ho.apart g e).1
      · exact .inr e
    · rw [if_neg hik] at h1 h2
      have o := h.ok k r1 x1 h1 h2
      have o2 : POk w2 F bf bn r1 x1 := o.keeps hk (fun b e e2 => h.sep i k r r1 hik hr h1 b e2 e)
      have o3 := o2.keeps hk2 (fun b e e2 => (o.apart b e).2.2 e2)
      exact ⟨o3.t, o3.p, o3.ch, o3.kids, fun b e => ⟨hG _ (.inl (o3.apart b e).1), (o3.apart b e).2⟩⟩
  · have key : ∀ (k : Nat) (r1 : PN), k ≠ i → pn[k]? = some r1 → r1.kv.ownBlock ≠ some g := by
      intro k r1 hki h1 e
      rcases hg with eg | eg
      · exact h.sep i k r r1 (fun e => hki e.symm) hr h1 g eg e
      · have hkl : k < s.length := by rw [← h.len]; exact (List.getElem?_eq_some_iff.1 h1).1
        have o := h.ok k r1 _ h1 (List.getElem?_eq_getElem hkl)
        have := (o.kids.lt g e).2
        omega
    intro a b ra rb hab h1 h2 c' e
    rw [List.getElem?_set] at h1 h2
    by_cases ha : i = a
    · subst ha
      rw [if_pos rfl, if_pos hi] at h1
      cases h1
      rw [if_neg hab] at h2
      cases e
      exact key b rb (fun e => hab e.symm) h2
    · rw [if_neg ha] at h1
      by_cases hb : i = b
      · subst hb
        rw [if_pos rfl, if_pos hi] at h2
        cases h2
        intro e2
        cases e2
        exact key a ra (fun e => ha e.symm) h1 e
      · rw [if_neg hb] at h2
        exact h.sep a b ra rb hab h1 h2 c' e

/-- The two stores behind slices.Insert. -/
theorem PForAt.afterInsert (h : PForAt w F bf bn cap pn s) {i j g c k : Nat} {r : PN} {x y : Nd} (hr : pn[i]? = some r) (hx : s[i]? = some x) (hy : s[j]? = some y) (hij : i ≠ j) (hkl : k ≤ x.ks.length) {wa w2 : World} (hwa : Below w.heap.size w wa)
    (hk : Keeps (fun b => r.kv.ownBlock = some b) wa w2) (hrow : w2.ownsRow 0 3 1 (.slice (some ⟨g, 0, none⟩) (x.ks.length + 1) c) (x.ks.length + 1) (intsV (putAt x.ks k j))) (hg : r.kv.ownBlock = some g ∨ wa.heap.size ≤ g) :
    Keeps F w ((w2.setCell ⟨bn, i * 4 + 2, none⟩ (.slice (some ⟨g, 0, none⟩) (x.ks.length + 1) c)).setCell ⟨bn, j * 4, none⟩ (.int .i64 (i : Int))) ∧
      PFor ((w2.setCell ⟨bn, i * 4 + 2, none⟩ (.slice (some ⟨g, 0, none⟩) (x.ks.length + 1) c)).setCell ⟨bn, j * 4, none⟩ (.int .i64 (i : Int))) (grow F w) bf ((s.set i { x with ks := x.ks.take k ++ j :: x.ks.drop k }).set j { y with p := i }) := by
  have hl := putAt_length x.ks k j hkl
  rw [← hl] at hrow ⊢
  have ho := h.ok i r x hr hx
  have hsz := hwa.size
  have h3 := (h.below hwa).setKids hr hx hk hrow hg (G := grow F w) (fun b e => e.imp id (fun e => by omega))
  have hy3 : (s.set i { x with ks := putAt x.ks k j })[j]? = some y := by rw [List.getElem?_set_ne hij]; exact hy
  obtain ⟨pn4, h4⟩ := h3.newPar i hy3
  refine ⟨?_, bn, cap, pn4, h4⟩
  have k1 : Keeps F w w2 := (Keeps.of_below hwa).trans (hk.mono (fun b _ e => .inl (ho.apart b e).1))
  exact (k1.setCell (p := ⟨bn, i * 4 + 2, none⟩) (.inl h.Fn) _).setCell (p := ⟨bn, j * 4, none⟩) (.inl h.Fn) _

theorem cellsOfRow {w : World} {g c n : Nat} {e : TypeId} {vs : List Value} (h : w.ownsRow 0 e 4 (.slice (some ⟨g, 0, none⟩) n c) n vs) (k : Nat) (hk : k < n * 4) : ∃ v, w.cell? ⟨g, k, none⟩ = some v ∧ w.frozen? ⟨g, k, none⟩ = false := by
  have h1 := h.cellAt k hk
  have hl : k < vs.length := by rw [h.1]; exact hk
  obtain ⟨_, h2⟩ := h
  rcases h2 with ⟨h3, _⟩ | ⟨g', c', cur, hv, _, hh, _⟩
  · cases h3
  · cases hv
    exact ⟨vs[k], by rw [h1]; exact List.getElem?_eq_getElem hl, frozen_of_heap hh _⟩

def AttPost (F : Nat → Prop) (w : World) (bf : Nat) (s' : List Nd) (e : Ending) (w' : World) : Prop := e = .returned (.tuple #[]) ∧ Keeps F w w' ∧ PFor w' (grow F w) bf s'

set_option maxRecDepth 20000 in
set_option maxHeartbeats 400000 in
theorem attach_any (hD : PForAt w F bf bn cap pn s) (i j k : Nat) (x y : Nd) (hx : s[i]? = some x) (hy : s[j]? = some y) (hk : k ≤ x.ks.length) (hij : i ≠ j) (hbig : s.length < lots) (hkb : x.ks.length < lots) :
    Calls Tryz.prog 107 #[ptr bf, .int .i64 i, .int .i64 j, .int .i64 k] w (AttPost F w bf ((s.set i { x with ks := x.ks.take k ++ j :: x.ks.drop k }).set j { y with p := i })) := by
  have hi : i < s.length := (List.getElem?_eq_some_iff.1 hx).1
  have hj : j < s.length := (List.getElem?_eq_some_iff.1 hy).1
  have h0 := hD.nodesCell
  obtain ⟨r, hr, ho, c0, c1, c2, c3⟩ := hD.look hx
  obtain ⟨sa, sc, hkv⟩ : ∃ a c, r.kv = .slice a x.ks.length c := by
    rcases row_cases ho.kids with ⟨h1, h2⟩ | ⟨g, c, h1⟩
    · exact ⟨none, 0, by rw [h1, h2]⟩
    · exact ⟨_, _, h1⟩
  have hwa : Below w.heap.size w (w.alloc (.cells #[.int .i64 (j : Int)] 3)) := (Below.refl _ w).alloc (Nat.le_refl _) _
  have hDa := hD.below hwa
  have C := hid (ins_one (hDa.ok i r x hr hx).kids k j hk hkb (heap_alloc_new w (.cells #[.int .i64 (j : Int)] 3)) (fun e => by have := (ho.kids.lt _ e).2; omega))
  have AFT := hid (fun w2 g c hk' hrow hg => hD.afterInsert (w2 := w2) (g := g) (c := c) hr hx hy hij hk hwa hk' hrow hg)
  have CELLS := hid (fun (w2 : World) (hk' : Keeps (fun b => r.kv.ownBlock = some b) (w.alloc (.cells #[.int .i64 (j : Int)] 3)) w2) => (And.intro ((hk'.cell hDa.nodesCell (fun e => (ho.apart _ e).2.1 rfl))) (hk'.row hDa.nodes (fun b e e2 => by cases e; exact (ho.apart _ e2).2.2 rfl))))
  rw [hkv] at c2 C AFT CELLS
  have hlt := hD.lt
  have hbfn : ¬ bf = bn := hD.ne
  have hlen := hD.len
  clear hD c0 c1 c3 hr ho hDa hkv hx hy hbig hkb
  go_enter Tryz.func107, Tryz.ntmps107
  go_wp2_with (go_at_call 156; refine C.out.mono ?_; rintro e w2 ⟨g, c, rfl, hrow, hk', hg⟩
               have AF := hid (AFT.out w2 g c hk' hrow hg)
               obtain ⟨f0, fn⟩ := CELLS.out w2 hk'
               have FN := hid fn
               obtain ⟨v2, f2, f2f⟩ := cellsOfRow fn (i * 4 + 2) (by omega)
               obtain ⟨v3, f3, f3f⟩ := cellsOfRow fn (j * 4) (by omega)
               clear fn hrow hk' hg)
  go_end0
  exact ⟨rfl, AF.out⟩

set_option maxHeartbeats 400000 in
theorem may_parent (hD : PForAt w F bf bn cap pn s) (A B C : Int) (h : isB s A = false) : Calls Tryz.prog 146 #[ptr bf, .int .i64 A, .int .i64 B, .int .i64 C] w fun e w' => e = .returned (refusalV A 1) ∧ Below w.heap.size w w' := by
  have C1 := hid (find_no hD A h)
  clear hD h
  go_enter Tryz.func146, Tryz.ntmps146
  go_wp2_with (go_at_call 87; refine C1.out.mono ?_; rintro e w1 ⟨rfl, rfl⟩)
  go_ret
  exact ⟨rfl, Below.refl _ _⟩

set_option maxHeartbeats 400000 in
theorem may_node (hD : PForAt w F bf bn cap pn s) (A B C : Int) (hA : isB s A = true) (h : isB s B = false) : Calls Tryz.prog 146 #[ptr bf, .int .i64 A, .int .i64 B, .int .i64 C] w fun e w' => e = .returned (refusalV B 1) ∧ Below w.heap.size w w' := by
  have C1 := hid (find_yes hD A hA)
  have C2 := hid (find_no hD B h)
  clear hD h hA
  go_enter Tryz.func146, Tryz.ntmps146
  go_wp2_with (go_at_call 87; (first | (refine C1.out.mono ?_; clear C1; rintro e w1 ⟨rfl, hw1⟩; subst hw1) | (refine C2.out.mono ?_; clear C2; rintro e w1 ⟨rfl, hw1⟩; subst hw1)))
  go_ret
  exact ⟨rfl, Below.refl _ _⟩

set_option maxHeartbeats 1000000 in
theorem may_kind (hD : PForAt w F bf bn cap pn s) (i j : Nat) (C : Int) (x : Nd) (hx : s[i]? = some x) (hj : j < s.length) (ht : x.t = true) : Calls Tryz.prog 146 #[ptr bf, .int .i64 i, .int .i64 j, .int .i64 C] w fun e w' => e = .returned (refusalV i 2) ∧ Below w.heap.size w w' := by
  have hi : i < s.length := (List.getElem?_eq_some_iff.1 hx).1
  have C1 := hid (find_yes hD i (isB_of (by omega)))
  have C2 := hid (find_yes hD j (isB_of (by omega)))
  have h0 := hD.nodesCell
  obtain ⟨r, hr, ho, c0, c1, c2, c3⟩ := hD.look hx
  rw [ht] at c1
  clear hD hx ho hr c0 c2 c3
  go_enter Tryz.func146, Tryz.ntmps146
  go_wp2_with (go_at_call 87; (first | (refine C1.out.mono ?_; clear C1; rintro e w1 ⟨rfl, hw1⟩; subst hw1) | (refine C2.out.mono ?_; clear C2; rintro e w1 ⟨rfl, hw1⟩; subst hw1)))
  go_ret
  exact ⟨rfl, Below.refl _ _⟩
end
end Go.Proofs.YtabogkonklplcaaGreatDoor

/- marginref's Insert, where it is done. -/
namespace Go.Proofs.YtabogkonklplcaaGreatDoor
open Go.RowKit
set_option linter.unusedSimpArgs false
set_option linter.unusedVariables false

section
variable {w : World} {F : Nat → Prop} {bd bn cap : Nat} {rn : List RN} {rv : Value} {s : List Nd} {rs : List Sp}

set_option maxRecDepth 20000 in
set_option maxHeartbeats 1000000 in
theorem rinsert_done (hD : RDocAt w F bd bn cap rn rv s []) {ht : Nat → Nat} {B : Nat} (hU : Up s ht B) (i j k : Nat) (x y : Nd) (h : InsOk s i j x y) (hw : Lim (fun c => withinF s c (i : Int) (j : Int)) false) (hk : k ≤ x.ks.length) (hbig : x.ks.length < lots) (hij : i ≠ j) :
    Calls Tryz.prog 75 #[.pointer (some ⟨bd, 0, none⟩), .int .i64 i, .int .i64 j, .int .i64 k] w fun e w' => e = .returned (.agg #[.int .i64 0, .int .i64 0]) ∧ Keeps F w w' ∧
      RDoc w' (fun b => F b ∨ w.heap.size ≤ b) bd ((s.set i { x with ks := x.ks.take k ++ j :: x.ks.drop k }).set j { y with p := i }) [] := by
  obtain ⟨hx, hy, ht0, hj, hyp⟩ := h
  have hi : i < s.length := (List.getElem?_eq_some_iff.1 hx).1
  have hj' : j < s.length := (List.getElem?_eq_some_iff.1 hy).1
  have hp : isB s i = true := isB_of (by omega)
  have hn : isB s j = true := isB_of (by omega)
  have h0 := hD.nodesCell
  have hl := hD.lt.1
  have hl2 := hD.lt.2
  have HX := hid (hx)
  have HY := hid (hy)
  obtain ⟨r, hr, ho, hc0, -, hc2, -⟩ := hD.look hx
  obtain ⟨r', hr', ho', -, -, -, hc3⟩ := hD.look hy
  obtain ⟨a, c, hv⟩ := slice_shape ho.kids
  rw [hv] at hc2
  have HR : Hid (w.ownsRow 0 3 1 (.slice a x.ks.length c) x.ks.length (intsV x.ks)) := by rw [← hv]; exact ho.kids
  rw [ht0] at hc0
  have HD := hid (hD.narrow.faultAt)
  have HU := hid (hU)
  have HW := hid (hw)
  have HBIG := hid (hbig)
  have hj0 : ((j : Int) == 0) = false := by simp; omega
  have hkk : decide ((x.ks.length : Int) < (k : Int)) = false := decide_eq_false (by omega)
  have hyd : decide (0 ≤ y.p) = false := decide_eq_false (by omega)
  clear hD hr ho hx hr' ho' hy ht0 hU hw hbig
  go_enter Tryz.func75, Tryz.ntmps75
  go_wp2_with (first
    | (go_at_call 47; refine (is_at HD.out _).mono ?_; rintro e w' ⟨rfl, rfl⟩)
    | (go_at_call 116; refine (within_at HD.out HU.out _ _ (by omega) HW.out).mono ?_; rintro e w' ⟨rfl, rfl⟩))
  go_cut [] from 13 to 153 (fun wc => ∃ rn2 : List RN, RDocAt wc (fun b => (F b ∧ b < w.heap.size) ∨ w.heap.size + 1 ≤ b) bd bn cap rn2 rv (s.set i { x with ks := x.ks.take k ++ j :: x.ks.drop k }) [] ∧ Keeps F w wc ∧ wc.heap[w.heap.size]? = some (.cells #[.int .i64 0, .int .i64 0] 32 (0, 0)))
  case first =>
    go_region_with (
      go_at_call 117
      refine (with_any x.ks (.slice a x.ks.length c) k j _ ?_ hk HBIG.out).mono ?_
      · exact ((((Keeps.refl (fun _ => False) w).alloc _).drew).row HR.out (fun _ _ e => e))
      rintro e w1 ⟨v', rfl, hrow, hb⟩
      have hD1 : RDocAt w1 (fun b => F b ∧ b < w.heap.size) bd bn cap rn rv s [] := HD.out.below ⟨hb.os, hb.tape, hb.output, hb.size, hb.block⟩
      have h01 := hD1.nodesCell
      obtain ⟨a', c', hv'⟩ := slice_shape hrow
      subst hv'
      obtain ⟨r1, hr1, ho1, -, -, hc21, -⟩ := hD1.look HX.out
      have hf21 := hD1.nodes.frozenAt (i * 4 + 2)
      have HD1 := hid (hD1)
      have HB1 := hid (hb)
      have HROW := hid (hrow)
      have HR1 := hid (hr1)
      have HO1 := hid (ho1)
      clear hD1 hb hrow hr1 ho1)
    all_goals
      go_wp2_with fail
      go_meet
      case rel =>
        have hrow : w1.ownsRow (w.heap.size + 1) 3 1 (.slice a' (x.ks.length + 1) c') (x.ks.take k ++ j :: x.ks.drop k).length (intsV (x.ks.take k ++ j :: x.ks.drop k)) := by
          have := HROW.out
          rw [show (x.ks.take k ++ j :: x.ks.drop k).length = x.ks.length + 1 by simp; omega]
          simp only [World.size_drew, World.size_alloc] at this
          exact this
        obtain ⟨rn2, h2⟩ := HD1.out.newKids (N := w.heap.size + 1) (fun b e => by omega) HX.out hrow
        have hk1 : Keeps F w w1 := ((Keeps.refl F w).alloc _).trans (Keeps.of_below ⟨HB1.out.os, HB1.out.tape, HB1.out.output, HB1.out.size, HB1.out.block⟩)
        have hq : w1.heap[w.heap.size]? = some (.cells #[.int .i64 0, .int .i64 0] 32 (0, 0)) := (HB1.out.block w.heap.size (by simp)).trans (heap_alloc_new w _)
        refine ⟨rn2, h2, hk1.setCell (p := ⟨bn, i * 4 + 2, none⟩) (.inl HD1.out.Fn.1) _, ?_⟩
        rw [Below.heap_setCell _ _ _ _ (by simp; omega)]
        exact hq
  case rest =>
    obtain ⟨rn2, hD2, hK2, hq2⟩ := hcut
    have hl21 := hD2.lt
    have hy2 : (s.set i { x with ks := x.ks.take k ++ j :: x.ks.drop k })[j]? = some y := by rw [List.getElem?_set, if_neg hij]; exact HY.out
    obtain ⟨r2, hr2, ho2, -, -, -, hc32⟩ := hD2.look hy2
    have hf32 := hD2.nodes.frozenAt (j * 4 + 3)
    have h02 := hD2.nodesCell
    rw [List.length_set] at h02
    have hrv : rv = .slice none 0 0 ∨ ∃ a c, rv = .slice a 0 c := by
      obtain ⟨a, c, e⟩ := slice_shape hD2.ranges
      exact .inr ⟨a, c, e⟩
    obtain ⟨ra, rc, hrv⟩ : ∃ a c, rv = .slice a 0 c := slice_shape hD2.ranges
    have h12 := hD2.rangesCell
    rw [hrv] at h12
    have hqc0 : wc.cell? ⟨w.heap.size, 0, none⟩ = some (.int .i64 0) := cell_of_heap hq2 0
    have hqc1 : wc.cell? ⟨w.heap.size, 1, none⟩ = some (.int .i64 0) := cell_of_heap hq2 1
    have hqf0 := frozen_of_heap hq2 0
    have hqf1 := frozen_of_heap hq2 1
    have hne1 : ¬ bn = w.heap.size := by omega
    have hne2 : ¬ bd = bn := HD.out.ne
    have HD2 := hid (hD2)
    have HK2 := hid (hK2)
    have HY2 := hid (hy2)
    clear hD2 hK2 hq2 hr2 ho2 hy2 hrv
    go_wp2
    go_rounds 1
    go_wp2
    refine bodyPost_ret (v := .agg #[.int .i64 0, .int .i64 0]) (by simp [results, Tryz.results75, go_sem, *]) rfl ?_
    obtain ⟨rn3, h3⟩ := HD2.out.newPar (i : Int) HY2.out
    refine ⟨rfl, ((HK2.out.setCell (p := ⟨bn, j * 4 + 3, none⟩) (.inl HD.out.Fn.1) _).setCell (p := ⟨w.heap.size, 0, none⟩) (.inr (Nat.le_refl _)) _).setCell (p := ⟨w.heap.size, 1, none⟩) (.inr (Nat.le_refl _)) _, bn, cap, rn3, rv, ?_⟩
    refine (h3.keeps (((Keeps.refl (fun b => b = w.heap.size) _).setCell (p := ⟨w.heap.size, 0, none⟩) (.inl rfl) _).setCell (p := ⟨w.heap.size, 1, none⟩) (.inl rfl) _) ?_).wider ?_
    · intro b hb e
      rcases hb with hb | hb <;> omega
    · intro b hb
      rcases hb with hb | hb
      · exact .inl hb.1
      · exact .inr (by omega)
end

end Go.Proofs.YtabogkonklplcaaGreatDoor
