import Derived.Test.YtabogkonklplcaaGreatDoorA52
import Derived.Test.YtabogkonklplcaaGreatDoorA50
import Derived.Test.YtabogkonklplcaaGreatDoorA41

/- tree.attach; tree.mayInsert; tree.Insert. -/
namespace Go.Proofs.YtabogkonklplcaaGreatDoor
open Go.RowKit
set_option linter.unusedSimpArgs false
set_option linter.unusedVariables false

section
variable {w : World} {F : Nat → Prop} {bf bn cap : Nat} {pn : List PN} {s : List Nd}

/-- One node's children are others now, in the list's own block or in a new one; then its field is stored. -/
theorem PForAt.setKids (h : PForAt w F bf bn cap pn s) {i g c : Nat} {r : PN} {x : Nd} (hr : pn[i]? = some r) (hx : s[i]? = some x) {w2 : World} {ks : List Nat} (hk : Keeps (fun b => r.kv.ownBlock = some b) w w2)
    (hrow : w2.ownsRow 0 3 1 (.slice (some ⟨g, 0, none⟩) ks.length c) ks.length (intsV ks)) (hg : r.kv.ownBlock = some g ∨ w.heap.size ≤ g) {G : Nat → Prop} (hG : ∀ b, F b ∨ w.heap.size ≤ b → G b) :
    PForAt (w2.setCell ⟨bn, i * 4 + 2, none⟩ (.slice (some ⟨g, 0, none⟩) ks.length c)) G bf bn cap (pn.set i { r with kv := .slice (some ⟨g, 0, none⟩) ks.length c }) (s.set i { x with ks := ks }) := by
  have ho := h.ok i r x hr hx
  have hi := (List.getElem?_eq_some_iff.1 hr).1
  have hi' := (List.getElem?_eq_some_iff.1 hx).1
  have hlt := h.lt
  have hgf : g ≠ bf := by
    rcases hg with e | e
    · exact (ho.apart g e).2.1
    · omega
  have hgn : g ≠ bn := by
    rcases hg with e | e
    · exact (ho.apart g e).2.2
    · omega
  have hk2 : Keeps (fun b => b = bn) w2 (w2.setCell ⟨bn, i * 4 + 2, none⟩ (.slice (some ⟨g, 0, none⟩) ks.length c)) := (Keeps.refl (fun b => b = bn) w2).setCell (p := ⟨bn, i * 4 + 2, none⟩) (.inl rfl) _
  refine ⟨?_, ?_, hG _ (.inl h.Ff), hG _ (.inl h.Fn), h.ne, by simpa using h.len, ?_, ?_⟩
  · have e1 := hk.block bf hlt.1 (fun e => (ho.apart bf e).2.1 rfl)
    rw [hk2.block bf (by have := hk.size; omega) h.ne, e1, List.length_set]
    exact h.forest
  · have hn := hk.row h.nodes (fun b e e2 => by cases e; exact (ho.apart _ e2).2.2 rfl)
    have := (hn.stored (i * 4 + 2) (.slice (some ⟨g, 0, none⟩) ks.length c)).1
    rw [pcells_set pn i r { r with kv := .slice (some ⟨g, 0, none⟩) ks.length c } hr 2 (by omega) _ rfl] at this
    rw [List.length_set]
    exact this
  · intro k r1 x1 h1 h2
    rw [List.getElem?_set] at h1 h2
    by_cases hik : i = k
    · subst hik
      rw [if_pos rfl, if_pos hi] at h1
      rw [if_pos rfl, if_pos hi'] at h2
      cases h1
      cases h2
      refine ⟨ho.t, ho.p, ho.ch, hk2.row hrow (fun b e e2 => by cases e; exact hgn e2), fun b e => ?_⟩
      cases e
      refine ⟨hG _ ?_, hgf, hgn⟩
      rcases hg with e | e
      · exact .inl (ho.apart g e).1
      · exact .inr e
    · rw [if_neg hik] at h1 h2
      have o := h.ok k r1 x1 h1 h2
      have o2 : POk w2 F bf bn r1 x1 := o.keeps hk (fun b e e2 => h.sep i k r r1 hik hr h1 b e2 e)
      have o3 := o2.keeps hk2 (fun b e e2 => (o.apart b e).2.2 e2)
      exact ⟨o3.t, o3.p, o3.ch, o3.kids, fun b e => ⟨hG _ (.inl (o3.apart b e).1), (o3.apart b e).2⟩⟩
  · have key : ∀ (k : Nat) (r1 : PN), k ≠ i → pn[k]? = some r1 → r1.kv.ownBlock ≠ some g := by
      intro k r1 hki h1 e
      rcases hg with eg | eg
      · exact h.sep i k r r1 (fun e => hki e.symm) hr h1 g eg e
      · have hkl : k < s.length := by rw [← h.len]; exact (List.getElem?_eq_some_iff.1 h1).1
        have o := h.ok k r1 _ h1 (List.getElem?_eq_getElem hkl)
        have := (o.kids.lt g e).2
        omega
    intro a b ra rb hab h1 h2 c' e
    rw [List.getElem?_set] at h1 h2
    by_cases ha : i = a
    · subst ha
      rw [if_pos rfl, if_pos hi] at h1
      cases h1
      rw [if_neg hab] at h2
      cases e
      exact key b rb (fun e => hab e.symm) h2
    · rw [if_neg ha] at h1
      by_cases hb : i = b
      · subst hb
        rw [if_pos rfl, if_pos hi] at h2
        cases h2
        intro e2
        cases e2
        exact key a ra (fun e => ha e.symm) h1 e
      · rw [if_neg hb] at h2
        exact h.sep a b ra rb hab h1 h2 c' e

/-- The two stores behind slices.Insert. -/
theorem PForAt.afterInsert (h : PForAt w F bf bn cap pn s) {i j g c k : Nat} {r : PN} {x y : Nd} (hr : pn[i]? = some r) (hx : s[i]? = some x) (hy : s[j]? = some y) (hij : i ≠ j) (hkl : k ≤ x.ks.length) {wa w2 : World} (hwa : Below w.heap.size w wa)
    (hk : Keeps (fun b => r.kv.ownBlock = some b) wa w2) (hrow : w2.ownsRow 0 3 1 (.slice (some ⟨g, 0, none⟩) (x.ks.length + 1) c) (x.ks.length + 1) (intsV (putAt x.ks k j))) (hg : r.kv.ownBlock = some g ∨ wa.heap.size ≤ g) :
    Keeps F w ((w2.setCell ⟨bn, i * 4 + 2, none⟩ (.slice (some ⟨g, 0, none⟩) (x.ks.length + 1) c)).setCell ⟨bn, j * 4, none⟩ (.int .i64 (i : Int))) ∧
      PFor ((w2.setCell ⟨bn, i * 4 + 2, none⟩ (.slice (some ⟨g, 0, none⟩) (x.ks.length + 1) c)).setCell ⟨bn, j * 4, none⟩ (.int .i64 (i : Int))) (grow F w) bf ((s.set i { x with ks := x.ks.take k ++ j :: x.ks.drop k }).set j { y with p := i }) := by
  have hl := putAt_length x.ks k j hkl
  rw [← hl] at hrow ⊢
  have ho := h.ok i r x hr hx
  have hsz := hwa.size
  have h3 := (h.below hwa).setKids hr hx hk hrow hg (G := grow F w) (fun b e => e.imp id (fun e => by omega))
  have hy3 : (s.set i { x with ks := putAt x.ks k j })[j]? = some y := by rw [List.getElem?_set_ne hij]; exact hy
  obtain ⟨pn4, h4⟩ := h3.newPar i hy3
  refine ⟨?_, bn, cap, pn4, h4⟩
  have k1 : Keeps F w w2 := (Keeps.of_below hwa).trans (hk.mono (fun b _ e => .inl (ho.apart b e).1))
  exact (k1.setCell (p := ⟨bn, i * 4 + 2, none⟩) (.inl h.Fn) _).setCell (p := ⟨bn, j * 4, none⟩) (.inl h.Fn) _

theorem cellsOfRow {w : World} {g c n : Nat} {e : TypeId} {vs : List Value} (h : w.ownsRow 0 e 4 (.slice (some ⟨g, 0, none⟩) n c) n vs) (k : Nat) (hk : k < n * 4) : ∃ v, w.cell? ⟨g, k, none⟩ = some v ∧ w.frozen? ⟨g, k, none⟩ = false := by
  have h1 := h.cellAt k hk
  have hl : k < vs.length := by rw [h.1]; exact hk
  obtain ⟨_, h2⟩ := h
  rcases h2 with ⟨h3, _⟩ | ⟨g', c', cur, hv, _, hh, _⟩
  · cases h3
  · cases hv
    exact ⟨vs[k], by rw [h1]; exact List.getElem?_eq_getElem hl, frozen_of_heap hh _⟩

def AttPost (F : Nat → Prop) (w : World) (bf : Nat) (s' : List Nd) (e : Ending) (w' : World) : Prop := e = .returned (.tuple #[]) ∧ Keeps F w w' ∧ PFor w' (grow F w) bf s'

set_option maxRecDepth 20000 in
set_option maxHeartbeats 400000 in
theorem attach_any (hD : PForAt w F bf bn cap pn s) (i j k : Nat) (x y : Nd) (hx : s[i]? = some x) (hy : s[j]? = some y) (hk : k ≤ x.ks.length) (hij : i ≠ j) (hbig : s.length < lots) (hkb : x.ks.length < lots) :
    Calls Tryz.prog 107 #[ptr bf, .int .i64 i, .int .i64 j, .int .i64 k] w (AttPost F w bf ((s.set i { x with ks := x.ks.take k ++ j :: x.ks.drop k }).set j { y with p := i })) := by
  have hi : i < s.length := (List.getElem?_eq_some_iff.1 hx).1
  have hj : j < s.length := (List.getElem?_eq_some_iff.1 hy).1
  have h0 := hD.nodesCell
  obtain ⟨r, hr, ho, c0, c1, c2, c3⟩ := hD.look hx
  obtain ⟨sa, sc, hkv⟩ : ∃ a c, r.kv = .slice a x.ks.length c := by
    rcases row_cases ho.kids with ⟨h1, h2⟩ | ⟨g, c, h1⟩
    · exact ⟨none, 0, by rw [h1, h2]⟩
    · exact ⟨_, _, h1⟩
  have hwa : Below w.heap.size w (w.alloc (.cells #[.int .i64 (j : Int)] 3)) := (Below.refl _ w).alloc (Nat.le_refl _) _
  have hDa := hD.below hwa
  have C := hid (ins_one (hDa.ok i r x hr hx).kids k j hk hkb (heap_alloc_new w (.cells #[.int .i64 (j : Int)] 3)) (fun e => by have := (ho.kids.lt _ e).2; omega))
  have AFT := hid (fun w2 g c hk' hrow hg => hD.afterInsert (w2 := w2) (g := g) (c := c) hr hx hy hij hk hwa hk' hrow hg)
  have CELLS := hid (fun (w2 : World) (hk' : Keeps (fun b => r.kv.ownBlock = some b) (w.alloc (.cells #[.int .i64 (j : Int)] 3)) w2) => (And.intro ((hk'.cell hDa.nodesCell (fun e => (ho.apart _ e).2.1 rfl))) (hk'.row hDa.nodes (fun b e e2 => by cases e; exact (ho.apart _ e2).2.2 rfl))))
  rw [hkv] at c2 C AFT CELLS
  have hlt := hD.lt
  have hbfn : ¬ bf = bn := hD.ne
  have hlen := hD.len
  clear hD c0 c1 c3 hr ho hDa hkv hx hy hbig hkb
  go_enter Tryz.func107, Tryz.ntmps107
  go_wp2_with (go_at_call 156; refine C.out.mono ?_; rintro e w2 ⟨g, c, rfl, hrow, hk', hg⟩
               have AF := hid (AFT.out w2 g c hk' hrow hg)
               obtain ⟨f0, fn⟩ := CELLS.out w2 hk'
               have FN := hid fn
               obtain ⟨v2, f2, f2f⟩ := cellsOfRow fn (i * 4 + 2) (by omega)
               obtain ⟨v3, f3, f3f⟩ := cellsOfRow fn (j * 4) (by omega)
               clear fn hrow hk' hg)
  go_end0
  exact ⟨rfl, AF.out⟩

set_option maxHeartbeats 400000 in
theorem may_parent (hD : PForAt w F bf bn cap pn s) (A B C : Int) (h : isB s A = false) : Calls Tryz.prog 146 #[ptr bf, .int .i64 A, .int .i64 B, .int .i64 C] w fun e w' => e = .returned (refusalV A 1) ∧ Below w.heap.size w w' := by
  have C1 := hid (find_no hD A h)
  clear hD h
  go_enter Tryz.func146, Tryz.ntmps146
  go_wp2_with (go_at_call 87; refine C1.out.mono ?_; rintro e w1 ⟨rfl, rfl⟩)
  go_ret
  exact ⟨rfl, Below.refl _ _⟩

set_option maxHeartbeats 400000 in
theorem may_node (hD : PForAt w F bf bn cap pn s) (A B C : Int) (hA : isB s A = true) (h : isB s B = false) : Calls Tryz.prog 146 #[ptr bf, .int .i64 A, .int .i64 B, .int .i64 C] w fun e w' => e = .returned (refusalV B 1) ∧ Below w.heap.size w w' := by
  have C1 := hid (find_yes hD A hA)
  have C2 := hid (find_no hD B h)
  clear hD h hA
  go_enter Tryz.func146, Tryz.ntmps146
  go_wp2_with (go_at_call 87; (first | (refine C1.out.mono ?_; clear C1; rintro e w1 ⟨rfl, hw1⟩; subst hw1) | (refine C2.out.mono ?_; clear C2; rintro e w1 ⟨rfl, hw1⟩; subst hw1)))
  go_ret
  exact ⟨rfl, Below.refl _ _⟩

set_option maxHeartbeats 1000000 in
theorem may_kind (hD : PForAt w F bf bn cap pn s) (i j : Nat) (C : Int) (x : Nd) (hx : s[i]? = some x) (hj : j < s.length) (ht : x.t = true) : Calls Tryz.prog 146 #[ptr bf, .int .i64 i, .int .i64 j, .int .i64 C] w fun e w' => e = .returned (refusalV i 2) ∧ Below w.heap.size w w' := by
  have hi : i < s.length := (List.getElem?_eq_some_iff.1 hx).1
  have C1 := hid (find_yes hD i (isB_of (by omega)))
  have C2 := hid (find_yes hD j (isB_of (by omega)))
  have h0 := hD.nodesCell
  obtain ⟨r, hr, ho, c0, c1, c2, c3⟩ := hD.look hx
  rw [ht] at c1
  clear hD hx ho hr c0 c2 c3
  go_enter Tryz.func146, Tryz.ntmps146
  go_wp2_with (go_at_call 87; (first | (refine C1.out.mono ?_; clear C1; rintro e w1 ⟨rfl, hw1⟩; subst hw1) | (refine C2.out.mono ?_; clear C2; rintro e w1 ⟨rfl, hw1⟩; subst hw1)))
  go_ret
  exact ⟨rfl, Below.refl _ _⟩
end
end Go.Proofs.YtabogkonklplcaaGreatDoor
