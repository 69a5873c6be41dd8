import Derived.Test.YtabogkonklplcaaGreatDoorQ13
import Derived.Test.YtabogkonklplcaaGreatDoorQ16
import Derived.Test.YtabogkonklplcaaGreatDoorQ10
import Derived.Test.YtabogkonklplcaaGreatDoorQ14
import Derived.Test.YtabogkonklplcaaGreatDoorQ15
import Derived.Test.YtabogkonklplcaaGreatDoorQ17

namespace Go.Proofs.YtabogkonklplcaaGreatDoor
open Go.RowKit
set_option linter.unusedSimpArgs false
set_option linter.unusedVariables false
section
variable {w : World} {F : Nat → Prop} {bf bn cap : Nat} {pn : List PN} {s : List Nd}
theorem PForAt.setKids (h : PForAt w F bf bn cap pn s) {i g c : Nat} {r : PN} {x : Nd} (hr : pn[i]? = some r) (hx : s[i]? = some x) {w2 : World} {ks : List Nat} (hk : Keeps (fun b => r.kv.ownBlock = some b) w w2)
    (hrow : w2.ownsRow 0 3 1 (.slice (some ⟨g, 0, none⟩) ks.length c) ks.length (intsV ks)) (hg : r.kv.ownBlock = some g ∨ w.heap.size ≤ g) {G : Nat → Prop} (hG : ∀ b, F b ∨ w.heap.size ≤ b → G b) :
    PForAt (w2.setCell ⟨bn, i * 4 + 2, none⟩ (.slice (some ⟨g, 0, none⟩) ks.length c)) G bf bn cap (pn.set i { r with kv := .slice (some ⟨g, 0, none⟩) ks.length c }) (s.set i { x with ks := ks }) := by
  have ho := h.ok i r x hr hx
  have hi := (List.getElem?_eq_some_iff.1 hr).1
  have hi' := (List.getElem?_eq_some_iff.1 hx).1
  have hlt := h.lt
  have hgf : g ≠ bf := by
    rcases hg with e | e
    · exact (ho.apart g e).2.1
    · omega
  have hgn : g ≠ bn := by
    rcases hg with e | e
    · exact (ho.apart g e).2.2
    · omega
  have hk2 : Keeps (fun b => b = bn) w2 (w2.setCell ⟨bn, i * 4 + 2, none⟩ (.slice (some ⟨g, 0, none⟩) ks.length c)) := (Keeps.refl (fun b => b = bn) w2).setCell (p := ⟨bn, i * 4 + 2, none⟩) (.inl rfl) _
  refine ⟨?_, ?_, hG _ (.inl h.Ff), hG _ (.inl h.Fn), h.ne, by simpa using h.len, ?_, ?_⟩
  · have e1 := hk.block bf hlt.1 (fun e => (ho.apart bf e).2.1 rfl)
    rw [hk2.block bf (by have := hk.size; omega) h.ne, e1, List.length_set]
    exact h.forest
  · have hn := hk.row h.nodes (fun b e e2 => by cases e; exact (ho.apart _ e2).2.2 rfl)
    have := (hn.stored (i * 4 + 2) (.slice (some ⟨g, 0, none⟩) ks.length c)).1
    rw [pcells_set pn i r { r with kv := .slice (some ⟨g, 0, none⟩) ks.length c } hr 2 (by omega) _ rfl] at this
    rw [List.length_set]
    exact this
  · intro k r1 x1 h1 h2
    rw [List.getElem?_set] at h1 h2
    by_cases hik : i = k
    · subst hik
      rw [if_pos rfl, if_pos hi] at h1
      rw [if_pos rfl, if_pos hi'] at h2
      cases h1
      cases h2
      refine ⟨ho.t, ho.p, ho.ch, hk2.row hrow (fun b e e2 => by cases e; exact hgn e2), fun b e => ?_⟩
      cases e
      refine ⟨hG _ ?_, hgf, hgn⟩
      rcases hg with e | e
      · exact .inl (ho.apart g e).1
      · exact .inr e
    · rw [if_neg hik] at h1 h2
      have o := h.ok k r1 x1 h1 h2
      have o2 : POk w2 F bf bn r1 x1 := o.keeps hk (fun b e e2 => h.sep i k r r1 hik hr h1 b e2 e)
      have o3 := o2.keeps hk2 (fun b e e2 => (o.apart b e).2.2 e2)
      exact ⟨o3.t, o3.p, o3.ch, o3.kids, fun b e => ⟨hG _ (.inl (o3.apart b e).1), (o3.apart b e).2⟩⟩
  · have key : ∀ (k : Nat) (r1 : PN), k ≠ i → pn[k]? = some r1 → r1.kv.ownBlock ≠ some g := by
      intro k r1 hki h1 e
      rcases hg with eg | eg
      · exact h.sep i k r r1 (fun e => hki e.symm) hr h1 g eg e
      · have hkl : k < s.length := by rw [← h.len]; exact (List.getElem?_eq_some_iff.1 h1).1
        have o := h.ok k r1 _ h1 (List.getElem?_eq_getElem hkl)
        have := (o.kids.lt g e).2
        omega
    intro a b ra rb hab h1 h2 c' e
    rw [List.getElem?_set] at h1 h2
    by_cases ha : i = a
    · subst ha
      rw [if_pos rfl, if_pos hi] at h1
      cases h1
      rw [if_neg hab] at h2
      cases e
      exact key b rb (fun e => hab e.symm) h2
    · rw [if_neg ha] at h1
      by_cases hb : i = b
      · subst hb
        rw [if_pos rfl, if_pos hi] at h2
        cases h2
        intro e2
        cases e2
        exact key a ra (fun e => ha e.symm) h1 e
      · rw [if_neg hb] at h2
        exact h.sep a b ra rb hab h1 h2 c' e
theorem PForAt.afterInsert (h : PForAt w F bf bn cap pn s) {i j g c k : Nat} {r : PN} {x y : Nd} (hr : pn[i]? = some r) (hx : s[i]? = some x) (hy : s[j]? = some y) (hij : i ≠ j) (hkl : k ≤ x.ks.length) {wa w2 : World} (hwa : Below w.heap.size w wa)
    (hk : Keeps (fun b => r.kv.ownBlock = some b) wa w2) (hrow : w2.ownsRow 0 3 1 (.slice (some ⟨g, 0, none⟩) (x.ks.length + 1) c) (x.ks.length + 1) (intsV (putAt x.ks k j))) (hg : r.kv.ownBlock = some g ∨ wa.heap.size ≤ g) :
    Keeps F w ((w2.setCell ⟨bn, i * 4 + 2, none⟩ (.slice (some ⟨g, 0, none⟩) (x.ks.length + 1) c)).setCell ⟨bn, j * 4, none⟩ (.int .i64 (i : Int))) ∧
      PFor ((w2.setCell ⟨bn, i * 4 + 2, none⟩ (.slice (some ⟨g, 0, none⟩) (x.ks.length + 1) c)).setCell ⟨bn, j * 4, none⟩ (.int .i64 (i : Int))) (grow F w) bf ((s.set i { x with ks := x.ks.take k ++ j :: x.ks.drop k }).set j { y with p := i }) := by
  have hl := putAt_length x.ks k j hkl
  rw [← hl] at hrow ⊢
  have ho := h.ok i r x hr hx
  have hsz := hwa.size
  have h3 := (h.below hwa).setKids hr hx hk hrow hg (G := grow F w) (fun b e => e.imp id (fun e => by omega))
  have hy3 : (s.set i { x with ks := putAt x.ks k j })[j]? = some y := by rw [List.getElem?_set_ne hij]; exact hy
  obtain ⟨pn4, h4⟩ := h3.newPar i hy3
  refine ⟨?_, bn, cap, pn4, h4⟩
  have k1 : Keeps F w w2 := (Keeps.of_below hwa).trans (hk.mono (fun b _ e => .inl (ho.apart b e).1))
  exact (k1.setCell (p := ⟨bn, i * 4 + 2, none⟩) (.inl h.Fn) _).setCell (p := ⟨bn, j * 4, none⟩) (.inl h.Fn) _
theorem cellsOfRow {w : World} {g c n : Nat} {e : TypeId} {vs : List Value} (h : w.ownsRow 0 e 4 (.slice (some ⟨g, 0, none⟩) n c) n vs) (k : Nat) (hk : k < n * 4) : ∃ v, w.cell? ⟨g, k, none⟩ = some v ∧ w.frozen? ⟨g, k, none⟩ = false := by
  have h1 := h.cellAt k hk
  have hl : k < vs.length := by rw [h.1]; exact hk
  obtain ⟨_, h2⟩ := h
  rcases h2 with ⟨h3, _⟩ | ⟨g', c', cur, hv, _, hh, _⟩
  · cases h3
  · cases hv
    exact ⟨vs[k], by rw [h1]; exact List.getElem?_eq_getElem hl, frozen_of_heap hh _⟩
def AttPost (F : Nat → Prop) (w : World) (bf : Nat) (s' : List Nd) (e : Ending) (w' : World) : Prop := e = .returned (.tuple #[]) ∧ Keeps F w w' ∧ PFor w' (grow F w) bf s'
set_option maxRecDepth 20000 in
set_option maxHeartbeats 400000 in
theorem attach_any (hD : PForAt w F bf bn cap pn s) (i j k : Nat) (x y : Nd) (hx : s[i]? = some x) (hy : s[j]? = some y) (hk : k ≤ x.ks.length) (hij : i ≠ j) (hbig : s.length < lots) (hkb : x.ks.length < lots) :
    Calls Tryz.prog 107 #[ptr bf, .int .i64 i, .int .i64 j, .int .i64 k] w (AttPost F w bf ((s.set i { x with ks := x.ks.take k ++ j :: x.ks.drop k }).set j { y with p := i })) := by
  have hi : i < s.length := (List.getElem?_eq_some_iff.1 hx).1
  have hj : j < s.length := (List.getElem?_eq_some_iff.1 hy).1
  have h0 := hD.nodesCell
  obtain ⟨r, hr, ho, c0, c1, c2, c3⟩ := hD.look hx
  obtain ⟨sa, sc, hkv⟩ : ∃ a c, r.kv = .slice a x.ks.length c := by
    rcases row_cases ho.kids with ⟨h1, h2⟩ | ⟨g, c, h1⟩
    · exact ⟨none, 0, by rw [h1, h2]⟩
    · exact ⟨_, _, h1⟩
  have hwa : Below w.heap.size w (w.alloc (.cells #[.int .i64 (j : Int)] 3)) := (Below.refl _ w).alloc (Nat.le_refl _) _
  have hDa := hD.below hwa
  have C := hid (ins_one (hDa.ok i r x hr hx).kids k j hk hkb (heap_alloc_new w (.cells #[.int .i64 (j : Int)] 3)) (fun e => by have := (ho.kids.lt _ e).2; omega))
  have AFT := hid (fun w2 g c hk' hrow hg => hD.afterInsert (w2 := w2) (g := g) (c := c) hr hx hy hij hk hwa hk' hrow hg)
  have CELLS := hid (fun (w2 : World) (hk' : Keeps (fun b => r.kv.ownBlock = some b) (w.alloc (.cells #[.int .i64 (j : Int)] 3)) w2) => (And.intro ((hk'.cell hDa.nodesCell (fun e => (ho.apart _ e).2.1 rfl))) (hk'.row hDa.nodes (fun b e e2 => by cases e; exact (ho.apart _ e2).2.2 rfl))))
  rw [hkv] at c2 C AFT CELLS
  have hlt := hD.lt
  have hbfn : ¬ bf = bn := hD.ne
  have hlen := hD.len
  clear hD c0 c1 c3 hr ho hDa hkv hx hy hbig hkb
  go_enter Tryz.func107, Tryz.ntmps107
  go_wp2_with (go_at_call 156; refine C.out.mono ?_; rintro e w2 ⟨g, c, rfl, hrow, hk', hg⟩
               have AF := hid (AFT.out w2 g c hk' hrow hg)
               obtain ⟨f0, fn⟩ := CELLS.out w2 hk'
               have FN := hid fn
               obtain ⟨v2, f2, f2f⟩ := cellsOfRow fn (i * 4 + 2) (by omega)
               obtain ⟨v3, f3, f3f⟩ := cellsOfRow fn (j * 4) (by omega)
               clear fn hrow hk' hg)
  go_end0
  exact ⟨rfl, AF.out⟩
set_option maxHeartbeats 400000 in
theorem may_parent (hD : PForAt w F bf bn cap pn s) (A B C : Int) (h : isB s A = false) : Calls Tryz.prog 146 #[ptr bf, .int .i64 A, .int .i64 B, .int .i64 C] w fun e w' => e = .returned (refusalV A 1) ∧ Below w.heap.size w w' := by
  have C1 := hid (find_no hD A h)
  clear hD h
  go_enter Tryz.func146, Tryz.ntmps146
  go_wp2_with (go_at_call 87; refine C1.out.mono ?_; rintro e w1 ⟨rfl, rfl⟩)
  go_ret
  exact ⟨rfl, Below.refl _ _⟩
set_option maxHeartbeats 400000 in
theorem may_node (hD : PForAt w F bf bn cap pn s) (A B C : Int) (hA : isB s A = true) (h : isB s B = false) : Calls Tryz.prog 146 #[ptr bf, .int .i64 A, .int .i64 B, .int .i64 C] w fun e w' => e = .returned (refusalV B 1) ∧ Below w.heap.size w w' := by
  have C1 := hid (find_yes hD A hA)
  have C2 := hid (find_no hD B h)
  clear hD h hA
  go_enter Tryz.func146, Tryz.ntmps146
  go_wp2_with (go_at_call 87; (first | (refine C1.out.mono ?_; clear C1; rintro e w1 ⟨rfl, hw1⟩; subst hw1) | (refine C2.out.mono ?_; clear C2; rintro e w1 ⟨rfl, hw1⟩; subst hw1)))
  go_ret
  exact ⟨rfl, Below.refl _ _⟩
set_option maxHeartbeats 1000000 in
theorem may_kind (hD : PForAt w F bf bn cap pn s) (i j : Nat) (C : Int) (x : Nd) (hx : s[i]? = some x) (hj : j < s.length) (ht : x.t = true) : Calls Tryz.prog 146 #[ptr bf, .int .i64 i, .int .i64 j, .int .i64 C] w fun e w' => e = .returned (refusalV i 2) ∧ Below w.heap.size w w' := by
  have hi : i < s.length := (List.getElem?_eq_some_iff.1 hx).1
  have C1 := hid (find_yes hD i (isB_of (by omega)))
  have C2 := hid (find_yes hD j (isB_of (by omega)))
  have h0 := hD.nodesCell
  obtain ⟨r, hr, ho, c0, c1, c2, c3⟩ := hD.look hx
  rw [ht] at c1
  clear hD hx ho hr c0 c2 c3
  go_enter Tryz.func146, Tryz.ntmps146
  go_wp2_with (go_at_call 87; (first | (refine C1.out.mono ?_; clear C1; rintro e w1 ⟨rfl, hw1⟩; subst hw1) | (refine C2.out.mono ?_; clear C2; rintro e w1 ⟨rfl, hw1⟩; subst hw1)))
  go_ret
  exact ⟨rfl, Below.refl _ _⟩
end
end Go.Proofs.YtabogkonklplcaaGreatDoor

namespace Go.Proofs.YtabogkonklplcaaGreatDoor
open Go.RowKit Go.Lib
set_option linter.unusedSimpArgs false
set_option linter.unusedVariables false
theorem errOf_O (n k : Int) : ErrOf (.iface 145 (.agg #[.int .i64 n, outV k])) n 3 := fun w hg => (fault_O n k w hg).mono fun e w' ⟨h1, h2⟩ => ⟨by rw [h1]; simp [errV], h2⟩
section
variable {w : World} {F : Nat → Prop} {bf bn cap : Nat} {pn : List PN} {s : List Nd}
set_option maxHeartbeats 400000 in
theorem findText_no (hD : PForAt w F bf bn cap pn s) (n : Int) (h : isB s n = false) : Calls Tryz.prog 101 #[ptr bf, .int .i64 n] w fun e w' => e = .returned (refusalV n 1) ∧ w' = w := by
  have C := hid (find_no hD n h)
  clear hD h
  go_enter Tryz.func101, Tryz.ntmps101
  go_wp2_with (go_at_call 87; refine C.out.mono ?_; rintro e w1 ⟨rfl, rfl⟩)
  go_ret
  exact ⟨rfl, rfl⟩
set_option maxHeartbeats 400000 in
theorem findText_kind (hD : PForAt w F bf bn cap pn s) (n : Nat) (x : Nd) (hx : s[n]? = some x) (ht : x.t = false) : Calls Tryz.prog 101 #[ptr bf, .int .i64 n] w fun e w' => e = .returned (refusalV n 2) ∧ w' = w := by
  have hi : n < s.length := (List.getElem?_eq_some_iff.1 hx).1
  have C := hid (find_yes hD n (isB_of (by omega)))
  have h0 := hD.nodesCell
  obtain ⟨r, hr, ho, c0, c1, c2, c3⟩ := hD.look hx
  rw [ht] at c1
  clear hD c0 c2 c3 hr ho hx
  go_enter Tryz.func101, Tryz.ntmps101
  go_wp2_with (go_at_call 87; refine C.out.mono ?_; rintro e w1 ⟨rfl, rfl⟩)
  go_ret
  exact ⟨rfl, rfl⟩
set_option maxHeartbeats 400000 in
theorem findText_ok (hD : PForAt w F bf bn cap pn s) (n : Nat) (x : Nd) (hx : s[n]? = some x) (ht : x.t = true) : Calls Tryz.prog 101 #[ptr bf, .int .i64 n] w fun e w' => e = .returned .nilIface ∧ w' = w := by
  have hi : n < s.length := (List.getElem?_eq_some_iff.1 hx).1
  have C := hid (find_yes hD n (isB_of (by omega)))
  have h0 := hD.nodesCell
  obtain ⟨r, hr, ho, c0, c1, c2, c3⟩ := hD.look hx
  rw [ht] at c1
  clear hD c0 c2 c3 hr ho hx
  go_enter Tryz.func101, Tryz.ntmps101
  go_wp2_with (go_at_call 87; refine C.out.mono ?_; rintro e w1 ⟨rfl, rfl⟩)
  go_ret
  exact ⟨rfl, rfl⟩
theorem PForAt.newChars (h : PForAt w F bf bn cap pn s) {i : Nat} {x : Nd} {cs' : List ByteArray} (hx : s[i]? = some x) :
    ∃ pn2, PForAt (w.setCell ⟨bn, i * 4 + 3, none⟩ (.string (catB cs'))) F bf bn cap pn2 (s.set i { x with cs := cs' }) := by
  obtain ⟨r, hr, ho⟩ := h.raw hx
  exact ⟨_, h.setNode (r' := { r with ch := catB cs' }) (x' := { x with cs := cs' }) hr hx 3 (by omega) _ rfl ⟨ho.t, ho.p, rfl, ho.kids, ho.apart⟩ (fun k r1 hk h1 b e => h.sep i k r r1 (fun e => hk e.symm) hr h1 b e)⟩
end
section
variable {w : World} {F : Nat → Prop} {bf : Nat} {s : List Nd}
set_option maxHeartbeats 400000 in
theorem treplace_unfit (hD : PFor w F bf s) (n o c : Int) (t : ByteArray) (u : Value) (hT : Calls Tryz.prog 101 #[ptr bf, .int .i64 n] w fun e w' => e = .returned (.iface 145 u) ∧ w' = w) :
    Calls Tryz.prog 68 #[ptr bf, .int .i64 n, .int .i64 o, .int .i64 c, .string t] w (TPost F w bf s (.tuple #[.nilFunc, .iface 145 u])) := by
  have HD := hid hD
  have C := hid hT
  clear hD hT
  go_enter Tryz.func68, Tryz.ntmps68
  go_wp2_with (go_at_call 101; refine C.out.mono ?_; rintro e w1 ⟨rfl, rfl⟩)
  go_ret2
  exact ⟨rfl, Keeps.refl _ _, HD.out.wider (fun b h => .inl h)⟩
set_option maxHeartbeats 1000000 in
theorem treplace_bad (hD : PFor w F bf s) (n : Nat) (o c : Int) (t : ByteArray) (x : Nd) (hx : s[n]? = some x) (ht : x.t = true) {Q : Value → Prop}
    (hS : ∀ w1, Below w.heap.size w w1 → Calls Tryz.prog 113 #[.string (catB x.cs), .int .i64 o, .int .i64 c, .string t, .int .i64 30] w1 fun e w' => (∃ ty v, Q (.iface ty v) ∧ e = .returned (.tuple #[.string ⟨#[]⟩, .iface ty v])) ∧ Below w1.heap.size w1 w') :
    Calls Tryz.prog 68 #[ptr bf, .int .i64 n, .int .i64 o, .int .i64 c, .string t] w fun e w' => ∃ u, Q u ∧ TPost F w bf s (.tuple #[.nilFunc, .iface 145 (.agg #[.int .i64 n, u])]) e w' := by
  have HD := hid hD
  obtain ⟨bn, cap, pn, hD⟩ := hD
  have hi : n < s.length := (List.getElem?_eq_some_iff.1 hx).1
  have C := hid (findText_ok hD n x hx ht)
  have h0 := hD.nodesCell
  have hlt := hD.lt
  obtain ⟨r, hr, ho, c0, c1, c2, c3⟩ := hD.look hx
  have CS := hid hS
  clear hD c0 c1 c2 hr ho hx hS
  go_enter Tryz.func68, Tryz.ntmps68
  go_wp2_with first
    | (go_at_call 101; refine C.out.mono ?_; rintro e w1 ⟨rfl, hw1⟩; replace hw1 := hw1.symm; subst hw1)
    | (go_at_call 113; refine (CS.out _ (by first | exact Below.refl _ _ | go_grown)).mono ?_; rintro e w2 ⟨⟨ty, v, hQ, rfl⟩, hb2⟩)
  go_ret2
  exact ⟨_, hQ, rfl, Keeps.of_below hb2, (HD.out.below hb2).wider (fun b h => .inl h)⟩
set_option maxRecDepth 20000 in
set_option maxHeartbeats 1000000 in
theorem treplace_done (hD : PFor w F bf s) (n : Nat) (o : Nat) (c : Int) (t : ByteArray) (x : Nd) (hx : s[n]? = some x) (ht : x.t = true) (hlen : x.cs.length ≤ 30) (hch : ∀ d ∈ x.cs, IsCh d) (ho' : o ≤ x.cs.length) (lf cs' : List ByteArray) (hlf : charsOf t = some lf) (hl30 : lf.length ≤ 30) (hc0 : 0 ≤ c)
    (hS : ∀ w1, Below w.heap.size w w1 → Calls Tryz.prog 113 #[.string (catB x.cs), .int .i64 (o : Int), .int .i64 c, .string t, .int .i64 30] w1 fun e w' => e = .returned (.tuple #[.string (catB cs'), .nilIface]) ∧ Below w1.heap.size w1 w') :
    Calls Tryz.prog 68 #[ptr bf, .int .i64 n, .int .i64 (o : Int), .int .i64 c, .string t] w (TMv (resizeF n o (min c ((x.cs.length : Int) - o)) lf.length) F w bf (s.set n { x with cs := cs' })) := by
  obtain ⟨bn, cap, pn, hD⟩ := hD
  have hi : n < s.length := (List.getElem?_eq_some_iff.1 hx).1
  have C := hid (findText_ok hD n x hx ht)
  have h0 := hD.nodesCell
  have hlt := hD.lt
  obtain ⟨r, hr, ho, c0, c1, c2, c3⟩ := hD.look hx
  have CS := hid hS
  have CC := hid (fun w1 => count_any x.cs hch (by unfold lots; omega) w1)
  have CT := hid (fun w1 => count_any lf (charsOf_isCh t.size t lf (Nat.le_refl _) hlf) (by unfold lots; omega) w1)
  rw [charsOf_cat t.size t lf (Nat.le_refl _) hlf] at CT
  have HD := hid hD
  have HX := hid hx
  have oI : (o : Int) ≤ (x.cs.length : Int) := by omega
  have lI : (x.cs.length : Int) ≤ 30 := by omega
  clear hD c0 c1 c2 hr ho hx hS hch hlf ht
  go_enter Tryz.func68, Tryz.ntmps68
  go_wp2_with first
    | (go_at_call 101; refine C.out.mono ?_; rintro e w1 ⟨rfl, hw1⟩; replace hw1 := hw1.symm; subst hw1)
    | (go_at_call 113; refine (CS.out _ (by first | exact Below.refl _ _ | go_grown)).mono ?_; rintro e w2 ⟨rfl, hb2⟩
       have d3 := (hb2.cell (p := ⟨bn, n * 4 + 3, none⟩) hlt.2).trans c3)
    | (go_at_call 105; refine (CC.out _).mono ?_; clear CC; rintro e w3 ⟨rfl, hb3⟩
       have HB3 := hid (hb2.trans (hb3.mono hb2.size))
       have g3 := (HB3.out.cell (p := ⟨bn, n * 4 + 3, none⟩) hlt.2).trans c3
       obtain ⟨gv, g4, gf⟩ := (HD.out.below HB3.out).cellsThere (i := n) (k := 3) hi (by omega)
       clear d3)
    | (go_at_call 105; refine (CT.out _).mono ?_; rintro e w4 ⟨rfl, hb4⟩)
    | (go_at_call 104; refine (resize_at _ _ _ _ _ (by omega) (by omega) (by omega) (by omega) (by omega) (by omega)).mono ?_; rintro e w5 ⟨bs, rfl, hb5, hM5⟩
       have H5 := hid hM5
       clear hM5)
  go_ret2
  obtain ⟨pn2, h2⟩ := (HD.out.below HB3.out).newChars (cs' := cs') HX.out
  have hb := hb4.trans (hb5.mono hb4.size)
  have hz4 := hb4.size
  rw [World.size_setCell] at hz4
  have hz3 := HB3.out.size
  exact ⟨_, _, rfl, ((Keeps.of_below HB3.out).setCell (p := ⟨bn, n * 4 + 3, none⟩) (.inl HD.out.Fn) _).trans (Keeps.of_below hb), by omega, hb5.size, ⟨_, _, _, (h2.below hb).wider (fun b h => .inl h)⟩, H5.out⟩
end
set_option maxHeartbeats 400000 in
theorem mreplace_no {w : World} {F : Nat → Prop} {bx : Nat} {s s' : List Nd} {rs : List Sp} (hg : GG w) (hP : PLies w F bx ⟨s, rs⟩) {a y : Int} (A B C : Int) (t : ByteArray)
    (hT : ∀ (F' : Nat → Prop) (bf : Nat), PFor w F' bf s → Calls Tryz.prog 68 #[ptr bf, .int .i64 A, .int .i64 B, .int .i64 C, .string t] w fun e w' => ∃ ty u, ErrOf (.iface ty u) a y ∧ TPost F' w bf s' (.tuple #[.nilFunc, .iface ty u]) e w') :
    Calls Tryz.prog 34 #[ptr bx, .int .i64 A, .int .i64 B, .int .i64 C, .string t] w (PLPost F w bx ⟨s', rs⟩ (errV a y)) := by
  obtain ⟨bf, bl, sv, hD⟩ := hP
  have C := hid (hT _ _ hD.nodes)
  have c0 : w.cell? ⟨bx, 0, none⟩ = some (ptr bf) := cell_of_heap hD.doc 0
  have AF := hid (fun w1 w2 => pdoc_after (w1 := w1) (w2 := w2) (s' := s') hg hD)
  have AG := hid (fun w1 => gg_after (w1 := w1) (F := F) (bx := bx) (bl := bl) (sv := sv) hg)
  clear hD hT hg
  go_enter Tryz.func34, Tryz.ntmps34
  go_wp2_with first
    | (go_at_call 68; refine C.out.mono ?_; rintro e w1 ⟨ty, u, hE, rfl, hk, hf⟩; have E1 := hid (mfollow_no (AG.out w1 hk) bx .nilFunc hE); have A1 := hid (fun w2 => AF.out w1 w2 hk hf); clear hk hf hE)
    | (go_at_call 64; refine E1.out.mono ?_; rintro e w2 ⟨rfl, hb⟩)
  go_ret
  exact ⟨rfl, (A1.out _ hb).1, _, _, _, (A1.out _ hb).2⟩
end Go.Proofs.YtabogkonklplcaaGreatDoor

namespace Go.Proofs.YtabogkonklplcaaGreatDoor
open Go.RowKit Go.Lib
set_option linter.unusedSimpArgs false
set_option linter.unusedVariables false
theorem wf_chars {s : List Nd} (wf : WF s) {n : Nat} {x : Nd} (hx : s[n]? = some x) (ht : x.t = true) {cs : List ByteArray} (hc : cs.length ≤ 30 ∧ ∀ c ∈ cs, IsCh c) : WF (s.set n { x with cs := cs }) := by
  have key : ∀ (i : Nat) (y : Nd), (s.set n { x with cs := cs })[i]? = some y → ∃ z, s[i]? = some z ∧ y.t = z.t ∧ y.ks = z.ks ∧ y.p = z.p ∧ (y.cs = z.cs ∨ i = n ∧ y.cs = cs) := by
    intro i y h
    rw [List.getElem?_set] at h
    by_cases hi : n = i
    · subst hi
      have hl := (List.getElem?_eq_some_iff.1 hx).1
      rw [if_pos rfl, if_pos hl] at h
      cases h
      exact ⟨x, hx, rfl, rfl, rfl, .inr ⟨rfl, rfl⟩⟩
    · rw [if_neg hi] at h
      exact ⟨y, h, rfl, rfl, rfl, .inl rfl⟩
  have back : ∀ (i : Nat) (z : Nd), s[i]? = some z → ∃ y, (s.set n { x with cs := cs })[i]? = some y ∧ y.t = z.t ∧ y.ks = z.ks ∧ y.p = z.p := by
    intro i z h
    by_cases hi : n = i
    · subst hi
      have hl := (List.getElem?_eq_some_iff.1 hx).1
      obtain rfl : x = z := Option.some.inj (hx.symm.trans h)
      exact ⟨{ x with cs := cs }, by rw [List.getElem?_set, if_pos rfl, if_pos hl], rfl, rfl, rfl⟩
    · exact ⟨z, by rw [List.getElem?_set, if_neg hi]; exact h, rfl, rfl, rfl⟩
  refine ⟨by simpa using wf.pos, by simpa using wf.cap, ?_, ?_, ?_, ?_, ?_, ?_, ?_⟩
  · obtain ⟨h, B, u⟩ := wf.up
    refine ⟨h, B, u.1, fun i y hy hp => ?_⟩
    obtain ⟨z, hz, _, _, ep, _⟩ := key i y hy
    rw [List.length_set, ep]
    exact u.par i z hz (by omega)
  · intro i y hy c hc'
    obtain ⟨z, hz, _, ek, _, _⟩ := key i y hy
    rw [ek] at hc'
    obtain ⟨z2, hz2, hp2⟩ := wf.kid i z hz c hc'
    obtain ⟨y2, hy2, _, _, ep2⟩ := back c z2 hz2
    exact ⟨y2, hy2, by rw [ep2]; exact hp2⟩
  · intro c y hy
    obtain ⟨z, hz, _, _, ep, _⟩ := key c y hy
    rcases wf.par c z hz with h | ⟨i, z2, h1, h2, h3⟩
    · exact .inl (by rw [ep]; exact h)
    · obtain ⟨y2, hy2, _, ek2, _⟩ := back i z2 h2
      exact .inr ⟨i, y2, by rw [ep]; exact h1, hy2, by rw [ek2]; exact h3⟩
  · intro i y hy
    obtain ⟨z, hz, _, ek, _, _⟩ := key i y hy
    rw [ek]; exact wf.nodup i z hz
  · intro y hy
    obtain ⟨z, hz, _, _, ep, _⟩ := key 0 y hy
    rw [ep]; exact wf.root z hz
  · intro i y hy
    obtain ⟨z, hz, et, ek, _, ec⟩ := key i y hy
    refine ⟨fun h => by rw [ek]; exact (wf.elem i z hz).1 (by rw [← et]; exact h), fun h => ?_⟩
    rcases ec with ec | ⟨rfl, ec⟩
    · rw [ec]; exact (wf.elem i z hz).2 (by rw [← et]; exact h)
    · obtain rfl : x = z := Option.some.inj (hx.symm.trans hz)
      rw [et, ht] at h; cases h
  · intro i y hy
    obtain ⟨z, hz, _, _, _, ec⟩ := key i y hy
    rcases ec with ec | ⟨_, ec⟩
    · rw [ec]; exact wf.chars i z hz
    · rw [ec]; exact hc
end Go.Proofs.YtabogkonklplcaaGreatDoor
