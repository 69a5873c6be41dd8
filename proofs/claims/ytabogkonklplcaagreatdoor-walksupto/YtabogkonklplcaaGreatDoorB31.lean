import Derived.Test.YtabogkonklplcaaGreatDoorB30
import Derived.Laws.IdiomCopy
import Derived.WalkSmall
import Derived.Lib.Builder
import Derived.Lib.AppendStr
import Derived.Lib.UnsafeStr
import Derived.Lib.Walk
import Derived.Lib.RuneBytes
import Derived.Laws.Externs
import Derived.Shelf.Strings.BuilderX

/- A node's list of children is written over in place. -/
namespace Go.Proofs.YtabogkonklplcaaGreatDoor
open Go.RowKit
set_option linter.unusedSimpArgs false
set_option linter.unusedVariables false

theorem keeps_setCells {F : Nat → Prop} {a : World} (g : Nat) : ∀ (vs : List Value) (o : Nat) (w : World), Keeps F a w → F g → Keeps F a (w.setCells g o vs)
  | [], _, _, h, _ => h
  | v :: r, o, w, h, hg => keeps_setCells g r (o + 1) _ (h.setCell (p := ⟨g, o, none⟩) (.inl hg) v) hg

theorem heap_setCells (g : Nat) (e : TypeId) : ∀ (vs : List Value) (o : Nat) (w : World) (cur : Array Value), w.heap[g]? = some (.cells cur e (0, 0)) → o + vs.length ≤ cur.size →
    ∃ cur' : Array Value, (w.setCells g o vs).heap[g]? = some (.cells cur' e (0, 0)) ∧ cur'.size = cur.size ∧ cur'.toList = cur.toList.take o ++ vs ++ cur.toList.drop (o + vs.length)
  | [], o, w, cur, h, hs => ⟨cur, h, rfl, by simp⟩
  | v :: r, o, w, cur, h, hs => by
    simp only [List.length_cons] at hs
    obtain ⟨cur', h1, h2, h3⟩ := heap_setCells g e r (o + 1) (w.setCell ⟨g, o, none⟩ v) _ (heap_setCell_same w g o cur e v h) (by simp; omega)
    refine ⟨cur', h1, by simpa using h2, ?_⟩
    rw [h3]
    have ho : o < cur.toList.length := by simp; omega
    simp only [Array.toList_setIfInBounds, List.length_cons]
    rw [List.take_set, List.drop_set_of_lt (by omega), List.take_succ_eq_append_getElem ho, List.set_append_right _ _ (by simp; omega)]
    simp
    have h5 : min o cur.size = o := by omega
    have h6 : o + 1 + r.length = o + (r.length + 1) := by omega
    simp [h5, h6]

/-- The cells of a row of ints: as the library's contracts ask for them. -/
theorem row_ints {w : World} {v : Value} {ks : List Nat} (h : w.ownsRow 0 3 1 v ks.length (intsV ks)) (hk : ks ≠ []) :
    ∃ g cap cur, v = .slice (some ⟨g, 0, none⟩) ks.length cap ∧ w.heap[g]? = some (.cells cur 3 (0, 0)) ∧ ks.length ≤ cap ∧ cap ≤ maxLen ∧ cur.size = cap ∧ cur.toList.take ks.length = intsV ks ∧
      (∀ j, j < (ks.map Int.ofNat).length → w.cell? ⟨g, 0 + j, none⟩ = some (.int .i64 ((ks.map Int.ofNat).getD j 0))) ∧ (∀ j, j < ks.length → w.frozen? ⟨g, 0 + j, none⟩ = false) := by
  obtain ⟨h1, h2⟩ := h
  rcases h2 with ⟨_, h2⟩ | ⟨g, cap, cur, hv, hg, hh, hn, hc, hs, ht⟩
  · exact absurd (List.eq_nil_of_length_eq_zero h2) hk
  · simp only [Nat.mul_one] at ht hs
    refine ⟨g, cap, cur, hv, hh, hn, hc, hs, ht, ?_, fun j hj => frozen_of_heap hh _⟩
    intro j hj
    simp at hj
    rw [cell_of_heap hh]
    have e : cur[0 + j]? = (cur.toList.take ks.length)[j]? := by rw [Nat.zero_add, List.getElem?_take_of_lt hj, Array.getElem?_toList]
    rw [e, ht]
    simp [intsV, hj, List.getD]

section
variable {w : World} {F : Nat → Prop} {bf bn cap : Nat} {pn : List PN} {s : List Nd}

/-- The list's own block is another now, the same slice value over it. -/
theorem PForAt.newRow (h : PForAt w F bf bn cap pn s) {w' : World} {i g : Nat} {r : PN} {x : Nd} (hr : pn[i]? = some r) (hx : s[i]? = some x) (hg : r.kv.ownBlock = some g) (hk : Keeps (fun b => b = g) w w') {ks : List Nat}
    (hrow : w'.ownsRow 0 3 1 r.kv ks.length (intsV ks)) : PForAt w' F bf bn cap pn (s.set i { x with ks := ks }) := by
  have ho := h.ok i r x hr hx
  have ha := ho.apart g hg
  have hi' := (List.getElem?_eq_some_iff.1 hx).1
  refine ⟨?_, hk.row h.nodes (fun b e e2 => by cases e; exact ha.2.2 e2.symm), h.Ff, h.Fn, h.ne, by simpa using h.len, ?_, h.sep⟩
  · rw [hk.block bf (heap_lt h.forest) (fun e => ha.2.1 e.symm)]; exact h.forest
  · intro k r1 x1 h1 h2
    rw [List.getElem?_set] at h2
    by_cases hik : i = k
    · subst hik
      rw [if_pos rfl, if_pos hi'] at h2
      cases h2
      rw [hr] at h1
      cases h1
      exact ⟨ho.t, ho.p, ho.ch, hrow, ho.apart⟩
    · rw [if_neg hik] at h2
      have o := h.ok k r1 x1 h1 h2
      refine o.keeps hk (fun b e e2 => ?_)
      subst e2
      exact h.sep i k r r1 hik hr h1 _ hg e
end
end Go.Proofs.YtabogkonklplcaaGreatDoor

/- strings.Builder at this program: copyCheck, WriteByte, WriteString, WriteRune. -/
namespace Go.Proofs.YtabogkonklplcaaGreatDoor
open Go.RowKit
set_option linter.unusedSimpArgs false
set_option linter.unusedVariables false

abbrev Bld (B b : Nat) (bs : List Value) (w : World) : Prop := Lib.IsBuilder 219 5 B b bs w
abbrev BldU (B b : Nat) (bs : List Value) (w : World) : Prop := Lib.BuilderAt 219 5 B b (ptr b) bs w

theorem Tryz.sizeBld : (Tryz.prog.info? 219).map (·.size) = some 2 := by kernel_rfl

set_option maxHeartbeats 1000000 in
set_option maxRecDepth 100000 in
theorem bcheck_used (b : Nat) (w : World) (h0 : w.cell? ⟨b, 0, none⟩ = some (ptr b)) :
    Calls Tryz.prog 184 #[ptr b] w fun e w' => e = .returned (.tuple #[]) ∧ w' = w := by
  obtain ⟨j, hj, _⟩ := Option.map_eq_some_iff.1 Tryz.sizeBld
  go_enter Tryz.func184, Tryz.ntmps184
  go_wp2
  rw [Lib.run_neq_ptr_same w _ Tryz.underlying216 hj]
  go_wp2
  go_end0
  exact ⟨rfl, rfl⟩

set_option maxHeartbeats 1000000 in
set_option maxRecDepth 100000 in
theorem bcheck_fresh (b : Nat) (w : World) (h0 : w.cell? ⟨b, 0, none⟩ = some (.pointer none)) (hsh : w.shape? b = some (219, 2)) (hfz : w.frozen? ⟨b, 0, none⟩ = false) :
    Calls Tryz.prog 184 #[ptr b] w fun e w' => e = .returned (.tuple #[]) ∧ w' = w.setCell ⟨b, 0, none⟩ (ptr b) := by
  obtain ⟨j, hj, hjs⟩ := Option.map_eq_some_iff.1 Tryz.sizeBld
  go_enter Tryz.func184, Tryz.ntmps184
  go_wp2
  rw [Lib.run_to_unsafe w ⟨b, 0, none⟩ Tryz.underlying216 Tryz.underlying203 hj (by rw [hjs]; decide) hsh (Nat.zero_lt_succ 1)]
  simp only [Result.andThen]
  rw [Oper.upon_value]
  go_wp2
  rw [run_callFunc_extern Tryz.func195 (by kernel_rfl) (by kernel_rfl) (by kernel_rfl) (e := Extern.AbiNoEscape.same) (by kernel_rfl)]
  rw [Lib.run_noEscape]
  simp only [Result.andThen]
  rw [Oper.upon_value]
  go_wp2
  rw [Lib.run_from_unsafe w ⟨b, 0, none⟩ Tryz.underlying203 Tryz.underlying216 hj hsh (by kernel_rfl)]
  simp only [Result.andThen]
  rw [Oper.upon_value]
  go_wp2
  go_end0
  exact ⟨rfl, rfl⟩

/-- Iterators over strings stay as they are. -/
def IterKept (w w' : World) : Prop := ∀ (k : Nat) (t : ByteArray) (p : Nat), w.heap[k]? = some (.stringIter t p) → w'.heap[k]? = some (.stringIter t p)
theorem IterKept.refl (w : World) : IterKept w w := fun _ _ _ h => h
theorem IterKept.trans {a b c : World} (h : IterKept a b) (g : IterKept b c) : IterKept a c := fun k t p hk => g k t p (h k t p hk)
theorem IterKept.alloc (w : World) (o : Obj) : IterKept w (w.alloc o) := fun k t p hk => by rw [Below.heap_alloc _ _ _ (heap_lt hk)]; exact hk
theorem IterKept.setCell {w : World} {b o : Nat} {cur : Array Value} {e : TypeId} {fz : Nat × Nat} (v : Value) (hb : w.heap[b]? = some (.cells cur e fz)) : IterKept w (w.setCell ⟨b, o, none⟩ v) := fun k t p hk => by
  have hne : k ≠ b := fun e => by subst e; rw [hb] at hk; cases hk
  have h := (Keeps.refl (fun x => x = b) w).setCell (p := ⟨b, o, none⟩) (.inl rfl) v
  rw [h.block k (heap_lt hk) hne]; exact hk
theorem IterKept.grown {w w' : World} {B : Nat} {v : Value} {n : Nat} {xs : List Value} {e : TypeId} {z : Nat} (hown : w.ownsRow B e z v n xs) (hg : w.grownBy w' v.ownBlock) : IterKept w w' := fun k t p hk => by
  rw [hg.block k (heap_lt hk) ?_]
  · exact hk
  · intro e
    rcases hown.2 with ⟨hv, _⟩ | ⟨g, cap, cur, hv, _, hh, _⟩
    · rw [hv] at e; cases e
    · rw [hv] at e
      cases e
      rw [hh] at hk; cases hk

theorem bcheck {B b : Nat} {bs : List Value} {w : World} (h : Bld B b bs w) :
    Calls Tryz.prog 184 #[ptr b] w fun e w' => e = .returned (.tuple #[]) ∧ BldU B b bs w' ∧ Below B w w' ∧ IterKept w w' := by
  rcases h with h | h
  · refine (bcheck_fresh b w h.cell0 h.shape h.frozen0).mono ?_
    rintro e w' ⟨rfl, rfl⟩
    have h2 := h
    obtain ⟨_, v, hb, _⟩ := h2
    exact ⟨rfl, h.used _, (Below.refl B w).setCell (p := ⟨b, 0, none⟩) h.1 _, IterKept.setCell _ hb⟩
  · refine (bcheck_used b w h.cell0).mono ?_
    rintro e w' ⟨rfl, rfl⟩
    exact ⟨rfl, h, Below.refl B _, IterKept.refl _⟩

end Go.Proofs.YtabogkonklplcaaGreatDoor
