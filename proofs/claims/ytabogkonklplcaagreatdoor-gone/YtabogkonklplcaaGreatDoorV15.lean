import Derived.Test.YtabogkonklplcaaGreatDoorV12
import Derived.Test.YtabogkonklplcaaGreatDoorV14
import Derived.Test.YtabogkonklplcaaGreatDoorV10
import Derived.Laws.IdiomCopy
import Derived.WalkSmall

namespace Go.Proofs.YtabogkonklplcaaGreatDoor
open Go.RowKit
set_option linter.unusedSimpArgs false
set_option linter.unusedVariables false
section
variable {w : World} {F : Nat → Prop} {bf : Nat} {s : List Nd}
set_option maxHeartbeats 400000 in
theorem telement_full (hD : PFor w F bf s) (h40 : 40 ≤ s.length) : Calls Tryz.prog 92 #[ptr bf] w (TPost F w bf s (.tuple #[.int .i64 0, refusalV 0 7])) := by
  obtain ⟨bn, cap, pn, hD⟩ := hD
  have C := hid (add_full hD h40 (-1) false ⟨#[]⟩ 0)
  have HD := hid hD
  clear hD
  go_enter Tryz.func92, Tryz.ntmps92
  go_wp2_with (go_at_call 143; refine C.out.mono ?_; rintro e w1 ⟨rfl, hb⟩)
  go_ret2
  exact ⟨rfl, Keeps.of_below hb, bn, cap, pn, (HD.out.below hb).wider (fun b h => .inl h)⟩
set_option maxHeartbeats 400000 in
theorem telement_some (hD : PFor w F bf s) (h40 : s.length < 40) : Calls Tryz.prog 92 #[ptr bf] w (TPost F w bf (s ++ [rootNd]) (.tuple #[.int .i64 s.length, .nilIface])) := by
  obtain ⟨bn, cap, pn, hD⟩ := hD
  have C := hid (add_some hD h40 rootNd rfl 0)
  clear hD
  go_enter Tryz.func92, Tryz.ntmps92
  go_wp2_with (go_at_call 143; refine C.out.mono ?_; rintro e w1 ⟨rfl, hk, hf⟩)
  go_ret2
  exact ⟨rfl, hk, hf⟩
set_option maxHeartbeats 400000 in
theorem addText_full (hD : PFor w F bf s) (h40 : 40 ≤ s.length) (t : ByteArray) (q : Int) : Calls Tryz.prog 103 #[ptr bf, .string t, .int .i64 q] w fun e w' => e = .returned (.tuple #[.int .i64 0, refusalV q 7]) ∧ Below w.heap.size w w' := by
  obtain ⟨bn, cap, pn, hD⟩ := hD
  have C := hid (add_full hD h40 (-1) true t q)
  clear hD
  go_enter Tryz.func103, Tryz.ntmps103
  go_wp2_with (go_at_call 143; refine C.out.mono ?_; rintro e w1 ⟨rfl, hb⟩)
  go_ret2
  exact ⟨rfl, hb⟩
set_option maxHeartbeats 400000 in
theorem addText_some (hD : PFor w F bf s) (h40 : s.length < 40) (l : List ByteArray) (q : Int) : Calls Tryz.prog 103 #[ptr bf, .string (catB l), .int .i64 q] w (TPost F w bf (s ++ [⟨true, l, [], -1⟩]) (.tuple #[.int .i64 s.length, .nilIface])) := by
  obtain ⟨bn, cap, pn, hD⟩ := hD
  have C := hid (add_some hD h40 ⟨true, l, [], -1⟩ rfl q)
  clear hD
  go_enter Tryz.func103, Tryz.ntmps103
  go_wp2_with (go_at_call 143; refine C.out.mono ?_; rintro e w1 ⟨rfl, hk, hf⟩)
  go_ret2
  exact ⟨rfl, hk, hf⟩
set_option maxHeartbeats 400000 in
theorem clone_any (t : ByteArray) (w : World) (ht : t.size < lots) : Calls Tryz.prog 145 #[.string t] w fun e w' => e = .returned (.string t) ∧ Below w.heap.size w w' := by
  have C := hid (Tryz.stringslite_Clone t w (by unfold lots at ht; omega))
  clear ht
  go_enter Tryz.func145, Tryz.ntmps145
  go_wp2_with (go_at_call 172; refine C.out.mono ?_; rintro e w1 ⟨rfl, hb⟩)
  go_ret
  exact ⟨rfl, hb⟩
set_option maxHeartbeats 1000000 in
theorem ttext_full (hD : PFor w F bf s) (hT : Tabs w) (t : ByteArray) (ht : t.size < lots) (l : List ByteArray) (h : Takes t l) (h40 : 40 ≤ s.length) : Calls Tryz.prog 93 #[ptr bf, .string t] w (TPost F w bf s (.tuple #[.int .i64 0, refusalV 0 7])) := by
  have C := hid (check_any 30 (by decide) t w ht hT)
  have CL := hid (fun w1 => clone_any t w1 ht)
  have HD := hid hD
  have HN := hid h
  have H4 := hid h40
  clear hD hT ht h h40
  go_enter Tryz.func93, Tryz.ntmps93
  go_wp2_with first
    | (go_at_call 144; refine C.out.mono ?_; rintro e w1 ⟨hb, ⟨l', hl, rfl⟩ | ⟨hn, _⟩⟩ <;> (first | exact absurd HN.out (hn l) | skip))
    | (go_at_call 145; refine (CL.out _).mono ?_; rintro e w2 ⟨rfl, hb2⟩
       have hB := hid (hb.trans (hb2.mono hb.size))
       have D2 := hid (HD.out.below hB.out)
       clear hb hb2)
    | (go_at_call 103; refine (addText_full D2.out H4.out t 0).mono ?_; rintro e w3 ⟨rfl, hb3⟩)
  go_ret2
  have hb4 := hB.out.trans (hb3.mono hB.out.size)
  exact ⟨rfl, Keeps.of_below hb4, (HD.out.below hb4).wider (fun b h => .inl h)⟩
set_option maxHeartbeats 1000000 in
theorem ttext_some (hD : PFor w F bf s) (hT : Tabs w) (t : ByteArray) (ht : t.size < lots) (l : List ByteArray) (h : Takes t l) (h40 : s.length < 40) : Calls Tryz.prog 93 #[ptr bf, .string t] w (TPost F w bf (s ++ [⟨true, l, [], -1⟩]) (.tuple #[.int .i64 s.length, .nilIface])) := by
  have C := hid (check_any 30 (by decide) t w ht hT)
  have CL := hid (fun w1 => clone_any t w1 ht)
  have HD := hid hD
  have HN := hid h
  have H4 := hid h40
  have HC := hid (charsOf_cat t.size t l (Nat.le_refl _) h.1)
  clear hD hT ht h h40
  go_enter Tryz.func93, Tryz.ntmps93
  go_wp2_with first
    | (go_at_call 144; refine C.out.mono ?_; rintro e w1 ⟨hb, ⟨l', hl, rfl⟩ | ⟨hn, _⟩⟩ <;> (first | exact absurd HN.out (hn l) | skip))
    | (go_at_call 145; refine (CL.out _).mono ?_; rintro e w2 ⟨rfl, hb2⟩
       have hB := hid (hb.trans (hb2.mono hb.size))
       have D2 := hid (HD.out.below hB.out)
       clear hb hb2)
    | (go_at_call 103; have A1 := addText_some D2.out H4.out l 0; rw [HC.out] at A1; refine A1.mono ?_; clear A1; rintro e w3 ⟨rfl, hk3, hf3⟩)
  go_ret2
  refine ⟨rfl, (Keeps.of_below hB.out).trans (hk3.mono (fun k _ h => .inl h)), hf3.wider (fun b h => ?_)⟩
  rcases h with h | h
  · exact .inl h
  · exact .inr (Nat.le_trans hB.out.size h)
end
theorem RDoc.after {w w' : World} {F : Nat → Prop} {bd : Nat} {s : List Nd} (h : RDoc w F bd s []) (hb : Below w.heap.size w w') : RDoc w' (grow F w) bd s [] := by
  obtain ⟨bn, cap, rn, rv, h⟩ := h
  exact ⟨bn, cap, rn, rv, (h.below hb).wider (fun b h => .inl h)⟩
end Go.Proofs.YtabogkonklplcaaGreatDoor

namespace Go.Proofs.YtabogkonklplcaaGreatDoor
open Go.RowKit
set_option linter.unusedSimpArgs false
set_option linter.unusedVariables false
theorem keeps_setCells {F : Nat → Prop} {a : World} (g : Nat) : ∀ (vs : List Value) (o : Nat) (w : World), Keeps F a w → F g → Keeps F a (w.setCells g o vs)
  | [], _, _, h, _ => h
  | v :: r, o, w, h, hg => keeps_setCells g r (o + 1) _ (h.setCell (p := ⟨g, o, none⟩) (.inl hg) v) hg
theorem heap_setCells (g : Nat) (e : TypeId) : ∀ (vs : List Value) (o : Nat) (w : World) (cur : Array Value), w.heap[g]? = some (.cells cur e (0, 0)) → o + vs.length ≤ cur.size →
    ∃ cur' : Array Value, (w.setCells g o vs).heap[g]? = some (.cells cur' e (0, 0)) ∧ cur'.size = cur.size ∧ cur'.toList = cur.toList.take o ++ vs ++ cur.toList.drop (o + vs.length)
  | [], o, w, cur, h, hs => ⟨cur, h, rfl, by simp⟩
  | v :: r, o, w, cur, h, hs => by
    simp only [List.length_cons] at hs
    obtain ⟨cur', h1, h2, h3⟩ := heap_setCells g e r (o + 1) (w.setCell ⟨g, o, none⟩ v) _ (heap_setCell_same w g o cur e v h) (by simp; omega)
    refine ⟨cur', h1, by simpa using h2, ?_⟩
    rw [h3]
    have ho : o < cur.toList.length := by simp; omega
    simp only [Array.toList_setIfInBounds, List.length_cons]
    rw [List.take_set, List.drop_set_of_lt (by omega), List.take_succ_eq_append_getElem ho, List.set_append_right _ _ (by simp; omega)]
    simp
    have h5 : min o cur.size = o := by omega
    have h6 : o + 1 + r.length = o + (r.length + 1) := by omega
    simp [h5, h6]
theorem row_ints {w : World} {v : Value} {ks : List Nat} (h : w.ownsRow 0 3 1 v ks.length (intsV ks)) (hk : ks ≠ []) :
    ∃ g cap cur, v = .slice (some ⟨g, 0, none⟩) ks.length cap ∧ w.heap[g]? = some (.cells cur 3 (0, 0)) ∧ ks.length ≤ cap ∧ cap ≤ maxLen ∧ cur.size = cap ∧ cur.toList.take ks.length = intsV ks ∧
      (∀ j, j < (ks.map Int.ofNat).length → w.cell? ⟨g, 0 + j, none⟩ = some (.int .i64 ((ks.map Int.ofNat).getD j 0))) ∧ (∀ j, j < ks.length → w.frozen? ⟨g, 0 + j, none⟩ = false) := by
  obtain ⟨h1, h2⟩ := h
  rcases h2 with ⟨_, h2⟩ | ⟨g, cap, cur, hv, hg, hh, hn, hc, hs, ht⟩
  · exact absurd (List.eq_nil_of_length_eq_zero h2) hk
  · simp only [Nat.mul_one] at ht hs
    refine ⟨g, cap, cur, hv, hh, hn, hc, hs, ht, ?_, fun j hj => frozen_of_heap hh _⟩
    intro j hj
    simp at hj
    rw [cell_of_heap hh]
    have e : cur[0 + j]? = (cur.toList.take ks.length)[j]? := by rw [Nat.zero_add, List.getElem?_take_of_lt hj, Array.getElem?_toList]
    rw [e, ht]
    simp [intsV, hj, List.getD]
section
variable {w : World} {F : Nat → Prop} {bf bn cap : Nat} {pn : List PN} {s : List Nd}
theorem PForAt.newRow (h : PForAt w F bf bn cap pn s) {w' : World} {i g : Nat} {r : PN} {x : Nd} (hr : pn[i]? = some r) (hx : s[i]? = some x) (hg : r.kv.ownBlock = some g) (hk : Keeps (fun b => b = g) w w') {ks : List Nat}
    (hrow : w'.ownsRow 0 3 1 r.kv ks.length (intsV ks)) : PForAt w' F bf bn cap pn (s.set i { x with ks := ks }) := by
  have ho := h.ok i r x hr hx
  have ha := ho.apart g hg
  have hi' := (List.getElem?_eq_some_iff.1 hx).1
  refine ⟨?_, hk.row h.nodes (fun b e e2 => by cases e; exact ha.2.2 e2.symm), h.Ff, h.Fn, h.ne, by simpa using h.len, ?_, h.sep⟩
  · rw [hk.block bf (heap_lt h.forest) (fun e => ha.2.1 e.symm)]; exact h.forest
  · intro k r1 x1 h1 h2
    rw [List.getElem?_set] at h2
    by_cases hik : i = k
    · subst hik
      rw [if_pos rfl, if_pos hi'] at h2
      cases h2
      rw [hr] at h1
      cases h1
      exact ⟨ho.t, ho.p, ho.ch, hrow, ho.apart⟩
    · rw [if_neg hik] at h2
      have o := h.ok k r1 x1 h1 h2
      refine o.keeps hk (fun b e e2 => ?_)
      subst e2
      exact h.sep i k r r1 hik hr h1 _ hg e
end
end Go.Proofs.YtabogkonklplcaaGreatDoor
