import Derived.Test.YtabogkonklplcaaGreatDoorC20
import Derived.Test.YtabogkonklplcaaGreatDoorC13
import Derived.Test.YtabogkonklplcaaGreatDoorC21
import Derived.Laws.IdiomCopy
import Derived.WalkSmall
import Derived.Lib.Builder
import Derived.Lib.AppendStr
import Derived.Lib.UnsafeStr
import Derived.Lib.Walk
import Derived.Lib.RuneBytes
import Derived.Laws.Externs
import Derived.Shelf.Strings.BuilderX

/- tree.Element, tree.Text; the document's answers at Element and Text. -/
namespace Go.Proofs.YtabogkonklplcaaGreatDoor
open Go.RowKit
set_option linter.unusedSimpArgs false
set_option linter.unusedVariables false

section
variable {w : World} {F : Nat → Prop} {bf : Nat} {s : List Nd}

set_option maxHeartbeats 400000 in
theorem telement_full (hD : PFor w F bf s) (h40 : 40 ≤ s.length) : Calls Tryz.prog 92 #[ptr bf] w (TPost F w bf s (.tuple #[.int .i64 0, refusalV 0 7])) := by
  obtain ⟨bn, cap, pn, hD⟩ := hD
  have C := hid (add_full hD h40 (-1) false ⟨#[]⟩ 0)
  have HD := hid hD
  clear hD
  go_enter Tryz.func92, Tryz.ntmps92
  go_wp2_with (go_at_call 143; refine C.out.mono ?_; rintro e w1 ⟨rfl, hb⟩)
  go_ret2
  exact ⟨rfl, Keeps.of_below hb, bn, cap, pn, (HD.out.below hb).wider (fun b h => .inl h)⟩

set_option maxHeartbeats 400000 in
theorem telement_some (hD : PFor w F bf s) (h40 : s.length < 40) : Calls Tryz.prog 92 #[ptr bf] w (TPost F w bf (s ++ [rootNd]) (.tuple #[.int .i64 s.length, .nilIface])) := by
  obtain ⟨bn, cap, pn, hD⟩ := hD
  have C := hid (add_some hD h40 rootNd rfl 0)
  clear hD
  go_enter Tryz.func92, Tryz.ntmps92
  go_wp2_with (go_at_call 143; refine C.out.mono ?_; rintro e w1 ⟨rfl, hk, hf⟩)
  go_ret2
  exact ⟨rfl, hk, hf⟩

set_option maxHeartbeats 400000 in
theorem addText_full (hD : PFor w F bf s) (h40 : 40 ≤ s.length) (t : ByteArray) (q : Int) : Calls Tryz.prog 103 #[ptr bf, .string t, .int .i64 q] w fun e w' => e = .returned (.tuple #[.int .i64 0, refusalV q 7]) ∧ Below w.heap.size w w' := by
  obtain ⟨bn, cap, pn, hD⟩ := hD
  have C := hid (add_full hD h40 (-1) true t q)
  clear hD
  go_enter Tryz.func103, Tryz.ntmps103
  go_wp2_with (go_at_call 143; refine C.out.mono ?_; rintro e w1 ⟨rfl, hb⟩)
  go_ret2
  exact ⟨rfl, hb⟩

set_option maxHeartbeats 400000 in
theorem addText_some (hD : PFor w F bf s) (h40 : s.length < 40) (l : List ByteArray) (q : Int) : Calls Tryz.prog 103 #[ptr bf, .string (catB l), .int .i64 q] w (TPost F w bf (s ++ [⟨true, l, [], -1⟩]) (.tuple #[.int .i64 s.length, .nilIface])) := by
  obtain ⟨bn, cap, pn, hD⟩ := hD
  have C := hid (add_some hD h40 ⟨true, l, [], -1⟩ rfl q)
  clear hD
  go_enter Tryz.func103, Tryz.ntmps103
  go_wp2_with (go_at_call 143; refine C.out.mono ?_; rintro e w1 ⟨rfl, hk, hf⟩)
  go_ret2
  exact ⟨rfl, hk, hf⟩

set_option maxHeartbeats 400000 in
theorem clone_any (t : ByteArray) (w : World) (ht : t.size < lots) : Calls Tryz.prog 145 #[.string t] w fun e w' => e = .returned (.string t) ∧ Below w.heap.size w w' := by
  have C := hid (Tryz.stringslite_Clone t w (by unfold lots at ht; omega))
  clear ht
  go_enter Tryz.func145, Tryz.ntmps145
  go_wp2_with (go_at_call 172; refine C.out.mono ?_; rintro e w1 ⟨rfl, hb⟩)
  go_ret
  exact ⟨rfl, hb⟩

def FlawPost (F : Nat → Prop) (w : World) (bf : Nat) (s : List Nd) (e : Ending) (w' : World) : Prop := ∃ n : Int, TPost F w bf s (.tuple #[.int .i64 0, .iface 145 (.agg #[.int .i64 0, flawV n])]) e w'

set_option maxHeartbeats 400000 in
theorem ttext_no (hD : PFor w F bf s) (hT : Tabs w) (t : ByteArray) (ht : t.size < lots) (h : ∀ l, ¬ Takes t l) : Calls Tryz.prog 93 #[ptr bf, .string t] w (FlawPost F w bf s) := by
  have C := hid (check_any 30 (by decide) t w ht hT)
  have HD := hid hD
  have HN := hid h
  clear hD hT ht h
  go_enter Tryz.func93, Tryz.ntmps93
  go_wp2_with (go_at_call 144; refine C.out.mono ?_; rintro e w1 ⟨hb, ⟨l, hl, _⟩ | ⟨_, n, rfl⟩⟩; (first | exact absurd hl (HN.out l) | skip))
  go_ret2
  exact ⟨n, rfl, Keeps.of_below hb, (HD.out.below hb).wider (fun b h => .inl h)⟩


set_option maxHeartbeats 1000000 in
theorem ttext_full (hD : PFor w F bf s) (hT : Tabs w) (t : ByteArray) (ht : t.size < lots) (l : List ByteArray) (h : Takes t l) (h40 : 40 ≤ s.length) : Calls Tryz.prog 93 #[ptr bf, .string t] w (TPost F w bf s (.tuple #[.int .i64 0, refusalV 0 7])) := by
  have C := hid (check_any 30 (by decide) t w ht hT)
  have CL := hid (fun w1 => clone_any t w1 ht)
  have HD := hid hD
  have HN := hid h
  have H4 := hid h40
  clear hD hT ht h h40
  go_enter Tryz.func93, Tryz.ntmps93
  go_wp2_with first
    | (go_at_call 144; refine C.out.mono ?_; rintro e w1 ⟨hb, ⟨l', hl, rfl⟩ | ⟨hn, _⟩⟩ <;> (first | exact absurd HN.out (hn l) | skip))
    | (go_at_call 145; refine (CL.out _).mono ?_; rintro e w2 ⟨rfl, hb2⟩
       have hB := hid (hb.trans (hb2.mono hb.size))
       have D2 := hid (HD.out.below hB.out)
       clear hb hb2)
    | (go_at_call 103; refine (addText_full D2.out H4.out t 0).mono ?_; rintro e w3 ⟨rfl, hb3⟩)
  go_ret2
  have hb4 := hB.out.trans (hb3.mono hB.out.size)
  exact ⟨rfl, Keeps.of_below hb4, (HD.out.below hb4).wider (fun b h => .inl h)⟩

set_option maxHeartbeats 1000000 in
theorem ttext_some (hD : PFor w F bf s) (hT : Tabs w) (t : ByteArray) (ht : t.size < lots) (l : List ByteArray) (h : Takes t l) (h40 : s.length < 40) : Calls Tryz.prog 93 #[ptr bf, .string t] w (TPost F w bf (s ++ [⟨true, l, [], -1⟩]) (.tuple #[.int .i64 s.length, .nilIface])) := by
  have C := hid (check_any 30 (by decide) t w ht hT)
  have CL := hid (fun w1 => clone_any t w1 ht)
  have HD := hid hD
  have HN := hid h
  have H4 := hid h40
  have HC := hid (charsOf_cat t.size t l (Nat.le_refl _) h.1)
  clear hD hT ht h h40
  go_enter Tryz.func93, Tryz.ntmps93
  go_wp2_with first
    | (go_at_call 144; refine C.out.mono ?_; rintro e w1 ⟨hb, ⟨l', hl, rfl⟩ | ⟨hn, _⟩⟩ <;> (first | exact absurd HN.out (hn l) | skip))
    | (go_at_call 145; refine (CL.out _).mono ?_; rintro e w2 ⟨rfl, hb2⟩
       have hB := hid (hb.trans (hb2.mono hb.size))
       have D2 := hid (HD.out.below hB.out)
       clear hb hb2)
    | (go_at_call 103; have A1 := addText_some D2.out H4.out l 0; rw [HC.out] at A1; refine A1.mono ?_; clear A1; rintro e w3 ⟨rfl, hk3, hf3⟩)
  go_ret2
  refine ⟨rfl, (Keeps.of_below hB.out).trans (hk3.mono (fun k _ h => .inl h)), hf3.wider (fun b h => ?_)⟩
  rcases h with h | h
  · exact .inl h
  · exact .inr (Nat.le_trans hB.out.size h)
end

set_option maxHeartbeats 400000 in
theorem mtext_flaw {w : World} {F : Nat → Prop} {bx : Nat} {s s' : List Nd} {rs : List Sp} (hg : GG w) (hP : PLies w F bx ⟨s, rs⟩) (t : ByteArray)
    (hT : ∀ (F' : Nat → Prop) (bf : Nat), PFor w F' bf s → Calls Tryz.prog 93 #[ptr bf, .string t] w (FlawPost F' w bf s')) :
    Calls Tryz.prog 53 #[ptr bx, .string t] w (PLPost F w bx ⟨s', rs⟩ (.tuple #[.int .i64 0, errV 0 6])) := by
  obtain ⟨bf, bl, sv, hD⟩ := hP
  have C := hid (hT _ _ hD.nodes)
  have c0 : w.cell? ⟨bx, 0, none⟩ = some (ptr bf) := cell_of_heap hD.doc 0
  have AF := hid (fun w1 w2 => pdoc_after (w1 := w1) (w2 := w2) (s' := s') hg hD)
  have AG := hid (fun w1 => gg_after (w1 := w1) (F := F) (bx := bx) (bl := bl) (sv := sv) hg)
  clear hD hT hg
  go_enter Tryz.func53, Tryz.ntmps53
  go_wp2_with first
    | (go_at_call 93; refine C.out.mono ?_; rintro e w1 ⟨n, rfl, hk, hf⟩; have E1 := hid (errOf_F 0 n w1 (AG.out w1 hk)); have A1 := hid (fun w2 => AF.out w1 w2 hk hf); clear hk hf)
    | (go_at_call 46; refine E1.out.mono ?_; rintro e w2 ⟨rfl, hb⟩)
  go_ret2
  exact ⟨rfl, (A1.out _ hb).1, _, _, _, (A1.out _ hb).2⟩

theorem RDoc.after {w w' : World} {F : Nat → Prop} {bd : Nat} {s : List Nd} (h : RDoc w F bd s []) (hb : Below w.heap.size w w') : RDoc w' (grow F w) bd s [] := by
  obtain ⟨bn, cap, rn, rv, h⟩ := h
  exact ⟨bn, cap, rn, rv, (h.below hb).wider (fun b h => .inl h)⟩

theorem ans_element (s : List Nd) (wf : WF s) : ∃ n : Int, Ans PDoc GG ⟨s, []⟩ 52 73 [] (fun v => .tuple #[.int .i64 n, v]) (fun v => .tuple #[.int .i64 n, v]) := by
  by_cases h40 : s.length < 40
  · refine ⟨s.length, 0, 0, ⟨s ++ [rootNd], []⟩, ⟨wf_push wf h40 rootNd rfl rfl (fun _ => rfl) ⟨by decide, fun c hc => by cases hc⟩, rfl⟩, ?_, ?_⟩
    · intro w F bx hg hP
      exact melement_of hg hP (errOf_nil 0) (fun F' bf h => telement_some h h40)
    · rintro w F bd ⟨bn, cap, rn, rv, hD⟩
      exact (relement_some hD h40).mono fun e w' h => h
  · refine ⟨0, 0, 7, ⟨s, []⟩, ⟨wf, rfl⟩, ?_, ?_⟩
    · intro w F bx hg hP
      exact melement_of hg hP (errOf_P 0 7 (by decide)) (fun F' bf h => telement_full h (by omega))
    · intro w F bd hR
      have hR' := hR
      obtain ⟨bn, cap, rn, rv, hD⟩ := hR
      exact (relement_full (s := s) hD (by omega)).mono fun e w' ⟨h1, h2⟩ => ⟨h1, Keeps.of_below h2, hR'.after h2⟩

theorem ans_text (s : List Nd) (wf : WF s) (t : ByteArray) (ht : t.size < lots) : ∃ n : Int, Ans PDoc GG ⟨s, []⟩ 53 74 [.string t] (fun v => .tuple #[.int .i64 n, v]) (fun v => .tuple #[.int .i64 n, v]) := by
  by_cases hk : ∃ l, Takes t l
  · obtain ⟨l, hl⟩ := hk
    by_cases h40 : s.length < 40
    · refine ⟨s.length, 0, 0, ⟨s ++ [⟨true, l, [], -1⟩], []⟩, ⟨wf_push wf h40 _ rfl rfl (fun h => by cases h) ⟨hl.2, charsOf_isCh t.size t l (Nat.le_refl _) hl.1⟩, rfl⟩, ?_, ?_⟩
      · intro w F bx hg hP
        exact mtext_of hg hP t (errOf_nil 0) (fun F' bf h => ttext_some h hg.2 t ht l hl h40)
      · rintro w F bd ⟨bn, cap, rn, rv, hD⟩
        exact (rtext_some hD t ht l hl.1 hl.2 h40).mono fun e w' h => h
    · refine ⟨0, 0, 7, ⟨s, []⟩, ⟨wf, rfl⟩, ?_, ?_⟩
      · intro w F bx hg hP
        exact mtext_of hg hP t (errOf_P 0 7 (by decide)) (fun F' bf h => ttext_full h hg.2 t ht l hl (by omega))
      · intro w F bd hR
        have hR' := hR
        obtain ⟨bn, cap, rn, rv, hD⟩ := hR
        exact (rtext_full (s := s) hD t ht l hl.1 hl.2 (by omega)).mono fun e w' ⟨h1, h2⟩ => ⟨h1, Keeps.of_below h2, hR'.after h2⟩
  · refine ⟨0, 0, 6, ⟨s, []⟩, ⟨wf, rfl⟩, ?_, ?_⟩
    · intro w F bx hg hP
      exact mtext_flaw hg hP t (fun F' bf h => ttext_no h hg.2 t ht (fun l hl => hk ⟨l, hl⟩))
    · intro w F bd hR
      have hR' := hR
      obtain ⟨bn, cap, rn, rv, hD⟩ := hR
      cases hc : charsOf t with
      | none => exact (rtext_no hD t ht hc).mono fun e w' ⟨h1, h2⟩ => ⟨h1, Keeps.of_below h2, hR'.after h2⟩
      | some l =>
        have h30 : 30 < l.length := by
          rcases Nat.lt_or_ge 30 l.length with h | h
          · exact h
          · exact absurd ⟨l, hc, h⟩ hk
        exact (rtext_long hD t ht l hc h30).mono fun e w' ⟨h1, h2⟩ => ⟨h1, Keeps.of_below h2, hR'.after h2⟩

end Go.Proofs.YtabogkonklplcaaGreatDoor

/- A node's list of children is written over in place. -/
namespace Go.Proofs.YtabogkonklplcaaGreatDoor
open Go.RowKit
set_option linter.unusedSimpArgs false
set_option linter.unusedVariables false

theorem keeps_setCells {F : Nat → Prop} {a : World} (g : Nat) : ∀ (vs : List Value) (o : Nat) (w : World), Keeps F a w → F g → Keeps F a (w.setCells g o vs)
  | [], _, _, h, _ => h
  | v :: r, o, w, h, hg => keeps_setCells g r (o + 1) _ (h.setCell (p := ⟨g, o, none⟩) (.inl hg) v) hg

theorem heap_setCells (g : Nat) (e : TypeId) : ∀ (vs : List Value) (o : Nat) (w : World) (cur : Array Value), w.heap[g]? = some (.cells cur e (0, 0)) → o + vs.length ≤ cur.size →
    ∃ cur' : Array Value, (w.setCells g o vs).heap[g]? = some (.cells cur' e (0, 0)) ∧ cur'.size = cur.size ∧ cur'.toList = cur.toList.take o ++ vs ++ cur.toList.drop (o + vs.length)
  | [], o, w, cur, h, hs => ⟨cur, h, rfl, by simp⟩
  | v :: r, o, w, cur, h, hs => by
    simp only [List.length_cons] at hs
    obtain ⟨cur', h1, h2, h3⟩ := heap_setCells g e r (o + 1) (w.setCell ⟨g, o, none⟩ v) _ (heap_setCell_same w g o cur e v h) (by simp; omega)
    refine ⟨cur', h1, by simpa using h2, ?_⟩
    rw [h3]
    have ho : o < cur.toList.length := by simp; omega
    simp only [Array.toList_setIfInBounds, List.length_cons]
    rw [List.take_set, List.drop_set_of_lt (by omega), List.take_succ_eq_append_getElem ho, List.set_append_right _ _ (by simp; omega)]
    simp
    have h5 : min o cur.size = o := by omega
    have h6 : o + 1 + r.length = o + (r.length + 1) := by omega
    simp [h5, h6]

/-- The cells of a row of ints: as the library's contracts ask for them. -/
theorem row_ints {w : World} {v : Value} {ks : List Nat} (h : w.ownsRow 0 3 1 v ks.length (intsV ks)) (hk : ks ≠ []) :
    ∃ g cap cur, v = .slice (some ⟨g, 0, none⟩) ks.length cap ∧ w.heap[g]? = some (.cells cur 3 (0, 0)) ∧ ks.length ≤ cap ∧ cap ≤ maxLen ∧ cur.size = cap ∧ cur.toList.take ks.length = intsV ks ∧
      (∀ j, j < (ks.map Int.ofNat).length → w.cell? ⟨g, 0 + j, none⟩ = some (.int .i64 ((ks.map Int.ofNat).getD j 0))) ∧ (∀ j, j < ks.length → w.frozen? ⟨g, 0 + j, none⟩ = false) := by
  obtain ⟨h1, h2⟩ := h
  rcases h2 with ⟨_, h2⟩ | ⟨g, cap, cur, hv, hg, hh, hn, hc, hs, ht⟩
  · exact absurd (List.eq_nil_of_length_eq_zero h2) hk
  · simp only [Nat.mul_one] at ht hs
    refine ⟨g, cap, cur, hv, hh, hn, hc, hs, ht, ?_, fun j hj => frozen_of_heap hh _⟩
    intro j hj
    simp at hj
    rw [cell_of_heap hh]
    have e : cur[0 + j]? = (cur.toList.take ks.length)[j]? := by rw [Nat.zero_add, List.getElem?_take_of_lt hj, Array.getElem?_toList]
    rw [e, ht]
    simp [intsV, hj, List.getD]

section
variable {w : World} {F : Nat → Prop} {bf bn cap : Nat} {pn : List PN} {s : List Nd}

/-- The list's own block is another now, the same slice value over it. -/
theorem PForAt.newRow (h : PForAt w F bf bn cap pn s) {w' : World} {i g : Nat} {r : PN} {x : Nd} (hr : pn[i]? = some r) (hx : s[i]? = some x) (hg : r.kv.ownBlock = some g) (hk : Keeps (fun b => b = g) w w') {ks : List Nat}
    (hrow : w'.ownsRow 0 3 1 r.kv ks.length (intsV ks)) : PForAt w' F bf bn cap pn (s.set i { x with ks := ks }) := by
  have ho := h.ok i r x hr hx
  have ha := ho.apart g hg
  have hi' := (List.getElem?_eq_some_iff.1 hx).1
  refine ⟨?_, hk.row h.nodes (fun b e e2 => by cases e; exact ha.2.2 e2.symm), h.Ff, h.Fn, h.ne, by simpa using h.len, ?_, h.sep⟩
  · rw [hk.block bf (heap_lt h.forest) (fun e => ha.2.1 e.symm)]; exact h.forest
  · intro k r1 x1 h1 h2
    rw [List.getElem?_set] at h2
    by_cases hik : i = k
    · subst hik
      rw [if_pos rfl, if_pos hi'] at h2
      cases h2
      rw [hr] at h1
      cases h1
      exact ⟨ho.t, ho.p, ho.ch, hrow, ho.apart⟩
    · rw [if_neg hik] at h2
      have o := h.ok k r1 x1 h1 h2
      refine o.keeps hk (fun b e e2 => ?_)
      subst e2
      exact h.sep i k r r1 hik hr h1 _ hg e
end
end Go.Proofs.YtabogkonklplcaaGreatDoor

/- strings.Builder at this program: copyCheck, WriteByte, WriteString, WriteRune. -/
namespace Go.Proofs.YtabogkonklplcaaGreatDoor
open Go.RowKit
set_option linter.unusedSimpArgs false
set_option linter.unusedVariables false

abbrev Bld (B b : Nat) (bs : List Value) (w : World) : Prop := Lib.IsBuilder 219 5 B b bs w
abbrev BldU (B b : Nat) (bs : List Value) (w : World) : Prop := Lib.BuilderAt 219 5 B b (ptr b) bs w

theorem Tryz.sizeBld : (Tryz.prog.info? 219).map (·.size) = some 2 := by kernel_rfl

set_option maxHeartbeats 1000000 in
set_option maxRecDepth 100000 in
theorem bcheck_used (b : Nat) (w : World) (h0 : w.cell? ⟨b, 0, none⟩ = some (ptr b)) :
    Calls Tryz.prog 184 #[ptr b] w fun e w' => e = .returned (.tuple #[]) ∧ w' = w := by
  obtain ⟨j, hj, _⟩ := Option.map_eq_some_iff.1 Tryz.sizeBld
  go_enter Tryz.func184, Tryz.ntmps184
  go_wp2
  rw [Lib.run_neq_ptr_same w _ Tryz.underlying216 hj]
  go_wp2
  go_end0
  exact ⟨rfl, rfl⟩

set_option maxHeartbeats 1000000 in
set_option maxRecDepth 100000 in
theorem bcheck_fresh (b : Nat) (w : World) (h0 : w.cell? ⟨b, 0, none⟩ = some (.pointer none)) (hsh : w.shape? b = some (219, 2)) (hfz : w.frozen? ⟨b, 0, none⟩ = false) :
    Calls Tryz.prog 184 #[ptr b] w fun e w' => e = .returned (.tuple #[]) ∧ w' = w.setCell ⟨b, 0, none⟩ (ptr b) := by
  obtain ⟨j, hj, hjs⟩ := Option.map_eq_some_iff.1 Tryz.sizeBld
  go_enter Tryz.func184, Tryz.ntmps184
  go_wp2
  rw [Lib.run_to_unsafe w ⟨b, 0, none⟩ Tryz.underlying216 Tryz.underlying203 hj (by rw [hjs]; decide) hsh (Nat.zero_lt_succ 1)]
  simp only [Result.andThen]
  rw [Oper.upon_value]
  go_wp2
  rw [run_callFunc_extern Tryz.func195 (by kernel_rfl) (by kernel_rfl) (by kernel_rfl) (e := Extern.AbiNoEscape.same) (by kernel_rfl)]
  rw [Lib.run_noEscape]
  simp only [Result.andThen]
  rw [Oper.upon_value]
  go_wp2
  rw [Lib.run_from_unsafe w ⟨b, 0, none⟩ Tryz.underlying203 Tryz.underlying216 hj hsh (by kernel_rfl)]
  simp only [Result.andThen]
  rw [Oper.upon_value]
  go_wp2
  go_end0
  exact ⟨rfl, rfl⟩

/-- Iterators over strings stay as they are. -/
def IterKept (w w' : World) : Prop := ∀ (k : Nat) (t : ByteArray) (p : Nat), w.heap[k]? = some (.stringIter t p) → w'.heap[k]? = some (.stringIter t p)
theorem IterKept.refl (w : World) : IterKept w w := fun _ _ _ h => h
theorem IterKept.trans {a b c : World} (h : IterKept a b) (g : IterKept b c) : IterKept a c := fun k t p hk => g k t p (h k t p hk)
theorem IterKept.alloc (w : World) (o : Obj) : IterKept w (w.alloc o) := fun k t p hk => by rw [Below.heap_alloc _ _ _ (heap_lt hk)]; exact hk
theorem IterKept.setCell {w : World} {b o : Nat} {cur : Array Value} {e : TypeId} {fz : Nat × Nat} (v : Value) (hb : w.heap[b]? = some (.cells cur e fz)) : IterKept w (w.setCell ⟨b, o, none⟩ v) := fun k t p hk => by
  have hne : k ≠ b := fun e => by subst e; rw [hb] at hk; cases hk
  have h := (Keeps.refl (fun x => x = b) w).setCell (p := ⟨b, o, none⟩) (.inl rfl) v
  rw [h.block k (heap_lt hk) hne]; exact hk
theorem IterKept.grown {w w' : World} {B : Nat} {v : Value} {n : Nat} {xs : List Value} {e : TypeId} {z : Nat} (hown : w.ownsRow B e z v n xs) (hg : w.grownBy w' v.ownBlock) : IterKept w w' := fun k t p hk => by
  rw [hg.block k (heap_lt hk) ?_]
  · exact hk
  · intro e
    rcases hown.2 with ⟨hv, _⟩ | ⟨g, cap, cur, hv, _, hh, _⟩
    · rw [hv] at e; cases e
    · rw [hv] at e
      cases e
      rw [hh] at hk; cases hk

theorem bcheck {B b : Nat} {bs : List Value} {w : World} (h : Bld B b bs w) :
    Calls Tryz.prog 184 #[ptr b] w fun e w' => e = .returned (.tuple #[]) ∧ BldU B b bs w' ∧ Below B w w' ∧ IterKept w w' := by
  rcases h with h | h
  · refine (bcheck_fresh b w h.cell0 h.shape h.frozen0).mono ?_
    rintro e w' ⟨rfl, rfl⟩
    have h2 := h
    obtain ⟨_, v, hb, _⟩ := h2
    exact ⟨rfl, h.used _, (Below.refl B w).setCell (p := ⟨b, 0, none⟩) h.1 _, IterKept.setCell _ hb⟩
  · refine (bcheck_used b w h.cell0).mono ?_
    rintro e w' ⟨rfl, rfl⟩
    exact ⟨rfl, h, Below.refl B _, IterKept.refl _⟩

end Go.Proofs.YtabogkonklplcaaGreatDoor
