import Derived.Test.YtabogkonklplcaaGreatDoorB27
import Derived.Test.YtabogkonklplcaaGreatDoorB16
import Derived.Test.YtabogkonklplcaaGreatDoorB29

/- tree.Element, tree.Text; the document's answers at Element and Text. -/
namespace Go.Proofs.YtabogkonklplcaaGreatDoor
open Go.RowKit
set_option linter.unusedSimpArgs false
set_option linter.unusedVariables false

section
variable {w : World} {F : Nat → Prop} {bf : Nat} {s : List Nd}

set_option maxHeartbeats 400000 in
theorem telement_full (hD : PFor w F bf s) (h40 : 40 ≤ s.length) : Calls Tryz.prog 92 #[ptr bf] w (TPost F w bf s (.tuple #[.int .i64 0, refusalV 0 7])) := by
  obtain ⟨bn, cap, pn, hD⟩ := hD
  have C := hid (add_full hD h40 (-1) false ⟨#[]⟩ 0)
  have HD := hid hD
  clear hD
  go_enter Tryz.func92, Tryz.ntmps92
  go_wp2_with (go_at_call 143; refine C.out.mono ?_; rintro e w1 ⟨rfl, hb⟩)
  go_ret2
  exact ⟨rfl, Keeps.of_below hb, bn, cap, pn, (HD.out.below hb).wider (fun b h => .inl h)⟩

set_option maxHeartbeats 400000 in
theorem telement_some (hD : PFor w F bf s) (h40 : s.length < 40) : Calls Tryz.prog 92 #[ptr bf] w (TPost F w bf (s ++ [rootNd]) (.tuple #[.int .i64 s.length, .nilIface])) := by
  obtain ⟨bn, cap, pn, hD⟩ := hD
  have C := hid (add_some hD h40 rootNd rfl 0)
  clear hD
  go_enter Tryz.func92, Tryz.ntmps92
  go_wp2_with (go_at_call 143; refine C.out.mono ?_; rintro e w1 ⟨rfl, hk, hf⟩)
  go_ret2
  exact ⟨rfl, hk, hf⟩

set_option maxHeartbeats 400000 in
theorem addText_full (hD : PFor w F bf s) (h40 : 40 ≤ s.length) (t : ByteArray) (q : Int) : Calls Tryz.prog 103 #[ptr bf, .string t, .int .i64 q] w fun e w' => e = .returned (.tuple #[.int .i64 0, refusalV q 7]) ∧ Below w.heap.size w w' := by
  obtain ⟨bn, cap, pn, hD⟩ := hD
  have C := hid (add_full hD h40 (-1) true t q)
  clear hD
  go_enter Tryz.func103, Tryz.ntmps103
  go_wp2_with (go_at_call 143; refine C.out.mono ?_; rintro e w1 ⟨rfl, hb⟩)
  go_ret2
  exact ⟨rfl, hb⟩

set_option maxHeartbeats 400000 in
theorem addText_some (hD : PFor w F bf s) (h40 : s.length < 40) (l : List ByteArray) (q : Int) : Calls Tryz.prog 103 #[ptr bf, .string (catB l), .int .i64 q] w (TPost F w bf (s ++ [⟨true, l, [], -1⟩]) (.tuple #[.int .i64 s.length, .nilIface])) := by
  obtain ⟨bn, cap, pn, hD⟩ := hD
  have C := hid (add_some hD h40 ⟨true, l, [], -1⟩ rfl q)
  clear hD
  go_enter Tryz.func103, Tryz.ntmps103
  go_wp2_with (go_at_call 143; refine C.out.mono ?_; rintro e w1 ⟨rfl, hk, hf⟩)
  go_ret2
  exact ⟨rfl, hk, hf⟩

set_option maxHeartbeats 400000 in
theorem clone_any (t : ByteArray) (w : World) (ht : t.size < lots) : Calls Tryz.prog 145 #[.string t] w fun e w' => e = .returned (.string t) ∧ Below w.heap.size w w' := by
  have C := hid (Tryz.stringslite_Clone t w (by unfold lots at ht; omega))
  clear ht
  go_enter Tryz.func145, Tryz.ntmps145
  go_wp2_with (go_at_call 172; refine C.out.mono ?_; rintro e w1 ⟨rfl, hb⟩)
  go_ret
  exact ⟨rfl, hb⟩

def FlawPost (F : Nat → Prop) (w : World) (bf : Nat) (s : List Nd) (e : Ending) (w' : World) : Prop := ∃ n : Int, TPost F w bf s (.tuple #[.int .i64 0, .iface 145 (.agg #[.int .i64 0, flawV n])]) e w'

set_option maxHeartbeats 400000 in
theorem ttext_no (hD : PFor w F bf s) (hT : Tabs w) (t : ByteArray) (ht : t.size < lots) (h : ∀ l, ¬ Takes t l) : Calls Tryz.prog 93 #[ptr bf, .string t] w (FlawPost F w bf s) := by
  have C := hid (check_any 30 (by decide) t w ht hT)
  have HD := hid hD
  have HN := hid h
  clear hD hT ht h
  go_enter Tryz.func93, Tryz.ntmps93
  go_wp2_with (go_at_call 144; refine C.out.mono ?_; rintro e w1 ⟨hb, ⟨l, hl, _⟩ | ⟨_, n, rfl⟩⟩; (first | exact absurd hl (HN.out l) | skip))
  go_ret2
  exact ⟨n, rfl, Keeps.of_below hb, (HD.out.below hb).wider (fun b h => .inl h)⟩


set_option maxHeartbeats 1000000 in
theorem ttext_full (hD : PFor w F bf s) (hT : Tabs w) (t : ByteArray) (ht : t.size < lots) (l : List ByteArray) (h : Takes t l) (h40 : 40 ≤ s.length) : Calls Tryz.prog 93 #[ptr bf, .string t] w (TPost F w bf s (.tuple #[.int .i64 0, refusalV 0 7])) := by
  have C := hid (check_any 30 (by decide) t w ht hT)
  have CL := hid (fun w1 => clone_any t w1 ht)
  have HD := hid hD
  have HN := hid h
  have H4 := hid h40
  clear hD hT ht h h40
  go_enter Tryz.func93, Tryz.ntmps93
  go_wp2_with first
    | (go_at_call 144; refine C.out.mono ?_; rintro e w1 ⟨hb, ⟨l', hl, rfl⟩ | ⟨hn, _⟩⟩ <;> (first | exact absurd HN.out (hn l) | skip))
    | (go_at_call 145; refine (CL.out _).mono ?_; rintro e w2 ⟨rfl, hb2⟩
       have hB := hid (hb.trans (hb2.mono hb.size))
       have D2 := hid (HD.out.below hB.out)
       clear hb hb2)
    | (go_at_call 103; refine (addText_full D2.out H4.out t 0).mono ?_; rintro e w3 ⟨rfl, hb3⟩)
  go_ret2
  have hb4 := hB.out.trans (hb3.mono hB.out.size)
  exact ⟨rfl, Keeps.of_below hb4, (HD.out.below hb4).wider (fun b h => .inl h)⟩

set_option maxHeartbeats 1000000 in
theorem ttext_some (hD : PFor w F bf s) (hT : Tabs w) (t : ByteArray) (ht : t.size < lots) (l : List ByteArray) (h : Takes t l) (h40 : s.length < 40) : Calls Tryz.prog 93 #[ptr bf, .string t] w (TPost F w bf (s ++ [⟨true, l, [], -1⟩]) (.tuple #[.int .i64 s.length, .nilIface])) := by
  have C := hid (check_any 30 (by decide) t w ht hT)
  have CL := hid (fun w1 => clone_any t w1 ht)
  have HD := hid hD
  have HN := hid h
  have H4 := hid h40
  have HC := hid (charsOf_cat t.size t l (Nat.le_refl _) h.1)
  clear hD hT ht h h40
  go_enter Tryz.func93, Tryz.ntmps93
  go_wp2_with first
    | (go_at_call 144; refine C.out.mono ?_; rintro e w1 ⟨hb, ⟨l', hl, rfl⟩ | ⟨hn, _⟩⟩ <;> (first | exact absurd HN.out (hn l) | skip))
    | (go_at_call 145; refine (CL.out _).mono ?_; rintro e w2 ⟨rfl, hb2⟩
       have hB := hid (hb.trans (hb2.mono hb.size))
       have D2 := hid (HD.out.below hB.out)
       clear hb hb2)
    | (go_at_call 103; have A1 := addText_some D2.out H4.out l 0; rw [HC.out] at A1; refine A1.mono ?_; clear A1; rintro e w3 ⟨rfl, hk3, hf3⟩)
  go_ret2
  refine ⟨rfl, (Keeps.of_below hB.out).trans (hk3.mono (fun k _ h => .inl h)), hf3.wider (fun b h => ?_)⟩
  rcases h with h | h
  · exact .inl h
  · exact .inr (Nat.le_trans hB.out.size h)
end

set_option maxHeartbeats 400000 in
theorem mtext_flaw {w : World} {F : Nat → Prop} {bx : Nat} {s s' : List Nd} {rs : List Sp} (hg : GG w) (hP : PLies w F bx ⟨s, rs⟩) (t : ByteArray)
    (hT : ∀ (F' : Nat → Prop) (bf : Nat), PFor w F' bf s → Calls Tryz.prog 93 #[ptr bf, .string t] w (FlawPost F' w bf s')) :
    Calls Tryz.prog 53 #[ptr bx, .string t] w (PLPost F w bx ⟨s', rs⟩ (.tuple #[.int .i64 0, errV 0 6])) := by
  obtain ⟨bf, bl, sv, hD⟩ := hP
  have C := hid (hT _ _ hD.nodes)
  have c0 : w.cell? ⟨bx, 0, none⟩ = some (ptr bf) := cell_of_heap hD.doc 0
  have AF := hid (fun w1 w2 => pdoc_after (w1 := w1) (w2 := w2) (s' := s') hg hD)
  have AG := hid (fun w1 => gg_after (w1 := w1) (F := F) (bx := bx) (bl := bl) (sv := sv) hg)
  clear hD hT hg
  go_enter Tryz.func53, Tryz.ntmps53
  go_wp2_with first
    | (go_at_call 93; refine C.out.mono ?_; rintro e w1 ⟨n, rfl, hk, hf⟩; have E1 := hid (errOf_F 0 n w1 (AG.out w1 hk)); have A1 := hid (fun w2 => AF.out w1 w2 hk hf); clear hk hf)
    | (go_at_call 46; refine E1.out.mono ?_; rintro e w2 ⟨rfl, hb⟩)
  go_ret2
  exact ⟨rfl, (A1.out _ hb).1, _, _, _, (A1.out _ hb).2⟩

theorem RDoc.after {w w' : World} {F : Nat → Prop} {bd : Nat} {s : List Nd} (h : RDoc w F bd s []) (hb : Below w.heap.size w w') : RDoc w' (grow F w) bd s [] := by
  obtain ⟨bn, cap, rn, rv, h⟩ := h
  exact ⟨bn, cap, rn, rv, (h.below hb).wider (fun b h => .inl h)⟩

theorem ans_element (s : List Nd) (wf : WF s) : ∃ n : Int, Ans PDoc GG ⟨s, []⟩ 52 73 [] (fun v => .tuple #[.int .i64 n, v]) (fun v => .tuple #[.int .i64 n, v]) := by
  by_cases h40 : s.length < 40
  · refine ⟨s.length, 0, 0, ⟨s ++ [rootNd], []⟩, ⟨wf_push wf h40 rootNd rfl rfl (fun _ => rfl) ⟨by decide, fun c hc => by cases hc⟩, rfl⟩, ?_, ?_⟩
    · intro w F bx hg hP
      exact melement_of hg hP (errOf_nil 0) (fun F' bf h => telement_some h h40)
    · rintro w F bd ⟨bn, cap, rn, rv, hD⟩
      exact (relement_some hD h40).mono fun e w' h => h
  · refine ⟨0, 0, 7, ⟨s, []⟩, ⟨wf, rfl⟩, ?_, ?_⟩
    · intro w F bx hg hP
      exact melement_of hg hP (errOf_P 0 7 (by decide)) (fun F' bf h => telement_full h (by omega))
    · intro w F bd hR
      have hR' := hR
      obtain ⟨bn, cap, rn, rv, hD⟩ := hR
      exact (relement_full (s := s) hD (by omega)).mono fun e w' ⟨h1, h2⟩ => ⟨h1, Keeps.of_below h2, hR'.after h2⟩

theorem ans_text (s : List Nd) (wf : WF s) (t : ByteArray) (ht : t.size < lots) : ∃ n : Int, Ans PDoc GG ⟨s, []⟩ 53 74 [.string t] (fun v => .tuple #[.int .i64 n, v]) (fun v => .tuple #[.int .i64 n, v]) := by
  by_cases hk : ∃ l, Takes t l
  · obtain ⟨l, hl⟩ := hk
    by_cases h40 : s.length < 40
    · refine ⟨s.length, 0, 0, ⟨s ++ [⟨true, l, [], -1⟩], []⟩, ⟨wf_push wf h40 _ rfl rfl (fun h => by cases h) ⟨hl.2, charsOf_isCh t.size t l (Nat.le_refl _) hl.1⟩, rfl⟩, ?_, ?_⟩
      · intro w F bx hg hP
        exact mtext_of hg hP t (errOf_nil 0) (fun F' bf h => ttext_some h hg.2 t ht l hl h40)
      · rintro w F bd ⟨bn, cap, rn, rv, hD⟩
        exact (rtext_some hD t ht l hl.1 hl.2 h40).mono fun e w' h => h
    · refine ⟨0, 0, 7, ⟨s, []⟩, ⟨wf, rfl⟩, ?_, ?_⟩
      · intro w F bx hg hP
        exact mtext_of hg hP t (errOf_P 0 7 (by decide)) (fun F' bf h => ttext_full h hg.2 t ht l hl (by omega))
      · intro w F bd hR
        have hR' := hR
        obtain ⟨bn, cap, rn, rv, hD⟩ := hR
        exact (rtext_full (s := s) hD t ht l hl.1 hl.2 (by omega)).mono fun e w' ⟨h1, h2⟩ => ⟨h1, Keeps.of_below h2, hR'.after h2⟩
  · refine ⟨0, 0, 6, ⟨s, []⟩, ⟨wf, rfl⟩, ?_, ?_⟩
    · intro w F bx hg hP
      exact mtext_flaw hg hP t (fun F' bf h => ttext_no h hg.2 t ht (fun l hl => hk ⟨l, hl⟩))
    · intro w F bd hR
      have hR' := hR
      obtain ⟨bn, cap, rn, rv, hD⟩ := hR
      cases hc : charsOf t with
      | none => exact (rtext_no hD t ht hc).mono fun e w' ⟨h1, h2⟩ => ⟨h1, Keeps.of_below h2, hR'.after h2⟩
      | some l =>
        have h30 : 30 < l.length := by
          rcases Nat.lt_or_ge 30 l.length with h | h
          · exact h
          · exact absurd ⟨l, hc, h⟩ hk
        exact (rtext_long hD t ht l hc h30).mono fun e w' ⟨h1, h2⟩ => ⟨h1, Keeps.of_below h2, hR'.after h2⟩

end Go.Proofs.YtabogkonklplcaaGreatDoor
