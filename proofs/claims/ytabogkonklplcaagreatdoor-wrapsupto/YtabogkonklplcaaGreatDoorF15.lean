import Derived.Test.YtabogkonklplcaaGreatDoorF11
import Derived.Lib.MapLaws
import Derived.Lib.UnsafeStr
import Derived.Lib.RuneBytes
import Derived.Lib.AppendStr
import Derived.Shelf.Spec.BytesIndexFunc
import Derived.Test.YtabogkonklplcaaGreatDoorF14
import Derived.Test.YtabogkonklplcaaGreatDoorF13
import Derived.Test.YtabogkonklplcaaGreatDoorF06
import Derived.Laws.IdiomCopy
import Derived.WalkSmall

/- A text that is put together of characters: what the model decodes at each one's place. -/
namespace Go.Proofs.YtabogkonklplcaaGreatDoor
open Go.RowKit
set_option linter.unusedSimpArgs false
set_option linter.unusedVariables false

theorem if_ext {n n' m k : Nat} {q : Prop} {d : Decidable (m ≤ n ∧ q)} {d' : Decidable (m ≤ n' ∧ q)} (hn : n ≤ n') (h : (if m ≤ n ∧ q then k else 0) ≠ 0) : (if m ≤ n' ∧ q then k else 0) = if m ≤ n ∧ q then k else 0 := by
  by_cases c : m ≤ n ∧ q
  · exact (if_pos (show m ≤ n' ∧ q from ⟨by omega, c.2⟩)).trans (if_pos c).symm
  · rw [if_neg c] at h; exact absurd rfl h
theorem headN_ext {n n' b0 b1 b2 b3 : Nat} (hn : n ≤ n') (h : headN n b0 b1 b2 b3 ≠ 0) : headN n' b0 b1 b2 b3 = headN n b0 b1 b2 b3 := by
  unfold headN at h ⊢
  by_cases a : b0 < 128
  · simp only [if_pos a]
  simp only [if_neg a] at h ⊢
  by_cases c1 : 194 ≤ b0 ∧ b0 ≤ 223
  · simp only [if_pos c1] at h ⊢
    exact if_ext hn h
  simp only [if_neg c1] at h ⊢
  by_cases c2 : b0 = 224
  · simp only [if_pos c2] at h ⊢
    exact if_ext hn h
  simp only [if_neg c2] at h ⊢
  by_cases c3 : b0 = 237
  · simp only [if_pos c3] at h ⊢
    exact if_ext hn h
  simp only [if_neg c3] at h ⊢
  by_cases c4 : 225 ≤ b0 ∧ b0 ≤ 239
  · simp only [if_pos c4] at h ⊢
    exact if_ext hn h
  simp only [if_neg c4] at h ⊢
  by_cases c5 : b0 = 240
  · simp only [if_pos c5] at h ⊢
    exact if_ext hn h
  simp only [if_neg c5] at h ⊢
  by_cases c6 : 241 ≤ b0 ∧ b0 ≤ 243
  · simp only [if_pos c6] at h ⊢
    exact if_ext hn h
  simp only [if_neg c6] at h ⊢
  by_cases c7 : b0 = 244
  · simp only [if_pos c7] at h ⊢
    exact if_ext hn h
  simp only [if_neg c7] at h ⊢

theorem byteI_app (c r : ByteArray) (i : Nat) (h : i < c.size) : byteI (c ++ r) i = byteI c i := by
  unfold byteI
  rw [dif_pos (by rw [ByteArray.size_append]; omega), dif_pos h, ByteArray.getElem_append_left h]

/-- Behind it may stand what will. -/
theorem headW_app {c : ByteArray} (h : IsCh c) (r : ByteArray) : headW (c ++ r) = c.size := by
  obtain ⟨h0, h1⟩ := h
  have hs : (c ++ r).size = c.size + r.size := ByteArray.size_append
  have e1 := headW_eq (c ++ r) (by omega) (byteN (c ++ r) 0) (byteN (c ++ r) 1) (byteN (c ++ r) 2) (byteN (c ++ r) 3) (byteI_nat _ 0 (by omega)) (fun h => byteI_nat _ 1 h) (fun h => byteI_nat _ 2 h) (fun h => byteI_nat _ 3 h)
  have e2 := headW_eq c (by omega) (byteN (c ++ r) 0) (byteN (c ++ r) 1) (byteN (c ++ r) 2) (byteN (c ++ r) 3) (by rw [← byteI_app c r 0 (by omega)]; exact byteI_nat _ 0 (by omega)) (fun h => by rw [← byteI_app c r 1 h]; exact byteI_nat _ 1 (by omega)) (fun h => by rw [← byteI_app c r 2 h]; exact byteI_nat _ 2 (by omega)) (fun h => by rw [← byteI_app c r 3 h]; exact byteI_nat _ 3 (by omega))
  rw [h1] at e2
  rw [e1, headN_ext (n := c.size) (by omega) (by rw [← e2]; exact h0), ← e2]

theorem extract_app (a b : ByteArray) : (a ++ b).extract a.size (a ++ b).size = b := by
  rw [ByteArray.size_append]
  have e := ByteArray.extract_append_size_add (a := a) (b := b) (i := 0) (j := b.size)
  rw [Nat.add_zero] at e
  rw [e]
  exact ByteArray.extract_zero_size

theorem decode_head (c r : ByteArray) (h : IsCh c) : (Utf8.decode (c ++ r) 0).2 = c.size ∧ Lib.runeCells ((Utf8.decode (c ++ r) 0).1 : Int) = Lib.strCells c := by
  have hs : (c ++ r).size = c.size + r.size := ByteArray.size_append
  have h0 := h.1
  have e0 : (c ++ r).extract 0 (c ++ r).size = c ++ r := ByteArray.extract_zero_size
  have hw := headW_at (c ++ r) 0 (by omega)
  rw [e0, headW_app h r] at hw
  rcases hw with ⟨h1, _⟩ | ⟨_, h2, h3⟩
  · exact absurd h1 h0
  · refine ⟨h2, ?_⟩
    have e := Lib.encode_decode (c ++ r).data.toList (by intro e; have : (c ++ r).size = 0 := by rw [← ByteArray.size_data, ← Array.length_toList, e]; rfl
                                                         omega) (by
      show ¬ ((Utf8.decode (c ++ r) 0).1 = 65533 ∧ (Utf8.decode (c ++ r) 0).2 = 1)
      exact fun hh => h3 (Prod.ext hh.1 hh.2))
    have e2 : Lib.decodeL (c ++ r).data.toList = Utf8.decode (c ++ r) 0 := rfl
    rw [e2, h2] at e
    rw [← Lib.byteCells_encodeRune, e, Lib.strCells_eq]
    congr 1
    simp [ByteArray.data_append]

end Go.Proofs.YtabogkonklplcaaGreatDoor

/- tree.Element, tree.Text; the document's answers at Element and Text. -/
namespace Go.Proofs.YtabogkonklplcaaGreatDoor
open Go.RowKit
set_option linter.unusedSimpArgs false
set_option linter.unusedVariables false

section
variable {w : World} {F : Nat → Prop} {bf : Nat} {s : List Nd}

set_option maxHeartbeats 400000 in
theorem telement_full (hD : PFor w F bf s) (h40 : 40 ≤ s.length) : Calls Tryz.prog 92 #[ptr bf] w (TPost F w bf s (.tuple #[.int .i64 0, refusalV 0 7])) := by
  obtain ⟨bn, cap, pn, hD⟩ := hD
  have C := hid (add_full hD h40 (-1) false ⟨#[]⟩ 0)
  have HD := hid hD
  clear hD
  go_enter Tryz.func92, Tryz.ntmps92
  go_wp2_with (go_at_call 143; refine C.out.mono ?_; rintro e w1 ⟨rfl, hb⟩)
  go_ret2
  exact ⟨rfl, Keeps.of_below hb, bn, cap, pn, (HD.out.below hb).wider (fun b h => .inl h)⟩

set_option maxHeartbeats 400000 in
theorem telement_some (hD : PFor w F bf s) (h40 : s.length < 40) : Calls Tryz.prog 92 #[ptr bf] w (TPost F w bf (s ++ [rootNd]) (.tuple #[.int .i64 s.length, .nilIface])) := by
  obtain ⟨bn, cap, pn, hD⟩ := hD
  have C := hid (add_some hD h40 rootNd rfl 0)
  clear hD
  go_enter Tryz.func92, Tryz.ntmps92
  go_wp2_with (go_at_call 143; refine C.out.mono ?_; rintro e w1 ⟨rfl, hk, hf⟩)
  go_ret2
  exact ⟨rfl, hk, hf⟩

set_option maxHeartbeats 400000 in
theorem addText_full (hD : PFor w F bf s) (h40 : 40 ≤ s.length) (t : ByteArray) (q : Int) : Calls Tryz.prog 103 #[ptr bf, .string t, .int .i64 q] w fun e w' => e = .returned (.tuple #[.int .i64 0, refusalV q 7]) ∧ Below w.heap.size w w' := by
  obtain ⟨bn, cap, pn, hD⟩ := hD
  have C := hid (add_full hD h40 (-1) true t q)
  clear hD
  go_enter Tryz.func103, Tryz.ntmps103
  go_wp2_with (go_at_call 143; refine C.out.mono ?_; rintro e w1 ⟨rfl, hb⟩)
  go_ret2
  exact ⟨rfl, hb⟩

set_option maxHeartbeats 400000 in
theorem addText_some (hD : PFor w F bf s) (h40 : s.length < 40) (l : List ByteArray) (q : Int) : Calls Tryz.prog 103 #[ptr bf, .string (catB l), .int .i64 q] w (TPost F w bf (s ++ [⟨true, l, [], -1⟩]) (.tuple #[.int .i64 s.length, .nilIface])) := by
  obtain ⟨bn, cap, pn, hD⟩ := hD
  have C := hid (add_some hD h40 ⟨true, l, [], -1⟩ rfl q)
  clear hD
  go_enter Tryz.func103, Tryz.ntmps103
  go_wp2_with (go_at_call 143; refine C.out.mono ?_; rintro e w1 ⟨rfl, hk, hf⟩)
  go_ret2
  exact ⟨rfl, hk, hf⟩

set_option maxHeartbeats 400000 in
theorem clone_any (t : ByteArray) (w : World) (ht : t.size < lots) : Calls Tryz.prog 145 #[.string t] w fun e w' => e = .returned (.string t) ∧ Below w.heap.size w w' := by
  have C := hid (Tryz.stringslite_Clone t w (by unfold lots at ht; omega))
  clear ht
  go_enter Tryz.func145, Tryz.ntmps145
  go_wp2_with (go_at_call 172; refine C.out.mono ?_; rintro e w1 ⟨rfl, hb⟩)
  go_ret
  exact ⟨rfl, hb⟩

def FlawPost (F : Nat → Prop) (w : World) (bf : Nat) (s : List Nd) (e : Ending) (w' : World) : Prop := ∃ n : Int, TPost F w bf s (.tuple #[.int .i64 0, .iface 145 (.agg #[.int .i64 0, flawV n])]) e w'

set_option maxHeartbeats 400000 in
theorem ttext_no (hD : PFor w F bf s) (hT : Tabs w) (t : ByteArray) (ht : t.size < lots) (h : ∀ l, ¬ Takes t l) : Calls Tryz.prog 93 #[ptr bf, .string t] w (FlawPost F w bf s) := by
  have C := hid (check_any 30 (by decide) t w ht hT)
  have HD := hid hD
  have HN := hid h
  clear hD hT ht h
  go_enter Tryz.func93, Tryz.ntmps93
  go_wp2_with (go_at_call 144; refine C.out.mono ?_; rintro e w1 ⟨hb, ⟨l, hl, _⟩ | ⟨_, n, rfl⟩⟩; (first | exact absurd hl (HN.out l) | skip))
  go_ret2
  exact ⟨n, rfl, Keeps.of_below hb, (HD.out.below hb).wider (fun b h => .inl h)⟩


set_option maxHeartbeats 1000000 in
theorem ttext_full (hD : PFor w F bf s) (hT : Tabs w) (t : ByteArray) (ht : t.size < lots) (l : List ByteArray) (h : Takes t l) (h40 : 40 ≤ s.length) : Calls Tryz.prog 93 #[ptr bf, .string t] w (TPost F w bf s (.tuple #[.int .i64 0, refusalV 0 7])) := by
  have C := hid (check_any 30 (by decide) t w ht hT)
  have CL := hid (fun w1 => clone_any t w1 ht)
  have HD := hid hD
  have HN := hid h
  have H4 := hid h40
  clear hD hT ht h h40
  go_enter Tryz.func93, Tryz.ntmps93
  go_wp2_with first
    | (go_at_call 144; refine C.out.mono ?_; rintro e w1 ⟨hb, ⟨l', hl, rfl⟩ | ⟨hn, _⟩⟩ <;> (first | exact absurd HN.out (hn l) | skip))
    | (go_at_call 145; refine (CL.out _).mono ?_; rintro e w2 ⟨rfl, hb2⟩
       have hB := hid (hb.trans (hb2.mono hb.size))
       have D2 := hid (HD.out.below hB.out)
       clear hb hb2)
    | (go_at_call 103; refine (addText_full D2.out H4.out t 0).mono ?_; rintro e w3 ⟨rfl, hb3⟩)
  go_ret2
  have hb4 := hB.out.trans (hb3.mono hB.out.size)
  exact ⟨rfl, Keeps.of_below hb4, (HD.out.below hb4).wider (fun b h => .inl h)⟩

set_option maxHeartbeats 1000000 in
theorem ttext_some (hD : PFor w F bf s) (hT : Tabs w) (t : ByteArray) (ht : t.size < lots) (l : List ByteArray) (h : Takes t l) (h40 : s.length < 40) : Calls Tryz.prog 93 #[ptr bf, .string t] w (TPost F w bf (s ++ [⟨true, l, [], -1⟩]) (.tuple #[.int .i64 s.length, .nilIface])) := by
  have C := hid (check_any 30 (by decide) t w ht hT)
  have CL := hid (fun w1 => clone_any t w1 ht)
  have HD := hid hD
  have HN := hid h
  have H4 := hid h40
  have HC := hid (charsOf_cat t.size t l (Nat.le_refl _) h.1)
  clear hD hT ht h h40
  go_enter Tryz.func93, Tryz.ntmps93
  go_wp2_with first
    | (go_at_call 144; refine C.out.mono ?_; rintro e w1 ⟨hb, ⟨l', hl, rfl⟩ | ⟨hn, _⟩⟩ <;> (first | exact absurd HN.out (hn l) | skip))
    | (go_at_call 145; refine (CL.out _).mono ?_; rintro e w2 ⟨rfl, hb2⟩
       have hB := hid (hb.trans (hb2.mono hb.size))
       have D2 := hid (HD.out.below hB.out)
       clear hb hb2)
    | (go_at_call 103; have A1 := addText_some D2.out H4.out l 0; rw [HC.out] at A1; refine A1.mono ?_; clear A1; rintro e w3 ⟨rfl, hk3, hf3⟩)
  go_ret2
  refine ⟨rfl, (Keeps.of_below hB.out).trans (hk3.mono (fun k _ h => .inl h)), hf3.wider (fun b h => ?_)⟩
  rcases h with h | h
  · exact .inl h
  · exact .inr (Nat.le_trans hB.out.size h)
end

set_option maxHeartbeats 400000 in
theorem mtext_flaw {w : World} {F : Nat → Prop} {bx : Nat} {s s' : List Nd} {rs : List Sp} (hg : GG w) (hP : PLies w F bx ⟨s, rs⟩) (t : ByteArray)
    (hT : ∀ (F' : Nat → Prop) (bf : Nat), PFor w F' bf s → Calls Tryz.prog 93 #[ptr bf, .string t] w (FlawPost F' w bf s')) :
    Calls Tryz.prog 53 #[ptr bx, .string t] w (PLPost F w bx ⟨s', rs⟩ (.tuple #[.int .i64 0, errV 0 6])) := by
  obtain ⟨bf, bl, sv, hD⟩ := hP
  have C := hid (hT _ _ hD.nodes)
  have c0 : w.cell? ⟨bx, 0, none⟩ = some (ptr bf) := cell_of_heap hD.doc 0
  have AF := hid (fun w1 w2 => pdoc_after (w1 := w1) (w2 := w2) (s' := s') hg hD)
  have AG := hid (fun w1 => gg_after (w1 := w1) (F := F) (bx := bx) (bl := bl) (sv := sv) hg)
  clear hD hT hg
  go_enter Tryz.func53, Tryz.ntmps53
  go_wp2_with first
    | (go_at_call 93; refine C.out.mono ?_; rintro e w1 ⟨n, rfl, hk, hf⟩; have E1 := hid (errOf_F 0 n w1 (AG.out w1 hk)); have A1 := hid (fun w2 => AF.out w1 w2 hk hf); clear hk hf)
    | (go_at_call 46; refine E1.out.mono ?_; rintro e w2 ⟨rfl, hb⟩)
  go_ret2
  exact ⟨rfl, (A1.out _ hb).1, _, _, _, (A1.out _ hb).2⟩

theorem RDoc.after {w w' : World} {F : Nat → Prop} {bd : Nat} {s : List Nd} (h : RDoc w F bd s []) (hb : Below w.heap.size w w') : RDoc w' (grow F w) bd s [] := by
  obtain ⟨bn, cap, rn, rv, h⟩ := h
  exact ⟨bn, cap, rn, rv, (h.below hb).wider (fun b h => .inl h)⟩

theorem ans_element (s : List Nd) (wf : WF s) : ∃ n : Int, Ans PDoc GG ⟨s, []⟩ 52 73 [] (fun v => .tuple #[.int .i64 n, v]) (fun v => .tuple #[.int .i64 n, v]) := by
  by_cases h40 : s.length < 40
  · refine ⟨s.length, 0, 0, ⟨s ++ [rootNd], []⟩, ⟨wf_push wf h40 rootNd rfl rfl (fun _ => rfl) ⟨by decide, fun c hc => by cases hc⟩, rfl⟩, ?_, ?_⟩
    · intro w F bx hg hP
      exact melement_of hg hP (errOf_nil 0) (fun F' bf h => telement_some h h40)
    · rintro w F bd ⟨bn, cap, rn, rv, hD⟩
      exact (relement_some hD h40).mono fun e w' h => h
  · refine ⟨0, 0, 7, ⟨s, []⟩, ⟨wf, rfl⟩, ?_, ?_⟩
    · intro w F bx hg hP
      exact melement_of hg hP (errOf_P 0 7 (by decide)) (fun F' bf h => telement_full h (by omega))
    · intro w F bd hR
      have hR' := hR
      obtain ⟨bn, cap, rn, rv, hD⟩ := hR
      exact (relement_full (s := s) hD (by omega)).mono fun e w' ⟨h1, h2⟩ => ⟨h1, Keeps.of_below h2, hR'.after h2⟩

theorem ans_text (s : List Nd) (wf : WF s) (t : ByteArray) (ht : t.size < lots) : ∃ n : Int, Ans PDoc GG ⟨s, []⟩ 53 74 [.string t] (fun v => .tuple #[.int .i64 n, v]) (fun v => .tuple #[.int .i64 n, v]) := by
  by_cases hk : ∃ l, Takes t l
  · obtain ⟨l, hl⟩ := hk
    by_cases h40 : s.length < 40
    · refine ⟨s.length, 0, 0, ⟨s ++ [⟨true, l, [], -1⟩], []⟩, ⟨wf_push wf h40 _ rfl rfl (fun h => by cases h) ⟨hl.2, charsOf_isCh t.size t l (Nat.le_refl _) hl.1⟩, rfl⟩, ?_, ?_⟩
      · intro w F bx hg hP
        exact mtext_of hg hP t (errOf_nil 0) (fun F' bf h => ttext_some h hg.2 t ht l hl h40)
      · rintro w F bd ⟨bn, cap, rn, rv, hD⟩
        exact (rtext_some hD t ht l hl.1 hl.2 h40).mono fun e w' h => h
    · refine ⟨0, 0, 7, ⟨s, []⟩, ⟨wf, rfl⟩, ?_, ?_⟩
      · intro w F bx hg hP
        exact mtext_of hg hP t (errOf_P 0 7 (by decide)) (fun F' bf h => ttext_full h hg.2 t ht l hl (by omega))
      · intro w F bd hR
        have hR' := hR
        obtain ⟨bn, cap, rn, rv, hD⟩ := hR
        exact (rtext_full (s := s) hD t ht l hl.1 hl.2 (by omega)).mono fun e w' ⟨h1, h2⟩ => ⟨h1, Keeps.of_below h2, hR'.after h2⟩
  · refine ⟨0, 0, 6, ⟨s, []⟩, ⟨wf, rfl⟩, ?_, ?_⟩
    · intro w F bx hg hP
      exact mtext_flaw hg hP t (fun F' bf h => ttext_no h hg.2 t ht (fun l hl => hk ⟨l, hl⟩))
    · intro w F bd hR
      have hR' := hR
      obtain ⟨bn, cap, rn, rv, hD⟩ := hR
      cases hc : charsOf t with
      | none => exact (rtext_no hD t ht hc).mono fun e w' ⟨h1, h2⟩ => ⟨h1, Keeps.of_below h2, hR'.after h2⟩
      | some l =>
        have h30 : 30 < l.length := by
          rcases Nat.lt_or_ge 30 l.length with h | h
          · exact h
          · exact absurd ⟨l, hc, h⟩ hk
        exact (rtext_long hD t ht l hc h30).mono fun e w' ⟨h1, h2⟩ => ⟨h1, Keeps.of_below h2, hR'.after h2⟩

end Go.Proofs.YtabogkonklplcaaGreatDoor

/- A node's list of children is written over in place. -/
namespace Go.Proofs.YtabogkonklplcaaGreatDoor
open Go.RowKit
set_option linter.unusedSimpArgs false
set_option linter.unusedVariables false

theorem keeps_setCells {F : Nat → Prop} {a : World} (g : Nat) : ∀ (vs : List Value) (o : Nat) (w : World), Keeps F a w → F g → Keeps F a (w.setCells g o vs)
  | [], _, _, h, _ => h
  | v :: r, o, w, h, hg => keeps_setCells g r (o + 1) _ (h.setCell (p := ⟨g, o, none⟩) (.inl hg) v) hg

theorem heap_setCells (g : Nat) (e : TypeId) : ∀ (vs : List Value) (o : Nat) (w : World) (cur : Array Value), w.heap[g]? = some (.cells cur e (0, 0)) → o + vs.length ≤ cur.size →
    ∃ cur' : Array Value, (w.setCells g o vs).heap[g]? = some (.cells cur' e (0, 0)) ∧ cur'.size = cur.size ∧ cur'.toList = cur.toList.take o ++ vs ++ cur.toList.drop (o + vs.length)
  | [], o, w, cur, h, hs => ⟨cur, h, rfl, by simp⟩
  | v :: r, o, w, cur, h, hs => by
    simp only [List.length_cons] at hs
    obtain ⟨cur', h1, h2, h3⟩ := heap_setCells g e r (o + 1) (w.setCell ⟨g, o, none⟩ v) _ (heap_setCell_same w g o cur e v h) (by simp; omega)
    refine ⟨cur', h1, by simpa using h2, ?_⟩
    rw [h3]
    have ho : o < cur.toList.length := by simp; omega
    simp only [Array.toList_setIfInBounds, List.length_cons]
    rw [List.take_set, List.drop_set_of_lt (by omega), List.take_succ_eq_append_getElem ho, List.set_append_right _ _ (by simp; omega)]
    simp
    have h5 : min o cur.size = o := by omega
    have h6 : o + 1 + r.length = o + (r.length + 1) := by omega
    simp [h5, h6]

/-- The cells of a row of ints: as the library's contracts ask for them. -/
theorem row_ints {w : World} {v : Value} {ks : List Nat} (h : w.ownsRow 0 3 1 v ks.length (intsV ks)) (hk : ks ≠ []) :
    ∃ g cap cur, v = .slice (some ⟨g, 0, none⟩) ks.length cap ∧ w.heap[g]? = some (.cells cur 3 (0, 0)) ∧ ks.length ≤ cap ∧ cap ≤ maxLen ∧ cur.size = cap ∧ cur.toList.take ks.length = intsV ks ∧
      (∀ j, j < (ks.map Int.ofNat).length → w.cell? ⟨g, 0 + j, none⟩ = some (.int .i64 ((ks.map Int.ofNat).getD j 0))) ∧ (∀ j, j < ks.length → w.frozen? ⟨g, 0 + j, none⟩ = false) := by
  obtain ⟨h1, h2⟩ := h
  rcases h2 with ⟨_, h2⟩ | ⟨g, cap, cur, hv, hg, hh, hn, hc, hs, ht⟩
  · exact absurd (List.eq_nil_of_length_eq_zero h2) hk
  · simp only [Nat.mul_one] at ht hs
    refine ⟨g, cap, cur, hv, hh, hn, hc, hs, ht, ?_, fun j hj => frozen_of_heap hh _⟩
    intro j hj
    simp at hj
    rw [cell_of_heap hh]
    have e : cur[0 + j]? = (cur.toList.take ks.length)[j]? := by rw [Nat.zero_add, List.getElem?_take_of_lt hj, Array.getElem?_toList]
    rw [e, ht]
    simp [intsV, hj, List.getD]

section
variable {w : World} {F : Nat → Prop} {bf bn cap : Nat} {pn : List PN} {s : List Nd}

/-- The list's own block is another now, the same slice value over it. -/
theorem PForAt.newRow (h : PForAt w F bf bn cap pn s) {w' : World} {i g : Nat} {r : PN} {x : Nd} (hr : pn[i]? = some r) (hx : s[i]? = some x) (hg : r.kv.ownBlock = some g) (hk : Keeps (fun b => b = g) w w') {ks : List Nat}
    (hrow : w'.ownsRow 0 3 1 r.kv ks.length (intsV ks)) : PForAt w' F bf bn cap pn (s.set i { x with ks := ks }) := by
  have ho := h.ok i r x hr hx
  have ha := ho.apart g hg
  have hi' := (List.getElem?_eq_some_iff.1 hx).1
  refine ⟨?_, hk.row h.nodes (fun b e e2 => by cases e; exact ha.2.2 e2.symm), h.Ff, h.Fn, h.ne, by simpa using h.len, ?_, h.sep⟩
  · rw [hk.block bf (heap_lt h.forest) (fun e => ha.2.1 e.symm)]; exact h.forest
  · intro k r1 x1 h1 h2
    rw [List.getElem?_set] at h2
    by_cases hik : i = k
    · subst hik
      rw [if_pos rfl, if_pos hi'] at h2
      cases h2
      rw [hr] at h1
      cases h1
      exact ⟨ho.t, ho.p, ho.ch, hrow, ho.apart⟩
    · rw [if_neg hik] at h2
      have o := h.ok k r1 x1 h1 h2
      refine o.keeps hk (fun b e e2 => ?_)
      subst e2
      exact h.sep i k r r1 hik hr h1 _ hg e
end
end Go.Proofs.YtabogkonklplcaaGreatDoor

/- The functions that move places, called. -/
namespace Go.Proofs.YtabogkonklplcaaGreatDoor
open Go.RowKit Go.Lib
set_option linter.unusedSimpArgs false
set_option linter.unusedVariables false

abbrev ptwo (w : World) (a0 a1 b0 b1 : Int) : World := (w.alloc (.cells #[.int .i64 a0, .int .i64 a1] 37)).alloc (.cells #[.int .i64 b0, .int .i64 b1] 37)
theorem ptwo_below (w : World) (a0 a1 b0 b1 : Int) : Below w.heap.size w (ptwo w a0 a1 b0 b1) := ((Below.refl _ w).alloc (Nat.le_refl _) _).alloc (by simp) _
theorem ptwo_cells {w w1 : World} {a0 a1 b0 b1 : Int} (hb : Below (ptwo w a0 a1 b0 b1).heap.size (ptwo w a0 a1 b0 b1) w1) :
    w1.heap[w.heap.size]? = some (.cells #[.int .i64 a0, .int .i64 a1] 37 (0, 0)) ∧ w1.heap[w.heap.size + 1]? = some (.cells #[.int .i64 b0, .int .i64 b1] 37 (0, 0)) := by
  constructor
  · rw [hb.block _ (by simp; omega), Below.heap_alloc _ _ _ (by simp), heap_alloc_new]
  · rw [hb.block _ (by simp)]
    have := heap_alloc_new (w.alloc (.cells #[.int .i64 a0, .int .i64 a1] 37)) (.cells #[.int .i64 b0, .int .i64 b1] 37)
    simpa using this

/-- A function that moves places so, in whatever world has what it leans on (blocks from m on). -/
structure MoveOk (m : Nat) (w : World) (mv : Value) (f : Mvf) : Prop where
  runs : ∃ (gf : Nat) (lb : Array Value), mv = .func (.func gf) #[] lb ∧ (∀ args w, (callFunc gf args).run Tryz.prog w = .ok (.enter gf args) w) ∧
    ∀ (G : Nat → Prop) (W : World), Keeps G w W → (∀ b, m ≤ b → ¬ G b) → ∀ a b : Int, 0 ≤ b → b ≤ 100 →
      Calls Tryz.prog gf (#[.agg #[.int .i64 a, .int .i64 b]] ++ lb) W fun e w' => e = .returned (.agg #[.int .i64 (f a b).1, .int .i64 (f a b).2]) ∧ Below W.heap.size W w'

set_option maxRecDepth 20000 in
set_option maxHeartbeats 1000000 in
theorem shift1 (n o d a b : Int) (x y z : Nat) (W : World) (h0 : W.cell? ⟨x, 0, none⟩ = some (.int .i64 n)) (h1 : W.cell? ⟨y, 0, none⟩ = some (.int .i64 o)) (h2 : W.cell? ⟨z, 0, none⟩ = some (.int .i64 d)) (hb0 : 0 ≤ b) (hb : b ≤ 100) (hd0 : -100 ≤ d) (hd : d ≤ 100) :
    Calls Tryz.prog 158 #[.agg #[.int .i64 a, .int .i64 b], ptr x, ptr y, ptr z] W fun e w' => e = .returned (.agg #[.int .i64 (shiftF n o d a b).1, .int .i64 (shiftF n o d a b).2]) ∧ Below W.heap.size W w' := by
  have l0 := World.block_lt_of_cell? W _ h0
  have l1 := World.block_lt_of_cell? W _ h1
  have l2 := World.block_lt_of_cell? W _ h2
  by_cases ha : a = n
  · subst ha
    by_cases ho : o < b
    · have e1 : shiftF a o d a b = (a, b + d) := by simp [shiftF, ho]
      rw [e1]
      have d2 : decide (o < b) = true := decide_eq_true ho
      go_enter Tryz.func158, Tryz.ntmps158
      go_wp2
      refine bodyPost_ret (v := .agg #[.int .i64 a, .int .i64 (b + d)]) (by simp [results, Tryz.results158, go_sem]) rfl ?_
      exact ⟨rfl, by go_grown⟩
    · have e1 : shiftF a o d a b = (a, b) := by simp [shiftF, ho]
      rw [e1]
      have d2 : decide (o < b) = false := decide_eq_false ho
      go_enter Tryz.func158, Tryz.ntmps158
      go_wp2
      refine bodyPost_ret (v := .agg #[.int .i64 a, .int .i64 b]) (by simp [results, Tryz.results158, go_sem]) rfl ?_
      exact ⟨rfl, by go_grown⟩
  · have e1 : shiftF n o d a b = (a, b) := by simp [shiftF, ha]
    rw [e1]
    have d1 : (a == n) = false := by simpa using ha
    go_enter Tryz.func158, Tryz.ntmps158
    go_wp2
    refine bodyPost_ret (v := .agg #[.int .i64 a, .int .i64 b]) (by simp [results, Tryz.results158, go_sem]) rfl ?_
    exact ⟨rfl, by go_grown⟩

end Go.Proofs.YtabogkonklplcaaGreatDoor
