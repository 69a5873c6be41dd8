import Derived.Test.YtabogkonklplcaaGreatDoorC46
import Derived.Test.YtabogkonklplcaaGreatDoorC47

/- The document's answers at Split. -/
namespace Go.Proofs.YtabogkonklplcaaGreatDoor
open Go.RowKit Go.Lib
set_option linter.unusedSimpArgs false
set_option linter.unusedVariables false

set_option maxHeartbeats 400000 in
theorem msplit_no {w : World} {F : Nat → Prop} {bx : Nat} {s s' : List Nd} {rs : List Sp} (hg : GG w) (hP : PLies w F bx ⟨s, rs⟩) {t : TypeId} {u : Value} {a y : Int} (A B : Int) (hE : ErrOf (.iface t u) a y)
    (hT : ∀ (F' : Nat → Prop) (bf : Nat), PFor w F' bf s → Calls Tryz.prog 63 #[ptr bf, .int .i64 A, .int .i64 B] w (TPost F' w bf s' (.tuple #[.int .i64 0, .nilFunc, .iface t u]))) :
    Calls Tryz.prog 30 #[ptr bx, .int .i64 A, .int .i64 B] w (PLPost F w bx ⟨s', rs⟩ (.tuple #[.int .i64 0, errV a y])) := by
  obtain ⟨bf, bl, sv, hD⟩ := hP
  have C := hid (hT _ _ hD.nodes)
  have c0 : w.cell? ⟨bx, 0, none⟩ = some (ptr bf) := cell_of_heap hD.doc 0
  have AF := hid (fun w1 w2 => pdoc_after (w1 := w1) (w2 := w2) (s' := s') hg hD)
  have AG := hid (fun w1 => gg_after (w1 := w1) (F := F) (bx := bx) (bl := bl) (sv := sv) hg)
  have E := hid (fun w1 (h1 : Glob w1) => mfollow_no h1 bx .nilFunc hE)
  clear hD hT hg hE
  go_enter Tryz.func30, Tryz.ntmps30
  go_wp2_with first
    | (go_at_call 63; refine C.out.mono ?_; rintro e w1 ⟨rfl, hk, hf⟩; have E1 := hid (E.out w1 (AG.out w1 hk)); have A1 := hid (fun w2 => AF.out w1 w2 hk hf); clear hk hf)
    | (go_at_call 64; refine E1.out.mono ?_; rintro e w2 ⟨rfl, hb⟩)
  go_ret2
  exact ⟨rfl, (A1.out _ hb).1, _, _, _, (A1.out _ hb).2⟩

set_option maxHeartbeats 400000 in
theorem msplit_of {w : World} {F : Nat → Prop} {bx : Nat} {s s' : List Nd} {n : Int} (hg : GG w) (hP : PLies w F bx ⟨s, []⟩) (A B : Int)
    (hT : ∀ (F' : Nat → Prop) (bf : Nat), PFor w F' bf s → Calls Tryz.prog 63 #[ptr bf, .int .i64 A, .int .i64 B] w (TSplit F' w bf s' n)) :
    Calls Tryz.prog 30 #[ptr bx, .int .i64 A, .int .i64 B] w (PLPost F w bx ⟨s', []⟩ (.tuple #[.int .i64 n, errV 0 0])) := by
  obtain ⟨bf, bl, sv, hD⟩ := hP
  have C := hid (hT _ _ hD.nodes)
  have c0 : w.cell? ⟨bx, 0, none⟩ = some (ptr bf) := cell_of_heap hD.doc 0
  have AF := hid (fun w1 => pdoc_after (w1 := w1) (w2 := w1) (s' := s') hg hD)
  clear hD hT hg
  go_enter Tryz.func30, Tryz.ntmps30
  go_wp2_with first
    | (go_at_call 63; refine C.out.mono ?_; rintro e w1 ⟨mv, rfl, hk, hf⟩; have A1 := hid (AF.out w1 hk hf (Below.refl _ _)); have E1 := hid (mfollow_yes A1.out.2 mv); clear hk hf)
    | (go_at_call 64; refine E1.out.mono ?_; rintro e w2 ⟨rfl, hb⟩)
  go_ret2
  exact ⟨by simp [errV], A1.out.1.trans (Keeps.of_below hb), _, _, _, A1.out.2.below hb⟩

/-- A text that has come: half of another one. -/
theorem wf_half {s : List Nd} (wf : WF s) (h40 : s.length < 40) {n k : Nat} {x : Nd} (hx : s[n]? = some x) (ht : x.t = true) : WF ((s ++ [(⟨true, x.cs.drop k, [], -1⟩ : Nd)]).set n { x with cs := x.cs.take k }) := by
  have hch := wf.chars n x hx
  have hn := (List.getElem?_eq_some_iff.1 hx).1
  have w1 := wf_push wf h40 ⟨true, x.cs.drop k, [], -1⟩ rfl rfl (fun h => by cases h) ⟨by simp; omega, fun c hc => hch.2 c (List.mem_of_mem_drop hc)⟩
  exact wf_chars w1 (by rw [List.getElem?_append_left hn]; exact hx) ht ⟨by simp; omega, fun c hc => hch.2 c (List.mem_of_mem_take hc)⟩

theorem split_state {s : List Nd} {n j : Nat} {x y : Nd} {X Y a b : Nd} (hn : n < s.length) (hj : j < s.length) (hnj : n ≠ j) :
    (((s ++ [a]).set n X).set j Y).set s.length b = ((s ++ [b]).set j Y).set n X := by
  have e1 : (s ++ [a]).set n X = s.set n X ++ [a] := List.set_append_left _ _ hn
  have e2 : (s.set n X ++ [a]).set j Y = (s.set n X).set j Y ++ [a] := List.set_append_left _ _ (by simpa using hj)
  have e3 : ((s.set n X).set j Y ++ [a]).set s.length b = (s.set n X).set j Y ++ [b] := by
    rw [List.set_append_right _ _ (by simp)]; simp
  have e4 : (s ++ [b]).set j Y = s.set j Y ++ [b] := List.set_append_left _ _ hj
  have e5 : (s.set j Y ++ [b]).set n X = (s.set j Y).set n X ++ [b] := List.set_append_left _ _ (by simpa using hn)
  rw [e1, e2, e3, e4, e5, List.set_comm _ _ hnj]

theorem ans_split (s : List Nd) (wf : WF s) (A B : Int) : ∃ n : Int, Ans PDoc GG ⟨s, []⟩ 30 79 [.int .i64 A, .int .i64 B] (fun v => .tuple #[.int .i64 n, v]) (fun v => .tuple #[.int .i64 n, v]) := by
  have hcap := wf.cap
  cases hA : isB s A with
  | false =>
    refine ⟨0, A, 1, ⟨s, []⟩, ⟨wf, rfl⟩, ?_, ?_⟩
    · intro w F bx hg hP
      refine msplit_no hg hP A B (errOf_P A 1 (by decide)) (fun F' bf h => ?_)
      have h' := h
      obtain ⟨bn, cap, pn, h⟩ := h
      exact tsplit_unfit h' A B _ (findText_no h A hA)
    · intro w F bd hR
      have hR' := hR
      obtain ⟨bn, cap, rn, rv, hD⟩ := hR
      exact (rsplit_unfit A B A 1 (by decide) (textFits_node (hD.below (one0_below w)) A B hA)).mono fun e w' ⟨h1, h2⟩ => hR'.unchanged h2 h1
  | true =>
    obtain ⟨h1, h2⟩ := isB_true hA
    obtain ⟨n, rfl⟩ : ∃ n : Nat, A = (n : Int) := ⟨A.toNat, by omega⟩
    have hn : n < s.length := by omega
    obtain ⟨x, hx⟩ : ∃ x, s[n]? = some x := ⟨_, List.getElem?_eq_getElem hn⟩
    have hch := wf.chars n x hx
    have hl' : x.cs.length < lots := by unfold lots; omega
    cases ht : x.t with
    | false =>
      refine ⟨0, n, 2, ⟨s, []⟩, ⟨wf, rfl⟩, ?_, ?_⟩
      · intro w F bx hg hP
        refine msplit_no hg hP n B (errOf_P n 2 (by decide)) (fun F' bf h => ?_)
        have h' := h
        obtain ⟨bn, cap, pn, h⟩ := h
        exact tsplit_unfit h' n B _ (findText_kind h n x hx ht)
      · intro w F bd hR
        have hR' := hR
        obtain ⟨bn, cap, rn, rv, hD⟩ := hR
        exact (rsplit_unfit n B n 2 (by decide) (textFits_kind (hD.below (one0_below w)) n B x hx ht)).mono fun e w' ⟨h1, h2⟩ => hR'.unchanged h2 h1
    | true =>
      by_cases hB : B < 0 ∨ (x.cs.length : Int) < B
      · refine ⟨0, n, 3, ⟨s, []⟩, ⟨wf, rfl⟩, ?_, ?_⟩
        · intro w F bx hg hP
          exact msplit_no hg hP n B (errOf_O n B) (fun F' bf h => tsplit_out h n B x hx ht hch.2 hl' hB)
        · intro w F bd hR
          have hR' := hR
          obtain ⟨bn, cap, rn, rv, hD⟩ := hR
          exact (rsplit_unfit n B n 3 (by decide) (textFits_index (hD.below (one0_below w)) n B x hx ht hB)).mono fun e w' ⟨h1, h2⟩ => hR'.unchanged h2 h1
      · obtain ⟨k, rfl⟩ : ∃ k : Nat, B = (k : Int) := ⟨B.toNat, by omega⟩
        have hk : k ≤ x.cs.length := by omega
        by_cases h40 : s.length < 40
        · have wf4 := wf_half wf h40 (k := k) hx ht
          rcases wf.par n x hx with hp | ⟨j, y, hp, hy, hmem⟩
          · refine ⟨s.length, 0, 0, ⟨_, []⟩, ⟨wf4, rfl⟩, ?_, ?_⟩
            · intro w F bx hg hP
              exact msplit_of hg hP n k (fun F' bf h => (tsplit_top h n k x hx ht hch.2 hch.1 hk h40 hp).mono fun e w2 h2 => h2.split)
            · rintro w F bd ⟨bn, cap, rn, rv, hD⟩
              have h := rsplit_top (s := s) hD n k x hx ht hch.1 hk h40 (by omega)
              have e : (⟨true, x.cs.drop k, [], x.p⟩ : Nd) = ⟨true, x.cs.drop k, [], -1⟩ := by rw [hp]
              rw [e] at h
              exact h.mono fun e w' h => h
          · obtain ⟨j', m, y', hj', hy', hm, hno, hyl⟩ := wf.place hx (by omega)
            obtain rfl : j = j' := by omega
            obtain rfl : y = y' := Option.some.inj (hy.symm.trans hy')
            have hjl := (List.getElem?_eq_some_iff.1 hy).1
            have hml : m < y.ks.length := (List.getElem?_eq_some_iff.1 hm).1
            have hyt : y.t = false := by
              cases h : y.t with
              | false => rfl
              | true => have := (wf.elem j y hy).1 h; rw [this] at hmem; cases hmem
            have hnj : n ≠ j := by
              intro e; subst e
              obtain rfl : x = y := Option.some.inj (hx.symm.trans hy)
              rw [ht] at hyt; cases hyt
            have hx4 : ((s ++ [(⟨true, x.cs.drop k, [], -1⟩ : Nd)]).set n { x with cs := x.cs.take k })[j]? = some y := by rw [List.getElem?_set_ne hnj, List.getElem?_append_left hjl]; exact hy
            have hz4 : ((s ++ [(⟨true, x.cs.drop k, [], -1⟩ : Nd)]).set n { x with cs := x.cs.take k })[s.length]? = some (⟨true, x.cs.drop k, [], -1⟩ : Nd) := by rw [List.getElem?_set_ne (by omega), List.getElem?_append_right (Nat.le_refl _)]; simp
            have hI : InsOk ((s ++ [(⟨true, x.cs.drop k, [], -1⟩ : Nd)]).set n { x with cs := x.cs.take k }) j s.length y ⟨true, x.cs.drop k, [], -1⟩ := ⟨hx4, hz4, hyt, by omega, by show (-1 : Int) < 0; decide⟩
            obtain ⟨h4, B4, u4⟩ := wf4.up
            have hnm : j ∉ allF ((s ++ [(⟨true, x.cs.drop k, [], -1⟩ : Nd)]).set n { x with cs := x.cs.take k }) (h4 s.length + 1) s.length := by
              rw [allF, kidsOf_eq hz4]
              simp
              omega
            have hw := holds_no wf4 u4 (d := j) (by rw [List.length_set, List.length_append]; omega) (Nat.lt_succ_self _) hnm
            obtain ⟨_, hwf⟩ := wf_insert wf4 hI hw (k := m + 1) (by omega)
            refine ⟨s.length, 0, 0, ⟨_, []⟩, ⟨hwf, rfl⟩, ?_, ?_⟩
            · intro w F bx hg hP
              exact msplit_of hg hP n k (fun F' bf h => (tsplit_in h n k x hx ht hch.2 hch.1 hk h40 j m y hp hy hm hno (by unfold lots; omega) hnj).mono fun e w2 h2 => h2.split)
            · rintro w F bd ⟨bn, cap, rn, rv, hD⟩
              have h := rsplit_in (s := s) hD n k x hx ht hch.1 hk h40 j m y hp hy hm hno (by unfold lots; omega) hnj
              rw [← split_state (x := x) (y := y) (a := ⟨true, x.cs.drop k, [], -1⟩) hn hjl hnj] at h
              exact h.mono fun e w' h => h
        · refine ⟨0, n, 7, ⟨s, []⟩, ⟨wf, rfl⟩, ?_, ?_⟩
          · intro w F bx hg hP
            exact msplit_no hg hP n k (errOf_P n 7 (by decide)) (fun F' bf h => tsplit_full h n k x hx ht hch.2 hch.1 hk (by omega))
          · intro w F bd hR
            have hR' := hR
            obtain ⟨bn, cap, rn, rv, hD⟩ := hR
            exact (rsplit_full (s := s) hD n k x hx ht hk (by omega)).mono fun e w' ⟨h1, h2⟩ => hR'.unchanged h2 h1

end Go.Proofs.YtabogkonklplcaaGreatDoor
