import Derived.Test.YtabogkonklplcaaGreatDoorF30
import Derived.Test.YtabogkonklplcaaGreatDoorF33
import Derived.Test.YtabogkonklplcaaGreatDoorF31
import Derived.Test.YtabogkonklplcaaGreatDoorF07
import Derived.Test.YtabogkonklplcaaGreatDoorF19
import Derived.Test.YtabogkonklplcaaGreatDoorF15
import Derived.Test.YtabogkonklplcaaGreatDoorF21
import Derived.Test.YtabogkonklplcaaGreatDoorF24

/- tree.Split, of a text that has a parent. -/
namespace Go.Proofs.YtabogkonklplcaaGreatDoor
open Go.RowKit Go.Lib
set_option linter.unusedSimpArgs false
set_option linter.unusedVariables false

section
variable {w : World} {F : Nat → Prop} {bf : Nat} {s : List Nd}

set_option maxRecDepth 20000 in
set_option maxHeartbeats 1000000 in
theorem tsplit_in (hD : PFor w F bf s) (n k : Nat) (x : Nd) (hx : s[n]? = some x) (ht : x.t = true) (hch : ∀ d ∈ x.cs, IsCh d) (hl : x.cs.length ≤ 30) (ho : k ≤ x.cs.length) (h40 : s.length < 40) (j m : Nat) (y : Nd) (hp1 : x.p = j) (hy : s[j]? = some y) (hm : y.ks[m]? = some n) (hno : n ∉ y.ks.take m) (hkb : y.ks.length < lots) (hnj : n ≠ j) :
    Calls Tryz.prog 63 #[ptr bf, .int .i64 n, .int .i64 (k : Int)] w (TSv (carryF n k s.length (shiftF j m 1)) F w bf ((((s ++ [(⟨true, x.cs.drop k, [], -1⟩ : Nd)]).set n { x with cs := x.cs.take k }).set j { y with ks := y.ks.take (m + 1) ++ s.length :: y.ks.drop (m + 1) }).set s.length { (⟨true, x.cs.drop k, [], -1⟩ : Nd) with p := j }) s.length) := by
  obtain ⟨sF, hsF⟩ : ∃ sF, ((((s ++ [(⟨true, x.cs.drop k, [], -1⟩ : Nd)]).set n { x with cs := x.cs.take k }).set j { y with ks := y.ks.take (m + 1) ++ s.length :: y.ks.drop (m + 1) }).set s.length { (⟨true, x.cs.drop k, [], -1⟩ : Nd) with p := j }) = sF := ⟨_, rfl⟩
  rw [hsF]
  have HS := hid hsF
  clear hsF
  have HD := hid hD
  obtain ⟨bn, cap, pn, hD⟩ := hD
  have hi : n < s.length := (List.getElem?_eq_some_iff.1 hx).1
  have C := hid (findText_ok hD n x hx ht)
  have C2 := hid (fun w1 => find_at x.cs hch (by unfold lots; omega) k ho w1)
  have CC := hid (fun w1 => count_any (x.cs.drop k) (fun d hd => hch d (List.mem_of_mem_drop hd)) (by simp; unfold lots; omega) w1)
  have h0 := hD.nodesCell
  obtain ⟨r, hr, ho', c0, c1, c2, c3⟩ := hD.look hx
  have s1 := (cat_split x.cs k).2
  have s2 := (cat_split x.cs k).1
  have z1 := cat_le x.cs k
  have z2 := cat_size x.cs hch
  have H4 := hid h40
  have HX := hid hx
  have HP := hid hp1
  have hjl : j < s.length := (List.getElem?_eq_some_iff.1 hy).1
  have hml : m < y.ks.length := (List.getElem?_eq_some_iff.1 hm).1
  have hkb' := hkb
  unfold lots at hkb'
  have HY := hid (And.intro hy (And.intro hm (And.intro hno hkb)))
  have hneg : ((j : Int) == -1) = false := by simp
  have hm64 : (m : Int) + 1 ≤ 9223372036854775807 := by omega
  obtain ⟨p, hp⟩ : ∃ p, (catB (x.cs.take k)).size = p := ⟨_, rfl⟩
  rw [hp] at C2 s1 s2 z1
  obtain ⟨S, hS⟩ : ∃ S, catB x.cs = S := ⟨_, rfl⟩
  rw [hS] at C2 s1 s2 z1 c3 z2
  have pI : (p : Int) ≤ S.size := by omega
  clear hD c0 c1 c2 hr ho' hx hch hp hS h40 hp1 hy hm hno hkb
  go_enter Tryz.func63, Tryz.ntmps63
  go_wp2_with first
    | (go_at_call 101; refine C.out.mono ?_; rintro e w1 ⟨rfl, hw1⟩; replace hw1 := hw1.symm; subst hw1)
    | (go_at_call 102; refine (C2.out _).mono ?_; rintro e w2 ⟨rfl, hb2⟩)
    | (go_at_call 103; refine (addText_some (HD.out.below hb2) H4.out (x.cs.drop k) n).mono ?_; rintro e w3 ⟨rfl, hk3, bn3, cap3, pn3, hf3⟩
       have hx3 : (s ++ [(⟨true, x.cs.drop k, [], -1⟩ : Nd)])[n]? = some x := by rw [List.getElem?_append_left hi]; exact HX.out
       have g0 := hf3.nodesCell
       rw [List.length_append] at g0
       simp only [List.length_cons, List.length_nil, Nat.zero_add] at g0
       obtain ⟨r3, hr3, ho3, e0, e1, e2, e3⟩ := hf3.look hx3
       rw [HP.out] at e0
       obtain ⟨gv, g4, gf⟩ := hf3.cellsThere (i := n) (k := 3) (by rw [List.length_append]; omega) (by omega)
       obtain ⟨pn4, h4⟩ := hf3.newChars (cs' := x.cs.take k) hx3
       have hx4 : ((s ++ [(⟨true, x.cs.drop k, [], -1⟩ : Nd)]).set n { x with cs := x.cs.take k })[n]? = some { x with cs := x.cs.take k } := by rw [List.getElem?_set_self (by rw [List.length_append]; omega)]
       have hy4 : ((s ++ [(⟨true, x.cs.drop k, [], -1⟩ : Nd)]).set n { x with cs := x.cs.take k })[j]? = some y := by rw [List.getElem?_set_ne hnj, List.getElem?_append_left hjl]; exact HY.out.1
       have hz4 : ((s ++ [(⟨true, x.cs.drop k, [], -1⟩ : Nd)]).set n { x with cs := x.cs.take k })[s.length]? = some (⟨true, x.cs.drop k, [], -1⟩ : Nd) := by rw [List.getElem?_set_ne (by omega), List.getElem?_append_right (Nat.le_refl _)]; simp
       have HC := hid (And.intro hx4 (And.intro hy4 hz4))
       have H5 := hid (And.intro hk3 (And.intro h4 hf3.Fn))
       clear hx4 hy4 hz4
       have hlt3 := hf3.lt
       have hne3 : ¬ bf = bn3 := hf3.ne
       clear hr3 ho3 e1 e2 hk3 h4 hf3 hx3)
  go_region
  have C5 := hid (tindex_at H5.out.2.1.drew n j m _ y HC.out.1 HP.out HC.out.2.1 HY.out.2.1 HY.out.2.2.1 (by rw [List.length_set, List.length_append]; simp; unfold lots; have := H4.out; omega) HY.out.2.2.2)
  have C6 := hid (fun q => attach_any (H5.out.2.1.drewN q) j s.length (m + 1) y _ HC.out.2.1 HC.out.2.2 (by omega) (by omega) (by rw [List.length_set, List.length_append]; simp; unfold lots; have := H4.out; omega) HY.out.2.2.2)
  rw [show (((m + 1 : Nat)) : Int) = (m : Int) + 1 from by omega] at C6
  go_wp2_with first
    | (go_at_call 106; refine C5.out.mono ?_; rintro e w5 ⟨rfl, q, rfl⟩)
    | (go_at_call 107; refine (C6.out (1 + q)).mono ?_; rintro e w6 ⟨rfl, hk6, hf6⟩)
    | (go_at_call 109; refine (shift_at _ _ _ (by decide) (by decide) _).mono ?_; rintro e w7 ⟨x7, y7, z7, rfl, hb7, hS7, l71, l72, l73⟩
       have H7 := hid (And.intro hS7 (And.intro l71 (And.intro l72 l73)))
       clear hS7 l71 l72 l73)
    | (go_at_call 108; refine (carry_at _ _ _ _ _ _ _ _ _ w6.heap.size _ H7.out.1 H7.out.2 hb7.size (by omega) (by omega)).mono ?_; rintro e w8 ⟨bs8, rfl, hb8, hM8⟩
       have H8 := hid hM8
       clear hM8)
  refine bodyPost_ret (v := .tuple #[.int .i64 s.length, .func (.func 157) #[] bs8, .nilIface]) (by simp [results, Tryz.results63, go_sem]) rfl ?_
  obtain ⟨hk3, h4, hfn⟩ := H5.out
  have hb := hb7.trans (hb8.mono hb7.size)
  have hz2 := hb2.size
  have hz3 := hk3.size
  have hk : Keeps F w w3 := (Keeps.of_below hb2).trans (hk3.mono (fun b _ e => .inl e))
  have hk5 : Keeps F w ((w3.setCell ⟨bn3, n * 4 + 3, none⟩ (.string (catB (x.cs.take k)))).drewN (1 + q)) := by
    have h6 := hk.setCell (p := ⟨bn3, n * 4 + 3, none⟩) (by rcases hfn with e | e; exact .inl e; exact .inr (by show w.heap.size ≤ bn3; omega)) (.string (catB (x.cs.take k)))
    exact ⟨h6.os, h6.tape, h6.output, h6.size, h6.block⟩
  have hk7 : Keeps F w w6 := hk5.trans (hk6.mono (fun b _ e => by rcases e with e | e; exact .inl e; exact .inr (by omega)))
  rw [HS.out] at hf6
  obtain ⟨bn6, cap6, pn6, hf6⟩ := hf6
  have hz6 := hk6.size
  have hsz : ((w3.setCell ⟨bn3, n * 4 + 3, none⟩ (.string (catB (x.cs.take k)))).drewN (1 + q)).heap.size = w3.heap.size := by show (w3.setCell _ _).heap.size = _; rw [World.size_setCell]
  refine ⟨_, w6.heap.size, rfl, hk7.trans (Keeps.of_below hb), by omega, Nat.le_trans hb7.size hb8.size, ⟨bn6, cap6, pn6, (hf6.narrow.below hb).wider (fun b h => ?_)⟩, H8.out⟩
  have hb6 := h.2
  rcases h.1 with (e | e) | e
  · exact .inl e
  · exact .inr ⟨by omega, hb6⟩
  · exact .inr ⟨by omega, hb6⟩
end

end Go.Proofs.YtabogkonklplcaaGreatDoor

/- The document's answers at Split. -/
namespace Go.Proofs.YtabogkonklplcaaGreatDoor
open Go.RowKit Go.Lib
set_option linter.unusedSimpArgs false
set_option linter.unusedVariables false

set_option maxHeartbeats 400000 in
theorem msplit_no {w : World} {F : Nat → Prop} {bx : Nat} {s s' : List Nd} {rs : List Sp} (hg : GG w) (hP : PLies w F bx ⟨s, rs⟩) {t : TypeId} {u : Value} {a y : Int} (A B : Int) (hE : ErrOf (.iface t u) a y)
    (hT : ∀ (F' : Nat → Prop) (bf : Nat), PFor w F' bf s → Calls Tryz.prog 63 #[ptr bf, .int .i64 A, .int .i64 B] w (TPost F' w bf s' (.tuple #[.int .i64 0, .nilFunc, .iface t u]))) :
    Calls Tryz.prog 30 #[ptr bx, .int .i64 A, .int .i64 B] w (PLPost F w bx ⟨s', rs⟩ (.tuple #[.int .i64 0, errV a y])) := by
  obtain ⟨bf, bl, sv, hD⟩ := hP
  have C := hid (hT _ _ hD.nodes)
  have c0 : w.cell? ⟨bx, 0, none⟩ = some (ptr bf) := cell_of_heap hD.doc 0
  have AF := hid (fun w1 w2 => pdoc_after (w1 := w1) (w2 := w2) (s' := s') hg hD)
  have AG := hid (fun w1 => gg_after (w1 := w1) (F := F) (bx := bx) (bl := bl) (sv := sv) hg)
  have E := hid (fun w1 (h1 : Glob w1) => mfollow_no h1 bx .nilFunc hE)
  clear hD hT hg hE
  go_enter Tryz.func30, Tryz.ntmps30
  go_wp2_with first
    | (go_at_call 63; refine C.out.mono ?_; rintro e w1 ⟨rfl, hk, hf⟩; have E1 := hid (E.out w1 (AG.out w1 hk)); have A1 := hid (fun w2 => AF.out w1 w2 hk hf); clear hk hf)
    | (go_at_call 64; refine E1.out.mono ?_; rintro e w2 ⟨rfl, hb⟩)
  go_ret2
  exact ⟨rfl, (A1.out _ hb).1, _, _, _, (A1.out _ hb).2⟩

set_option maxHeartbeats 400000 in
theorem msplit_of {w : World} {F : Nat → Prop} {bx : Nat} {s s' : List Nd} {n : Int} (hg : GG w) (hP : PLies w F bx ⟨s, []⟩) (A B : Int)
    (hT : ∀ (F' : Nat → Prop) (bf : Nat), PFor w F' bf s → Calls Tryz.prog 63 #[ptr bf, .int .i64 A, .int .i64 B] w (TSplit F' w bf s' n)) :
    Calls Tryz.prog 30 #[ptr bx, .int .i64 A, .int .i64 B] w (PLPost F w bx ⟨s', []⟩ (.tuple #[.int .i64 n, errV 0 0])) := by
  obtain ⟨bf, bl, sv, hD⟩ := hP
  have C := hid (hT _ _ hD.nodes)
  have c0 : w.cell? ⟨bx, 0, none⟩ = some (ptr bf) := cell_of_heap hD.doc 0
  have AF := hid (fun w1 => pdoc_after (w1 := w1) (w2 := w1) (s' := s') hg hD)
  clear hD hT hg
  go_enter Tryz.func30, Tryz.ntmps30
  go_wp2_with first
    | (go_at_call 63; refine C.out.mono ?_; rintro e w1 ⟨mv, rfl, hk, hf⟩; have A1 := hid (AF.out w1 hk hf (Below.refl _ _)); have E1 := hid (mfollow_yes A1.out.2 mv); clear hk hf)
    | (go_at_call 64; refine E1.out.mono ?_; rintro e w2 ⟨rfl, hb⟩)
  go_ret2
  exact ⟨by simp [errV], A1.out.1.trans (Keeps.of_below hb), _, _, _, A1.out.2.below hb⟩

/-- A text that has come: half of another one. -/
theorem wf_half {s : List Nd} (wf : WF s) (h40 : s.length < 40) {n k : Nat} {x : Nd} (hx : s[n]? = some x) (ht : x.t = true) : WF ((s ++ [(⟨true, x.cs.drop k, [], -1⟩ : Nd)]).set n { x with cs := x.cs.take k }) := by
  have hch := wf.chars n x hx
  have hn := (List.getElem?_eq_some_iff.1 hx).1
  have w1 := wf_push wf h40 ⟨true, x.cs.drop k, [], -1⟩ rfl rfl (fun h => by cases h) ⟨by simp; omega, fun c hc => hch.2 c (List.mem_of_mem_drop hc)⟩
  exact wf_chars w1 (by rw [List.getElem?_append_left hn]; exact hx) ht ⟨by simp; omega, fun c hc => hch.2 c (List.mem_of_mem_take hc)⟩

theorem split_state {s : List Nd} {n j : Nat} {x y : Nd} {X Y a b : Nd} (hn : n < s.length) (hj : j < s.length) (hnj : n ≠ j) :
    (((s ++ [a]).set n X).set j Y).set s.length b = ((s ++ [b]).set j Y).set n X := by
  have e1 : (s ++ [a]).set n X = s.set n X ++ [a] := List.set_append_left _ _ hn
  have e2 : (s.set n X ++ [a]).set j Y = (s.set n X).set j Y ++ [a] := List.set_append_left _ _ (by simpa using hj)
  have e3 : ((s.set n X).set j Y ++ [a]).set s.length b = (s.set n X).set j Y ++ [b] := by
    rw [List.set_append_right _ _ (by simp)]; simp
  have e4 : (s ++ [b]).set j Y = s.set j Y ++ [b] := List.set_append_left _ _ hj
  have e5 : (s.set j Y ++ [b]).set n X = (s.set j Y).set n X ++ [b] := List.set_append_left _ _ (by simpa using hn)
  rw [e1, e2, e3, e4, e5, List.set_comm _ _ hnj]

theorem ans_split (s : List Nd) (wf : WF s) (A B : Int) : ∃ n : Int, Ans PDoc GG ⟨s, []⟩ 30 79 [.int .i64 A, .int .i64 B] (fun v => .tuple #[.int .i64 n, v]) (fun v => .tuple #[.int .i64 n, v]) := by
  have hcap := wf.cap
  cases hA : isB s A with
  | false =>
    refine ⟨0, A, 1, ⟨s, []⟩, ⟨wf, rfl⟩, ?_, ?_⟩
    · intro w F bx hg hP
      refine msplit_no hg hP A B (errOf_P A 1 (by decide)) (fun F' bf h => ?_)
      have h' := h
      obtain ⟨bn, cap, pn, h⟩ := h
      exact tsplit_unfit h' A B _ (findText_no h A hA)
    · intro w F bd hR
      have hR' := hR
      obtain ⟨bn, cap, rn, rv, hD⟩ := hR
      exact (rsplit_unfit A B A 1 (by decide) (textFits_node (hD.below (one0_below w)) A B hA)).mono fun e w' ⟨h1, h2⟩ => hR'.unchanged h2 h1
  | true =>
    obtain ⟨h1, h2⟩ := isB_true hA
    obtain ⟨n, rfl⟩ : ∃ n : Nat, A = (n : Int) := ⟨A.toNat, by omega⟩
    have hn : n < s.length := by omega
    obtain ⟨x, hx⟩ : ∃ x, s[n]? = some x := ⟨_, List.getElem?_eq_getElem hn⟩
    have hch := wf.chars n x hx
    have hl' : x.cs.length < lots := by unfold lots; omega
    cases ht : x.t with
    | false =>
      refine ⟨0, n, 2, ⟨s, []⟩, ⟨wf, rfl⟩, ?_, ?_⟩
      · intro w F bx hg hP
        refine msplit_no hg hP n B (errOf_P n 2 (by decide)) (fun F' bf h => ?_)
        have h' := h
        obtain ⟨bn, cap, pn, h⟩ := h
        exact tsplit_unfit h' n B _ (findText_kind h n x hx ht)
      · intro w F bd hR
        have hR' := hR
        obtain ⟨bn, cap, rn, rv, hD⟩ := hR
        exact (rsplit_unfit n B n 2 (by decide) (textFits_kind (hD.below (one0_below w)) n B x hx ht)).mono fun e w' ⟨h1, h2⟩ => hR'.unchanged h2 h1
    | true =>
      by_cases hB : B < 0 ∨ (x.cs.length : Int) < B
      · refine ⟨0, n, 3, ⟨s, []⟩, ⟨wf, rfl⟩, ?_, ?_⟩
        · intro w F bx hg hP
          exact msplit_no hg hP n B (errOf_O n B) (fun F' bf h => tsplit_out h n B x hx ht hch.2 hl' hB)
        · intro w F bd hR
          have hR' := hR
          obtain ⟨bn, cap, rn, rv, hD⟩ := hR
          exact (rsplit_unfit n B n 3 (by decide) (textFits_index (hD.below (one0_below w)) n B x hx ht hB)).mono fun e w' ⟨h1, h2⟩ => hR'.unchanged h2 h1
      · obtain ⟨k, rfl⟩ : ∃ k : Nat, B = (k : Int) := ⟨B.toNat, by omega⟩
        have hk : k ≤ x.cs.length := by omega
        by_cases h40 : s.length < 40
        · have wf4 := wf_half wf h40 (k := k) hx ht
          rcases wf.par n x hx with hp | ⟨j, y, hp, hy, hmem⟩
          · refine ⟨s.length, 0, 0, ⟨_, []⟩, ⟨wf4, rfl⟩, ?_, ?_⟩
            · intro w F bx hg hP
              exact msplit_of hg hP n k (fun F' bf h => (tsplit_top h n k x hx ht hch.2 hch.1 hk h40 hp).mono fun e w2 h2 => h2.split)
            · rintro w F bd ⟨bn, cap, rn, rv, hD⟩
              have h := rsplit_top (s := s) hD n k x hx ht hch.1 hk h40 (by omega)
              have e : (⟨true, x.cs.drop k, [], x.p⟩ : Nd) = ⟨true, x.cs.drop k, [], -1⟩ := by rw [hp]
              rw [e] at h
              exact h.mono fun e w' h => h
          · obtain ⟨j', m, y', hj', hy', hm, hno, hyl⟩ := wf.place hx (by omega)
            obtain rfl : j = j' := by omega
            obtain rfl : y = y' := Option.some.inj (hy.symm.trans hy')
            have hjl := (List.getElem?_eq_some_iff.1 hy).1
            have hml : m < y.ks.length := (List.getElem?_eq_some_iff.1 hm).1
            have hyt : y.t = false := by
              cases h : y.t with
              | false => rfl
              | true => have := (wf.elem j y hy).1 h; rw [this] at hmem; cases hmem
            have hnj : n ≠ j := by
              intro e; subst e
              obtain rfl : x = y := Option.some.inj (hx.symm.trans hy)
              rw [ht] at hyt; cases hyt
            have hx4 : ((s ++ [(⟨true, x.cs.drop k, [], -1⟩ : Nd)]).set n { x with cs := x.cs.take k })[j]? = some y := by rw [List.getElem?_set_ne hnj, List.getElem?_append_left hjl]; exact hy
            have hz4 : ((s ++ [(⟨true, x.cs.drop k, [], -1⟩ : Nd)]).set n { x with cs := x.cs.take k })[s.length]? = some (⟨true, x.cs.drop k, [], -1⟩ : Nd) := by rw [List.getElem?_set_ne (by omega), List.getElem?_append_right (Nat.le_refl _)]; simp
            have hI : InsOk ((s ++ [(⟨true, x.cs.drop k, [], -1⟩ : Nd)]).set n { x with cs := x.cs.take k }) j s.length y ⟨true, x.cs.drop k, [], -1⟩ := ⟨hx4, hz4, hyt, by omega, by show (-1 : Int) < 0; decide⟩
            obtain ⟨h4, B4, u4⟩ := wf4.up
            have hnm : j ∉ allF ((s ++ [(⟨true, x.cs.drop k, [], -1⟩ : Nd)]).set n { x with cs := x.cs.take k }) (h4 s.length + 1) s.length := by
              rw [allF, kidsOf_eq hz4]
              simp
              omega
            have hw := holds_no wf4 u4 (d := j) (by rw [List.length_set, List.length_append]; omega) (Nat.lt_succ_self _) hnm
            obtain ⟨_, hwf⟩ := wf_insert wf4 hI hw (k := m + 1) (by omega)
            refine ⟨s.length, 0, 0, ⟨_, []⟩, ⟨hwf, rfl⟩, ?_, ?_⟩
            · intro w F bx hg hP
              exact msplit_of hg hP n k (fun F' bf h => (tsplit_in h n k x hx ht hch.2 hch.1 hk h40 j m y hp hy hm hno (by unfold lots; omega) hnj).mono fun e w2 h2 => h2.split)
            · rintro w F bd ⟨bn, cap, rn, rv, hD⟩
              have h := rsplit_in (s := s) hD n k x hx ht hch.1 hk h40 j m y hp hy hm hno (by unfold lots; omega) hnj
              rw [← split_state (x := x) (y := y) (a := ⟨true, x.cs.drop k, [], -1⟩) hn hjl hnj] at h
              exact h.mono fun e w' h => h
        · refine ⟨0, n, 7, ⟨s, []⟩, ⟨wf, rfl⟩, ?_, ?_⟩
          · intro w F bx hg hP
            exact msplit_no hg hP n k (errOf_P n 7 (by decide)) (fun F' bf h => tsplit_full h n k x hx ht hch.2 hch.1 hk (by omega))
          · intro w F bd hR
            have hR' := hR
            obtain ⟨bn, cap, rn, rv, hD⟩ := hR
            exact (rsplit_full (s := s) hD n k x hx ht hk (by omega)).mono fun e w' ⟨h1, h2⟩ => hR'.unchanged h2 h1

end Go.Proofs.YtabogkonklplcaaGreatDoor

/- tree.Show; the document's answers at Show. -/
namespace Go.Proofs.YtabogkonklplcaaGreatDoor
open Go.RowKit
set_option linter.unusedSimpArgs false
set_option linter.unusedVariables false

section
variable {F : Nat → Prop} {bf bn cap : Nat} {pn : List PN} {s : List Nd}

theorem write_any {B b : Nat} (wf : WF s) {h : Nat → Nat} {H : Nat} (u : Up s h H) (hF : ∀ b, F b → b < B) : ∀ (k n : Nat), n < s.length → h n < k → ∀ (w : World) (acc : ByteArray), PForAt w F bf bn cap pn s → Bld B b (Lib.strCells acc) w → B ≤ w.heap.size → acc.size + (shownF s k n).size + 20 < lots →
    Calls Tryz.prog 147 #[ptr bf, ptr b, .int .i64 n] w (Wrote B b (acc ++ shownF s k n) w) := by
  intro k
  induction k with
  | zero => intro n _ hk; omega
  | succ k ih =>
    intro n hn hk w acc hD hb hBw hlen
    have hx : s[n]? = some s[n] := List.getElem?_eq_getElem hn
    generalize s[n] = x at hx
    have h40 := wf.cap
    have hch := wf.chars n x hx
    have hkl : x.ks.length ≤ 40 := nodup_length 40 _ (wf.nodup n x hx) (fun c hc => by have := (wf.kid_lt u hx hc).1; omega)
    simp only [shownF, hx] at hlen ⊢
    cases ht : x.t with
    | true =>
      rw [ht, if_pos rfl, ByteArray.size_append] at hlen
      rw [if_pos rfl]
      exact write_text hD hF n x hx ht (by omega) acc hb hBw hch.2 (by omega)
    | false =>
      rw [ht, if_neg (by decide), ByteArray.size_append] at hlen
      rw [if_neg (by decide)]
      refine write_elem hD hF n x (shownF s k) hx ht (by omega) (by unfold lots; omega) acc hb hBw (by omega) (fun c hc w1 a1 h1 h2 h3 h4 => ?_)
      have := wf.kid_lt u hx hc
      exact ih c this.1 (by omega) w1 a1 h1 h2 h3 h4

variable {w : World}

set_option maxHeartbeats 400000 in
theorem tshow_no (hD : PFor w F bf s) (n : Int) (h : isB s n = false) : Calls Tryz.prog 95 #[ptr bf, .int .i64 n] w (TPost F w bf s (.tuple #[.string ⟨#[]⟩, refusalV n 1])) := by
  have HD := hid hD
  obtain ⟨bn, cap, pn, hD⟩ := hD
  have C := hid (find_no hD n h)
  clear hD h
  go_enter Tryz.func95, Tryz.ntmps95
  go_wp2_with (go_at_call 87; refine C.out.mono ?_; rintro e w1 ⟨rfl, rfl⟩)
  go_ret2
  exact ⟨rfl, Keeps.refl _ _, HD.out.wider (fun b h => .inl h)⟩

set_option maxHeartbeats 1000000 in
theorem tshow_yes (wf : WF s) (hD : PFor w F bf s) (n : Nat) (hn : n < s.length) (t : ByteArray) (ht : Lim (fun k => shownF s k n) t) : Calls Tryz.prog 95 #[ptr bf, .int .i64 n] w (TPost F w bf s (.tuple #[.string t, .nilIface])) := by
  have HD := hid hD
  obtain ⟨h, H, u⟩ := wf.up
  obtain ⟨bn, cap, pn, hD⟩ := hD.narrow
  have C := hid (find_yes hD n (isB_of (by omega)))
  have hal := all_length wf (h n + 1) n hn
  have hsz := shown_size wf u (h n + 1) n hn (by omega)
  have e := (shown_lim wf u (k := h n + 1) (n := n) (by omega)).unique ht
  have hb0 : Bld w.heap.size w.heap.size (Lib.strCells ⟨#[]⟩) (w.alloc (.cells #[.pointer none, .slice none 0 0] 219)) :=
    .inl ⟨Nat.le_refl _, .slice none 0 0, heap_alloc_new w _, World.ownsRow_nil _ _ _ _, fun e => by cases e⟩
  have hbl : Below w.heap.size w (w.alloc (.cells #[.pointer none, .slice none 0 0] 219)) := (Below.refl _ w).alloc (Nat.le_refl _) _
  have CW := hid (write_any (B := w.heap.size) wf u (fun b hb => hb.2) (h n + 1) n hn (by omega) _ ⟨#[]⟩ (hD.under (fun b hb => hb.2) hbl) hb0 (by simp) (by unfold lots; have : (⟨#[]⟩ : ByteArray).size = 0 := rfl; omega))
  rw [e, show (⟨#[]⟩ : ByteArray) ++ t = t from by show ByteArray.empty ++ t = t; simp] at CW
  have HB := hid hbl
  clear hD hal hsz e hb0 hbl ht
  go_enter Tryz.func95, Tryz.ntmps95
  go_wp2_with first
    | (go_at_call 87; refine C.out.mono ?_; rintro e w1 ⟨rfl, rfl⟩)
    | (go_at_call 147; refine CW.out.mono ?_; rintro e w2 ⟨rfl, hu2, hb2⟩
       have hs2 := hb2.size
       have CS := hid (Tryz.Builder_String_any _ _ t.data.toList w2 (bld_of hu2) (by have := HB.out.size; omega)))
    | (go_at_call 148; refine CS.out.mono ?_; rintro e w3 ⟨rfl, hb3⟩)
  go_ret2
  have hb4 := HB.out.trans (hb2.trans hb3)
  exact ⟨rfl, Keeps.of_below hb4, (HD.out.below hb4).wider (fun b h => .inl h)⟩
end

theorem ans_show (s : List Nd) (wf : WF s) (A : Int) : ∃ b : ByteArray, Ans PDoc GG ⟨s, []⟩ 55 77 [.int .i64 A] (fun v => .tuple #[.string b, v]) (fun v => .tuple #[.string b, v]) := by
  cases hA : isB s A with
  | false =>
    refine ⟨⟨#[]⟩, A, 1, ⟨s, []⟩, ⟨wf, rfl⟩, ?_, ?_⟩
    · intro w F bx hg hP
      exact mshow_of hg hP A (errOf_P A 1 (by decide)) (fun F' bf h => tshow_no h A hA)
    · intro w F bd hR
      have hR' := hR
      obtain ⟨bn, cap, rn, rv, hD⟩ := hR
      exact (rshow_no hD A hA).mono fun e w' ⟨h1, h2⟩ => ⟨h1, Keeps.of_below h2, hR'.after h2⟩
  | true =>
    obtain ⟨h1, h2⟩ := isB_true hA
    obtain ⟨i, rfl⟩ : ∃ i : Nat, A = (i : Int) := ⟨A.toNat, by omega⟩
    have hi : i < s.length := by omega
    obtain ⟨h, H, u⟩ := wf.up
    have hl := shown_lim wf u (k := h i + 1) (n := i) (by omega)
    refine ⟨shownF s (h i + 1) i, 0, 0, ⟨s, []⟩, ⟨wf, rfl⟩, ?_, ?_⟩
    · intro w F bx hg hP
      exact mshow_of hg hP i (errOf_nil 0) (fun F' bf h => tshow_yes wf h i hi _ hl)
    · intro w F bd hR
      have hR' := hR
      obtain ⟨bn, cap, rn, rv, hD⟩ := hR
      exact (rshow_yes wf hD i hi _ hl).mono fun e w' ⟨h1, h2⟩ => ⟨h1, Keeps.of_below h2, hR'.after h2⟩

end Go.Proofs.YtabogkonklplcaaGreatDoor

/- tree.path: the way down to a place. -/
namespace Go.Proofs.YtabogkonklplcaaGreatDoor
open Go.RowKit Go.Lib
set_option linter.unusedSimpArgs false
set_option linter.unusedVariables false

theorem below_draw (w : World) (q : Nat) : Below w.heap.size w (w.drewN q) := ⟨rfl, rfl, rfl, Nat.le_refl _, fun _ _ => rfl⟩

theorem flat_len {f : Nat → List Nat} {ks : List Nat} {c : Nat} (h : c ∈ ks) : (f c).length ≤ (ks.flatMap f).length := by
  induction ks with
  | nil => cases h
  | cons a l ih =>
    rw [List.flatMap_cons, List.length_append]
    rcases List.mem_cons.1 h with rfl | h
    · omega
    · have := ih h; omega

/-- No way down is longer than 40. -/
theorem up40 {s : List Nd} (wf : WF s) : ∃ h, Up s h 40 := by
  obtain ⟨h, B, u⟩ := wf.up
  refine ⟨fun n => if n < s.length then (allF s (h n + 1) n).length else 0, fun i => ?_, fun i x hx hp => ?_⟩
  · show (if i < s.length then (allF s (h i + 1) i).length else 0) ≤ 40
    split
    · exact all_length wf _ _ ‹_›
    · omega
  · have hi := (List.getElem?_eq_some_iff.1 hx).1
    obtain ⟨h1, h2⟩ := u.par i x hx hp
    refine ⟨h1, ?_⟩
    rcases wf.par i x hx with e | ⟨q, y, e, hy, hm⟩
    · omega
    · have hq := (List.getElem?_eq_some_iff.1 hy).1
      rw [e] at h2 ⊢
      simp only [Int.toNat_natCast] at h2 ⊢
      rw [if_pos hi, if_pos hq]
      have e2 : allF s (h q + 1) q = q :: (kidsOf s q).flatMap (allF s (h q)) := rfl
      have e3 : allF s (h i + 1) i = allF s (h q) i := all_stable wf u _ _ _ (by omega) h2
      rw [e2, e3, List.length_cons]
      have := flat_len (f := allF s (h q)) (show i ∈ kidsOf s q by rw [kidsOf_eq hy]; exact hm)
      omega

theorem way_top {s : List Nd} {t n : Nat} {l : List Nat} (wf : WF s) (w : Way s t n l) {x : Nd} (hx : s[t]? = some x) (hp : x.p = -1) : IsTop s n t := by
  induction w with
  | top => exact ⟨⟨0, rfl⟩, x, hx, hp⟩
  | @down q c i l y w hq hi ih =>
    obtain ⟨z, hz, hzp⟩ := wf.kid q y hq c (List.mem_of_getElem? hi)
    exact IsTop.up hz hzp ih

/-- The way so far: from a node above on, all that is below it. -/
def PathInv (s : List Nd) (h : Nat → Nat) (n k : Nat) (w : World) (pv nv : Value) (wr : World) : Prop :=
  ∃ (c : Nat) (l : List Nat), nv = .int .i64 (c : Int) ∧ wr.ownsRow (w.heap.size + 1) 3 1 pv (l.length + 1) (intsV (k :: l.reverse)) ∧ Below w.heap.size w wr ∧ w.heap.size + 1 ≤ wr.heap.size ∧ c < s.length ∧ h n + l.length ≤ h c ∧ (∀ t L, Way s t c L → Way s t n (L ++ l))

def PathPost (s : List Nd) (n k : Nat) (w : World) (e : Ending) (w' : World) : Prop :=
  ∃ (t : Nat) (l : List Nat) (g c : Nat), e = .returned (.slice (some ⟨g, 0, none⟩) (l ++ [k]).length c) ∧ Way s t n l ∧ IsTop s n t ∧ l.length ≤ 40 ∧ w.heap.size ≤ g ∧ g < w'.heap.size ∧ (∀ (j x : Nat), (l ++ [k])[j]? = some x → w'.cell? ⟨g, j, none⟩ = some (.int .i64 (x : Int))) ∧ Below w.heap.size w w'

section
variable {w : World} {F : Nat → Prop} {bf bn cap : Nat} {pn : List PN} {s : List Nd}

set_option maxRecDepth 20000 in
set_option maxHeartbeats 1000000 in
theorem tpath_any (wf : WF s) (hD : PForAt w F bf bn cap pn s) (n k : Nat) (hn : n < s.length) :
    Calls Tryz.prog 153 #[ptr bf, .agg #[.int .i64 (n : Int), .int .i64 (k : Int)]] w (PathPost s n k w) := by
  obtain ⟨h, u⟩ := up40 wf
  obtain ⟨i0, hi, hz0, hz1, hz2⟩ := info_parts Tryz.infoInt
  have hcap := wf.cap
  have h0 := hD.nodesCell
  have hlt := hD.lt
  have HD := hid hD
  have HW := hid wf
  have HU := hid u
  clear hD wf u
  go_enter Tryz.func153, Tryz.ntmps153
  go_wp2
  go_loopw [5, 6] (fun pv nv wr => PathInv s h n k w pv nv wr) (fun _ nv _ => upMeas h 40 (intOf nv))
  case atStart =>
    refine ⟨n, [], rfl, ?_, ?_, ?_, hn, by simp, fun t L hw => by simpa using hw⟩
    · have := World.ownsRow_lit (base := w.heap.size + 1) (e := 3) (size := 1) (w.alloc (.cells #[.int .i64 (n : Int), .int .i64 (k : Int)] 37)) #[.int .i64 (k : Int)] 1 (by simp) (by decide) rfl
      simpa [intsV] using this
    · exact ((Below.refl _ w).alloc (Nat.le_refl _) _).alloc (by simp) _
    · simp
  case round =>
    obtain ⟨c, l, rfl, hrow, hb, hsz, hc, hlen, hway⟩ := hrel
    obtain ⟨x, hx⟩ : ∃ x, s[c]? = some x := ⟨_, List.getElem?_eq_getElem hc⟩
    have hD1 := HD.out.below hb
    have g0 := hD1.nodesCell
    obtain ⟨r, hr, ho, c0, c1, c2, c3⟩ := hD1.look hx
    have hl1 := hD1.lt
    have hh40 := HU.out.le c
    clear c1 c2 c3 hr ho
    by_cases hp : 0 ≤ x.p
    · obtain ⟨j, m, y, hj, hy, hm, hno, hyl⟩ := HW.out.place hx hp
      have CI := hid (tindex_at hD1 c j m x y hx hj hy hm hno (by unfold lots; omega) (by unfold lots; omega))
      have hup := (HU.out.par c x hx hp).2
      have hjl := (List.getElem?_eq_some_iff.1 hy).1
      have hum := upMeas_lt HU.out hx
      rw [hj] at c0 hup hum
      have HROW := hid hrow
      have HB := hid hb
      have HD1 := hid hD1
      have HWAY := hid (And.intro hway (And.intro hy hm))
      have HUM := hid hum
      have HXX := hid hx
      have HJ := hid hj
      clear hrow hb hD1 hway hx hy hm hno hum
      go_wp2_with (first
        | (go_at_call 106; refine CI.out.mono ?_; rintro e w1 ⟨rfl, q, rfl⟩
           have e0 := (cell_drewN _ q _).trans g0
           have e1 := (cell_drewN _ q _).trans c0)
        | (at_builtin
           go_must (have HS : Hid (SrcOk ((wr.drewN q).alloc (.cells #[.int .i64 (m : Int)] 3)) 1 (.slice (some ⟨wr.heap.size, 0, none⟩) 1 1) 1 [.int .i64 (m : Int)]) := .inr ⟨_, _, rfl, rfl, cell_one_new (wr.drewN q) _ _, by simp [Value.oneCell']⟩)
           have hr1 : (wr.drewN q).ownsRow (w.heap.size + 1) 3 1 u5 (l.length + 1) (intsV (k :: l.reverse)) := HROW.out
           refine wpList_append_any _ rfl (.tmp 29) (.tmp 33) 24 rfl (w.heap.size + 1) 3 i0 (.int .i64 0) 1 8 Tryz.underlying24 hi hz0 hz1 hz2 rfl (by decide) _ (l.length + 1) _ rfl (hr1.alloc _) _ 1 _ rfl HS.out (by unfold maxLen; omega) (by omega) (by simp; omega) ?_
           intro v2 w2 ho2 hb2
           have hB2 : Below w.heap.size w w2 := HB.out.trans (((below_draw wr q).alloc (Nat.le_refl _) _ |>.mono HB.out.size).trans (hb2.mono (by omega)))
           have f0 := (hB2.cell (p := ⟨bf, 0, none⟩) hlt.1).trans h0
           have f1 := hb2.cell (p := ⟨bn, c * 4, none⟩)
           have HO2 := hid ho2
           have HB2 := hid (And.intro hB2 hb2.size)
           have hD2 := HD.out.below hB2
           obtain ⟨r2, hr2, ho3, k0, -, -, -⟩ := hD2.look HXX.out
           rw [HJ.out] at k0
           clear ho2 hb2 hB2 f1 hr2 ho3 hD2 hr1))
      go_roundw
      case rel =>
        refine ⟨j, m :: l, rfl, ?_, HB2.out.1, ?_, hjl, ?_, fun t L hw => ?_⟩
        · have := HO2.out
          simpa [intsV] using this
        · have := HB2.out.2; simp at this; omega
        · simp at hup ⊢; omega
        · have := HWAY.out.1 t (L ++ [m]) (Way.down hw HWAY.out.2.1 HWAY.out.2.2)
          simpa using this
      case measure => exact HUM.out
    · have hp1 : x.p = -1 := by
        rcases HW.out.par c x hx with e | ⟨q, y, e, _⟩
        · exact e
        · omega
      rw [hp1] at c0
      obtain ⟨g, cp, cur, hv, hh, hn2, hcm, hcs, ht, hcell, hfr⟩ := row_ints (ks := k :: l.reverse) (by simpa using ownsRow_zero hrow) (by simp)
      have hg : w.heap.size + 1 ≤ g := by rw [hv] at hrow; exact (hrow.lt g rfl).1
      have CR := hid (Tryz.slices_Reverse_int_cells g 0 (l.length + 1) cp ((k :: l.reverse).map Int.ofNat) wr (by simp) (by omega) hcell (fun j hj => hfr j (by simpa using hj)))
      have hv' : u5 = .slice (some ⟨g, 0, none⟩) (l.length + 1) cp := by simpa using hv
      have HF := hid (And.intro hcell hfr)
      have hn3 : l.length + 1 ≤ cur.size := by rw [hcs]; simpa using hn2
      have HB := hid hb
      have HH := hid hh
      have HWAY := hid (hway c [] Way.top)
      have HX := hid hx
      subst hv'
      clear hrow hb hcell hfr hh ht hway hx hv
      have hvals : (((k :: l.reverse).map Int.ofNat).take (l.length + 1)).reverse.map (Value.int .i64) = intsV (l ++ [k]) := by
        rw [List.take_of_length_le (by simp)]; simp [intsV]
      rw [hvals] at CR
      clear hvals
      go_wp2_with (go_at_call 181; refine CR.out.mono ?_; rintro e w3 ⟨rfl, q, hw3⟩
                   have hk0 : Keeps (fun b => b = g) wr (wr.drewN q) := ⟨rfl, rfl, rfl, Nat.le_refl _, fun _ _ _ => rfl⟩
                   have hK : Keeps (fun b => b = g) wr w3 := by rw [hw3]; exact keeps_setCells g _ 0 _ hk0 rfl
                   obtain ⟨cur', k1, k2, k3⟩ := heap_setCells g 3 (intsV (l ++ [k])) 0 (wr.drewN q) cur HH.out (by rw [intsV_length]; simp; omega)
                   rw [← hw3] at k1
                   have HK := hid (And.intro hK (And.intro k1 k3))
                   clear hw3 hK k1 k3 k2 hk0)
      go_ret
      obtain ⟨hK, k1, k3⟩ := HK.out
      have hz := HB.out.size
      have hz2 := hK.size
      refine ⟨c, l, g, cp, by simp, by simpa using HWAY.out, way_top HW.out (by simpa using HWAY.out) HX.out hp1, by omega, by omega, heap_lt k1, fun j x hx => ?_, ?_⟩
      · rw [cell_of_heap k1 j, ← Array.getElem?_toList, k3]
        simp only [List.take_zero, List.nil_append]
        have hj : j < (intsV (l ++ [k])).length := by rw [intsV_length]; exact (List.getElem?_eq_some_iff.1 hx).1
        rw [List.getElem?_append_left hj]
        simp only [intsV, List.getElem?_map, hx]
        rfl
      · exact HB.out.trans ⟨hK.os, hK.tape, hK.output, hK.size, fun b hb => hK.block b (by omega) (by omega)⟩
end

end Go.Proofs.YtabogkonklplcaaGreatDoor

/- tree.Compare. -/
namespace Go.Proofs.YtabogkonklplcaaGreatDoor
open Go.RowKit Go.Lib
set_option linter.unusedSimpArgs false
set_option linter.unusedVariables false

theorem scmp_ways (l l2 : List Nat) (k k2 g1 c1 g2 c2 : Nat) (w : World) (h1 : ∀ (j x : Nat), (l ++ [k])[j]? = some x → w.cell? ⟨g1, j, none⟩ = some (.int .i64 x)) (h2 : ∀ (j x : Nat), (l2 ++ [k2])[j]? = some x → w.cell? ⟨g2, j, none⟩ = some (.int .i64 x)) (hl : l.length ≤ 40) (hm : l2.length ≤ 40) :
    Calls Tryz.prog 152 #[.slice (some ⟨g1, 0, none⟩) (l.length + 1) c1, .slice (some ⟨g2, 0, none⟩) (l2.length + 1) c2] w fun e w' => e = .returned (.int .i64 (lexC (l ++ [k]) (l2 ++ [k2]))) ∧ w' = w := by
  have h := scmp_any (l ++ [k]) (l2 ++ [k2]) g1 c1 g2 c2 w h1 h2 (by simp; unfold lots; omega) (by simp; unfold lots; omega)
  rw [show (l ++ [k]).length = l.length + 1 by simp, show (l2 ++ [k2]).length = l2.length + 1 by simp] at h
  exact h

theorem ttop_at {w : World} {F : Nat → Prop} {bf bn cap : Nat} {pn : List PN} {s : List Nd} (wf : WF s) (hD : PForAt w F bf bn cap pn s) {n t : Nat} (ht : IsTop s n t) (hn : n < s.length) :
    Calls Tryz.prog 99 #[ptr bf, .int .i64 n] w fun e w' => e = .returned (.int .i64 t) ∧ w' = w := by
  refine (ttop_any wf hD n hn).mono ?_
  rintro e w' ⟨⟨t', rfl, ht'⟩, rfl⟩
  exact ⟨by rw [ht.one ht'], rfl⟩

section
variable {w : World} {F : Nat → Prop} {bf : Nat} {s : List Nd}

set_option maxHeartbeats 1000000 in
theorem tcompare_a (bf : Nat) (a0 a1 b0 b1 : Int) (u : Value)
    (hA : ∀ W, Below w.heap.size w W → Calls Tryz.prog 98 #[ptr bf, .agg #[.int .i64 a0, .int .i64 a1]] W fun e w' => e = .returned (.iface 145 u) ∧ Below W.heap.size W w') :
    Calls Tryz.prog 62 #[ptr bf, .agg #[.int .i64 a0, .int .i64 a1], .agg #[.int .i64 b0, .int .i64 b1]] w fun e w' => e = .returned (.tuple #[.int .i64 0, .iface 145 u]) ∧ Below w.heap.size w w' := by
  have CA := hid (hA _ (ptwo_below w a0 a1 b0 b1))
  have hz := (ptwo_below w a0 a1 b0 b1).size
  have HT := hid (ptwo_below w a0 a1 b0 b1)
  clear hA
  go_enter Tryz.func62, Tryz.ntmps62
  go_wp2_with (go_at_call 98; refine CA.out.mono ?_; rintro e w1 ⟨rfl, hb1⟩)
  go_ret2
  exact ⟨rfl, HT.out.trans (hb1.mono HT.out.size)⟩

set_option maxHeartbeats 1000000 in
theorem tcompare_b (bf : Nat) (a0 a1 b0 b1 : Int) (u : Value)
    (hA : ∀ W, Below w.heap.size w W → Calls Tryz.prog 98 #[ptr bf, .agg #[.int .i64 a0, .int .i64 a1]] W fun e w' => e = .returned .nilIface ∧ Below W.heap.size W w')
    (hB : ∀ W, Below w.heap.size w W → Calls Tryz.prog 98 #[ptr bf, .agg #[.int .i64 b0, .int .i64 b1]] W fun e w' => e = .returned (.iface 145 u) ∧ Below W.heap.size W w') :
    Calls Tryz.prog 62 #[ptr bf, .agg #[.int .i64 a0, .int .i64 a1], .agg #[.int .i64 b0, .int .i64 b1]] w fun e w' => e = .returned (.tuple #[.int .i64 0, .iface 145 u]) ∧ Below w.heap.size w w' := by
  have CA := hid (hA _ (ptwo_below w a0 a1 b0 b1))
  have CB := hid hB
  have HT := hid (ptwo_below w a0 a1 b0 b1)
  clear hA hB
  go_enter Tryz.func62, Tryz.ntmps62
  go_wp2_with (first
    | (go_at_call 98; refine CA.out.mono ?_; clear CA; rintro e w1 ⟨rfl, hb1⟩
       obtain ⟨q1, q2⟩ := ptwo_cells hb1
       have p0 : w1.cell? ⟨w.heap.size, 0, none⟩ = some (.int .i64 a0) := cell_of_heap q1 0
       have p1 : w1.cell? ⟨w.heap.size, 1, none⟩ = some (.int .i64 a1) := cell_of_heap q1 1
       have p2 : w1.cell? ⟨w.heap.size + 1, 0, none⟩ = some (.int .i64 b0) := cell_of_heap q2 0
       have p3 : w1.cell? ⟨w.heap.size + 1, 1, none⟩ = some (.int .i64 b1) := cell_of_heap q2 1
       have HB1 := hid (HT.out.trans (hb1.mono HT.out.size))
       clear hb1 q1 q2)
    | (go_at_call 98; refine (CB.out _ HB1.out).mono ?_; rintro e w2 ⟨rfl, hb2⟩))
  go_ret2
  exact ⟨rfl, HB1.out.trans (hb2.mono HB1.out.size)⟩

set_option maxRecDepth 20000 in
set_option maxHeartbeats 1000000 in
theorem tcompare_roots (wf : WF s) (hD : PFor w F bf s) (n k n2 k2 : Nat) (tf : Nat → Nat) (htf : ∀ m, m < s.length → IsTop s m (tf m)) (hn : n < s.length) (hn2 : n2 < s.length) (hne : tf n ≠ tf n2)
    (hA : ∀ W, Below w.heap.size w W → Calls Tryz.prog 98 #[ptr bf, .agg #[.int .i64 (n : Int), .int .i64 (k : Int)]] W fun e w' => e = .returned .nilIface ∧ Below W.heap.size W w')
    (hB : ∀ W, Below w.heap.size w W → Calls Tryz.prog 98 #[ptr bf, .agg #[.int .i64 (n2 : Int), .int .i64 (k2 : Int)]] W fun e w' => e = .returned .nilIface ∧ Below W.heap.size W w') :
    Calls Tryz.prog 62 #[ptr bf, .agg #[.int .i64 (n : Int), .int .i64 (k : Int)], .agg #[.int .i64 (n2 : Int), .int .i64 (k2 : Int)]] w fun e w' => e = .returned (.tuple #[.int .i64 0, refusalV n2 9]) ∧ Below w.heap.size w w' := by
  obtain ⟨bn, cap, pn, hD⟩ := hD
  have CA := hid (hA _ (ptwo_below w n k n2 k2))
  have CB := hid hB
  have HT := hid (ptwo_below w n k n2 k2)
  have CT := hid (fun W (hb : Below w.heap.size w W) m (hm : m < s.length) q => ttop_at (w := W.drewN q) wf (hD.below (below_drewN hb q)) (htf m hm) hm)
  have hneI : ¬ (tf n : Int) = (tf n2 : Int) := fun e => hne (by omega)
  clear hA hB hD wf htf
  go_enter Tryz.func62, Tryz.ntmps62
  go_wp2_with (first
    | (go_at_call 98; refine CA.out.mono ?_; clear CA; rintro e w1 ⟨rfl, hb1⟩
       obtain ⟨q1, q2⟩ := ptwo_cells hb1
       have p0 : w1.cell? ⟨w.heap.size, 0, none⟩ = some (.int .i64 (n : Int)) := cell_of_heap q1 0
       have p1 : w1.cell? ⟨w.heap.size, 1, none⟩ = some (.int .i64 (k : Int)) := cell_of_heap q1 1
       have p2 : w1.cell? ⟨w.heap.size + 1, 0, none⟩ = some (.int .i64 (n2 : Int)) := cell_of_heap q2 0
       have p3 : w1.cell? ⟨w.heap.size + 1, 1, none⟩ = some (.int .i64 (k2 : Int)) := cell_of_heap q2 1
       have HB1 := hid (HT.out.trans (hb1.mono HT.out.size))
       have H1 := hid hb1
       clear hb1 q1 q2)
    | (go_at_call 98; refine (CB.out _ HB1.out).mono ?_; clear CB; rintro e w2 ⟨rfl, hb2⟩
       obtain ⟨q1, q2⟩ := ptwo_cells (H1.out.trans (hb2.mono H1.out.size))
       have r0 : w2.cell? ⟨w.heap.size, 0, none⟩ = some (.int .i64 (n : Int)) := cell_of_heap q1 0
       have r1 : w2.cell? ⟨w.heap.size, 1, none⟩ = some (.int .i64 (k : Int)) := cell_of_heap q1 1
       have r2 : w2.cell? ⟨w.heap.size + 1, 0, none⟩ = some (.int .i64 (n2 : Int)) := cell_of_heap q2 0
       have r3 : w2.cell? ⟨w.heap.size + 1, 1, none⟩ = some (.int .i64 (k2 : Int)) := cell_of_heap q2 1
       have HB2 := hid (HB1.out.trans (hb2.mono HB1.out.size))
       clear hb2 q1 q2 p0 p1 p2 p3 HB1))
  go_quiet ((go_at_call 99; exact Calls.quiet_of_same (CT.out w2 HB2.out _ (by first | exact hn | exact hn2) _)))
  have hbne : ((tf n : Int) != (tf n2 : Int)) = true := by simpa using hneI
  rw [hbne]
  go_wp2
  go_region
  go_wp2
  go_ret2
  exact ⟨rfl, below_drewN HB2.out _⟩

set_option maxRecDepth 20000 in
set_option maxHeartbeats 1000000 in
/-- Two places compared by the ways to them. -/
theorem torder_any {bn cap : Nat} {pn : List PN} (wf : WF s) (hD : PForAt w F bf bn cap pn s) (n k n2 k2 : Nat) (hn : n < s.length) (hn2 : n2 < s.length) :
    Calls Tryz.prog 100 #[ptr bf, .agg #[.int .i64 (n : Int), .int .i64 (k : Int)], .agg #[.int .i64 (n2 : Int), .int .i64 (k2 : Int)]] w fun e w' => ∃ t t2 l l2, Way s t n l ∧ IsTop s n t ∧ Way s t2 n2 l2 ∧ IsTop s n2 t2 ∧ e = .returned (.int .i64 (lexC (l ++ [k]) (l2 ++ [k2]))) ∧ Below w.heap.size w w' := by
  have HB2 : Hid (Below w.heap.size w ((w.alloc (.cells #[.int .i64 (n : Int), .int .i64 (k : Int)] 37)).alloc (.cells #[.int .i64 (n2 : Int), .int .i64 (k2 : Int)] 37))) := ptwo_below w n k n2 k2
  obtain ⟨q1, q2⟩ := ptwo_cells (Below.refl (ptwo w n k n2 k2).heap.size (ptwo w n k n2 k2))
  have q1' : ((w.alloc (.cells #[.int .i64 (n : Int), .int .i64 (k : Int)] 37)).alloc (.cells #[.int .i64 (n2 : Int), .int .i64 (k2 : Int)] 37)).heap[w.heap.size]? = _ := q1
  have q2' : ((w.alloc (.cells #[.int .i64 (n : Int), .int .i64 (k : Int)] 37)).alloc (.cells #[.int .i64 (n2 : Int), .int .i64 (k2 : Int)] 37)).heap[w.heap.size + 1]? = _ := q2
  clear q1 q2
  obtain ⟨w2, hw2⟩ : ∃ w2, (w.alloc (.cells #[.int .i64 (n : Int), .int .i64 (k : Int)] 37)).alloc (.cells #[.int .i64 (n2 : Int), .int .i64 (k2 : Int)] 37) = w2 := ⟨_, rfl⟩
  rw [hw2] at HB2 q1' q2'
  have r0 : w2.cell? ⟨w.heap.size, 0, none⟩ = some (.int .i64 (n : Int)) := cell_of_heap q1' 0
  have r1 : w2.cell? ⟨w.heap.size, 1, none⟩ = some (.int .i64 (k : Int)) := cell_of_heap q1' 1
  have r2 : w2.cell? ⟨w.heap.size + 1, 0, none⟩ = some (.int .i64 (n2 : Int)) := cell_of_heap q2' 0
  have r3 : w2.cell? ⟨w.heap.size + 1, 1, none⟩ = some (.int .i64 (k2 : Int)) := cell_of_heap q2' 1
  have CP := hid (fun W (hb : Below w.heap.size w W) m (hm : m < s.length) kk => tpath_any (w := W) wf (hD.below hb) m kk hm)
  have RC := hid (And.intro r0 (And.intro r1 (And.intro r2 r3)))
  have hz2 := HB2.out.size
  have hbx : w.heap.size + 1 < w2.heap.size := World.block_lt_of_cell? w2 _ r2
  have HW2 := hid hw2
  clear hD wf q1' q2' hw2
  go_enter Tryz.func100, Tryz.ntmps100
  go_wp2
  rw [HW2.out]
  clear HW2
  go_region_held3 (fun w' => w'.cell? ⟨w.heap.size, 0, none⟩ = some (.int .i64 (n : Int)) ∧ w'.cell? ⟨w.heap.size, 1, none⟩ = some (.int .i64 (k : Int)) ∧ w'.cell? ⟨w.heap.size + 1, 0, none⟩ = some (.int .i64 (n2 : Int)) ∧ w'.cell? ⟨w.heap.size + 1, 1, none⟩ = some (.int .i64 (k2 : Int))) (first | exact KEEP2.out | exact KEEP1.out | go_keep) (first
    | (go_at_call 152
       refine (scmp_ways l l2 k k2 g3 c3 g4 c4 _ HC4.out HC5.out len3 len4).mono ?_
       rintro e w5 ⟨rfl, hw5⟩
       replace hw5 := hw5.symm
       subst hw5)
    | (go_at_call 153
       have hg := HC3.out
       refine (CP.out _ (by first | exact HB3.out | exact below_drewN HB3.out _ | exact HB3.out.drew) n2 hn2 k2).mono ?_
       rintro e w4 ⟨t4, l2, g4, c4, rfl, way4, top4, len4, hg5, hg6, hcells4, hb4⟩
       have HC4 : Hid (∀ (j x : Nat), (l ++ [k])[j]? = some x → w4.cell? ⟨g3, j, none⟩ = some (.int .i64 (x : Int))) := fun j x hx => (hb4.cell (p := ⟨g3, j, none⟩) (by first | exact hg4 | (simp; exact hg4))).trans (HC3.out j x hx)
       have HC5 := hid hcells4
       have HB4 : Hid (Below w.heap.size w w4) := (by first | exact HB3.out.trans (hb4.mono HB3.out.size) | exact (below_drewN HB3.out _).trans (hb4.mono HB3.out.size))
       have KEEP2 : Hid (w4.cell? ⟨w.heap.size, 0, none⟩ = some (.int .i64 (n : Int)) ∧ w4.cell? ⟨w.heap.size, 1, none⟩ = some (.int .i64 (k : Int)) ∧ w4.cell? ⟨w.heap.size + 1, 0, none⟩ = some (.int .i64 (n2 : Int)) ∧ w4.cell? ⟨w.heap.size + 1, 1, none⟩ = some (.int .i64 (k2 : Int))) :=
         ⟨(hb4.cell (p := ⟨w.heap.size, 0, none⟩) (by simp; omega)).trans KEEP1.out.1, (hb4.cell (p := ⟨w.heap.size, 1, none⟩) (by simp; omega)).trans KEEP1.out.2.1, (hb4.cell (p := ⟨w.heap.size + 1, 0, none⟩) (by simp; omega)).trans KEEP1.out.2.2.1, (hb4.cell (p := ⟨w.heap.size + 1, 1, none⟩) (by simp; omega)).trans KEEP1.out.2.2.2⟩
       have W4 := hid (And.intro way4 top4)
       clear way4 top4 hcells4 hb4 hg)
    | (go_at_call 153
       refine (CP.out _ (by first | exact below_drewN HB2.out _ | exact HB2.out | exact HB2.out.drew) n hn k).mono ?_
       rintro e w3 ⟨t3, l, g3, c3, rfl, way3, top3, len3, hg3, hg4, hcells3, hb3⟩
       have HC3 := hid hcells3
       have HB3 : Hid (Below w.heap.size w w3) := (below_drewN HB2.out _).trans (hb3.mono HB2.out.size)
       have hz3 : w2.heap.size ≤ w3.heap.size := hb3.size
       have KEEP1 : Hid (w3.cell? ⟨w.heap.size, 0, none⟩ = some (.int .i64 (n : Int)) ∧ w3.cell? ⟨w.heap.size, 1, none⟩ = some (.int .i64 (k : Int)) ∧ w3.cell? ⟨w.heap.size + 1, 0, none⟩ = some (.int .i64 (n2 : Int)) ∧ w3.cell? ⟨w.heap.size + 1, 1, none⟩ = some (.int .i64 (k2 : Int))) :=
         ⟨(hb3.cell (p := ⟨w.heap.size, 0, none⟩) (by show w.heap.size < w2.heap.size; omega)).trans RC.out.1, (hb3.cell (p := ⟨w.heap.size, 1, none⟩) (by show w.heap.size < w2.heap.size; omega)).trans RC.out.2.1, (hb3.cell (p := ⟨w.heap.size + 1, 0, none⟩) (by show w.heap.size + 1 < w2.heap.size; omega)).trans RC.out.2.2.1, (hb3.cell (p := ⟨w.heap.size + 1, 1, none⟩) (by show w.heap.size + 1 < w2.heap.size; omega)).trans RC.out.2.2.2⟩
       have W3 := hid (And.intro way3 top3)
       clear way3 top3 hcells3 hb3))
  go_wp2
  go_ret
  obtain ⟨way3, top3⟩ := W3.out
  obtain ⟨way4, top4⟩ := W4.out
  exact ⟨_, _, l, l2, way3, top3, way4, top4, rfl, HB4.out⟩

set_option maxRecDepth 20000 in
set_option maxHeartbeats 1000000 in
theorem tcompare_one (wf : WF s) (hD : PFor w F bf s) (n k n2 k2 : Nat) (tf : Nat → Nat) (htf : ∀ m, m < s.length → IsTop s m (tf m)) (hn : n < s.length) (hn2 : n2 < s.length) (hee : tf n = tf n2)
    (hA : ∀ W, Below w.heap.size w W → Calls Tryz.prog 98 #[ptr bf, .agg #[.int .i64 (n : Int), .int .i64 (k : Int)]] W fun e w' => e = .returned .nilIface ∧ Below W.heap.size W w')
    (hB : ∀ W, Below w.heap.size w W → Calls Tryz.prog 98 #[ptr bf, .agg #[.int .i64 (n2 : Int), .int .i64 (k2 : Int)]] W fun e w' => e = .returned .nilIface ∧ Below W.heap.size W w') :
    Calls Tryz.prog 62 #[ptr bf, .agg #[.int .i64 (n : Int), .int .i64 (k : Int)], .agg #[.int .i64 (n2 : Int), .int .i64 (k2 : Int)]] w fun e w' => ∃ l l2, Way s (tf n) n l ∧ Way s (tf n) n2 l2 ∧ e = .returned (.tuple #[.int .i64 (lexC (l ++ [k]) (l2 ++ [k2])), .nilIface]) ∧ Below w.heap.size w w' := by
  obtain ⟨bn, cap, pn, hD⟩ := hD
  have CA := hid (hA _ (ptwo_below w n k n2 k2))
  have CB := hid hB
  have HT := hid (ptwo_below w n k n2 k2)
  have CT := hid (fun W (hb : Below w.heap.size w W) m (hm : m < s.length) q => ttop_at (w := W.drewN q) wf (hD.below (below_drewN hb q)) (htf m hm) hm)
  have CO := hid (fun W (hb : Below w.heap.size w W) => torder_any (w := W) wf (hD.below hb) n k n2 k2 hn hn2)
  have HTF := hid htf
  clear hA hB hD wf htf
  go_enter Tryz.func62, Tryz.ntmps62
  go_wp2_with (first
    | (go_at_call 98; refine CA.out.mono ?_; clear CA; rintro e w1 ⟨rfl, hb1⟩
       obtain ⟨q1, q2⟩ := ptwo_cells hb1
       have p0 : w1.cell? ⟨w.heap.size, 0, none⟩ = some (.int .i64 (n : Int)) := cell_of_heap q1 0
       have p1 : w1.cell? ⟨w.heap.size, 1, none⟩ = some (.int .i64 (k : Int)) := cell_of_heap q1 1
       have p2 : w1.cell? ⟨w.heap.size + 1, 0, none⟩ = some (.int .i64 (n2 : Int)) := cell_of_heap q2 0
       have p3 : w1.cell? ⟨w.heap.size + 1, 1, none⟩ = some (.int .i64 (k2 : Int)) := cell_of_heap q2 1
       have HB1 := hid (HT.out.trans (hb1.mono HT.out.size))
       have H1 := hid hb1
       clear hb1 q1 q2)
    | (go_at_call 98; refine (CB.out _ HB1.out).mono ?_; clear CB; rintro e w2 ⟨rfl, hb2⟩
       obtain ⟨q1, q2⟩ := ptwo_cells (H1.out.trans (hb2.mono H1.out.size))
       have r0 : w2.cell? ⟨w.heap.size, 0, none⟩ = some (.int .i64 (n : Int)) := cell_of_heap q1 0
       have r1 : w2.cell? ⟨w.heap.size, 1, none⟩ = some (.int .i64 (k : Int)) := cell_of_heap q1 1
       have r2 : w2.cell? ⟨w.heap.size + 1, 0, none⟩ = some (.int .i64 (n2 : Int)) := cell_of_heap q2 0
       have r3 : w2.cell? ⟨w.heap.size + 1, 1, none⟩ = some (.int .i64 (k2 : Int)) := cell_of_heap q2 1
       have HB2 := hid (HB1.out.trans (hb2.mono HB1.out.size))
       clear hb2 q1 q2 p0 p1 p2 p3 HB1))
  go_quiet ((go_at_call 99; exact Calls.quiet_of_same (CT.out w2 HB2.out _ (by first | exact hn | exact hn2) _)))
  go_wp2_with (go_at_call 100; refine (CO.out _ (below_drewN HB2.out _)).mono ?_; rintro e w3 ⟨t3, t4, l, l2, way3, top3, way4, top4, rfl, hb3⟩
               have W3 := hid (And.intro way3 top3)
               have W4 := hid (And.intro way4 top4)
               clear way3 top3 way4 top4)
  go_ret2
  obtain ⟨way3, top3⟩ := W3.out
  obtain ⟨way4, top4⟩ := W4.out
  obtain rfl := top3.one (HTF.out n hn)
  obtain rfl := top4.one (HTF.out n2 hn2)
  refine ⟨l, l2, way3, ?_, rfl, (below_drewN HB2.out _).trans (hb3.mono (below_drewN HB2.out _).size)⟩
  rw [hee]; exact way4
end

end Go.Proofs.YtabogkonklplcaaGreatDoor

/- tree.covers: two places compared. -/
namespace Go.Proofs.YtabogkonklplcaaGreatDoor
open Go.RowKit Go.Lib
set_option linter.unusedSimpArgs false
set_option linter.unusedVariables false

section
variable {w : World} {F : Nat → Prop} {bf bn cap : Nat} {pn : List PN} {s : List Nd}

/-- What order tells, by where two places of one tree are. -/
theorem torder_wh (wf : WF s) {h : Nat → Nat} {B : Nat} (u : Up s h B) (hD : PForAt w F bf bn cap pn s) (n k n2 k2 t : Nat) (hn : n < s.length) (hn2 : n2 < s.length) (h1 : IsTop s n t) (h2 : IsTop s n2 t) (hk : k ≤ sizeAt s n) (hk2 : k2 ≤ sizeAt s n2) :
    Calls Tryz.prog 100 #[ptr bf, .agg #[.int .i64 (n : Int), .int .i64 (k : Int)], .agg #[.int .i64 (n2 : Int), .int .i64 (k2 : Int)]] w fun e w' => ∃ q : Int, e = .returned (.int .i64 q) ∧ decide (q ≤ 0) = decide (wh (plF s (B + 1) t) (n, k) ≤ wh (plF s (B + 1) t) (n2, k2)) ∧ Below w.heap.size w w' := by
  refine (torder_any wf hD n k n2 k2 hn hn2).mono ?_
  rintro e w' ⟨t3, t4, l, l2, wa, ta, wb, tb, rfl, hb⟩
  obtain rfl := ta.one h1
  obtain rfl := tb.one h2
  refine ⟨_, rfl, ?_, hb⟩
  rw [cmp_ways wf u wa wb hk hk2 (wh_is _ _) (wh_is _ _)]
  refine decide_eq_decide.2 ?_
  split
  · constructor <;> intro _ <;> omega
  · split
    · constructor <;> intro _ <;> omega
    · constructor <;> intro _ <;> omega

set_option maxRecDepth 20000 in
set_option maxHeartbeats 1000000 in
theorem tcovers_any (wf : WF s) {h : Nat → Nat} {B : Nat} (u : Up s h B) (hD : PForAt w F bf bn cap pn s) (a b c d n k t : Nat) (ha : a < s.length) (hc : c < s.length) (hn : n < s.length) (ta : IsTop s a t) (tc : IsTop s c t) (tn : IsTop s n t) (hb : b ≤ sizeAt s a) (hd : d ≤ sizeAt s c) (hk : k + 1 ≤ sizeAt s n) :
    Calls Tryz.prog 159 #[ptr bf, spV ⟨a, b, c, d⟩, .agg #[.int .i64 (n : Int), .int .i64 (k : Int)]] w fun e w' => e = .returned (.bool (cov (plF s (B + 1) t) a b c d n k)) ∧ Below w.heap.size w w' := by
  have C1 := hid (fun W (hB : Below w.heap.size w W) => torder_wh wf u (hD.below hB) a b n k t ha hn ta tn hb (by omega))
  have C2 := hid (fun W (hB : Below w.heap.size w W) => torder_wh wf u (hD.below hB) n (k + 1) c d t hn hc tn tc hk hd)
  have hk100 : k < 1000 := by
    have hx : s[n]? = some s[n] := List.getElem?_eq_getElem hn
    rw [sizeAt_eq hx] at hk
    have := sizeN_le wf hx
    omega
  clear hD wf u
  unfold cov
  generalize hW1 : wh (plF s (B + 1) t) (a, b) = q1
  rw [hW1] at C1
  generalize hW2 : wh (plF s (B + 1) t) (n, k) = q2
  rw [hW2] at C1
  generalize hW3 : wh (plF s (B + 1) t) (n, k + 1) = q3
  rw [hW3] at C2
  generalize hW4 : wh (plF s (B + 1) t) (c, d) = q4
  rw [hW4] at C2
  clear hW1 hW2 hW3 hW4
  have HB3 : Hid (Below w.heap.size w (((w.alloc (.cells #[.int .i64 (a : Int), .int .i64 (b : Int), .int .i64 (c : Int), .int .i64 (d : Int)] 79)).alloc (.cells #[.int .i64 (n : Int), .int .i64 (k : Int)] 37)).alloc (.cells #[.int .i64 (n : Int), .int .i64 ((k : Int) + 1)] 37))) :=
    (((Below.refl _ w).alloc (Nat.le_refl _) _).alloc (by simp) _).alloc (by simp only [World.size_alloc]; omega) _
  have hx0 : (((w.alloc (.cells #[.int .i64 (a : Int), .int .i64 (b : Int), .int .i64 (c : Int), .int .i64 (d : Int)] 79)).alloc (.cells #[.int .i64 (n : Int), .int .i64 (k : Int)] 37)).alloc (.cells #[.int .i64 (n : Int), .int .i64 ((k : Int) + 1)] 37)).heap[w.heap.size]? = some (.cells #[.int .i64 (a : Int), .int .i64 (b : Int), .int .i64 (c : Int), .int .i64 (d : Int)] 79 (0, 0)) := by
    rw [Below.heap_alloc _ _ _ (by simp only [World.size_alloc]; omega), Below.heap_alloc _ _ _ (by simp), heap_alloc_new]
  have hx2 : (((w.alloc (.cells #[.int .i64 (a : Int), .int .i64 (b : Int), .int .i64 (c : Int), .int .i64 (d : Int)] 79)).alloc (.cells #[.int .i64 (n : Int), .int .i64 (k : Int)] 37)).alloc (.cells #[.int .i64 (n : Int), .int .i64 ((k : Int) + 1)] 37)).heap[w.heap.size + 1 + 1]? = some (.cells #[.int .i64 (n : Int), .int .i64 ((k : Int) + 1)] 37 (0, 0)) := by
    have := heap_alloc_new ((w.alloc (.cells #[.int .i64 (a : Int), .int .i64 (b : Int), .int .i64 (c : Int), .int .i64 (d : Int)] 79)).alloc (.cells #[.int .i64 (n : Int), .int .i64 (k : Int)] 37)) (.cells #[.int .i64 (n : Int), .int .i64 ((k : Int) + 1)] 37)
    simpa using this
  have HX0 := hid hx0
  have HX2 := hid hx2
  have C1' := hid (C1.out _ HB3.out)
  clear hx0 hx2 C1
  by_cases h12 : q1 ≤ q2
  · rw [decide_eq_true h12] at C1' ⊢
    rw [Bool.true_and]
    go_enter Tryz.func159, Tryz.ntmps159
    go_wp2_with (first
      | (go_at_call 100
         refine C1'.out.mono ?_
         clear C1'
         rintro e w1 ⟨r1, rfl, hr1, hb1⟩
         have hy0 := (hb1.block _ (heap_lt HX0.out)).trans HX0.out
         have hy2 := (hb1.block _ (heap_lt HX2.out)).trans HX2.out
         have y0 := cell_of_heap hy0 2
         have y1 := cell_of_heap hy0 3
         have y2 := cell_of_heap hy2 0
         have y3 := cell_of_heap hy2 1
         have HB4 := hid (HB3.out.trans (hb1.mono HB3.out.size))
         clear hb1 hy0 hy2)
      | (go_at_call 100
         refine (C2.out _ HB4.out).mono ?_
         rintro e w2 ⟨r2, rfl, hr2, hb2⟩
         have HB5 := hid (HB4.out.trans (hb2.mono HB4.out.size))
         clear hb2))
    go_ret
    exact ⟨rfl, HB5.out⟩
  · rw [decide_eq_false h12] at C1' ⊢
    rw [Bool.false_and]
    go_enter Tryz.func159, Tryz.ntmps159
    go_wp2_with (
         go_at_call 100
         refine C1'.out.mono ?_
         clear C1'
         rintro e w1 ⟨r1, rfl, hr1, hb1⟩
         have HB4 := hid (HB3.out.trans (hb1.mono HB3.out.size))
         clear hb1)
    go_ret
    exact ⟨rfl, HB4.out⟩
end
end Go.Proofs.YtabogkonklplcaaGreatDoor
