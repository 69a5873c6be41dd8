import Derived.Test.YtnplbbclgpieaaaGreatDoorX44
import Derived.Test.YtnplbbclgpieaaaGreatDoorX45
import Derived.Test.YtnplbbclgpieaaaGreatDoorX40
import Derived.Test.YtnplbbclgpieaaaGreatDoorX24
import Derived.BigQuiet

/- The document's answers at Split. -/
namespace Go.Proofs.YtnplbbclgpieaaaGreatDoor
open Go.RowKit Go.Lib
set_option linter.unusedSimpArgs false
set_option linter.unusedVariables false

set_option maxHeartbeats 400000 in
theorem msplit_no {w : World} {F : Nat → Prop} {bx : Nat} {s s' : List Nd} {rs : List Sp} (hg : GG w) (hP : PLies w F bx ⟨s, rs⟩) {t : TypeId} {u : Value} {a y : Int} (A B : Int) (hE : ErrOf (.iface t u) a y)
    (hT : ∀ (F' : Nat → Prop) (bf : Nat), PFor w F' bf s → Calls Tryz.prog 79 #[ptr bf, .int .i64 A, .int .i64 B] w (TPost F' w bf s' (.tuple #[.int .i64 0, .nilFunc, .iface t u]))) :
    Calls Tryz.prog 40 #[ptr bx, .int .i64 A, .int .i64 B] w (PLPost F w bx ⟨s', rs⟩ (.tuple #[.int .i64 0, errV a y])) := by
  obtain ⟨bf, bl, sv, hD⟩ := hP
  have C := hid (hT _ _ hD.nodes)
  have c0 : w.cell? ⟨bx, 0, none⟩ = some (ptr bf) := cell_of_heap hD.doc 0
  have AF := hid (fun w1 w2 => pdoc_after (w1 := w1) (w2 := w2) (s' := s') hg hD)
  have AG := hid (fun w1 => gg_after (w1 := w1) (F := F) (bx := bx) (bl := bl) (sv := sv) hg)
  have E := hid (fun w1 (h1 : Glob w1) => mfollow_no h1 bx .nilFunc hE)
  clear hD hT hg hE
  go_enter Tryz.func40, Tryz.ntmps40
  go_wp2_with first
    | (go_at_call 79; refine C.out.mono ?_; rintro e w1 ⟨rfl, hk, hf⟩; have E1 := hid (E.out w1 (AG.out w1 hk)); have A1 := hid (fun w2 => AF.out w1 w2 hk hf); clear hk hf)
    | (go_at_call 64; refine E1.out.mono ?_; rintro e w2 ⟨rfl, hb⟩)
  go_ret2
  exact ⟨rfl, (A1.out _ hb).1, _, _, _, (A1.out _ hb).2⟩

set_option maxHeartbeats 400000 in
theorem msplit_of {w : World} {F : Nat → Prop} {bx : Nat} {s s' : List Nd} {n : Int} (hg : GG w) (hP : PLies w F bx ⟨s, []⟩) (A B : Int)
    (hT : ∀ (F' : Nat → Prop) (bf : Nat), PFor w F' bf s → Calls Tryz.prog 79 #[ptr bf, .int .i64 A, .int .i64 B] w (TSplit F' w bf s' n)) :
    Calls Tryz.prog 40 #[ptr bx, .int .i64 A, .int .i64 B] w (PLPost F w bx ⟨s', []⟩ (.tuple #[.int .i64 n, errV 0 0])) := by
  obtain ⟨bf, bl, sv, hD⟩ := hP
  have C := hid (hT _ _ hD.nodes)
  have c0 : w.cell? ⟨bx, 0, none⟩ = some (ptr bf) := cell_of_heap hD.doc 0
  have AF := hid (fun w1 => pdoc_after (w1 := w1) (w2 := w1) (s' := s') hg hD)
  clear hD hT hg
  go_enter Tryz.func40, Tryz.ntmps40
  go_wp2_with first
    | (go_at_call 79; refine C.out.mono ?_; rintro e w1 ⟨mv, rfl, hk, hf⟩; have A1 := hid (AF.out w1 hk hf (Below.refl _ _)); have E1 := hid (mfollow_yes A1.out.2 mv); clear hk hf)
    | (go_at_call 64; refine E1.out.mono ?_; rintro e w2 ⟨rfl, hb⟩)
  go_ret2
  exact ⟨by simp [errV], A1.out.1.trans (Keeps.of_below hb), _, _, _, A1.out.2.below hb⟩

/-- A text that has come: half of another one. -/
theorem wf_half {s : List Nd} (wf : WF s) (h40 : s.length < 40) {n k : Nat} {x : Nd} (hx : s[n]? = some x) (ht : x.t = true) : WF ((s ++ [(⟨true, x.cs.drop k, [], -1⟩ : Nd)]).set n { x with cs := x.cs.take k }) := by
  have hch := wf.chars n x hx
  have hn := (List.getElem?_eq_some_iff.1 hx).1
  have w1 := wf_push wf h40 ⟨true, x.cs.drop k, [], -1⟩ rfl rfl (fun h => by cases h) ⟨by simp; omega, fun c hc => hch.2 c (List.mem_of_mem_drop hc)⟩
  exact wf_chars w1 (by rw [List.getElem?_append_left hn]; exact hx) ht ⟨by simp; omega, fun c hc => hch.2 c (List.mem_of_mem_take hc)⟩

theorem split_state {s : List Nd} {n j : Nat} {x y : Nd} {X Y a b : Nd} (hn : n < s.length) (hj : j < s.length) (hnj : n ≠ j) :
    (((s ++ [a]).set n X).set j Y).set s.length b = ((s ++ [b]).set j Y).set n X := by
  have e1 : (s ++ [a]).set n X = s.set n X ++ [a] := List.set_append_left _ _ hn
  have e2 : (s.set n X ++ [a]).set j Y = (s.set n X).set j Y ++ [a] := List.set_append_left _ _ (by simpa using hj)
  have e3 : ((s.set n X).set j Y ++ [a]).set s.length b = (s.set n X).set j Y ++ [b] := by
    rw [List.set_append_right _ _ (by simp)]; simp
  have e4 : (s ++ [b]).set j Y = s.set j Y ++ [b] := List.set_append_left _ _ hj
  have e5 : (s.set j Y ++ [b]).set n X = (s.set j Y).set n X ++ [b] := List.set_append_left _ _ (by simpa using hn)
  rw [e1, e2, e3, e4, e5, List.set_comm _ _ hnj]

theorem ans_split (s : List Nd) (wf : WF s) (A B : Int) : ∃ n : Int, Ans PDoc GG ⟨s, []⟩ 40 41 [.int .i64 A, .int .i64 B] (fun v => .tuple #[.int .i64 n, v]) (fun v => .tuple #[.int .i64 n, v]) := by
  have hcap := wf.cap
  cases hA : isB s A with
  | false =>
    refine ⟨0, A, 1, ⟨s, []⟩, ⟨wf, rfl⟩, ?_, ?_⟩
    · intro w F bx hg hP
      refine msplit_no hg hP A B (errOf_P A 1 (by decide)) (fun F' bf h => ?_)
      have h' := h
      obtain ⟨bn, cap, pn, h⟩ := h
      exact tsplit_unfit h' A B _ (findText_no h A hA)
    · intro w F bd hR
      have hR' := hR
      obtain ⟨bn, cap, rn, rv, hD⟩ := hR
      exact (rsplit_unfit A B A 1 (by decide) (textFits_node (hD.below (one0_below w)) A B hA)).mono fun e w' ⟨h1, h2⟩ => hR'.unchanged h2 h1
  | true =>
    obtain ⟨h1, h2⟩ := isB_true hA
    obtain ⟨n, rfl⟩ : ∃ n : Nat, A = (n : Int) := ⟨A.toNat, by omega⟩
    have hn : n < s.length := by omega
    obtain ⟨x, hx⟩ : ∃ x, s[n]? = some x := ⟨_, List.getElem?_eq_getElem hn⟩
    have hch := wf.chars n x hx
    have hl' : x.cs.length < lots := by unfold lots; omega
    cases ht : x.t with
    | false =>
      refine ⟨0, n, 2, ⟨s, []⟩, ⟨wf, rfl⟩, ?_, ?_⟩
      · intro w F bx hg hP
        refine msplit_no hg hP n B (errOf_P n 2 (by decide)) (fun F' bf h => ?_)
        have h' := h
        obtain ⟨bn, cap, pn, h⟩ := h
        exact tsplit_unfit h' n B _ (findText_kind h n x hx ht)
      · intro w F bd hR
        have hR' := hR
        obtain ⟨bn, cap, rn, rv, hD⟩ := hR
        exact (rsplit_unfit n B n 2 (by decide) (textFits_kind (hD.below (one0_below w)) n B x hx ht)).mono fun e w' ⟨h1, h2⟩ => hR'.unchanged h2 h1
    | true =>
      by_cases hB : B < 0 ∨ (x.cs.length : Int) < B
      · refine ⟨0, n, 3, ⟨s, []⟩, ⟨wf, rfl⟩, ?_, ?_⟩
        · intro w F bx hg hP
          exact msplit_no hg hP n B (errOf_O n B) (fun F' bf h => tsplit_out h n B x hx ht hch.2 hl' hB)
        · intro w F bd hR
          have hR' := hR
          obtain ⟨bn, cap, rn, rv, hD⟩ := hR
          exact (rsplit_unfit n B n 3 (by decide) (textFits_index (hD.below (one0_below w)) n B x hx ht hB)).mono fun e w' ⟨h1, h2⟩ => hR'.unchanged h2 h1
      · obtain ⟨k, rfl⟩ : ∃ k : Nat, B = (k : Int) := ⟨B.toNat, by omega⟩
        have hk : k ≤ x.cs.length := by omega
        by_cases h40 : s.length < 40
        · have wf4 := wf_half wf h40 (k := k) hx ht
          rcases wf.par n x hx with hp | ⟨j, y, hp, hy, hmem⟩
          · refine ⟨s.length, 0, 0, ⟨_, []⟩, ⟨wf4, rfl⟩, ?_, ?_⟩
            · intro w F bx hg hP
              exact msplit_of hg hP n k (fun F' bf h => tsplit_top h n k x hx ht hch.2 hch.1 hk h40 hp)
            · rintro w F bd ⟨bn, cap, rn, rv, hD⟩
              have h := rsplit_top (s := s) hD n k x hx ht hch.1 hk h40 (by omega)
              have e : (⟨true, x.cs.drop k, [], x.p⟩ : Nd) = ⟨true, x.cs.drop k, [], -1⟩ := by rw [hp]
              rw [e] at h
              exact h.mono fun e w' h => h
          · obtain ⟨j', m, y', hj', hy', hm, hno, hyl⟩ := wf.place hx (by omega)
            obtain rfl : j = j' := by omega
            obtain rfl : y = y' := Option.some.inj (hy.symm.trans hy')
            have hjl := (List.getElem?_eq_some_iff.1 hy).1
            have hml : m < y.ks.length := (List.getElem?_eq_some_iff.1 hm).1
            have hyt : y.t = false := by
              cases h : y.t with
              | false => rfl
              | true => have := (wf.elem j y hy).1 h; rw [this] at hmem; cases hmem
            have hnj : n ≠ j := by
              intro e; subst e
              obtain rfl : x = y := Option.some.inj (hx.symm.trans hy)
              rw [ht] at hyt; cases hyt
            have hx4 : ((s ++ [(⟨true, x.cs.drop k, [], -1⟩ : Nd)]).set n { x with cs := x.cs.take k })[j]? = some y := by rw [List.getElem?_set_ne hnj, List.getElem?_append_left hjl]; exact hy
            have hz4 : ((s ++ [(⟨true, x.cs.drop k, [], -1⟩ : Nd)]).set n { x with cs := x.cs.take k })[s.length]? = some (⟨true, x.cs.drop k, [], -1⟩ : Nd) := by rw [List.getElem?_set_ne (by omega), List.getElem?_append_right (Nat.le_refl _)]; simp
            have hI : InsOk ((s ++ [(⟨true, x.cs.drop k, [], -1⟩ : Nd)]).set n { x with cs := x.cs.take k }) j s.length y ⟨true, x.cs.drop k, [], -1⟩ := ⟨hx4, hz4, hyt, by omega, by show (-1 : Int) < 0; decide⟩
            obtain ⟨h4, B4, u4⟩ := wf4.up
            have hnm : j ∉ allF ((s ++ [(⟨true, x.cs.drop k, [], -1⟩ : Nd)]).set n { x with cs := x.cs.take k }) (h4 s.length + 1) s.length := by
              rw [allF, kidsOf_eq hz4]
              simp
              omega
            have hw := holds_no wf4 u4 (d := j) (by rw [List.length_set, List.length_append]; omega) (Nat.lt_succ_self _) hnm
            obtain ⟨_, hwf⟩ := wf_insert wf4 hI hw (k := m + 1) (by omega)
            refine ⟨s.length, 0, 0, ⟨_, []⟩, ⟨hwf, rfl⟩, ?_, ?_⟩
            · intro w F bx hg hP
              exact msplit_of hg hP n k (fun F' bf h => tsplit_in h n k x hx ht hch.2 hch.1 hk h40 j m y hp hy hm hno (by unfold lots; omega) hnj)
            · rintro w F bd ⟨bn, cap, rn, rv, hD⟩
              have h := rsplit_in (s := s) hD n k x hx ht hch.1 hk h40 j m y hp hy hm hno (by unfold lots; omega) hnj
              rw [← split_state (x := x) (y := y) (a := ⟨true, x.cs.drop k, [], -1⟩) hn hjl hnj] at h
              exact h.mono fun e w' h => h
        · refine ⟨0, n, 7, ⟨s, []⟩, ⟨wf, rfl⟩, ?_, ?_⟩
          · intro w F bx hg hP
            exact msplit_no hg hP n k (errOf_P n 7 (by decide)) (fun F' bf h => tsplit_full h n k x hx ht hch.2 hch.1 hk (by omega))
          · intro w F bd hR
            have hR' := hR
            obtain ⟨bn, cap, rn, rv, hD⟩ := hR
            exact (rsplit_full (s := s) hD n k x hx ht hk (by omega)).mono fun e w' ⟨h1, h2⟩ => hR'.unchanged h2 h1

end Go.Proofs.YtnplbbclgpieaaaGreatDoor

/- marginref's size, top, placeFits. -/
namespace Go.Proofs.YtnplbbclgpieaaaGreatDoor
open Go.RowKit
set_option linter.unusedSimpArgs false
set_option linter.unusedVariables false

/-- How many places a node has, but one. -/
def sizeN (x : Nd) : Nat := if x.t = true then x.cs.length else x.ks.length
theorem sizeN_text {x : Nd} (h : x.t = true) : sizeN x = x.cs.length := by simp [sizeN, h]
theorem sizeN_elem {x : Nd} (h : x.t = false) : sizeN x = x.ks.length := by simp [sizeN, h]

/-- The top of a node's tree. -/
def IsTop (s : List Nd) (n t : Nat) : Prop := (∃ m, climb s m n = (t : Int)) ∧ ∃ x, s[t]? = some x ∧ x.p = -1
def TopPost (s : List Nd) (n : Nat) (w : World) (e : Ending) (w' : World) : Prop := (∃ t : Nat, e = .returned (.int .i64 t) ∧ IsTop s n t) ∧ w' = w
def TopInv (s : List Nd) (n : Nat) (w : World) (a : Value) (wr : World) : Prop := wr = w ∧ ∃ (c m : Nat), a = .int .i64 c ∧ c < s.length ∧ climb s m n = (c : Int)

section
variable {w : World} {F : Nat → Prop} {bd bn cap : Nat} {rn : List RN} {rv : Value} {s : List Nd} {rs : List Sp}

set_option maxRecDepth 20000 in
set_option maxHeartbeats 1000000 in
theorem size_any (hD : RDocAt w F bd bn cap rn rv s rs) (n : Nat) (x : Nd) (hx : s[n]? = some x) :
    Calls Tryz.prog 128 #[.pointer (some ⟨bd, 0, none⟩), .int .i64 n] w fun e w' => e = .returned (.int .i64 (sizeN x)) ∧ w' = w := by
  have hi : n < s.length := (List.getElem?_eq_some_iff.1 hx).1
  have h0 := hD.nodesCell
  obtain ⟨r, hr, ho, c0, c1, c2, c3⟩ := hD.look hx
  obtain ⟨sa, sc, hcv⟩ : ∃ a c, r.cv = .slice a x.cs.length c := by
    rcases row_cases ho.chars with ⟨h1, h2⟩ | ⟨g, c, h1⟩
    · exact ⟨none, 0, by rw [h1, h2]⟩
    · exact ⟨_, _, h1⟩
  obtain ⟨ka, kc, hkv⟩ : ∃ a c, r.kv = .slice a x.ks.length c := by
    rcases row_cases ho.kids with ⟨h1, h2⟩ | ⟨g, c, h1⟩
    · exact ⟨none, 0, by rw [h1, h2]⟩
    · exact ⟨_, _, h1⟩
  rw [hcv] at c1
  rw [hkv] at c2
  cases ht : x.t with
  | true =>
    rw [ht] at c0
    rw [sizeN_text ht]
    clear hD c2 c3 hr ho hx hkv hcv ht
    go_enter Tryz.func128, Tryz.ntmps128
    go_wp2
    go_ret
    exact ⟨rfl, rfl⟩
  | false =>
    rw [ht] at c0
    rw [sizeN_elem ht]
    clear hD c1 c3 hr ho hx hkv hcv ht
    go_enter Tryz.func128, Tryz.ntmps128
    go_wp2
    go_ret
    exact ⟨rfl, rfl⟩

set_option maxRecDepth 20000 in
set_option maxHeartbeats 1000000 in
theorem top_any (wf : WF s) (hD : RDocAt w F bd bn cap rn rv s rs) (n : Nat) (hn : n < s.length) :
    Calls Tryz.prog 83 #[.pointer (some ⟨bd, 0, none⟩), .int .i64 n] w (TopPost s n w) := by
  obtain ⟨h, B, u⟩ := wf.up
  have h0 := hD.nodesCell
  have HD := hid hD
  have HW := hid wf
  have HU := hid u
  clear hD wf u
  go_enter Tryz.func83, Tryz.ntmps83
  go_wp2
  go_loopw [1] (fun a wr => TopInv s n w a wr) (fun a _ => upMeas h B (intOf a))
  case atStart => exact ⟨rfl, n, 0, rfl, hn, rfl⟩
  case round =>
    obtain ⟨rfl, c, m, rfl, hc, hm⟩ := hrel
    obtain ⟨x, hx⟩ : ∃ x, s[c]? = some x := ⟨_, List.getElem?_eq_getElem hc⟩
    obtain ⟨r, hr, ho, c0, c1, c2, c3⟩ := HD.out.look hx
    have HM := hid hm
    have HX := hid hx
    clear c0 c1 c2 hr ho hm hx
    by_cases hp : 0 ≤ x.p
    · have hup := upMeas_lt HU.out HX.out
      have hpar := (HU.out.par c x HX.out hp).1
      have HUP := hid hup
      clear hup
      go_wp2
      go_roundw
      case rel =>
        obtain ⟨q, hq⟩ := Int.eq_ofNat_of_zero_le hp
        refine ⟨rfl, q, m + 1, by rw [hq], by omega, ?_⟩
        rw [climb_step HM.out]
        simp [parOf, HX.out, hq]
      case measure => exact HUP.out
    · have hp' : x.p < 0 := by omega
      have hp1 : x.p = -1 := by
        rcases HW.out.par c x HX.out with e | ⟨q, y, e, _⟩
        · exact e
        · omega
      go_wp2
      go_ret
      exact ⟨⟨c, rfl, ⟨m, HM.out⟩, x, HX.out, hp1⟩, rfl⟩

/-- The two blocks that placeFits lays. -/
abbrev pf (w : World) (n k : Int) : World := (w.alloc (.cells #[.int .i64 n, .int .i64 k] 37)).alloc (.cells #[.int .i64 0, .int .i64 0] 32)
theorem pf_below (w : World) (n k : Int) (q : Nat) : Below w.heap.size w ((pf w n k).drewN q) := by
  have h : Below w.heap.size w (pf w n k) := ((Below.refl _ w).alloc (Nat.le_refl _) _).alloc (by simp) _
  exact ⟨h.os, h.tape, h.output, h.size, h.block⟩
theorem RDocAt.pf (hD : RDocAt w F bd bn cap rn rv s rs) (n k : Int) : RDocAt (pf w n k) F bd bn cap rn rv s rs := hD.below (((Below.refl _ w).alloc (Nat.le_refl _) _).alloc (by simp) _)

set_option maxRecDepth 20000 in
set_option maxHeartbeats 1000000 in
theorem placeFits_node (hD : RDocAt w F bd bn cap rn rv s rs) (n k : Int) (hn : isB s n = false) :
    Calls Tryz.prog 82 #[.pointer (some ⟨bd, 0, none⟩), .agg #[.int .i64 n, .int .i64 k]] w fun e w' => e = .returned (rfltV n 1) ∧ Below w.heap.size w w' := by
  have HD := hid (hD.pf n k)
  clear hD
  go_enter Tryz.func82, Tryz.ntmps82
  go_wp2_with (first
    | (go_at_call 23; refine (is_at HD.out _).mono ?_; rintro e w' ⟨rfl, rfl⟩)
    | (go_at_call 24; refine (no_any _ _ _).mono ?_; rintro e w' ⟨rfl, rfl⟩))
  go_returns
  refine ⟨rfl, ?_⟩
  go_grown

set_option maxRecDepth 20000 in
set_option maxHeartbeats 1000000 in
theorem placeFits_index (hD : RDocAt w F bd bn cap rn rv s rs) (n : Nat) (k : Int) (x : Nd) (hx : s[n]? = some x) (hk : k < 0 ∨ (sizeN x : Int) < k) :
    Calls Tryz.prog 82 #[.pointer (some ⟨bd, 0, none⟩), .agg #[.int .i64 n, .int .i64 k]] w fun e w' => e = .returned (rfltV n 3) ∧ Below w.heap.size w w' := by
  have hi : n < s.length := (List.getElem?_eq_some_iff.1 hx).1
  have hb : isB s n = true := isB_of (by omega)
  have HD := hid (hD.pf n k)
  have CS := hid (fun q => size_any (w := (pf w n k).drewN q) ((hD.pf n k).keeps (G := fun _ => False) ⟨rfl, rfl, rfl, Nat.le_refl _, fun _ _ _ => rfl⟩ (fun _ _ e => e)) n x hx)
  clear hD hx
  by_cases hneg : k < 0
  · clear hk CS
    go_enter Tryz.func82, Tryz.ntmps82
    go_wp2_with (go_at_call 23; refine (is_at HD.out _).mono ?_; rintro e w' ⟨rfl, rfl⟩)
    go_quiet (fail)
    go_wp2_with (go_at_call 24; refine (no_any _ _ _).mono ?_; rintro e w' ⟨rfl, rfl⟩)
    go_returns
    refine ⟨rfl, ?_⟩
    go_grown
    exact pf_below _ _ _ _
  · have hk2 : (sizeN x : Int) < k := by omega
    have hneg2 : decide (k < 0) = false := decide_eq_false hneg
    clear hk
    go_enter Tryz.func82, Tryz.ntmps82
    go_wp2_with (go_at_call 23; refine (is_at HD.out _).mono ?_; rintro e w' ⟨rfl, rfl⟩)
    go_quiet ((go_at_call 128; exact Calls.quiet_of_same (CS.out _)))
    go_wp2_with (go_at_call 24; refine (no_any _ _ _).mono ?_; rintro e w' ⟨rfl, rfl⟩)
    go_returns
    refine ⟨rfl, ?_⟩
    go_grown
    exact pf_below _ _ _ _

set_option maxRecDepth 20000 in
set_option maxHeartbeats 1000000 in
theorem placeFits_ok (hD : RDocAt w F bd bn cap rn rv s rs) (n k : Nat) (x : Nd) (hx : s[n]? = some x) (hk : k ≤ sizeN x) :
    Calls Tryz.prog 82 #[.pointer (some ⟨bd, 0, none⟩), .agg #[.int .i64 n, .int .i64 k]] w fun e w' => e = .returned (rfltV 0 0) ∧ Below w.heap.size w w' := by
  have hi : n < s.length := (List.getElem?_eq_some_iff.1 hx).1
  have hb : isB s n = true := isB_of (by omega)
  have HD := hid (hD.pf n k)
  have CS := hid (fun q => size_any (w := (pf w n k).drewN q) ((hD.pf n k).keeps (G := fun _ => False) ⟨rfl, rfl, rfl, Nat.le_refl _, fun _ _ _ => rfl⟩ (fun _ _ e => e)) n x hx)
  clear hD hx
  have hk2 : ¬ (sizeN x : Int) < (k : Int) := by omega
  have hneg2 : decide ((k : Int) < 0) = false := decide_eq_false (by omega)
  have hk3 : decide ((sizeN x : Int) < (k : Int)) = false := decide_eq_false hk2
  go_enter Tryz.func82, Tryz.ntmps82
  go_wp2_with (go_at_call 23; refine (is_at HD.out _).mono ?_; rintro e w' ⟨rfl, rfl⟩)
  go_quiet ((go_at_call 128; exact Calls.quiet_of_same (CS.out _)))
  go_wp2
  go_returns
  refine ⟨rfl, ?_⟩
  go_grown
  exact pf_below _ _ _ _
end

end Go.Proofs.YtnplbbclgpieaaaGreatDoor
