import Derived.Test.YtabogkonklplcaaGreatDoorF38
import Derived.Test.YtabogkonklplcaaGreatDoorF39
import Derived.Test.YtabogkonklplcaaGreatDoorF35
import Derived.Test.YtabogkonklplcaaGreatDoorF24

/- With ranges: Insert. -/
namespace Go.Proofs.YtabogkonklplcaaGreatDoor
open Go.RowKit Go.Lib
set_option linter.unusedSimpArgs false
set_option linter.unusedVariables false

theorem vans_insert {V : List Nd → Sp → Prop} (hV : Lives V) (s : List Nd) (wf : WF s) (rs : List Sp) (h6 : rs.length ≤ 6) (hrs : ∀ z ∈ rs, V s z) (A B C : Int) : Ans (PDocV V) GG ⟨s, rs⟩ 54 75 [.int .i64 A, .int .i64 B, .int .i64 C] (fun v => v) (fun v => v) := by
  have hcap := wf.cap
  have no : ∀ (n y : Int), y ≠ 0 → (∀ (w : World) (F : Nat → Prop) (bf bn cap : Nat) (pn : List PN), PForAt w F bf bn cap pn s → Calls Tryz.prog 146 #[ptr bf, .int .i64 A, .int .i64 B, .int .i64 C] w fun e w' => e = .returned (refusalV n y) ∧ Below w.heap.size w w') →
      (∀ (w : World) (F : Nat → Prop) (bd bn cap : Nat) (rn : List RN) (rv : Value), RDocAt w F bd bn cap rn rv s rs → Calls Tryz.prog 75 #[ptr bd, .int .i64 A, .int .i64 B, .int .i64 C] w fun e w' => e = .returned (.agg #[.int .i64 n, .int .i64 y]) ∧ Below w.heap.size w w') →
      Ans (PDocV V) GG ⟨s, rs⟩ 54 75 [.int .i64 A, .int .i64 B, .int .i64 C] (fun v => v) (fun v => v) := by
    intro n y hy hT hR
    refine ⟨n, y, ⟨s, rs⟩, ⟨wf, h6, hrs⟩, ?_, ?_⟩
    · intro w F bx hg hP
      refine minsert_no hg hP A B C (errOf_P n y hy) (fun F' bf h => tinsert_no h A B C n y ?_)
      obtain ⟨bn, cap, pn, h⟩ := h
      exact hT w F' bf bn cap pn h
    · intro w F bd hD
      have hD' := hD
      obtain ⟨bn, cap, rn, rv, hD⟩ := hD
      exact (hR w F bd bn cap rn rv hD).mono fun e w' ⟨h1, h2⟩ => ⟨h1, Keeps.of_below h2, hD'.afterR h2⟩
  cases hA : isB s A with
  | false => exact no A 1 (by decide) (fun w F bf bn cap pn h => may_parent h A B C hA) (fun w F bd bn cap rn rv h => rinsert_parent h A B C hA)
  | true =>
    cases hB : isB s B with
    | false => exact no B 1 (by decide) (fun w F bf bn cap pn h => may_node h A B C hA hB) (fun w F bd bn cap rn rv h => rinsert_node h A B C hA hB)
    | true =>
      obtain ⟨a1, a2⟩ := isB_true hA
      obtain ⟨b1, b2⟩ := isB_true hB
      obtain ⟨i, rfl⟩ : ∃ i : Nat, A = (i : Int) := ⟨A.toNat, by omega⟩
      obtain ⟨j, rfl⟩ : ∃ j : Nat, B = (j : Int) := ⟨B.toNat, by omega⟩
      have hi : i < s.length := by omega
      have hj : j < s.length := by omega
      obtain ⟨x, hx⟩ : ∃ x, s[i]? = some x := ⟨_, List.getElem?_eq_getElem hi⟩
      obtain ⟨y, hy⟩ : ∃ y, s[j]? = some y := ⟨_, List.getElem?_eq_getElem hj⟩
      cases ht : x.t with
      | true => exact no i 2 (by decide) (fun w F bf bn cap pn h => may_kind h i j C x hx hj ht) (fun w F bd bn cap rn rv h => rinsert_kind h i j C x hx hj ht)
      | false =>
        by_cases hj0 : j = 0
        · subst hj0
          exact no _ 4 (by decide) (fun w F bf bn cap pn h => may_root h i C x hx ht) (fun w F bd bn cap rn rv h => rinsert_has h i 0 C x y hx hy ht (.inl rfl))
        · by_cases hp : 0 ≤ y.p
          · exact no j 4 (by decide) (fun w F bf bn cap pn h => may_has h i j C x y hx hy ht (by omega) hp) (fun w F bd bn cap rn rv h => rinsert_has h i j C x y hx hy ht (.inr hp))
          · have hI : InsOk s i j x y := ⟨hx, hy, ht, by omega, by omega⟩
            obtain ⟨ht0, Bd, u⟩ := wf.up
            by_cases hm : i ∈ allF s (ht0 j + 1) j
            · exact no j 5 (by decide) (fun w F bf bn cap pn h => may_cycle wf u h i j (ht0 j + 1) C x y hI (by omega) hm) (fun w F bd bn cap rn rv h => rinsert_cycle h u i j C x y hI (holds_yes wf hi hm))
            · have hw := holds_no wf u hi (Nat.lt_succ_self _) hm
              by_cases hC : C < 0 ∨ (x.ks.length : Int) < C
              · exact no i 3 (by decide) (fun w F bf bn cap pn h => may_index wf u h i j (ht0 j + 1) C x y hI (by omega) hm hC) (fun w F bd bn cap rn rv h => rinsert_index h u i j C x y hI hw hC)
              · obtain ⟨c, rfl⟩ : ∃ c : Nat, C = (c : Int) := ⟨C.toNat, by omega⟩
                have hc : c ≤ x.ks.length := by omega
                obtain ⟨hij, hwf⟩ := wf_insert wf hI hw hc
                have hkl : x.ks.length ≤ 40 := Nat.le_trans (nodup_length s.length _ (wf.nodup i x hx) (fun q hq => (wf.kid_lt u hx hq).1)) wf.cap
                refine ⟨0, 0, ⟨_, rs.map (mvSp (shiftF i c 1))⟩, ⟨hwf, by simpa using h6, mapV hrs (fun z hz => hV.insert wf hI hw hc hij hz)⟩, ?_, ?_⟩
                · intro w F bx hg hP
                  exact minsert_go hg hP (Small.of wf (fun z hz => hV.place (hrs z hz))) h6 i j c (fun F' bf h => tinsert_done wf u h i j (ht0 j + 1) c x y hI (by omega) hm hc hij (by unfold lots; omega) (by unfold lots; omega))
                · rintro w F bd ⟨bn, cap, rn, rv, hD⟩
                  exact (rinsert_any hD u i j c x y hI hw hc (by unfold lots; omega) hij (Small.of wf (fun z hz => hV.place (hrs z hz))) h6).mono fun e w' h => h


end Go.Proofs.YtabogkonklplcaaGreatDoor

/- The document's answers at Compare. -/
namespace Go.Proofs.YtabogkonklplcaaGreatDoor
open Go.RowKit Go.Lib
set_option linter.unusedSimpArgs false
set_option linter.unusedVariables false

set_option maxRecDepth 20000 in
set_option maxHeartbeats 1000000 in
theorem mcompare_of {w : World} {F : Nat → Prop} {bx : Nat} {st : St} (hg : GG w) (hP : PLies w F bx st) {r : Int} {v : Value} (hv : v = .nilIface ∨ ∃ u, v = .iface 145 u) (p0 p1 q0 q1 : Int) {a y : Int} (hE : ErrOf v a y)
    (hT : ∀ (W : World) (F' : Nat → Prop) (bf : Nat), PFor W F' bf st.n → Calls Tryz.prog 62 #[ptr bf, .agg #[.int .i64 p0, .int .i64 p1], .agg #[.int .i64 q0, .int .i64 q1]] W fun e w' => e = .returned (.tuple #[.int .i64 r, v]) ∧ Below W.heap.size W w') :
    Calls Tryz.prog 26 #[ptr bx, .agg #[.int .i64 p0, .int .i64 p1], .agg #[.int .i64 q0, .int .i64 q1]] w (PLPost F w bx st (.tuple #[.int .i64 r, errV a y])) := by
  have hP' := hP
  obtain ⟨bf, bl, sv, hD⟩ := hP
  have C := hid (fun W (hb : Below w.heap.size w W) => hT W _ _ (hD.nodes.below hb))
  have hlx := heap_lt hD.doc
  have c0 : w.cell? ⟨bx, 0, none⟩ = some (ptr bf) := cell_of_heap hD.doc 0
  have E := hid (fun w1 (hb : Below w.heap.size w w1) => hE w1 (hg.below hb).1)
  have HP := hid hP'
  have HT := hid (ptwo_below w p0 p1 q0 q1)
  clear hD hT hg hE hP'
  rcases hv with rfl | ⟨u, rfl⟩
  all_goals
    go_enter Tryz.func26, Tryz.ntmps26
    go_wp2
    go_region_held3 (fun w' => w'.cell? ⟨bx, 0, none⟩ = some (ptr bf) ∧ w'.cell? ⟨w.heap.size, 0, none⟩ = some (.int .i64 p0) ∧ w'.cell? ⟨w.heap.size, 1, none⟩ = some (.int .i64 p1) ∧ w'.cell? ⟨w.heap.size + 1, 0, none⟩ = some (.int .i64 q0) ∧ w'.cell? ⟨w.heap.size + 1, 1, none⟩ = some (.int .i64 q1)) (first | exact KEEP1.out | go_keep) ((
       go_at_call 62
       refine (C.out _ (by first | exact HT.out | exact HT.out.drew | exact below_drewN HT.out _)).mono ?_
       rintro e w1 ⟨rfl, hb⟩
       have hb' : Below (ptwo w p0 p1 q0 q1).heap.size (ptwo w p0 p1 q0 q1) w1 := ⟨hb.os, hb.tape, hb.output, hb.size, hb.block⟩
       obtain ⟨k1, k2⟩ := ptwo_cells hb'
       have HB1 := hid (HT.out.trans (hb'.mono HT.out.size))
       have KEEP1 : Hid (w1.cell? ⟨bx, 0, none⟩ = some (ptr bf) ∧ w1.cell? ⟨w.heap.size, 0, none⟩ = some (.int .i64 p0) ∧ w1.cell? ⟨w.heap.size, 1, none⟩ = some (.int .i64 p1) ∧ w1.cell? ⟨w.heap.size + 1, 0, none⟩ = some (.int .i64 q0) ∧ w1.cell? ⟨w.heap.size + 1, 1, none⟩ = some (.int .i64 q1)) :=
         ⟨(HB1.out.cell (p := ⟨bx, 0, none⟩) hlx).trans c0, cell_of_heap k1 0, cell_of_heap k1 1, cell_of_heap k2 0, cell_of_heap k2 1⟩
       have E1 := hid (E.out w1 HB1.out)
       clear hb hb' k1 k2))
    go_wp2_with (go_at_call 46; refine E1.out.mono ?_; rintro e w2 ⟨rfl, hb2⟩)
    go_ret2
    have hb := HB1.out.trans (hb2.mono HB1.out.size)
    exact ⟨rfl, Keeps.of_below hb, (HP.out.keeps (Keeps.of_below (F := fun _ => False) hb) (fun _ _ e => e)).wider (fun b h => .inl h)⟩

/-- What stands against a place, of the program. -/
theorem place_bad {s : List Nd} (wf : WF s) (n k a y : Int) (hf : placeFault s n k = (a, y)) (hy : y ≠ 0) :
    ∃ u, ErrOf (.iface 145 u) a y ∧ ∀ (W : World) (F : Nat → Prop) (bf bn cap : Nat) (pn : List PN), PForAt W F bf bn cap pn s → Calls Tryz.prog 98 #[ptr bf, .agg #[.int .i64 n, .int .i64 k]] W fun e w' => e = .returned (.iface 145 u) ∧ Below W.heap.size W w' := by
  cases hb : isB s n with
  | false =>
    have e : placeFault s n k = (n, 1) := by simp [placeFault, hb]
    rw [e] at hf
    cases hf
    exact ⟨_, errOf_P n 1 (by decide), fun W F bf bn cap pn h => place_no h n k hb⟩
  | true =>
    obtain ⟨h1, h2⟩ := isB_true hb
    obtain ⟨m, rfl⟩ : ∃ m : Nat, n = (m : Int) := ⟨n.toNat, by omega⟩
    have hm : m < s.length := by omega
    obtain ⟨x, hx⟩ : ∃ x, s[m]? = some x := ⟨_, List.getElem?_eq_getElem hm⟩
    have hch := wf.chars m x hx
    by_cases hk : k < 0 ∨ (sizeN x : Int) < k
    · have e : placeFault s m k = ((m : Int), 3) := by simp [placeFault, hb, sizeAt_eq hx, hk]
      rw [e] at hf
      cases hf
      cases ht : x.t with
      | true =>
        rw [sizeN_text ht] at hk
        exact ⟨_, errOf_O m k, fun W F bf bn cap pn h => place_text h m k x hx ht hch.2 (by unfold lots; omega) hk⟩
      | false =>
        rw [sizeN_elem ht] at hk
        exact ⟨_, errOf_P m 3 (by decide), fun W F bf bn cap pn h => place_elem h m k x hx ht hk⟩
    · have e : placeFault s m k = (0, 0) := by simp [placeFault, hb, sizeAt_eq hx, hk]
      rw [e] at hf
      cases hf
      exact absurd rfl hy

theorem place_good {s : List Nd} (wf : WF s) (n k : Int) (a y : Int) (hf : placeFault s n k = (a, y)) (hy : y = 0) :
    ∃ m q : Nat, n = m ∧ k = q ∧ m < s.length ∧ q ≤ sizeAt s m ∧ placeFault s m q = (0, 0) ∧ ∀ (W : World) (F : Nat → Prop) (bf bn cap : Nat) (pn : List PN), PForAt W F bf bn cap pn s → Calls Tryz.prog 98 #[ptr bf, .agg #[.int .i64 (m : Int), .int .i64 (q : Int)]] W fun e w' => e = .returned .nilIface ∧ Below W.heap.size W w' := by
  cases hb : isB s n with
  | false =>
    have e : placeFault s n k = (n, 1) := by simp [placeFault, hb]
    rw [e] at hf
    cases hf
    cases hy
  | true =>
    obtain ⟨h1, h2⟩ := isB_true hb
    obtain ⟨m, rfl⟩ : ∃ m : Nat, n = (m : Int) := ⟨n.toNat, by omega⟩
    have hm : m < s.length := by omega
    obtain ⟨x, hx⟩ : ∃ x, s[m]? = some x := ⟨_, List.getElem?_eq_getElem hm⟩
    have hch := wf.chars m x hx
    by_cases hk : k < 0 ∨ (sizeN x : Int) < k
    · have e : placeFault s m k = ((m : Int), 3) := by simp [placeFault, hb, sizeAt_eq hx, hk]
      rw [e] at hf
      cases hf
      cases hy
    · obtain ⟨q, rfl⟩ : ∃ q : Nat, k = (q : Int) := ⟨k.toNat, by omega⟩
      have hk' : q ≤ sizeN x := by omega
      have e : placeFault s m q = (0, 0) := by simp [placeFault, hb, sizeAt_eq hx, hk']
      exact ⟨m, q, rfl, rfl, hm, by rw [sizeAt_eq hx]; omega, e, fun W F bf bn cap pn h => place_ok h m q x hx hch.2 (by unfold lots; omega) (by omega)⟩

theorem where_there (l : List (Nat × Nat)) (p : Nat × Nat) : ∃ q, IsWhere l p q := by
  induction l with
  | nil => exact ⟨-1, .inr ⟨rfl, by simp⟩⟩
  | cons a l ih =>
    by_cases h : p = a
    · exact ⟨0, .inl ⟨0, rfl, by simp [h], by simp⟩⟩
    · obtain ⟨q, hq | hq⟩ := ih
      · obtain ⟨m, h1, h2, h3⟩ := hq
        exact ⟨(m + 1 : Nat), .inl ⟨m + 1, rfl, by simpa using h2, by simp [h3, h]⟩⟩
      · exact ⟨-1, .inr ⟨rfl, by simp [hq.2, h]⟩⟩

theorem ans_compare (s : List Nd) (wf : WF s) (p0 p1 q0 q1 : Int) : ∃ n : Int, Ans PDoc GG ⟨s, []⟩ 26 80 [.agg #[.int .i64 p0, .int .i64 p1], .agg #[.int .i64 q0, .int .i64 q1]] (fun v => .tuple #[.int .i64 n, v]) (fun v => .tuple #[.int .i64 n, v]) := by
  obtain ⟨f0, f1, hf⟩ : ∃ a y, placeFault s p0 p1 = (a, y) := ⟨_, _, rfl⟩
  obtain ⟨g0, g1, hg'⟩ : ∃ a y, placeFault s q0 q1 = (a, y) := ⟨_, _, rfl⟩
  by_cases h1 : f1 = 0
  · obtain ⟨n, k, rfl, rfl, hn, hk, hf0, PA⟩ := place_good wf p0 p1 f0 f1 hf h1
    by_cases h2 : g1 = 0
    · obtain ⟨n2, k2, rfl, rfl, hn2, hk2, hg0, PB⟩ := place_good wf q0 q1 g0 g1 hg' h2
      have htf : ∀ m, ∃ t, m < s.length → IsTop s m t := fun m => by
        by_cases hm : m < s.length
        · obtain ⟨t, ht⟩ := top_there wf m hm; exact ⟨t, fun _ => ht⟩
        · exact ⟨0, fun h => absurd h hm⟩
      obtain ⟨tf, htf⟩ := Classical.axiomOfChoice htf
      by_cases he : tf n = tf n2
      · obtain ⟨h, B, u⟩ := wf.up
        obtain ⟨qa, ha⟩ := where_there (plF s (B + 1) (tf n)) (n, k)
        obtain ⟨qb, hb⟩ := where_there (plF s (B + 1) (tf n)) (n2, k2)
        refine ⟨cmpB (decide (qa < qb)) (decide (qb < qa)), 0, 0, ⟨s, []⟩, ⟨wf, rfl⟩, ?_, ?_⟩
        · intro w F bx hg hP
          refine mcompare_of hg hP (.inl rfl) n k n2 k2 (errOf_nil 0) (fun W F' bf h => ?_)
          · have h' := h
            obtain ⟨bn, cap, pn, h⟩ := h
            refine (tcompare_one wf h' n k n2 k2 tf htf hn hn2 he (fun W hb => PA W _ bf bn cap pn (h.below hb)) (fun W hb => PB W _ bf bn cap pn (h.below hb))).mono ?_
            rintro e w' ⟨l, l2, wa, wb, rfl, hbl⟩
            refine ⟨?_, hbl⟩
            rw [cmp_ways wf u wa wb hk hk2 ha hb]
            by_cases c1 : qa < qb
            · rw [if_pos c1, decide_eq_true c1]; rfl
            · by_cases c2 : qb < qa
              · rw [if_neg c1, if_pos c2, decide_eq_false c1, decide_eq_true c2]; rfl
              · rw [if_neg c1, if_neg c2, decide_eq_false c1, decide_eq_false c2]; rfl
        · intro w F bd hR
          have hR' := hR
          obtain ⟨bn, cap, rn, rv, hD⟩ := hR
          exact (compare_one (s := s) wf u hD n k n2 k2 tf htf hn hn2 hf0 hg0 he qa qb ha hb _ _ rfl rfl).mono fun e w' ⟨h1, h2⟩ => hR'.unchanged h2 h1
      · refine ⟨0, n2, 9, ⟨s, []⟩, ⟨wf, rfl⟩, ?_, ?_⟩
        · intro w F bx hg hP
          refine mcompare_of hg hP (.inr ⟨_, rfl⟩) n k n2 k2 (errOf_P n2 9 (by decide)) (fun W F' bf h => ?_)
          · have h' := h
            obtain ⟨bn, cap, pn, h⟩ := h
            exact (tcompare_roots wf h' n k n2 k2 tf htf hn hn2 he (fun W hb => PA W _ bf bn cap pn (h.below hb)) (fun W hb => PB W _ bf bn cap pn (h.below hb)))
        · intro w F bd hR
          have hR' := hR
          obtain ⟨bn, cap, rn, rv, hD⟩ := hR
          exact (compare_roots (s := s) wf hD n k n2 k2 tf htf hn hn2 hf0 hg0 he).mono fun e w' ⟨h1, h2⟩ => hR'.unchanged h2 h1
    · obtain ⟨u, hE, PB⟩ := place_bad wf q0 q1 g0 g1 hg' h2
      refine ⟨0, g0, g1, ⟨s, []⟩, ⟨wf, rfl⟩, ?_, ?_⟩
      · intro w F bx hg hP
        refine mcompare_of hg hP (.inr ⟨u, rfl⟩) n k q0 q1 hE (fun W F' bf h => ?_)
        · obtain ⟨bn, cap, pn, h⟩ := h
          exact (tcompare_b bf n k q0 q1 u (fun W hb => PA W _ bf bn cap pn (h.below hb)) (fun W hb => PB W _ bf bn cap pn (h.below hb)))
      · intro w F bd hR
        have hR' := hR
        obtain ⟨bn, cap, rn, rv, hD⟩ := hR
        exact (compare_b (s := s) hD n k q0 q1 g0 g1 hf0 hg' h2).mono fun e w' ⟨h1, h2⟩ => hR'.unchanged h2 h1
  · obtain ⟨u, hE, PA⟩ := place_bad wf p0 p1 f0 f1 hf h1
    refine ⟨0, f0, f1, ⟨s, []⟩, ⟨wf, rfl⟩, ?_, ?_⟩
    · intro w F bx hg hP
      refine mcompare_of hg hP (.inr ⟨u, rfl⟩) p0 p1 q0 q1 hE (fun W F' bf h => ?_)
      · obtain ⟨bn, cap, pn, h⟩ := h
        exact (tcompare_a bf p0 p1 q0 q1 u (fun W hb => PA W _ bf bn cap pn (h.below hb)))
    · intro w F bd hR
      have hR' := hR
      obtain ⟨bn, cap, rn, rv, hD⟩ := hR
      exact (compare_a (s := s) hD p0 p1 q0 q1 f0 f1 hf h1).mono fun e w' ⟨h1, h2⟩ => hR'.unchanged h2 h1

end Go.Proofs.YtabogkonklplcaaGreatDoor

/- Ranges are ranges, whatever is done: replacing, splitting. Plain mathematics. -/
namespace Go.Proofs.YtabogkonklplcaaGreatDoor
set_option linter.unusedSimpArgs false
set_option linter.unusedVariables false

theorem under_not {g : List Nat → List Nat} (g0 : g [] = []) : ∀ (P1 P : List Nat), (∀ a r, P ≠ P1 ++ a :: r) → under P1 g P = P := by
  intro P1
  induction P1 with
  | nil =>
    intro P h
    cases P with
    | nil => exact g0
    | cons a r => exact absurd rfl (h a r)
  | cons p P1 ih =>
    intro P h
    cases P with
    | nil => rfl
    | cons a r =>
      simp only [under]
      by_cases ha : a = p
      · subst ha
        rw [if_pos rfl, ih r (fun b r' e => h b r' (by rw [e]; rfl))]
      · rw [if_neg ha]

section
variable {s : List Nd} {n o c gg : Nat} {x : Nd} {cs : List ByteArray}

def phi (o c g b : Nat) : Nat := if b ≤ o then b else if b ≤ o + c then o else b - c + g
def gRep (o c g : Nat) : List Nat → List Nat
  | [] => []
  | a :: r => 2 * phi o c g (a / 2) :: r

theorem resize_phi (n o c g b : Nat) : resizeF n o c g n b = ((n : Int), (phi o c g b : Int)) := by
  unfold resizeF shiftF phi
  by_cases h1 : b ≤ o
  · rw [if_neg (by omega), if_neg (by omega), if_pos h1]
  · by_cases h2 : b ≤ o + c
    · rw [if_pos ⟨rfl, by omega, by omega⟩, if_neg h1, if_pos h2]
    · rw [if_neg (by omega), if_pos ⟨rfl, by omega⟩, if_neg h1, if_neg h2]
      exact congrArg (fun a => ((n : Int), a)) (by omega)
theorem resize_other (n o c g q b : Nat) (h : q ≠ n) : resizeF n o c g q b = ((q : Int), (b : Int)) := by
  unfold resizeF shiftF
  rw [if_neg (by omega), if_neg (by omega)]
theorem phi_mono (o c g a b : Nat) (h : a ≤ b) : phi o c g a ≤ phi o c g b := by
  unfold phi
  split <;> split <;> (try split) <;> (try split) <;> omega

theorem moves_replace (wf : WF s) (hx : s[n]? = some x) (ht : x.t = true) (hc : o + c ≤ x.cs.length) (hcs : cs.length = x.cs.length - c + gg) (t : Nat) (htop : ∃ z, s[t]? = some z ∧ z.p = -1) :
    ∃ t' E, Moves s (s.set n { x with cs := cs }) t t' (resizeF n o c gg) E := by
  have hnl := (List.getElem?_eq_some_iff.1 hx).1
  obtain ⟨tn, htn⟩ := top_there wf n hnl
  obtain ⟨ln, wn⟩ := way_to wf htn hnl
  obtain ⟨xt, hxt', hpt⟩ := htn.2
  have hks : x.ks = [] := (wf.elem n x hx).1 ht
  have hpl : ∀ (a b : Int), PlOk s a b → PlOk (s.set n { x with cs := cs }) (resizeF n o c gg a b).1 (resizeF n o c gg a b).2 := fun a b hp => hp.replace hx ht hc hcs
  have same : ∀ (q : Nat) (z : Nd), s[q]? = some z → ∃ z', (s.set n { x with cs := cs })[q]? = some z' ∧ z'.ks = z.ks ∧ z'.p = z.p := fun q z hz => by
    by_cases hq : q = n
    · subst hq
      rw [hx] at hz
      cases hz
      exact ⟨_, List.getElem?_set_self hnl, rfl, rfl⟩
    · exact ⟨z, by rw [List.getElem?_set_ne (fun e => hq e.symm)]; exact hz, rfl, rfl⟩
  have hway : ∀ {t q l}, Way s t q l → Way (s.set n { x with cs := cs }) t q l := fun w => w.same (fun q l z _ hz => by
    obtain ⟨z', h1, h2, _⟩ := same q z hz
    exact ⟨z', h1, h2⟩)
  have htop' : ∃ z, (s.set n { x with cs := cs })[t]? = some z ∧ z.p = -1 := by
    obtain ⟨z, hz, hzp⟩ := htop
    obtain ⟨z', h1, _, h3⟩ := same t z hz
    exact ⟨z', h1, by rw [h3]; exact hzp⟩
  have nokid : ∀ {q l c l2}, Way s tn q l → l = ln ++ c :: l2 → False := fun w e => by
    obtain ⟨p, q2, z, w1, hz, hq, _⟩ := w.cut ln _ _ e
    obtain rfl := w1.node wn
    rw [hx] at hz
    cases hz
    rw [hks] at hq
    cases hq
  by_cases h1 : t = tn
  · subst h1
    refine ⟨t, under (enc ln) (gRep o c gg), ⟨fun P Q hP hQ h => ?_, htop', fun q b l hb w => ?_⟩⟩
    · obtain ⟨n1, k1, l1, _, w1, rfl⟩ := hP
      obtain ⟨n2, k2, l2, _, w2, rfl⟩ := hQ
      have hok : ∀ {q l k}, Way s t q l → ∀ R, pw l k = enc ln ++ R → ∃ b, R = [2 * b] := fun {q l k} w R e => by
        obtain ⟨l3, e1, e2⟩ := pw_below e
        cases l3 with
        | nil => exact ⟨k, e2⟩
        | cons a l3 => exact (nokid w e1).elim
      refine under_le2 (ok := fun R => ∃ b, R = [2 * b]) (fun R R' h1 h2 h => ?_) _ _ _ (fun R e => hok w1 R e) (fun R e => hok w2 R e) h
      obtain ⟨b, rfl⟩ := h1
      obtain ⟨b', rfl⟩ := h2
      rcases lexN_cons h with hab | ⟨_, h'⟩
      · simp only [gRep]
        have hm := phi_mono o c gg (2 * b / 2) (2 * b' / 2) (by omega)
        rcases Nat.lt_or_eq_of_le hm with h3 | h3
        · exact .inr (.rel (by omega))
        · exact .inl (by rw [h3])
      · exact absurd h' (fun h => lexN_nil h)
    · have hp := hpl q b hb
      by_cases hq : q = n
      · subst hq
        obtain rfl := wn.only wf ⟨xt, hxt', hpt⟩ w
        rw [resize_phi] at hp
        refine ⟨q, phi o c gg b, ln, resize_phi q o c gg b, hp, hway w, ?_⟩
        rw [pw_eq, pw_eq, under_at]
        simp only [gRep]
        rw [show 2 * b / 2 = b by omega]
      · rw [resize_other n o c gg q b hq] at hp
        refine ⟨q, b, l, resize_other n o c gg q b hq, hp, hway w, ?_⟩
        refine (under_not rfl _ _ (fun a r e => ?_)).symm
        obtain ⟨l3, e1, e2⟩ := pw_below e
        cases l3 with
        | nil =>
          rw [List.append_nil] at e1
          subst e1
          exact hq (w.node wn)
        | cons a l3 => exact nokid w e1
  · have hnq : ∀ (q : Nat) (l : List Nat), Way s t q l → q ≠ n := fun q l w e => by
      subst e
      obtain ⟨z, hz, hzp⟩ := htop
      exact h1 ((way_top wf w hz hzp).one htn)
    refine ⟨t, _, Moves.still (fun q b l hb w => ⟨resize_other n o c gg q b (hnq q l w), ?_⟩) htop' (fun q l z w hz => by
      obtain ⟨z', h2, h3, _⟩ := same q z hz
      exact ⟨z', h2, h3⟩)⟩
    have := hpl q b hb
    rw [resize_other n o c gg q b (hnq q l w)] at this
    exact this
end

section
variable {s : List Nd} {n k j m : Nat} {x y : Nd}

def gSpl (m k : Nat) : List Nat → List Nat
  | [] => []
  | a :: r => if a = 2 * m + 1 then (match r with | [e] => if e ≤ 2 * k then a :: [e] else (2 * m + 3) :: [e - 2 * k] | r => a :: r) else (if a ≤ 2 * m then a else a + 2) :: r
def gSpl0 (m : Nat) : List Nat → List Nat
  | [] => []
  | a :: r => (if a ≤ 2 * m + 1 then a else a + 2) :: r

theorem under_spl (m k : Nat) : ∀ (P1 P : List Nat), (∀ r, P ≠ P1 ++ (2 * m + 1) :: r) → under P1 (gSpl m k) P = under P1 (gSpl0 m) P := by
  intro P1
  induction P1 with
  | nil =>
    intro P h
    cases P with
    | nil => rfl
    | cons a r =>
      have ha : ¬ a = 2 * m + 1 := fun e => h r (by rw [e]; rfl)
      simp only [under, gSpl, gSpl0]
      rw [if_neg ha]
      by_cases hb : a ≤ 2 * m
      · rw [if_pos hb, if_pos (by omega)]
      · rw [if_neg hb, if_neg (by omega)]
  | cons p P1 ih =>
    intro P h
    cases P with
    | nil => rfl
    | cons a r =>
      simp only [under]
      by_cases ha : a = p
      · subst ha
        simp only [if_true]
        rw [ih r (fun r' e => h r' (by rw [e]; rfl))]
      · simp [ha]

def okSpl (m : Nat) (R : List Nat) : Prop := ∀ r, R = (2 * m + 1) :: r → ∃ e, r = [e]

theorem gSpl_mono (m k : Nat) (R R' : List Nat) (h1 : okSpl m R) (h2 : okSpl m R') (h : lexN R R') : leP (gSpl m k R) (gSpl m k R') := by
  have head : ∀ (a : Nat) (r : List Nat), okSpl m (a :: r) → ∃ b Y, gSpl m k (a :: r) = b :: Y ∧ (a ≤ 2 * m → b = a) ∧ (a = 2 * m + 1 → b = 2 * m + 1 ∨ b = 2 * m + 3) ∧ (2 * m + 1 < a → b = a + 2) := by
    intro a r hok
    simp only [gSpl]
    by_cases ha : a = 2 * m + 1
    · obtain ⟨e, rfl⟩ := hok r (by rw [ha])
      rw [if_pos ha]
      simp only
      by_cases he : e ≤ 2 * k
      · rw [if_pos he]
        exact ⟨_, _, rfl, fun h => rfl, fun h => .inl ha, fun h => by omega⟩
      · rw [if_neg he]
        exact ⟨_, _, rfl, fun h => by omega, fun h => .inr rfl, fun h => by omega⟩
    · rw [if_neg ha]
      by_cases hb : a ≤ 2 * m
      · rw [if_pos hb]
        exact ⟨_, _, rfl, fun _ => rfl, fun h => by omega, fun h => by omega⟩
      · rw [if_neg hb]
        exact ⟨_, _, rfl, fun h => by omega, fun h => by omega, fun h => rfl⟩
  cases R' with
  | nil => exact absurd h (fun h => lexN_nil h)
  | cons b R' =>
    cases R with
    | nil =>
      obtain ⟨a, Y, e, _⟩ := head b R' h2
      rw [e]
      exact .inr .nil
    | cons a R =>
      rcases lexN_cons h with hab | ⟨rfl, h'⟩
      · obtain ⟨a', X, e1, a1, a2, a3⟩ := head a R h1
        obtain ⟨b', Y, e2, b1, b2, b3⟩ := head b R' h2
        rw [e1, e2]
        refine .inr (.rel ?_)
        rcases Nat.lt_trichotomy a (2 * m + 1) with ha | ha | ha
        · have := a1 (by omega)
          rcases Nat.lt_trichotomy b (2 * m + 1) with hb | hb | hb
          · have := b1 (by omega); omega
          · have := b2 hb; omega
          · have := b3 hb; omega
        · have := a2 ha
          have := b3 (by omega)
          omega
        · have := a3 ha
          have := b3 (by omega)
          omega
      · by_cases ha : a = 2 * m + 1
        · obtain ⟨e, rfl⟩ := h1 R (by rw [ha])
          obtain ⟨e', rfl⟩ := h2 R' (by rw [ha])
          have ee : ∀ e, gSpl m k (a :: [e]) = if e ≤ 2 * k then a :: [e] else (2 * m + 3) :: [e - 2 * k] := fun e => by simp only [gSpl]; rw [if_pos ha]
          rw [ee, ee]
          rcases lexN_cons h' with hee | ⟨_, h3⟩
          · by_cases c1 : e ≤ 2 * k
            · by_cases c2 : e' ≤ 2 * k
              · rw [if_pos c1, if_pos c2]
                exact .inr (.cons (.rel hee))
              · rw [if_pos c1, if_neg c2]
                exact .inr (.rel (by omega))
            · rw [if_neg c1, if_neg (by omega)]
              exact .inr (.cons (.rel (by omega)))
          · exact absurd h3 (fun h => lexN_nil h)
        · simp only [gSpl]
          rw [if_neg ha, if_neg ha]
          exact .inr (.cons h')
theorem moves_splitIn (wf : WF s) (h40 : s.length < 40) (hx : s[n]? = some x) (ht : x.t = true) (hk : k ≤ x.cs.length) (hp : x.p = (j : Int)) (hy : s[j]? = some y) (hm : y.ks[m]? = some n) (hnj : n ≠ j) (t : Nat) (htop : ∃ z, s[t]? = some z ∧ z.p = -1) :
    ∃ t' E, Moves s ((((s ++ [(⟨true, x.cs.drop k, [], -1⟩ : Nd)]).set n { x with cs := x.cs.take k }).set j { y with ks := y.ks.take (m + 1) ++ s.length :: y.ks.drop (m + 1) }).set s.length { (⟨true, x.cs.drop k, [], -1⟩ : Nd) with p := j }) t t' (carryF n k s.length (shiftF j m 1)) E := by
  have hnl := (List.getElem?_eq_some_iff.1 hx).1
  have hjl := (List.getElem?_eq_some_iff.1 hy).1
  have hml := (List.getElem?_eq_some_iff.1 hm).1
  obtain ⟨tj, htj⟩ := top_there wf j hjl
  obtain ⟨lj, wj⟩ := way_to wf htj hjl
  obtain ⟨xt, hxt', hpt⟩ := htj.2
  have hks : x.ks = [] := (wf.elem n x hx).1 ht
  have hyt : y.t = false := by
    cases hyt : y.t with
    | false => rfl
    | true => have := (wf.elem j y hy).1 hyt; rw [this] at hm; cases hm
  have hpl : ∀ (a b : Int), PlOk s a b → PlOk ((((s ++ [(⟨true, x.cs.drop k, [], -1⟩ : Nd)]).set n { x with cs := x.cs.take k }).set j { y with ks := y.ks.take (m + 1) ++ s.length :: y.ks.drop (m + 1) }).set s.length { (⟨true, x.cs.drop k, [], -1⟩ : Nd) with p := j }) (carryF n k s.length (shiftF j m 1) a b).1 (carryF n k s.length (shiftF j m 1) a b).2 := fun a b hb => hb.splitIn hx ht hk hy hyt hml hnj
  obtain ⟨s', hs'⟩ : ∃ s', ((((s ++ [(⟨true, x.cs.drop k, [], -1⟩ : Nd)]).set n { x with cs := x.cs.take k }).set j { y with ks := y.ks.take (m + 1) ++ s.length :: y.ks.drop (m + 1) }).set s.length { (⟨true, x.cs.drop k, [], -1⟩ : Nd) with p := j }) = s' := ⟨_, rfl⟩
  have gj : s'[j]? = some { y with ks := y.ks.take (m + 1) ++ s.length :: y.ks.drop (m + 1) } := by
    rw [← hs', List.getElem?_set_ne (by omega), List.getElem?_set_self (by simp; omega)]
  have gn : s'[n]? = some { x with cs := x.cs.take k } := by
    rw [← hs', List.getElem?_set_ne (by omega), List.getElem?_set_ne (fun e => hnj e.symm), List.getElem?_set_self (by simp; omega)]
  have go : ∀ q, q < s.length → q ≠ j → q ≠ n → s'[q]? = s[q]? := fun q hq h1 h2 => by
    rw [← hs', List.getElem?_set_ne (by omega), List.getElem?_set_ne (fun e => h1 e.symm), List.getElem?_set_ne (fun e => h2 e.symm), List.getElem?_append_left hq]
  rw [hs'] at hpl ⊢
  have same : ∀ (q : Nat) (z : Nd), q ≠ j → s[q]? = some z → ∃ z', s'[q]? = some z' ∧ z'.ks = z.ks ∧ z'.p = z.p := fun q z hq hz => by
    by_cases hqn : q = n
    · subst hqn
      rw [hx] at hz
      cases hz
      exact ⟨_, gn, rfl, rfl⟩
    · exact ⟨z, by rw [go q (List.getElem?_eq_some_iff.1 hz).1 hq hqn]; exact hz, rfl, rfl⟩
  have toph : ∀ (q : Nat), (∃ z, s[q]? = some z ∧ z.p = -1) → ∃ z, s'[q]? = some z ∧ z.p = -1 := fun q ⟨z, hz, hzp⟩ => by
    by_cases hq : q = j
    · subst hq
      rw [hy] at hz
      cases hz
      exact ⟨_, gj, hzp⟩
    · obtain ⟨z', h1, _, h3⟩ := same q z hq hz
      exact ⟨z', h1, by rw [h3]; exact hzp⟩
  have wn : Way s tj n (lj ++ [m]) := .down wj hy hm
  have hway : ∀ {q l}, Way s tj q l → ∃ l', Way s' tj q l' ∧ enc l' = under (enc lj) (gSpl0 m) (enc l) := fun w =>
    Way.moved wf ⟨xt, hxt', hpt⟩ wj (fun _ => False) (fun c => if m + 1 ≤ c then c + 1 else c) rfl (fun a r e => rfl)
      (fun c d z _ _ _ => by
        show [if 2 * c + 1 ≤ 2 * m + 1 then 2 * c + 1 else 2 * c + 1 + 2] = [2 * (if m + 1 ≤ c then c + 1 else c) + 1]
        by_cases hc : m + 1 ≤ c
        · rw [if_neg (by omega), if_pos hc]
          exact congrArg (fun a => [a]) (by omega)
        · rw [if_pos (by omega), if_neg hc])
      (fun c d z hz hd _ => by
        rw [hy] at hz
        cases hz
        exact ⟨_, gj, ins_get y.ks (m + 1) c d s.length hd⟩)
      (fun q c d z hq hz hd _ => by
        obtain ⟨z', h1, h2, _⟩ := same q z hq hz
        exact ⟨z', h1, by rw [h2]; exact hd⟩)
      (fun _ _ _ _ _ _ h => h) w (fun h => h)
  have hlj : ∀ {l'}, enc l' = under (enc lj) (gSpl0 m) (enc lj) → l' = lj := fun e => by
    have h3 := under_at (enc lj) (gSpl0 m) []
    rw [List.append_nil] at h3
    rw [h3] at e
    exact enc_inj (by simpa [gSpl0] using e)
  have thru : ∀ {q l r b}, Way s tj q l → pw l b = enc lj ++ (2 * m + 1) :: r → q = n ∧ r = [2 * b] := fun {q l r b} w e => by
    obtain ⟨l3, e1, e2⟩ := pw_below e
    cases l3 with
    | nil => simp [pw] at e2; omega
    | cons c l3 =>
      rw [pw_cons] at e2
      injection e2 with e4 e5
      obtain rfl : m = c := by omega
      obtain ⟨p, q2, z, w1, hz, hq, w2⟩ := w.cut lj m l3 e1
      obtain rfl := w1.node wj
      rw [hy] at hz
      cases hz
      rw [hm] at hq
      cases hq
      cases l3 with
      | nil =>
        subst e1
        exact ⟨w.node wn, e5⟩
      | cons d l3 =>
        exfalso
        obtain ⟨p2, q3, z2, w3, hz2, hq3, _⟩ := w2.cut [] d l3 rfl
        have : p2 = n := w3.node .top
        subst this
        rw [hx] at hz2
        cases hz2
        rw [hks] at hq3
        cases hq3
  by_cases h1 : t = tj
  · subst h1
    refine ⟨t, under (enc lj) (gSpl m k), ⟨fun P Q hP hQ h => ?_, toph t ⟨xt, hxt', hpt⟩, fun q b l hb w => ?_⟩⟩
    · obtain ⟨n1, k1, l1, _, w1, rfl⟩ := hP
      obtain ⟨n2, k2, l2, _, w2, rfl⟩ := hQ
      refine under_le2 (ok := okSpl m) (fun R R' h1 h2 h => gSpl_mono m k R R' h1 h2 h) _ _ _ (fun R e r er => ?_) (fun R e r er => ?_) h
      · subst er; exact ⟨_, (thru w1 e).2⟩
      · subst er; exact ⟨_, (thru w2 e).2⟩
    · have hpq := hpl q b hb
      obtain ⟨l', w', e'⟩ := hway w
      by_cases hqn : q = n
      · subst hqn
        obtain rfl := wn.only wf ⟨xt, hxt', hpt⟩ w
        have ew : enc l' = enc (lj ++ [m]) := by
          rw [e', show enc (lj ++ [m]) = enc lj ++ [2 * m + 1] by simp [enc], under_at]
          simp [gSpl0, enc]
        obtain rfl := enc_inj ew
        have epw : pw (lj ++ [m]) b = enc lj ++ (2 * m + 1) :: [2 * b] := by simp [pw, enc]
        by_cases hkb : (k : Int) < (b : Int)
        · have e1 : carryF q k s.length (shiftF j m 1) q b = ((s.length : Int), ((b - k : Nat) : Int)) := by
            unfold carryF
            rw [if_pos ⟨rfl, hkb⟩]
            exact congrArg (fun a => ((s.length : Int), a)) (by omega)
          rw [e1] at hpq
          obtain ⟨lj', wj', ej⟩ := hway wj
          obtain rfl := hlj ej
          refine ⟨s.length, b - k, lj' ++ [m + 1], e1, hpq, .down wj' gj ?_, ?_⟩
          · show (y.ks.take (m + 1) ++ s.length :: y.ks.drop (m + 1))[m + 1]? = some s.length
            rw [List.getElem?_append_right (by simp; omega)]
            have : m + 1 - (y.ks.take (m + 1)).length = 0 := by simp; omega
            rw [this]; rfl
          · rw [epw, under_at]
            simp only [gSpl]
            rw [if_pos trivial, if_neg (by omega)]
            have : pw (lj' ++ [m + 1]) (b - k) = enc lj' ++ [2 * (m + 1) + 1, 2 * (b - k)] := by simp [pw, enc]
            rw [this]
            rw [show 2 * (m + 1) + 1 = 2 * m + 3 by omega, show 2 * (b - k) = 2 * b - 2 * k by omega]
        · have e1 : carryF q k s.length (shiftF j m 1) q b = ((q : Int), (b : Int)) := by
            unfold carryF shiftF
            rw [if_neg (fun h => hkb h.2), if_neg (fun h => hnj (by omega))]
          rw [e1] at hpq
          refine ⟨q, b, lj ++ [m], e1, hpq, w', ?_⟩
          rw [epw, under_at]
          simp only [gSpl]
          rw [if_pos trivial, if_pos (by omega)]
      · have e0 : carryF n k s.length (shiftF j m 1) q b = shiftF j m 1 q b := by
          unfold carryF
          rw [if_neg (fun h => hqn (by omega))]
        have hnt : ∀ r, pw l b ≠ enc lj ++ (2 * m + 1) :: r := fun r e => hqn (thru w e).1
        by_cases hqj : q = j
        · subst hqj
          obtain rfl := wj.only wf ⟨xt, hxt', hpt⟩ w
          obtain rfl := hlj e'
          by_cases hmb : (m : Int) < (b : Int)
          · have e1 : shiftF q m 1 q b = ((q : Int), ((b + 1 : Nat) : Int)) := by simp [shiftF, hmb]
            rw [e0, e1] at hpq
            refine ⟨q, b + 1, l', by rw [e0]; exact e1, hpq, w', ?_⟩
            rw [pw_eq, pw_eq, under_at]
            simp only [gSpl]
            rw [if_neg (by omega), if_neg (by omega)]
            exact congrArg (fun a => enc l' ++ [a]) (by omega)
          · have e1 : shiftF q m 1 q b = ((q : Int), (b : Int)) := by simp [shiftF, hmb]
            rw [e0, e1] at hpq
            refine ⟨q, b, l', by rw [e0]; exact e1, hpq, w', ?_⟩
            rw [pw_eq, under_at]
            simp only [gSpl]
            rw [if_neg (by omega), if_pos (by omega)]
        · have e1 : shiftF j m 1 q b = ((q : Int), (b : Int)) := by
            unfold shiftF
            rw [if_neg (fun h => hqj (by omega))]
          rw [e0, e1] at hpq
          refine ⟨q, b, l', by rw [e0]; exact e1, hpq, w', ?_⟩
          have hne : enc l ≠ enc lj := fun e => hqj (w.node (by rw [enc_inj e]; exact wj))
          rw [under_spl m k _ _ hnt, pw_eq, pw_eq, under_snoc0 (fun a r e => rfl) rfl _ _ _ hne, e']
  · obtain ⟨z, hz, hzp⟩ := htop
    have hnjq : ∀ (q : Nat) (l : List Nat), Way s t q l → q ≠ j := fun q l w e => by
      subst e
      exact h1 ((way_top wf w hz hzp).one htj)
    have hnnq : ∀ (q : Nat) (l : List Nat), Way s t q l → q ≠ n := fun q l w e => by
      subst e
      exact h1 ((way_top wf w hz hzp).one (way_top wf wn hxt' hpt))
    have hsh : ∀ (q b : Nat) (l : List Nat), Way s t q l → carryF n k s.length (shiftF j m 1) q b = ((q : Int), (b : Int)) := fun q b l w => by
      unfold carryF shiftF
      rw [if_neg (fun h => hnnq q l w (by omega)), if_neg (fun h => hnjq q l w (by omega))]
    refine ⟨t, _, Moves.still (fun q b l hb w => ⟨hsh q b l w, ?_⟩) (toph t ⟨z, hz, hzp⟩) (fun q l y w hq => by
      obtain ⟨z', h2, h3, _⟩ := same q y (hnjq q l w) hq
      exact ⟨z', h2, h3⟩)⟩
    have := hpl q b hb
    rw [hsh q b l w] at this
    exact this
end

end Go.Proofs.YtabogkonklplcaaGreatDoor

/- Ranges are ranges, whatever is done. -/
namespace Go.Proofs.YtabogkonklplcaaGreatDoor
set_option linter.unusedSimpArgs false
set_option linter.unusedVariables false

theorem spIs_one {s : List Nd} (wf : WF s) {a b : Int} (h : PlOk s a b) : SpIs s ⟨a, b, a, b⟩ := by
  obtain ⟨n, k, rfl, rfl, hn, hk⟩ := h
  obtain ⟨t, ht⟩ := top_there wf n hn
  obtain ⟨l, w⟩ := way_to wf ht hn
  exact ⟨n, k, n, k, t, l, l, rfl, ⟨n, k, rfl, rfl, hn, hk⟩, ⟨n, k, rfl, rfl, hn, hk⟩, ht, w, w, .inl rfl⟩

theorem spIs_replace {s : List Nd} {n o c : Nat} {x : Nd} {lf : List ByteArray} {z : Sp} (wf : WF s) (hx : s[n]? = some x) (ht : x.t = true) (hc : o + c ≤ x.cs.length) (wf' : WF (s.set n { x with cs := x.cs.take o ++ lf ++ x.cs.drop (o + c) })) (h : SpIs s z) : SpIs (s.set n { x with cs := x.cs.take o ++ lf ++ x.cs.drop (o + c) }) (mvSp (resizeF n o c lf.length) z) :=
  h.mv wf' (fun t htop => moves_replace wf hx ht hc (by simp; omega) t htop)

/-- P16. -/
theorem spIs_lives : Lives SpIs where
  place := fun h => h.ok
  fresh := fun wf => spIs_one wf ⟨0, 0, rfl, rfl, wf.pos, Nat.zero_le _⟩
  push := fun nd wf _ _ h => spIs_push nd wf h
  insert := fun wf hI hw hk hij h => h.mv (wf_insert wf hI hw hk).2 (fun t ht => moves_insert wf hI hw hk hij t ht)
  remove := fun l wf hx hj hy hm hno hij hl h => h.mv (wf_remove wf hx hj hy hm).2 (fun t ht => moves_remove wf hx hj hy hm hij l hl t ht)
  replace := fun wf hx ht hc wf' h => spIs_replace wf hx ht hc wf' h
  splitTop := by
    intro s n k x z wf hx ht hk hp h40 h
    have hn := (List.getElem?_eq_some_iff.1 hx).1
    have hch := wf.chars n x hx
    have w1 := wf_push wf h40 ⟨true, x.cs.drop k, [], -1⟩ rfl rfl (fun h => by cases h) ⟨by simp; omega, fun c hc => hch.2 c (List.mem_of_mem_drop hc)⟩
    have hx1 : (s ++ [(⟨true, x.cs.drop k, [], -1⟩ : Nd)])[n]? = some x := by rw [List.getElem?_append_left hn]; exact hx
    have e : x.cs.take k ++ [] ++ x.cs.drop (k + (x.cs.length - k)) = x.cs.take k := by rw [List.drop_of_length_le (by omega)]; simp
    have w2 : WF ((s ++ [(⟨true, x.cs.drop k, [], -1⟩ : Nd)]).set n { x with cs := x.cs.take k ++ [] ++ x.cs.drop (k + (x.cs.length - k)) }) := by
      rw [e]
      exact wf_chars w1 hx1 ht ⟨by simp; omega, fun c hc => hch.2 c (List.mem_of_mem_take hc)⟩
    have := spIs_replace w1 hx1 ht (by omega) w2 (spIs_push _ wf h)
    rw [e] at this
    exact this
  splitIn := fun wf hx ht hk hp hy hm hno hnj h40 wf' h => h.mv wf' (fun t htop => moves_splitIn wf h40 hx ht hk hp hy hm hnj t htop)
  one := fun wf h => spIs_one wf h
  two := fun wf h1 h2 ht w1 w2 hc => ⟨_, _, _, _, _, _, _, rfl, h1, h2, ht, w1, w2, leP_of_lexC hc⟩

end Go.Proofs.YtabogkonklplcaaGreatDoor
