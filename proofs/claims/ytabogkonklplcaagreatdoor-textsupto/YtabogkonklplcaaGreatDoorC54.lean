import Derived.Test.YtabogkonklplcaaGreatDoorC53

/- The document's answers at Compare. -/
namespace Go.Proofs.YtabogkonklplcaaGreatDoor
open Go.RowKit Go.Lib
set_option linter.unusedSimpArgs false
set_option linter.unusedVariables false

set_option maxRecDepth 20000 in
set_option maxHeartbeats 1000000 in
theorem mcompare_of {w : World} {F : Nat → Prop} {bx : Nat} {st : St} (hg : GG w) (hP : PLies w F bx st) {r : Int} {v : Value} (hv : v = .nilIface ∨ ∃ u, v = .iface 145 u) (p0 p1 q0 q1 : Int) {a y : Int} (hE : ErrOf v a y)
    (hT : ∀ (W : World) (F' : Nat → Prop) (bf : Nat), PFor W F' bf st.n → Calls Tryz.prog 62 #[ptr bf, .agg #[.int .i64 p0, .int .i64 p1], .agg #[.int .i64 q0, .int .i64 q1]] W fun e w' => e = .returned (.tuple #[.int .i64 r, v]) ∧ Below W.heap.size W w') :
    Calls Tryz.prog 26 #[ptr bx, .agg #[.int .i64 p0, .int .i64 p1], .agg #[.int .i64 q0, .int .i64 q1]] w (PLPost F w bx st (.tuple #[.int .i64 r, errV a y])) := by
  have hP' := hP
  obtain ⟨bf, bl, sv, hD⟩ := hP
  have C := hid (fun W (hb : Below w.heap.size w W) => hT W _ _ (hD.nodes.below hb))
  have hlx := heap_lt hD.doc
  have c0 : w.cell? ⟨bx, 0, none⟩ = some (ptr bf) := cell_of_heap hD.doc 0
  have E := hid (fun w1 (hb : Below w.heap.size w w1) => hE w1 (hg.below hb).1)
  have HP := hid hP'
  have HT := hid (ptwo_below w p0 p1 q0 q1)
  clear hD hT hg hE hP'
  rcases hv with rfl | ⟨u, rfl⟩
  all_goals
    go_enter Tryz.func26, Tryz.ntmps26
    go_wp2
    go_region_held3 (fun w' => w'.cell? ⟨bx, 0, none⟩ = some (ptr bf) ∧ w'.cell? ⟨w.heap.size, 0, none⟩ = some (.int .i64 p0) ∧ w'.cell? ⟨w.heap.size, 1, none⟩ = some (.int .i64 p1) ∧ w'.cell? ⟨w.heap.size + 1, 0, none⟩ = some (.int .i64 q0) ∧ w'.cell? ⟨w.heap.size + 1, 1, none⟩ = some (.int .i64 q1)) (first | exact KEEP1.out | go_keep) ((
       go_at_call 62
       refine (C.out _ (by first | exact HT.out | exact HT.out.drew | exact below_drewN HT.out _)).mono ?_
       rintro e w1 ⟨rfl, hb⟩
       have hb' : Below (ptwo w p0 p1 q0 q1).heap.size (ptwo w p0 p1 q0 q1) w1 := ⟨hb.os, hb.tape, hb.output, hb.size, hb.block⟩
       obtain ⟨k1, k2⟩ := ptwo_cells hb'
       have HB1 := hid (HT.out.trans (hb'.mono HT.out.size))
       have KEEP1 : Hid (w1.cell? ⟨bx, 0, none⟩ = some (ptr bf) ∧ w1.cell? ⟨w.heap.size, 0, none⟩ = some (.int .i64 p0) ∧ w1.cell? ⟨w.heap.size, 1, none⟩ = some (.int .i64 p1) ∧ w1.cell? ⟨w.heap.size + 1, 0, none⟩ = some (.int .i64 q0) ∧ w1.cell? ⟨w.heap.size + 1, 1, none⟩ = some (.int .i64 q1)) :=
         ⟨(HB1.out.cell (p := ⟨bx, 0, none⟩) hlx).trans c0, cell_of_heap k1 0, cell_of_heap k1 1, cell_of_heap k2 0, cell_of_heap k2 1⟩
       have E1 := hid (E.out w1 HB1.out)
       clear hb hb' k1 k2))
    go_wp2_with (go_at_call 46; refine E1.out.mono ?_; rintro e w2 ⟨rfl, hb2⟩)
    go_ret2
    have hb := HB1.out.trans (hb2.mono HB1.out.size)
    exact ⟨rfl, Keeps.of_below hb, (HP.out.keeps (Keeps.of_below (F := fun _ => False) hb) (fun _ _ e => e)).wider (fun b h => .inl h)⟩

/-- What stands against a place, of the program. -/
theorem place_bad {s : List Nd} (wf : WF s) (n k a y : Int) (hf : placeFault s n k = (a, y)) (hy : y ≠ 0) :
    ∃ u, ErrOf (.iface 145 u) a y ∧ ∀ (W : World) (F : Nat → Prop) (bf bn cap : Nat) (pn : List PN), PForAt W F bf bn cap pn s → Calls Tryz.prog 98 #[ptr bf, .agg #[.int .i64 n, .int .i64 k]] W fun e w' => e = .returned (.iface 145 u) ∧ Below W.heap.size W w' := by
  cases hb : isB s n with
  | false =>
    have e : placeFault s n k = (n, 1) := by simp [placeFault, hb]
    rw [e] at hf
    cases hf
    exact ⟨_, errOf_P n 1 (by decide), fun W F bf bn cap pn h => place_no h n k hb⟩
  | true =>
    obtain ⟨h1, h2⟩ := isB_true hb
    obtain ⟨m, rfl⟩ : ∃ m : Nat, n = (m : Int) := ⟨n.toNat, by omega⟩
    have hm : m < s.length := by omega
    obtain ⟨x, hx⟩ : ∃ x, s[m]? = some x := ⟨_, List.getElem?_eq_getElem hm⟩
    have hch := wf.chars m x hx
    by_cases hk : k < 0 ∨ (sizeN x : Int) < k
    · have e : placeFault s m k = ((m : Int), 3) := by simp [placeFault, hb, sizeAt_eq hx, hk]
      rw [e] at hf
      cases hf
      cases ht : x.t with
      | true =>
        rw [sizeN_text ht] at hk
        exact ⟨_, errOf_O m k, fun W F bf bn cap pn h => place_text h m k x hx ht hch.2 (by unfold lots; omega) hk⟩
      | false =>
        rw [sizeN_elem ht] at hk
        exact ⟨_, errOf_P m 3 (by decide), fun W F bf bn cap pn h => place_elem h m k x hx ht hk⟩
    · have e : placeFault s m k = (0, 0) := by simp [placeFault, hb, sizeAt_eq hx, hk]
      rw [e] at hf
      cases hf
      exact absurd rfl hy

theorem place_good {s : List Nd} (wf : WF s) (n k : Int) (a y : Int) (hf : placeFault s n k = (a, y)) (hy : y = 0) :
    ∃ m q : Nat, n = m ∧ k = q ∧ m < s.length ∧ q ≤ sizeAt s m ∧ placeFault s m q = (0, 0) ∧ ∀ (W : World) (F : Nat → Prop) (bf bn cap : Nat) (pn : List PN), PForAt W F bf bn cap pn s → Calls Tryz.prog 98 #[ptr bf, .agg #[.int .i64 (m : Int), .int .i64 (q : Int)]] W fun e w' => e = .returned .nilIface ∧ Below W.heap.size W w' := by
  cases hb : isB s n with
  | false =>
    have e : placeFault s n k = (n, 1) := by simp [placeFault, hb]
    rw [e] at hf
    cases hf
    cases hy
  | true =>
    obtain ⟨h1, h2⟩ := isB_true hb
    obtain ⟨m, rfl⟩ : ∃ m : Nat, n = (m : Int) := ⟨n.toNat, by omega⟩
    have hm : m < s.length := by omega
    obtain ⟨x, hx⟩ : ∃ x, s[m]? = some x := ⟨_, List.getElem?_eq_getElem hm⟩
    have hch := wf.chars m x hx
    by_cases hk : k < 0 ∨ (sizeN x : Int) < k
    · have e : placeFault s m k = ((m : Int), 3) := by simp [placeFault, hb, sizeAt_eq hx, hk]
      rw [e] at hf
      cases hf
      cases hy
    · obtain ⟨q, rfl⟩ : ∃ q : Nat, k = (q : Int) := ⟨k.toNat, by omega⟩
      have hk' : q ≤ sizeN x := by omega
      have e : placeFault s m q = (0, 0) := by simp [placeFault, hb, sizeAt_eq hx, hk']
      exact ⟨m, q, rfl, rfl, hm, by rw [sizeAt_eq hx]; omega, e, fun W F bf bn cap pn h => place_ok h m q x hx hch.2 (by unfold lots; omega) (by omega)⟩

theorem where_there (l : List (Nat × Nat)) (p : Nat × Nat) : ∃ q, IsWhere l p q := by
  induction l with
  | nil => exact ⟨-1, .inr ⟨rfl, by simp⟩⟩
  | cons a l ih =>
    by_cases h : p = a
    · exact ⟨0, .inl ⟨0, rfl, by simp [h], by simp⟩⟩
    · obtain ⟨q, hq | hq⟩ := ih
      · obtain ⟨m, h1, h2, h3⟩ := hq
        exact ⟨(m + 1 : Nat), .inl ⟨m + 1, rfl, by simpa using h2, by simp [h3, h]⟩⟩
      · exact ⟨-1, .inr ⟨rfl, by simp [hq.2, h]⟩⟩

theorem ans_compare (s : List Nd) (wf : WF s) (p0 p1 q0 q1 : Int) : ∃ n : Int, Ans PDoc GG ⟨s, []⟩ 26 80 [.agg #[.int .i64 p0, .int .i64 p1], .agg #[.int .i64 q0, .int .i64 q1]] (fun v => .tuple #[.int .i64 n, v]) (fun v => .tuple #[.int .i64 n, v]) := by
  obtain ⟨f0, f1, hf⟩ : ∃ a y, placeFault s p0 p1 = (a, y) := ⟨_, _, rfl⟩
  obtain ⟨g0, g1, hg'⟩ : ∃ a y, placeFault s q0 q1 = (a, y) := ⟨_, _, rfl⟩
  by_cases h1 : f1 = 0
  · obtain ⟨n, k, rfl, rfl, hn, hk, hf0, PA⟩ := place_good wf p0 p1 f0 f1 hf h1
    by_cases h2 : g1 = 0
    · obtain ⟨n2, k2, rfl, rfl, hn2, hk2, hg0, PB⟩ := place_good wf q0 q1 g0 g1 hg' h2
      have htf : ∀ m, ∃ t, m < s.length → IsTop s m t := fun m => by
        by_cases hm : m < s.length
        · obtain ⟨t, ht⟩ := top_there wf m hm; exact ⟨t, fun _ => ht⟩
        · exact ⟨0, fun h => absurd h hm⟩
      obtain ⟨tf, htf⟩ := Classical.axiomOfChoice htf
      by_cases he : tf n = tf n2
      · obtain ⟨h, B, u⟩ := wf.up
        obtain ⟨qa, ha⟩ := where_there (plF s (B + 1) (tf n)) (n, k)
        obtain ⟨qb, hb⟩ := where_there (plF s (B + 1) (tf n)) (n2, k2)
        refine ⟨cmpB (decide (qa < qb)) (decide (qb < qa)), 0, 0, ⟨s, []⟩, ⟨wf, rfl⟩, ?_, ?_⟩
        · intro w F bx hg hP
          refine mcompare_of hg hP (.inl rfl) n k n2 k2 (errOf_nil 0) (fun W F' bf h => ?_)
          · have h' := h
            obtain ⟨bn, cap, pn, h⟩ := h
            refine (tcompare_one wf h' n k n2 k2 tf htf hn hn2 he (fun W hb => PA W _ bf bn cap pn (h.below hb)) (fun W hb => PB W _ bf bn cap pn (h.below hb))).mono ?_
            rintro e w' ⟨l, l2, wa, wb, rfl, hbl⟩
            refine ⟨?_, hbl⟩
            rw [cmp_ways wf u wa wb hk hk2 ha hb]
            by_cases c1 : qa < qb
            · rw [if_pos c1, decide_eq_true c1]; rfl
            · by_cases c2 : qb < qa
              · rw [if_neg c1, if_pos c2, decide_eq_false c1, decide_eq_true c2]; rfl
              · rw [if_neg c1, if_neg c2, decide_eq_false c1, decide_eq_false c2]; rfl
        · intro w F bd hR
          have hR' := hR
          obtain ⟨bn, cap, rn, rv, hD⟩ := hR
          exact (compare_one (s := s) wf u hD n k n2 k2 tf htf hn hn2 hf0 hg0 he qa qb ha hb _ _ rfl rfl).mono fun e w' ⟨h1, h2⟩ => hR'.unchanged h2 h1
      · refine ⟨0, n2, 9, ⟨s, []⟩, ⟨wf, rfl⟩, ?_, ?_⟩
        · intro w F bx hg hP
          refine mcompare_of hg hP (.inr ⟨_, rfl⟩) n k n2 k2 (errOf_P n2 9 (by decide)) (fun W F' bf h => ?_)
          · have h' := h
            obtain ⟨bn, cap, pn, h⟩ := h
            exact (tcompare_roots wf h' n k n2 k2 tf htf hn hn2 he (fun W hb => PA W _ bf bn cap pn (h.below hb)) (fun W hb => PB W _ bf bn cap pn (h.below hb)))
        · intro w F bd hR
          have hR' := hR
          obtain ⟨bn, cap, rn, rv, hD⟩ := hR
          exact (compare_roots (s := s) wf hD n k n2 k2 tf htf hn hn2 hf0 hg0 he).mono fun e w' ⟨h1, h2⟩ => hR'.unchanged h2 h1
    · obtain ⟨u, hE, PB⟩ := place_bad wf q0 q1 g0 g1 hg' h2
      refine ⟨0, g0, g1, ⟨s, []⟩, ⟨wf, rfl⟩, ?_, ?_⟩
      · intro w F bx hg hP
        refine mcompare_of hg hP (.inr ⟨u, rfl⟩) n k q0 q1 hE (fun W F' bf h => ?_)
        · obtain ⟨bn, cap, pn, h⟩ := h
          exact (tcompare_b bf n k q0 q1 u (fun W hb => PA W _ bf bn cap pn (h.below hb)) (fun W hb => PB W _ bf bn cap pn (h.below hb)))
      · intro w F bd hR
        have hR' := hR
        obtain ⟨bn, cap, rn, rv, hD⟩ := hR
        exact (compare_b (s := s) hD n k q0 q1 g0 g1 hf0 hg' h2).mono fun e w' ⟨h1, h2⟩ => hR'.unchanged h2 h1
  · obtain ⟨u, hE, PA⟩ := place_bad wf p0 p1 f0 f1 hf h1
    refine ⟨0, f0, f1, ⟨s, []⟩, ⟨wf, rfl⟩, ?_, ?_⟩
    · intro w F bx hg hP
      refine mcompare_of hg hP (.inr ⟨u, rfl⟩) p0 p1 q0 q1 hE (fun W F' bf h => ?_)
      · obtain ⟨bn, cap, pn, h⟩ := h
        exact (tcompare_a bf p0 p1 q0 q1 u (fun W hb => PA W _ bf bn cap pn (h.below hb)))
    · intro w F bd hR
      have hR' := hR
      obtain ⟨bn, cap, rn, rv, hD⟩ := hR
      exact (compare_a (s := s) hD p0 p1 q0 q1 f0 f1 hf h1).mono fun e w' ⟨h1, h2⟩ => hR'.unchanged h2 h1

end Go.Proofs.YtabogkonklplcaaGreatDoor
