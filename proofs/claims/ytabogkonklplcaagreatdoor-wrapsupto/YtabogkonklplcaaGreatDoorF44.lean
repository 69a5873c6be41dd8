import Derived.Test.YtabogkonklplcaaGreatDoorF42
import Derived.Test.YtabogkonklplcaaGreatDoorF40
import Derived.Test.YtabogkonklplcaaGreatDoorF38
import Derived.Test.YtabogkonklplcaaGreatDoorF43
import Derived.Test.YtabogkonklplcaaGreatDoorF13
import Derived.Test.YtabogkonklplcaaGreatDoorF06
import Derived.Test.YtabogkonklplcaaGreatDoorF21

/- ranges.Read, margin.Read. -/
namespace Go.Proofs.YtabogkonklplcaaGreatDoor
open Go.RowKit
set_option linter.unusedSimpArgs false
set_option linter.unusedVariables false

section
variable {w : World} {F : Nat → Prop} {bx bf bl : Nat} {sv : Value} {s : List Nd} {rs : List Sp}

set_option maxRecDepth 20000 in
set_option maxHeartbeats 1000000 in
theorem lread_no (hD : PDocAt w F bx bf bl sv ⟨s, rs⟩) (r : Int) (h : r < 0 ∨ (rs.length : Int) ≤ r) :
    Calls Tryz.prog 67 #[ptr bl, .int .i64 r] w fun e w' => e = .returned (.tuple #[.string ⟨#[]⟩, .iface 141 (.agg #[.int .i64 r])]) ∧ Below w.heap.size w w' := by
  have C := hid (lspan_no hD r h)
  clear hD h
  go_enter Tryz.func67, Tryz.ntmps67
  go_wp2_with (
    go_at_call 69
    refine C.out.mono ?_
    rintro e w1 ⟨rfl, hb1⟩
    have HB1 := hid hb1
    clear hb1)
  go_ret2
  exact ⟨rfl, HB1.out.alloc HB1.out.size _⟩

set_option maxRecDepth 20000 in
set_option maxHeartbeats 1000000 in
theorem lread_ok (hD : PDocAt w F bx bf bl sv ⟨s, rs⟩) (r : Nat) (x : Sp) (hx : rs[r]? = some x) (z : ByteArray)
    (hT : ∀ W, Below w.heap.size w W → Calls Tryz.prog 112 #[ptr bf, spV x] W fun e w' => e = .returned (.string z) ∧ Below W.heap.size W w') :
    Calls Tryz.prog 67 #[ptr bl, .int .i64 (r : Int)] w fun e w' => e = .returned (.tuple #[.string z, .nilIface]) ∧ Below w.heap.size w w' := by
  have C := hid (lspan_ok hD r x hx)
  have c0 : w.cell? ⟨bl, 0, none⟩ = some (ptr bf) := cell_of_heap hD.list 0
  have hll := heap_lt hD.list
  have HT := hid hT
  clear hD hx hT
  go_enter Tryz.func67, Tryz.ntmps67
  go_wp2_with (
       go_at_call 69
       refine C.out.mono ?_
       rintro e w1 ⟨rfl, hb1⟩
       have d0 := (hb1.cell (p := ⟨bl, 0, none⟩) hll).trans c0
       have hs1 := hb1.size
       have hne : ¬ bl = w1.heap.size := by omega
       have HB1 := hid (hb1.alloc hb1.size (.cells #[.int .i64 x.a, .int .i64 x.b, .int .i64 x.c, .int .i64 x.d] 79))
       have HS1 := hid (heap_alloc_new w1 (.cells #[.int .i64 x.a, .int .i64 x.b, .int .i64 x.c, .int .i64 x.d] 79))
       have D0 := hid ((Below.heap_alloc w1 (.cells #[.int .i64 x.a, .int .i64 x.b, .int .i64 x.c, .int .i64 x.d] 79) bl (by omega)))
       clear hb1)
  go_region_held3 (fun w' => w'.cell? ⟨bl, 0, none⟩ = some (ptr bf) ∧ w'.cell? ⟨w1.heap.size, 0, none⟩ = some (.int .i64 x.a) ∧ w'.cell? ⟨w1.heap.size, 1, none⟩ = some (.int .i64 x.b) ∧ w'.cell? ⟨w1.heap.size, 2, none⟩ = some (.int .i64 x.c) ∧ w'.cell? ⟨w1.heap.size, 3, none⟩ = some (.int .i64 x.d)) (first | exact KP.out | go_keep) ((
       go_at_call 112
       refine (HT.out _ HB1.out.drew).mono ?_
       rintro e w2 ⟨rfl, hb2'⟩
       have hb2 : Below (w1.alloc (.cells #[.int .i64 x.a, .int .i64 x.b, .int .i64 x.c, .int .i64 x.d] 79)).heap.size (w1.alloc (.cells #[.int .i64 x.a, .int .i64 x.b, .int .i64 x.c, .int .i64 x.d] 79)) w2 := ⟨hb2'.os, hb2'.tape, hb2'.output, hb2'.size, hb2'.block⟩
       have hs2 := (hb2.block w1.heap.size (by simp)).trans HS1.out
       have d2 : w2.cell? ⟨bl, 0, none⟩ = some (ptr bf) := by
         have hk : Keeps (fun _ => False) w1 w2 := ((Keeps.refl _ w1).alloc _).trans (Keeps.of_below hb2)
         exact hk.cell d0 (fun e => e)
       have KP := hid (And.intro d2 (And.intro (show w2.cell? ⟨w1.heap.size, 0, none⟩ = some (.int .i64 x.a) from cell_of_heap hs2 0) (And.intro (show w2.cell? ⟨w1.heap.size, 1, none⟩ = some (.int .i64 x.b) from cell_of_heap hs2 1) (And.intro (show w2.cell? ⟨w1.heap.size, 2, none⟩ = some (.int .i64 x.c) from cell_of_heap hs2 2) (show w2.cell? ⟨w1.heap.size, 3, none⟩ = some (.int .i64 x.d) from cell_of_heap hs2 3)))))
       have HB2 := hid (HB1.out.trans (hb2.mono HB1.out.size))
       clear hb2 hb2' hs2 d2))
  all_goals
    go_wp2
    go_ret2
    exact ⟨rfl, HB2.out⟩
end

set_option maxRecDepth 20000 in
set_option maxHeartbeats 1000000 in
theorem mread_of {w : World} {F : Nat → Prop} {bx : Nat} {s : List Nd} {rs : List Sp} (hg : GG w) (hP : PLies w F bx ⟨s, rs⟩) (r : Int) (z : ByteArray) (v : Value) (hv : v = .nilIface ∨ ∃ t u, v = .iface t u) {a y : Int} (hE : ErrOf v a y)
    (hS : ∀ bf bl sv, PDocAt w F bx bf bl sv ⟨s, rs⟩ → Calls Tryz.prog 67 #[ptr bl, .int .i64 r] w fun e w' => e = .returned (.tuple #[.string z, v]) ∧ Below w.heap.size w w') :
    Calls Tryz.prog 33 #[ptr bx, .int .i64 r] w (PLPost F w bx ⟨s, rs⟩ (.tuple #[.string z, errV a y])) := by
  have HP := hid hP
  obtain ⟨bf, bl, sv, hD⟩ := hP
  have C := hid (hS _ _ _ hD)
  have c1 : w.cell? ⟨bx, 1, none⟩ = some (ptr bl) := cell_of_heap hD.doc 1
  have E := hid (fun w1 (hb : Below w.heap.size w w1) => hE w1 (hg.below hb).1)
  clear hD hS hg hE
  rcases hv with rfl | ⟨t, u, rfl⟩
  all_goals
    go_enter Tryz.func33, Tryz.ntmps33
    go_wp2_with (first
      | (go_at_call 67; refine C.out.mono ?_; rintro e w1 ⟨rfl, hb1⟩
         have HB1 := hid hb1
         clear hb1)
      | (go_at_call 46; refine (E.out _ HB1.out).mono ?_; rintro e w2 ⟨rfl, hb2⟩
         have HB2 := hid (HB1.out.trans (hb2.mono HB1.out.size))
         clear hb2))
    go_ret2
    exact ⟨rfl, HP.out.after HB2.out⟩

end Go.Proofs.YtabogkonklplcaaGreatDoor

/- The document's answers at Compare and Read. -/
namespace Go.Proofs.YtabogkonklplcaaGreatDoor
open Go.RowKit
set_option linter.unusedSimpArgs false
set_option linter.unusedVariables false

section
variable {V : List Nd → Sp → Prop}
theorem vans_compare (s : List Nd) (wf : WF s) (rs : List Sp) (h6 : rs.length ≤ 6) (hrs : ∀ z ∈ rs, V s z) (p0 p1 q0 q1 : Int) : ∃ n : Int, Ans (PDocV V) GG ⟨s, rs⟩ 26 80 [.agg #[.int .i64 p0, .int .i64 p1], .agg #[.int .i64 q0, .int .i64 q1]] (fun v => .tuple #[.int .i64 n, v]) (fun v => .tuple #[.int .i64 n, v]) := by
  obtain ⟨f0, f1, hf⟩ : ∃ a y, placeFault s p0 p1 = (a, y) := ⟨_, _, rfl⟩
  obtain ⟨g0, g1, hg'⟩ : ∃ a y, placeFault s q0 q1 = (a, y) := ⟨_, _, rfl⟩
  by_cases h1 : f1 = 0
  · obtain ⟨n, k, rfl, rfl, hn, hk, hf0, PA⟩ := place_good wf p0 p1 f0 f1 hf h1
    by_cases h2 : g1 = 0
    · obtain ⟨n2, k2, rfl, rfl, hn2, hk2, hg0, PB⟩ := place_good wf q0 q1 g0 g1 hg' h2
      have htf : ∀ m, ∃ t, m < s.length → IsTop s m t := fun m => by
        by_cases hm : m < s.length
        · obtain ⟨t, ht⟩ := top_there wf m hm; exact ⟨t, fun _ => ht⟩
        · exact ⟨0, fun h => absurd h hm⟩
      obtain ⟨tf, htf⟩ := Classical.axiomOfChoice htf
      by_cases he : tf n = tf n2
      · obtain ⟨h, B, u⟩ := wf.up
        obtain ⟨qa, ha⟩ := where_there (plF s (B + 1) (tf n)) (n, k)
        obtain ⟨qb, hb⟩ := where_there (plF s (B + 1) (tf n)) (n2, k2)
        refine ⟨cmpB (decide (qa < qb)) (decide (qb < qa)), 0, 0, ⟨s, rs⟩, ⟨wf, h6, hrs⟩, ?_, ?_⟩
        · intro w F bx hg hP
          refine mcompare_of hg hP (.inl rfl) n k n2 k2 (errOf_nil 0) (fun W F' bf h => ?_)
          · have h' := h
            obtain ⟨bn, cap, pn, h⟩ := h
            refine (tcompare_one wf h' n k n2 k2 tf htf hn hn2 he (fun W hb => PA W _ bf bn cap pn (h.below hb)) (fun W hb => PB W _ bf bn cap pn (h.below hb))).mono ?_
            rintro e w' ⟨l, l2, wa, wb, rfl, hbl⟩
            refine ⟨?_, hbl⟩
            rw [cmp_ways wf u wa wb hk hk2 ha hb]
            by_cases c1 : qa < qb
            · rw [if_pos c1, decide_eq_true c1]; rfl
            · by_cases c2 : qb < qa
              · rw [if_neg c1, if_pos c2, decide_eq_false c1, decide_eq_true c2]; rfl
              · rw [if_neg c1, if_neg c2, decide_eq_false c1, decide_eq_false c2]; rfl
        · intro w F bd hR
          have hR' := hR
          obtain ⟨bn, cap, rn, rv, hD⟩ := hR
          exact (compare_one (s := s) wf u hD n k n2 k2 tf htf hn hn2 hf0 hg0 he qa qb ha hb _ _ rfl rfl).mono fun e w' ⟨h1, h2⟩ => hR'.unchangedR h2 h1
      · refine ⟨0, n2, 9, ⟨s, rs⟩, ⟨wf, h6, hrs⟩, ?_, ?_⟩
        · intro w F bx hg hP
          refine mcompare_of hg hP (.inr ⟨_, rfl⟩) n k n2 k2 (errOf_P n2 9 (by decide)) (fun W F' bf h => ?_)
          · have h' := h
            obtain ⟨bn, cap, pn, h⟩ := h
            exact (tcompare_roots wf h' n k n2 k2 tf htf hn hn2 he (fun W hb => PA W _ bf bn cap pn (h.below hb)) (fun W hb => PB W _ bf bn cap pn (h.below hb)))
        · intro w F bd hR
          have hR' := hR
          obtain ⟨bn, cap, rn, rv, hD⟩ := hR
          exact (compare_roots (s := s) wf hD n k n2 k2 tf htf hn hn2 hf0 hg0 he).mono fun e w' ⟨h1, h2⟩ => hR'.unchangedR h2 h1
    · obtain ⟨u, hE, PB⟩ := place_bad wf q0 q1 g0 g1 hg' h2
      refine ⟨0, g0, g1, ⟨s, rs⟩, ⟨wf, h6, hrs⟩, ?_, ?_⟩
      · intro w F bx hg hP
        refine mcompare_of hg hP (.inr ⟨u, rfl⟩) n k q0 q1 hE (fun W F' bf h => ?_)
        · obtain ⟨bn, cap, pn, h⟩ := h
          exact (tcompare_b bf n k q0 q1 u (fun W hb => PA W _ bf bn cap pn (h.below hb)) (fun W hb => PB W _ bf bn cap pn (h.below hb)))
      · intro w F bd hR
        have hR' := hR
        obtain ⟨bn, cap, rn, rv, hD⟩ := hR
        exact (compare_b (s := s) hD n k q0 q1 g0 g1 hf0 hg' h2).mono fun e w' ⟨h1, h2⟩ => hR'.unchangedR h2 h1
  · obtain ⟨u, hE, PA⟩ := place_bad wf p0 p1 f0 f1 hf h1
    refine ⟨0, f0, f1, ⟨s, rs⟩, ⟨wf, h6, hrs⟩, ?_, ?_⟩
    · intro w F bx hg hP
      refine mcompare_of hg hP (.inr ⟨u, rfl⟩) p0 p1 q0 q1 hE (fun W F' bf h => ?_)
      · obtain ⟨bn, cap, pn, h⟩ := h
        exact (tcompare_a bf p0 p1 q0 q1 u (fun W hb => PA W _ bf bn cap pn (h.below hb)))
    · intro w F bd hR
      have hR' := hR
      obtain ⟨bn, cap, rn, rv, hD⟩ := hR
      exact (compare_a (s := s) hD p0 p1 q0 q1 f0 f1 hf h1).mono fun e w' ⟨h1, h2⟩ => hR'.unchangedR h2 h1

end

/-- The way to a place is the way in the list of all. -/
theorem way_pl {s : List Nd} (wf : WF s) {h : Nat → Nat} {B : Nat} (u : Up s h B) {t n k : Nat} {l : List Nat} (wy : Way s t n l) (hk : k ≤ sizeAt s n) : (n, k) ∈ plF s (B + 1) t := by
  have h1 := way_len wf u wy
  have h2 := u.le t
  have h3 := way_pp wf wy (B - l.length + 1) _ (pp_here (k := B - l.length) hk)
  have e : B - l.length + 1 + l.length = B + 1 := by omega
  rw [e] at h3
  rw [← pp_fst]
  exact List.mem_map.2 ⟨_, h3, rfl⟩

theorem lexC_of_leP {l l2 : List Nat} {k k2 : Nat} (h : leP (pw l k) (pw l2 k2)) : lexC (l ++ [k]) (l2 ++ [k2]) ≤ 0 := by
  rcases h with h | h
  · rw [pw_inj h, lexC_self]; exact Int.le_refl 0
  · rw [lexC_lt _ _ _ _ h]; decide

/-- Where a range is among the places of its tree. -/
structure SpAt (s : List Nd) (B : Nat) (z : Sp) (a b c d t i j : Nat) : Prop where
  eq : z = ⟨a, b, c, d⟩
  ha : a < s.length
  hc : c < s.length
  ta : IsTop s a t
  tc : IsTop s c t
  hb : b ≤ sizeAt s a
  hd : d ≤ sizeAt s c
  hi : (plF s (B + 1) t)[i]? = some (a, b)
  hj : (plF s (B + 1) t)[j]? = some (c, d)
  hij : i ≤ j

theorem spIs_at {s : List Nd} (wf : WF s) {h : Nat → Nat} {B : Nat} (u : Up s h B) {z : Sp} (hz : SpIs s z) : ∃ a b c d t i j, SpAt s B z a b c d t i j := by
  obtain ⟨a, b, c, d, t, l, l2, rfl, h1, h2, ta, wa, wc, hle⟩ := hz
  obtain ⟨a', b', ea, eb, ha, hb⟩ := h1
  obtain ⟨c', d', ec, ed, hc, hd⟩ := h2
  obtain rfl : a = a' := by omega
  obtain rfl : b = b' := by omega
  obtain rfl : c = c' := by omega
  obtain rfl : d = d' := by omega
  obtain ⟨x, hx, hp⟩ := ta.2
  have tc := way_top wf wc hx hp
  obtain ⟨i, ei, hi⟩ := wh_mem (way_pl wf u wa hb)
  obtain ⟨j, ej, hj⟩ := wh_mem (way_pl wf u wc hd)
  refine ⟨a, b, c, d, t, i, j, rfl, ha, hc, ta, tc, hb, hd, hi, hj, ?_⟩
  have := lexC_of_leP hle
  rw [cmp_ways wf u wa wc hb hd (wh_is _ _) (wh_is _ _), ei, ej] at this
  rcases Nat.lt_or_ge j i with h | h
  · rw [if_neg (by omega), if_pos (by omega)] at this
    omega
  · exact h

theorem vans_read (s : List Nd) (wf : WF s) (rs : List Sp) (h6 : rs.length ≤ 6) (hrs : ∀ z ∈ rs, SpIs s z) (A : Int) : ∃ b : ByteArray, Ans (PDocV SpIs) GG ⟨s, rs⟩ 33 85 [.int .i64 A] (fun v => .tuple #[.string b, v]) (fun v => .tuple #[.string b, v]) := by
  by_cases hA : A < 0 ∨ (rs.length : Int) ≤ A
  · refine ⟨⟨#[]⟩, A, 8, ⟨s, rs⟩, ⟨wf, h6, hrs⟩, ?_, ?_⟩
    · intro w F bx hg hP
      exact mread_of hg hP A ⟨#[]⟩ _ (.inr ⟨_, _, rfl⟩) (errOf_M A) (fun bf bl sv h => lread_no h A hA)
    · intro w F bd hR
      have hR' := hR
      obtain ⟨bn, cap, rn, rv, hD⟩ := hR
      exact (rread_no hD A hA).mono fun e w' ⟨h1, h2⟩ => hR'.unchangedR h2 h1
  · obtain ⟨r, rfl⟩ : ∃ r : Nat, A = (r : Int) := ⟨A.toNat, by omega⟩
    obtain ⟨x, hx⟩ : ∃ x, rs[r]? = some x := ⟨_, List.getElem?_eq_getElem (by omega)⟩
    obtain ⟨h, B, u⟩ := wf.up
    obtain ⟨a, b, c, d, t, i, j, S⟩ := spIs_at wf u (hrs x (List.mem_of_getElem? hx))
    obtain ⟨rfl, ha, hc, ta, tc, hb, hd, hi, hj, hij⟩ := S
    refine ⟨catB (readP s (plF s (B + 1) t) a b c d (allF s (B + 1) t)), 0, 0, ⟨s, rs⟩, ⟨wf, h6, hrs⟩, ?_, ?_⟩
    · intro w F bx hg hP
      refine mread_of hg hP r _ _ (.inl rfl) (errOf_nil 0) (fun bf bl sv h => lread_ok h r _ hx _ (fun W hB => ?_))
      obtain ⟨bn, cap, pn, hf⟩ := (h.below hB).nodes
      exact tread_any wf u hf a b c d t ha hc ta tc hb hd
    · intro w F bd hR
      have hR' := hR
      obtain ⟨bn, cap, rn, rv, hD⟩ := hR
      rw [← read_same wf ta.lt hi hj hij]
      exact (rread_ok wf u hD r a b c d t i j hx ha ta hi hj hij).mono fun e w' ⟨h1, h2⟩ => hR'.unchangedR h2 h1

end Go.Proofs.YtabogkonklplcaaGreatDoor

/- Plain mathematics of Delete: which nodes go, where the two sides meet, what the changes leave. -/
namespace Go.Proofs.YtabogkonklplcaaGreatDoor
set_option linter.unusedSimpArgs false
set_option linter.unusedVariables false

theorem idxOf_nat (l : List Nat) (m n : Nat) (h : l[m]? = some n) (hno : n ∉ l.take m) : l.idxOf n = m := by
  induction l generalizing m with
  | nil => simp at h
  | cons a l ih =>
    cases m with
    | zero =>
      simp at h
      subst h
      simp
    | succ m =>
      simp only [List.take_succ_cons, List.mem_cons, not_or] at hno
      simp only [List.getElem?_cons_succ] at h
      rw [List.idxOf_cons, ih m h hno.2]
      have : (a == n) = false := by simpa using fun e => hno.1 e.symm
      simp [this]

/-- Is a node wholly in a range? -/
def insB (s : List Nd) (L : List (Nat × Nat)) (a b c d n : Nat) : Bool :=
  match s[n]? with
  | none => false
  | some x => if x.p < 0 then false else
    match s[x.p.toNat]? with
    | none => false
    | some y => cov L a b c d x.p.toNat (y.ks.idxOf n)

theorem insB_at {s : List Nd} {L : List (Nat × Nat)} {a b c d n j m : Nat} {x y : Nd} (hx : s[n]? = some x) (hj : x.p = (j : Int)) (hy : s[j]? = some y) (hm : y.ks[m]? = some n) (hno : n ∉ y.ks.take m) : insB s L a b c d n = cov L a b c d j m := by
  have e : x.p.toNat = j := by rw [hj]; rfl
  unfold insB
  rw [hx]
  simp only
  rw [if_neg (by rw [hj]; omega), e, hy]
  simp only
  rw [idxOf_nat _ _ _ hm hno]
theorem insB_top {s : List Nd} {L : List (Nat × Nat)} {a b c d n : Nat} {x : Nd} (hx : s[n]? = some x) (hp : x.p < 0) : insB s L a b c d n = false := by
  unfold insB
  rw [hx]
  simp only
  rw [if_pos hp]
theorem insB_par {s : List Nd} {L : List (Nat × Nat)} {a b c d n : Nat} (h : insB s L a b c d n = true) : ∃ x, s[n]? = some x ∧ 0 ≤ x.p := by
  unfold insB at h
  split at h
  · cases h
  · rename_i x hx
    split at h
    · cases h
    · exact ⟨x, hx, by omega⟩

/-- Does a node go? -/
def goesB (s : List Nd) (L : List (Nat × Nat)) (a b c d n : Nat) : Bool := insB s L a b c d n && !insB s L a b c d (parOf s n).toNat
/-- The nodes that go. -/
def leaveF (s : List Nd) (L : List (Nat × Nat)) (a b c d : Nat) (ns : List Nat) : List Nat := ns.filter (goesB s L a b c d)
theorem leaveF_snoc (s : List Nd) (L : List (Nat × Nat)) (a b c d : Nat) (ns : List Nat) (n : Nat) : leaveF s L a b c d (ns ++ [n]) = leaveF s L a b c d ns ++ (if goesB s L a b c d n then [n] else []) := by
  simp [leaveF, List.filter_append, List.filter_cons]
theorem leave_len (s : List Nd) (L : List (Nat × Nat)) (a b c d : Nat) (ns : List Nat) : (leaveF s L a b c d ns).length ≤ ns.length := List.length_filter_le _ _

theorem leave_mem {s : List Nd} (wf : WF s) {L : List (Nat × Nat)} {a b c d n : Nat} {ns : List Nat} (h : n ∈ leaveF s L a b c d ns) : ∃ (x y : Nd) (j m : Nat), s[n]? = some x ∧ x.p = (j : Int) ∧ s[j]? = some y ∧ y.ks[m]? = some n ∧ n ∉ y.ks.take m ∧ cov L a b c d j m = true := by
  have h1 := (List.mem_filter.1 h).2
  unfold goesB at h1
  rw [Bool.and_eq_true] at h1
  obtain ⟨x, hx, hp⟩ := insB_par h1.1
  obtain ⟨j, m, y, hj, hy, hm, hno, _⟩ := wf.place hx hp
  exact ⟨x, y, j, m, hx, hj, hy, hm, hno, by rw [← insB_at hx hj hy hm hno]; exact h1.1⟩

theorem climb_lt {s : List Nd} (wf : WF s) {a : Nat} (ha : a < s.length) : ∀ (q n : Nat), climb s q a = (n : Int) → n < s.length := by
  intro q
  cases q with
  | zero => intro n h; simp [climb] at h; omega
  | succ q =>
    intro n h
    by_cases hneg : climb s q a < 0
    · simp [climb, hneg] at h
    · obtain ⟨m, hm⟩ := Int.eq_ofNat_of_zero_le (show 0 ≤ climb s q a by omega)
      rw [climb_step hm] at h
      unfold parOf at h
      split at h
      · rename_i x hx
        rcases wf.par m x hx with h1 | ⟨i, y, h1, h2, _⟩
        · omega
        · have := (List.getElem?_eq_some_iff.1 h2).1
          omega
      · omega

theorem climb_way {s : List Nd} (wf : WF s) {a : Nat} : ∀ (q n : Nat), climb s q a = (n : Int) → ∃ l, Way s n a l := by
  intro q
  induction q with
  | zero =>
    intro n h
    have : a = n := by simp [climb] at h; omega
    subst this
    exact ⟨[], .top⟩
  | succ q ih =>
    intro n h
    by_cases hneg : climb s q a < 0
    · simp [climb, hneg] at h
    · obtain ⟨m, hm⟩ := Int.eq_ofNat_of_zero_le (show 0 ≤ climb s q a by omega)
      obtain ⟨l, hl⟩ := ih m hm
      rw [climb_step hm] at h
      unfold parOf at h
      split at h
      · rename_i x hx
        obtain ⟨j, k, y, hj, hy, hk, _, _⟩ := wf.place hx (by omega)
        obtain rfl : j = n := by omega
        exact ⟨[] ++ [k] ++ l, (Way.down .top hy hk).append hl⟩
      · omega

/-- The top of what a node is within. -/
theorem IsTop.climb {s : List Nd} {a p q t : Nat} (ta : IsTop s a t) (hq : climb s q a = (p : Int)) : IsTop s p t := by
  obtain ⟨M, hM⟩ := ta.1
  refine ⟨?_, ta.2⟩
  rcases Nat.lt_or_ge M q with hlt | hge
  · exfalso
    obtain ⟨x0, hx0, hp0⟩ := ta.2
    have h1 : Go.Proofs.YtabogkonklplcaaGreatDoor.climb s (M + 1) a < 0 := by rw [climb_step hM]; simp [parOf, hx0, hp0]
    have h2 := climb_neg h1 (q - (M + 1))
    rw [show M + 1 + (q - (M + 1)) = q by omega, hq] at h2
    omega
  · have := climb_add hq (M - q)
    rw [show q + (M - q) = M by omega, hM] at this
    exact ⟨_, this.symm⟩
theorem IsTop.par {s : List Nd} {n j t : Nat} {x : Nd} (h : IsTop s n t) (hx : s[n]? = some x) (hj : x.p = (j : Int)) : IsTop s j t :=
  h.climb (q := 1) (by rw [climb_step (j := 0) (e := n) rfl]; simp [parOf, hx, hj])

theorem lexC_prefix (l x y : List Nat) : lexC (l ++ x) (l ++ y) = lexC x y := by
  induction l with
  | nil => rfl
  | cons a l ih => simp [lexC, ih]

/-- Where the two sides of a range meet, if it does not end within the node in which it starts. -/
structure JointAt (s : List Nd) (K a c q n p m : Nat) (x y : Nd) : Prop where
  up : ∀ r, r ≤ q → ∃ n' : Nat, climb s r a = (n' : Int) ∧ n' < s.length ∧ c ∉ allF s K n'
  last : climb s q a = (n : Int)
  hx : s[n]? = some x
  hp : x.p = (p : Int)
  hy : s[p]? = some y
  hm : y.ks[m]? = some n
  hno : n ∉ y.ks.take m
  hold : c ∈ allF s K p

theorem joint_there {s : List Nd} (wf : WF s) {K a c : Nat} (ha : a < s.length) (hca : c ∉ allF s K a) : ∀ (N M : Nat), M ≤ N → ∀ t : Nat, climb s M a = (t : Int) → c ∈ allF s K t → ∃ q n p m x y, JointAt s K a c q n p m x y := by
  intro N
  induction N with
  | zero =>
    intro M hM t ht hc
    obtain rfl : M = 0 := by omega
    have : a = t := by simp [climb] at ht; omega
    subst this
    exact absurd hc hca
  | succ N ih =>
    intro M hM t ht hc
    by_cases he : ∃ r, r < M ∧ ∃ n' : Nat, climb s r a = (n' : Int) ∧ c ∈ allF s K n'
    · obtain ⟨r, hr, n', h1, h2⟩ := he
      exact ih r (by omega) n' h1 h2
    · cases M with
      | zero =>
        have : a = t := by simp [climb] at ht; omega
        subst this
        exact absurd hc hca
      | succ q =>
        have hup : ∀ r, r ≤ q → ∃ n' : Nat, climb s r a = (n' : Int) ∧ n' < s.length ∧ c ∉ allF s K n' := by
          intro r hr
          by_cases hneg : climb s r a < 0
          · have := climb_neg hneg (q + 1 - r)
            rw [show r + (q + 1 - r) = q + 1 by omega, ht] at this
            omega
          · obtain ⟨m, hm⟩ := Int.eq_ofNat_of_zero_le (show 0 ≤ climb s r a by omega)
            exact ⟨m, hm, climb_lt wf ha r m hm, fun hc' => he ⟨r, by omega, m, hm, hc'⟩⟩
        obtain ⟨n, hn, hnl, _⟩ := hup q (Nat.le_refl _)
        have hx : s[n]? = some s[n] := List.getElem?_eq_getElem hnl
        have hpar := climb_step hn
        rw [ht] at hpar
        simp only [parOf, hx] at hpar
        obtain ⟨j, m, y, hj, hy, hm, hno, _⟩ := wf.place hx (by omega)
        obtain rfl : j = t := by omega
        exact ⟨q, n, j, m, _, y, hup, hn, hx, hj, hy, hm, hno, hc⟩

section
variable {s : List Nd} {h : Nat → Nat} {B a b c d t : Nat}

theorem kid_size (wf : WF s) {j m n : Nat} {y : Nd} (hy : s[j]? = some y) (hm : y.ks[m]? = some n) : y.t = false ∧ m + 1 ≤ sizeAt s j := by
  have hl := (List.getElem?_eq_some_iff.1 hm).1
  have ht : y.t = false := by
    cases e : y.t with
    | false => rfl
    | true => rw [(wf.elem j y hy).1 e] at hl; simp at hl
  exact ⟨ht, by rw [sizeAt_eq hy, sizeN_elem ht]; omega⟩

/-- What goes stands behind the place at which the range starts. -/
theorem start_after (wf : WF s) (u : Up s h B) (ha : a < s.length) (ta : IsTop s a t) (hb : b ≤ sizeAt s a) {m n : Nat} {y : Nd} (hy : s[a]? = some y) (hm : y.ks[m]? = some n) (hc : cov (plF s (B + 1) t) a b c d a m = true) : b ≤ m := by
  obtain ⟨l, wa⟩ := way_to wf ta ha
  have hk := (kid_size wf hy hm).2
  have h1 := cmp_ways wf u wa wa hb (show m ≤ sizeAt s a by omega) (wh_is _ _) (wh_is _ _)
  unfold cov at hc
  rw [Bool.and_eq_true, decide_eq_true_eq] at hc
  rw [lexC_prefix] at h1
  rcases Nat.lt_or_ge m b with hlt | hge
  · have e : lexC [b] [m] = 1 := by simp only [lexC]; rw [if_neg (by omega), if_pos (by omega)]
    rw [e] at h1
    split at h1
    · cases h1
    · split at h1
      · rename_i h2 h3; have := hc.1; omega
      · cases h1
  · exact hge

theorem joint_after (wf : WF s) (u : Up s h B) (ha : a < s.length) (ta : IsTop s a t) (hb : b ≤ sizeAt s a) {q n p m m' n' : Nat} {x y : Nd} (hJ : JointAt s (B + 1) a c q n p m x y) (hm : y.ks[m']? = some n') (hc : cov (plF s (B + 1) t) a b c d p m' = true) : m + 1 ≤ m' := by
  have hpl : p < s.length := (List.getElem?_eq_some_iff.1 hJ.hy).1
  obtain ⟨l2, w2⟩ := climb_way wf q n hJ.last
  have tp : IsTop s p t := ta.climb (q := q + 1) (by rw [climb_step hJ.last]; simp [parOf, hJ.hx, hJ.hp])
  obtain ⟨lp, wp⟩ := way_to wf tp hpl
  have wa : Way s t a ((lp ++ [m]) ++ l2) := (Way.down wp hJ.hy hJ.hm).append w2
  have hk := (kid_size wf hJ.hy hm).2
  have h1 := cmp_ways wf u wa wp hb (show m' ≤ sizeAt s p by omega) (wh_is _ _) (wh_is _ _)
  unfold cov at hc
  rw [Bool.and_eq_true, decide_eq_true_eq] at hc
  have e0 : lp ++ [m] ++ l2 ++ [b] = lp ++ (m :: (l2 ++ [b])) := by simp
  rw [e0, lexC_prefix] at h1
  rcases Nat.lt_or_ge m m' with hlt | hge
  · exact hlt
  · have e : lexC (m :: (l2 ++ [b])) [m'] = 1 := by
      simp only [lexC]
      rw [if_neg (by omega)]
      split
      · rfl
      · cases hl : l2 ++ [b] with
        | nil => simp at hl
        | cons a l => rfl
    rw [e] at h1
    split at h1
    · cases h1
    · split at h1
      · have := hc.1; omega
      · cases h1
end

end Go.Proofs.YtabogkonklplcaaGreatDoor
