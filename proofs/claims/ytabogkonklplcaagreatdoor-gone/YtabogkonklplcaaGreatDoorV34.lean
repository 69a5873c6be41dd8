import Derived.Test.YtabogkonklplcaaGreatDoorV29
import Derived.Test.YtabogkonklplcaaGreatDoorV30
import Derived.Test.YtabogkonklplcaaGreatDoorV32
import Derived.Test.YtabogkonklplcaaGreatDoorV31
import Derived.Test.YtabogkonklplcaaGreatDoorV19

namespace Go.Proofs.YtabogkonklplcaaGreatDoor
open Go.RowKit
set_option linter.unusedSimpArgs false
set_option linter.unusedVariables false
theorem way_pl {s : List Nd} (wf : WF s) {h : Nat → Nat} {B : Nat} (u : Up s h B) {t n k : Nat} {l : List Nat} (wy : Way s t n l) (hk : k ≤ sizeAt s n) : (n, k) ∈ plF s (B + 1) t := by
  have h1 := way_len wf u wy
  have h2 := u.le t
  have h3 := way_pp wf wy (B - l.length + 1) _ (pp_here (k := B - l.length) hk)
  have e : B - l.length + 1 + l.length = B + 1 := by omega
  rw [e] at h3
  rw [← pp_fst]
  exact List.mem_map.2 ⟨_, h3, rfl⟩
theorem lexC_of_leP {l l2 : List Nat} {k k2 : Nat} (h : leP (pw l k) (pw l2 k2)) : lexC (l ++ [k]) (l2 ++ [k2]) ≤ 0 := by
  rcases h with h | h
  · rw [pw_inj h, lexC_self]; exact Int.le_refl 0
  · rw [lexC_lt _ _ _ _ h]; decide
structure SpAt (s : List Nd) (B : Nat) (z : Sp) (a b c d t i j : Nat) : Prop where
  eq : z = ⟨a, b, c, d⟩
  ha : a < s.length
  hc : c < s.length
  ta : IsTop s a t
  tc : IsTop s c t
  hb : b ≤ sizeAt s a
  hd : d ≤ sizeAt s c
  hi : (plF s (B + 1) t)[i]? = some (a, b)
  hj : (plF s (B + 1) t)[j]? = some (c, d)
  hij : i ≤ j
theorem spIs_at {s : List Nd} (wf : WF s) {h : Nat → Nat} {B : Nat} (u : Up s h B) {z : Sp} (hz : SpIs s z) : ∃ a b c d t i j, SpAt s B z a b c d t i j := by
  obtain ⟨a, b, c, d, t, l, l2, rfl, h1, h2, ta, wa, wc, hle⟩ := hz
  obtain ⟨a', b', ea, eb, ha, hb⟩ := h1
  obtain ⟨c', d', ec, ed, hc, hd⟩ := h2
  obtain rfl : a = a' := by omega
  obtain rfl : b = b' := by omega
  obtain rfl : c = c' := by omega
  obtain rfl : d = d' := by omega
  obtain ⟨x, hx, hp⟩ := ta.2
  have tc := way_top wf wc hx hp
  obtain ⟨i, ei, hi⟩ := wh_mem (way_pl wf u wa hb)
  obtain ⟨j, ej, hj⟩ := wh_mem (way_pl wf u wc hd)
  refine ⟨a, b, c, d, t, i, j, rfl, ha, hc, ta, tc, hb, hd, hi, hj, ?_⟩
  have := lexC_of_leP hle
  rw [cmp_ways wf u wa wc hb hd (wh_is _ _) (wh_is _ _), ei, ej] at this
  rcases Nat.lt_or_ge j i with h | h
  · rw [if_neg (by omega), if_pos (by omega)] at this
    omega
  · exact h
end Go.Proofs.YtabogkonklplcaaGreatDoor

namespace Go.Proofs.YtabogkonklplcaaGreatDoor
open Go.RowKit
set_option linter.unusedSimpArgs false
set_option linter.unusedVariables false
theorem placeFault_ok {s : List Nd} {a b : Int} (h : PlOk s a b) : placeFault s a b = (0, 0) := by
  obtain ⟨n, k, rfl, rfl, hn, hk⟩ := h
  have hb : isB s (n : Int) = true := isB_of (by omega)
  simp [placeFault, hb, hk]
theorem way_there {s : List Nd} (wf : WF s) {n t : Nat} (ht : IsTop s n t) (hn : n < s.length) : ∃ l, Way s t n l := by
  obtain ⟨⟨m, hm⟩, x, hx, hp⟩ := ht
  have key : ∀ (m n : Nat), n < s.length → climb s m n = (t : Int) → ∃ l, Way s t n l := by
    intro m
    induction m with
    | zero =>
      intro n hn h
      have : n = t := by simp [climb] at h; omega
      subst this
      exact ⟨[], .top⟩
    | succ m ih =>
      intro n hn h
      have hx := List.getElem?_eq_getElem hn
      rcases wf.par n _ hx with hp | ⟨i, y, hp, hy, hc⟩
      · exfalso
        have h1 : climb s 1 n = -1 := by simp [climb, parOf, hx, hp]
        have h2 := climb_neg (s := s) (j := 1) (n := n) (by rw [h1]; decide) m
        rw [Nat.add_comm] at h2
        omega
      · have h1 : climb s 1 n = (i : Int) := by simp [climb, parOf, hx, hp]
        have h2 := climb_add h1 m
        rw [Nat.add_comm] at h2
        rw [h2] at h
        obtain ⟨l, wl⟩ := ih i (List.getElem?_eq_some_iff.1 hy).1 h
        obtain ⟨k, hk, e⟩ := List.mem_iff_getElem.1 hc
        exact ⟨l ++ [k], .down wl hy (by rw [List.getElem?_eq_getElem hk, e])⟩
  exact key m n hn hm
end Go.Proofs.YtabogkonklplcaaGreatDoor

namespace Go.Proofs.YtabogkonklplcaaGreatDoor
open Go.RowKit Go.Lib
set_option linter.unusedSimpArgs false
set_option linter.unusedVariables false
set_option maxRecDepth 20000 in
set_option maxHeartbeats 1000000 in
theorem cut_any (bf : Nat) (n o e : Int) (w : World) : Calls Tryz.prog 187 #[ptr bf, .int .i64 n, .int .i64 o, .int .i64 e] w fun r w' =>
    r = .returned (.func (.func 198) #[] #[ptr w.heap.size, ptr (w.heap.size + 1), ptr (w.heap.size + 2), ptr (w.heap.size + 3)]) ∧ w' = (((w.alloc (.cells #[ptr bf] 91)).alloc (.cells #[.int .i64 n] 3)).alloc (.cells #[.int .i64 o] 3)).alloc (.cells #[.int .i64 e] 3) := by
  go_enter Tryz.func187, Tryz.ntmps187
  go_wp2
  go_ret
  exact ⟨rfl, rfl⟩
def FnAt (w : World) (C : Nat → Prop) (bf : Nat) : Dact → Value → Prop
  | (n, some (o, e)), cv => ∃ x0 x1 x2 x3, cv = .func (.func 198) #[] #[ptr x0, ptr x1, ptr x2, ptr x3] ∧ w.cell? ⟨x0, 0, none⟩ = some (ptr bf) ∧ w.cell? ⟨x1, 0, none⟩ = some (.int .i64 (n : Int)) ∧ w.cell? ⟨x2, 0, none⟩ = some (.int .i64 (o : Int)) ∧ w.cell? ⟨x3, 0, none⟩ = some (.int .i64 (e : Int)) ∧ C x0 ∧ C x1 ∧ C x2 ∧ C x3
  | (i, none), cv => ∃ x0 x1, cv = .func (.func 189) #[] #[ptr x0, ptr x1] ∧ w.cell? ⟨x0, 0, none⟩ = some (ptr bf) ∧ w.cell? ⟨x1, 0, none⟩ = some (.int .i64 (i : Int)) ∧ C x0 ∧ C x1
theorem FnAt.keeps {w W : World} {C : Nat → Prop} {bf : Nat} {act : Dact} {cv : Value} {G : Nat → Prop} (h : FnAt w C bf act cv) (hk : Keeps G w W) (hG : ∀ b, C b → ¬ G b) : FnAt W C bf act cv := by
  obtain ⟨n, oe⟩ := act
  cases oe with
  | none =>
    obtain ⟨x0, x1, e, h0, h1, l0, l1⟩ := h
    exact ⟨x0, x1, e, hk.cell h0 (hG _ l0), hk.cell h1 (hG _ l1), l0, l1⟩
  | some oe =>
    obtain ⟨o, e'⟩ := oe
    obtain ⟨x0, x1, x2, x3, e, h0, h1, h2, h3, l0, l1, l2, l3⟩ := h
    exact ⟨x0, x1, x2, x3, e, hk.cell h0 (hG _ l0), hk.cell h1 (hG _ l1), hk.cell h2 (hG _ l2), hk.cell h3 (hG _ l3), l0, l1, l2, l3⟩
theorem FnAt.wider {w : World} {C C' : Nat → Prop} {bf : Nat} {act : Dact} {cv : Value} (h : FnAt w C bf act cv) (hC : ∀ b, C b → C' b) : FnAt w C' bf act cv := by
  obtain ⟨n, oe⟩ := act
  cases oe with
  | none =>
    obtain ⟨x0, x1, e, h0, h1, l0, l1⟩ := h
    exact ⟨x0, x1, e, h0, h1, hC _ l0, hC _ l1⟩
  | some oe =>
    obtain ⟨o, e'⟩ := oe
    obtain ⟨x0, x1, x2, x3, e, h0, h1, h2, h3, l0, l1, l2, l3⟩ := h
    exact ⟨x0, x1, x2, x3, e, h0, h1, h2, h3, hC _ l0, hC _ l1, hC _ l2, hC _ l3⟩
set_option maxRecDepth 20000 in
set_option maxHeartbeats 1000000 in
theorem cut1_run {W : World} {F : Nat → Prop} {f : Mvf} {s' : List Nd} {bf n o e x0 x1 x2 x3 : Nat} (h0 : W.cell? ⟨x0, 0, none⟩ = some (ptr bf)) (h1 : W.cell? ⟨x1, 0, none⟩ = some (.int .i64 (n : Int))) (h2 : W.cell? ⟨x2, 0, none⟩ = some (.int .i64 (o : Int))) (h3 : W.cell? ⟨x3, 0, none⟩ = some (.int .i64 (e : Int))) (hoe : o ≤ e) (he : e ≤ 30)
    (hT : Calls Tryz.prog 68 #[ptr bf, .int .i64 (n : Int), .int .i64 (o : Int), .int .i64 ((e : Int) - (o : Int)), .string ⟨#[]⟩] W (TMv f F W bf s')) :
    Calls Tryz.prog 198 #[ptr x0, ptr x1, ptr x2, ptr x3] W (TMv f F W bf s') := by
  have l0 := World.block_lt_of_cell? W _ h0
  have l1 := World.block_lt_of_cell? W _ h1
  have l2 := World.block_lt_of_cell? W _ h2
  have l3 := World.block_lt_of_cell? W _ h3
  have C := hid hT
  have q1 : IntKind.i64.wrap ((e : Int) - (o : Int)) = (e : Int) - (o : Int) := by rw [IntKind.wrap_i64]; omega
  clear hT
  go_enter Tryz.func198, Tryz.ntmps198
  go_wp2_with (
    go_at_call 68
    refine C.out.mono ?_
    rintro r w1 ⟨mv, m, rfl, hk, h1', h2', hf, hm⟩
    obtain ⟨gf, lb, rfl, hE, hR⟩ := hm.runs
    have H1 := hid (And.intro hk (And.intro h1' (And.intro h2' (And.intro hf (MoveOk.mk ⟨gf, lb, rfl, hE, hR⟩)))))
    clear hk h1' h2' hf hm hE hR)
  go_ret2
  obtain ⟨hk, h1', h2', hf, hm⟩ := H1.out
  exact ⟨_, m, rfl, hk, h1', h2', hf, hm⟩
set_option maxRecDepth 20000 in
set_option maxHeartbeats 1000000 in
theorem rem1_run {W : World} {F : Nat → Prop} {f : Mvf} {s' : List Nd} {bf i x0 x1 : Nat} (h0 : W.cell? ⟨x0, 0, none⟩ = some (ptr bf)) (h1 : W.cell? ⟨x1, 0, none⟩ = some (.int .i64 (i : Int)))
    (hT : Calls Tryz.prog 97 #[ptr bf, .int .i64 (i : Int)] W (TMv f F W bf s')) :
    Calls Tryz.prog 189 #[ptr x0, ptr x1] W (TMv f F W bf s') := by
  have l0 := World.block_lt_of_cell? W _ h0
  have l1 := World.block_lt_of_cell? W _ h1
  have C := hid hT
  clear hT
  go_enter Tryz.func189, Tryz.ntmps189
  go_wp2_with (
    go_at_call 97
    refine C.out.mono ?_
    rintro r w1 ⟨mv, m, rfl, hk, h1', h2', hf, hm⟩
    obtain ⟨gf, lb, rfl, hE, hR⟩ := hm.runs
    have H1 := hid (And.intro hk (And.intro h1' (And.intro h2' (And.intro hf (MoveOk.mk ⟨gf, lb, rfl, hE, hR⟩)))))
    clear hk h1' h2' hf hm hE hR)
  go_ret2
  obtain ⟨hk, h1', h2', hf, hm⟩ := H1.out
  exact ⟨_, m, rfl, hk, h1', h2', hf, hm⟩
theorem chars_empty : charsOf ⟨#[]⟩ = some [] := by
  unfold charsOf
  rfl
theorem fn_run {W : World} {F C : Nat → Prop} {bf : Nat} {act : Dact} {cv : Value} {s s' : List Nd} {f : Mvf} (h : FnAt W C bf act cv) (hD : PFor W F bf s) (hc : Chg s act s' f) (wf : WF s) (hT : Tabs W) :
    ∃ gf lb, cv = .func (.func gf) #[] lb ∧ (∀ args w, (callFunc gf args).run Tryz.prog w = .ok (.enter gf args) w) ∧ Calls Tryz.prog gf lb W (TMv f F W bf s') := by
  have hcap := wf.cap
  cases hc with
  | @cut n o e x hx ht h1 h2 =>
    obtain ⟨x0, x1, x2, x3, rfl, c0, c1, c2, c3, _⟩ := h
    refine ⟨_, _, rfl, enters_of Tryz.func198 (by kernel_rfl) rfl, ?_⟩
    have hch := wf.chars n x hx
    refine cut1_run c0 c1 c2 c3 h1 (by omega) ?_
    have hY : TakesM (30 - o - (x.cs.length - (o + (e - o)))) ⟨#[]⟩ [] := ⟨chars_empty, Nat.zero_le _⟩
    have hR := treplace_done hD n o ((e : Int) - (o : Int)) ⟨#[]⟩ x hx ht hch.1 hch.2 (by omega) [] (x.cs.take o ++ [] ++ x.cs.drop (o + (e - o))) chars_empty (by simp) (by omega) (fun w1 hb =>
      splice_yes_small x.cs hch.2 hch.1 o (e - o) ((e : Int) - (o : Int)) (by omega) (by omega) (by omega) (by omega) ⟨#[]⟩ (by unfold lots; show (0 : Nat) < _; omega) [] hY w1 (hT.below hb))
    have hmin : min ((e : Int) - (o : Int)) ((x.cs.length : Int) - o) = ((e - o : Nat) : Int) := by omega
    rw [hmin] at hR
    exact hR
  | @rem i j k x y h2 H2 hx hj hy hk hno hij wf2 u2 =>
    obtain ⟨x0, x1, rfl, c0, c1, _⟩ := h
    refine ⟨_, _, rfl, enters_of Tryz.func189 (by kernel_rfl) rfl, ?_⟩
    have hkl := kids_le wf hy
    exact rem1_run c0 c1 (tremove_done hD i j k x y hx hj hy hk hno hij (by unfold lots; omega) (by unfold lots; omega) wf2 u2)
end Go.Proofs.YtabogkonklplcaaGreatDoor
