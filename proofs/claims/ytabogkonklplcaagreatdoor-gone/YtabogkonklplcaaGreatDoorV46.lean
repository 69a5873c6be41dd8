import Derived.Test.YtabogkonklplcaaGreatDoorV41

namespace Go.Proofs.YtabogkonklplcaaGreatDoor
open Go.RowKit
set_option linter.unusedSimpArgs false
set_option linter.unusedVariables false
structure DeskK (w0 : World) (F : Nat → Prop) (w : World) (Fr : Nat → Prop) (wr : World) (bw bx : Nat) (n mine : Int) (st : St) (l : List (Nat × Obj)) : Prop where
  o : DeskO w0 Fr wr bw bx n mine st l
  keeps : Keeps F w wr
  sub : ∀ b, Fr b → grow F w b
section
variable {w0 w wr w' : World} {F Fr : Nat → Prop} {bw bx : Nat} {n n' mine : Int} {st st' : St} {l : List (Nat × Obj)}
theorem Desk.k (h : Desk w0 F w bw bx n mine st) : DeskK w0 F w F w bw bx n mine st [] := ⟨h.o, Keeps.refl _ _, fun b e => .inl e⟩
theorem DeskK.with (h : DeskK w0 F w Fr wr bw bx n mine st l) (hk : Keeps Fr wr w') (hd : Desk w0 (grow Fr wr) w' bw bx n' mine st') : DeskK w0 F w (grow Fr wr) w' bw bx n' mine st' l :=
  ⟨h.o.with hk hd, h.keeps.trans (hk.mono (fun b _ e => h.sub b e)), fun b e => e.elim (h.sub b) (fun e => .inr (Nat.le_trans h.keeps.size e))⟩
theorem DeskK.next (h : DeskK w0 F w Fr wr bw bx n mine st l) (hk : Keeps Fr wr w') (hl : PLies w' (grow Fr wr) bx st') : DeskK w0 F w (grow Fr wr) w' bw bx n mine st' l := h.with hk (h.o.desk.next hk hl)
theorem DeskK.drew (h : DeskK w0 F w Fr wr bw bx n mine st l) : DeskK w0 F w Fr wr.drew bw bx n mine st l :=
  ⟨h.o.drew, h.keeps.trans (Keeps.of_below (Below.refl _ _).drew), h.sub⟩
theorem DeskK.alloc (h : DeskK w0 F w Fr wr bw bx n mine st l) (c : Array Value) (t : TypeId) : DeskK w0 F w (fun b => Fr b ∧ b < wr.heap.size) (wr.alloc (.cells c t)) bw bx n mine st ((wr.heap.size, .cells c t (0, 0)) :: l) :=
  ⟨h.o.alloc c t, h.keeps.trans (Keeps.of_below ((Below.refl _ wr).alloc (Nat.le_refl _) _)), fun b e => h.sub b e.1⟩
theorem DeskK.less {x : Nat × Obj} (h : DeskK w0 F w Fr wr bw bx n mine st (x :: l)) : DeskK w0 F w Fr wr bw bx n mine st l :=
  ⟨⟨h.o.desk, fun p hp => h.o.own p (.tail _ hp)⟩, h.keeps, h.sub⟩
theorem DeskK.done (h : DeskK w0 F w Fr wr bw bx n' mine st' l) (h0 : Desk w0 F w bw bx n mine st) : Keeps F w wr ∧ Desk w0 (grow F w) wr bw bx n' mine st' := by
  have hlt := heap_lt h0.at_
  have hz := h0.low.size
  exact ⟨h.keeps, h.o.desk.wider h.sub (fun e => e.elim h0.out (fun e => by omega)) (fun b e => e.elim (h0.ge b) (fun e => by omega))⟩
end
section
variable {s : List Nd}
theorem pl_first {k t : Nat} : ∃ r, plF s (k + 1) t = (t, 0) :: r := by
  show ∃ r, upTo t (kidsOf s t) (plF s k) (sizeAt s t + 1) = (t, 0) :: r
  unfold upTo
  rw [List.range_succ_eq_map, List.flatMap_cons]
  exact ⟨_, rfl⟩
theorem wh_first {k t : Nat} : wh (plF s (k + 1) t) (t, 0) = 0 := by
  obtain ⟨r, e⟩ := pl_first (s := s) (k := k) (t := t)
  rw [e, wh, if_pos rfl]
theorem pl_last (wf : WF s) {k t : Nat} (ht : t < s.length) : ∃ l, plF s (k + 1) t = l ++ [(t, sizeAt s t)] := by
  show ∃ l, upTo t (kidsOf s t) (plF s k) (sizeAt s t + 1) = l ++ [(t, sizeAt s t)]
  obtain ⟨x, hx⟩ : ∃ x, s[t]? = some x := ⟨_, List.getElem?_eq_getElem ht⟩
  have hn : (kidsOf s t)[sizeAt s t]? = none := by
    rw [kidsOf_eq hx, sizeAt_eq hx]
    cases h : x.t with
    | true => rw [(wf.elem t x hx).1 h]; rfl
    | false => rw [sizeN_elem h]; exact List.getElem?_eq_none (Nat.le_refl _)
  rw [upTo_succ_none hn]
  exact ⟨_, rfl⟩
theorem wh_nonneg (wf : WF s) {h : Nat → Nat} {B : Nat} (u : Up s h B) {n k t : Nat} (hn : n < s.length) (hk : k ≤ sizeAt s n) (ta : IsTop s n t) : 0 ≤ wh (plF s (B + 1) t) (n, k) := by
  obtain ⟨l, wl⟩ := way_there wf ta hn
  obtain ⟨i, ei, hi⟩ := wh_mem (way_pl wf u wl hk)
  omega
theorem top_self {n t : Nat} (ta : IsTop s n t) : IsTop s t t := ⟨⟨0, rfl⟩, ta.2⟩
theorem cmp_root (wf : WF s) {h : Nat → Nat} {B : Nat} (u : Up s h B) {n k t : Nat} {v : Int} {ev : Value} (hn : n < s.length) (hk : k ≤ sizeAt s n) (ta : IsTop s n t) (c : CmpIs s B t 0 n k v ev) : ev = .nilIface ∧ v ≤ 0 ∧ (¬ (n = t ∧ k = 0) → v = -1) := by
  obtain ⟨h1, h2⟩ := c.same (top_self ta) ta
  have h3 := wh_nonneg wf u hn hk ta
  rw [wh_first] at h2
  refine ⟨h1, ?_, fun hne => ?_⟩
  · rw [h2]
    split
    · decide
    · rw [if_neg (by omega)]; decide
  · have h4 : wh (plF s (B + 1) t) (n, k) ≠ 0 := fun e => by
      have tl : t < s.length := ta.lt
      exact hne (wh_inj wf u hn hk tl (Nat.zero_le _) ta (top_self ta) (by rw [e, wh_first]))
    rw [h2, if_pos (by omega)]
theorem cmp_root2 (wf : WF s) {h : Nat → Nat} {B : Nat} (u : Up s h B) {m t : Nat} {v : Int} {ev : Value} (hm : m < s.length) (tt : IsTop s t t) (c : CmpIs s B m 0 t 0 v ev) : Flt ev ∨ (ev = .nilIface ∧ 0 ≤ v) := by
  obtain ⟨t2, ta⟩ := top_there wf m hm
  by_cases e : t2 = t
  · subst e
    obtain ⟨h1, h2⟩ := c.same ta tt
    have h3 := wh_nonneg wf u hm (Nat.zero_le _) ta
    rw [wh_first] at h2
    right
    refine ⟨h1, ?_⟩
    rw [h2, if_neg (by omega)]
    split <;> decide
  · exact .inl (c.other ta tt e).2
end
end Go.Proofs.YtabogkonklplcaaGreatDoor

namespace Go.Proofs.YtabogkonklplcaaGreatDoor
open Go.RowKit
set_option linter.unusedSimpArgs false
set_option linter.unusedVariables false
def allC (s : List Nd) (B t : Nat) : List ByteArray := readR s (plF s (B + 1) t) 0 ((plF s (B + 1) t).length - 1)
section
variable {s : List Nd} {rs : List Sp}
set_option maxRecDepth 20000 in
set_option maxHeartbeats 8000000 in
theorem whole_at {w0 w : World} {F : Nat → Prop} {bw bx : Nat} {M : Int} (hg : GG w0) (wf : WF s) {hh : Nat → Nat} {B : Nat} (u : Up s hh B) (h6 : rs.length ≤ 6) (hrs : ∀ z ∈ rs, SpIs s z) (N : Nat) (hN : N ≤ s.length) (hD : Desk w0 F w bw bx (N : Int) M ⟨s, rs⟩)
    (r : Nat) (x : Sp) (hx : rs[r]? = some x) (pn pk t : Nat) (hpn : pn < s.length) (hpk : pk ≤ sizeAt s pn) (tp : IsTop s pn t) (htN : t < N) :
    Calls Tryz.prog 29 #[ptr bw, .int .i64 (r : Int), .agg #[.int .i64 (pn : Int), .int .i64 (pk : Int)]] w fun e w' =>
      e = .returned (.tuple #[.string (catB (allC s B t)), .bool true]) ∧ Keeps F w w' ∧ Desk w0 (grow F w) w' bw bx (N : Int) M ⟨s, rs.set r ⟨t, 0, t, (sizeAt s t : Int)⟩⟩ := by
  have hcap := wf.cap
  have htl : t < s.length := by omega
  have tt := top_self tp
  have CMP := hid (fun (n k n2 k2 : Nat) (hn : n < s.length) (hk : k ≤ sizeAt s n) (hn2 : n2 < s.length) (hk2 : k2 ≤ sizeAt s n2) => pcompare_any (rs := rs) wf u n k n2 k2 hn hk hn2 hk2)
  have HK0 := hid (hD.k.alloc #[.int .i64 (pn : Int), .int .i64 (pk : Int)] 37)
  have HX := hid (And.intro hg (And.intro wf (And.intro u (And.intro hrs (And.intro hD (And.intro hx (And.intro hpn (And.intro hpk (And.intro tp tt)))))))))
  have hNs : ((N : Nat) : Int) ≤ 40 := by omega
  clear hg wf u hrs hD hx hpn hpk tp tt
  go_enter Tryz.func29, Tryz.ntmps29
  go_wp2
  go_loopw [8, 9] (fun t8 t9 wr => ∃ (n : Nat) (tv : Int) (Fr : Nat → Prop), t9 = .int .i64 (n : Int) ∧ t8 = .int .i64 tv ∧ Hid (tv = if t < n then (t : Int) else -1) ∧ n ≤ N ∧ DeskK w0 F w Fr wr bw bx (N : Int) M ⟨s, rs⟩ [(w.heap.size, .cells #[.int .i64 (pn : Int), .int .i64 (pk : Int)] 37 (0, 0))]) (fun _ t9 _ => N - (intOf t9).toNat)
  case atStart => exact ⟨0, -1, _, rfl, rfl, hid (by simp), Nat.zero_le _, HK0.out⟩
  case round =>
    clear HK0
    obtain ⟨n, tv, Fr, rfl, rfl, htv, hnN, hK⟩ := hrel
    obtain ⟨d0, d1, d2⟩ := hK.o.desk.cells
    by_cases hlt : n < N
    · have hlt' : (n : Int) < (N : Int) := by omega
      have HK := hid (hK.alloc #[.int .i64 (n : Int), .int .i64 0] 37)
      obtain ⟨v, ev, cv, GV⟩ := CMP.out n 0 pn pk (by omega) (Nat.zero_le _) HX.out.2.2.2.2.2.2.1 HX.out.2.2.2.2.2.2.2.1
      have CV := hid (fun (F' : Nat → Prop) (W : World) (h : Desk w0 F' W bw bx (N : Int) M ⟨s, rs⟩) => GV W F' bx (h.gg HX.out.1) h.doc)
      have HC := hid cv
      have HKN := hid hK
      clear hK cv GV
      have hcase : (Flt ev ∧ n ≠ t) ∨ (ev = .nilIface ∧ 0 < v ∧ n ≠ t) ∨ (ev = .nilIface ∧ ¬ 0 < v ∧ IsTop s n t) := by
        obtain ⟨_, wf, u, _, _, _, hpn, hpk, tp, tt⟩ := HX.out
        obtain ⟨t2, tn⟩ := top_there wf n (by omega)
        by_cases e : t2 = t
        · subst e
          obtain ⟨h1, h2⟩ := HC.out.same tn tp
          by_cases hv : 0 < v
          · refine .inr (.inl ⟨h1, hv, fun e => ?_⟩)
            subst e
            have := (cmp_root wf u hpn hpk tp HC.out).2.1
            omega
          · exact .inr (.inr ⟨h1, hv, tn⟩)
        · refine .inl ⟨(HC.out.other tn tp e).2, fun e2 => ?_⟩
          subst e2
          exact e (tn.one tt)
      go_wp2
      obtain ⟨W1, hW1⟩ : ∃ W, wr.alloc (.cells #[.int .i64 (n : Int), .int .i64 0] 37) = W := ⟨_, rfl⟩
      rw [hW1] at HK ⊢
      obtain ⟨ab, hab⟩ : ∃ k, wr.heap.size = k := ⟨_, rfl⟩
      rw [hab] at HK ⊢
      clear hW1 d0 d1 d2 hab
      have KP0 := hid (And.intro HK.out.o.desk.cells.1 (And.intro (cell_of_heap (HK.out.o.own _ (.head _)).1 0) (And.intro (cell_of_heap (HK.out.o.own _ (.head _)).1 1) (And.intro (cell_of_heap (HK.out.o.own _ (.tail _ (.head _))).1 0) (cell_of_heap (HK.out.o.own _ (.tail _ (.head _))).1 1)))))
      go_region_held3 (fun w' => w'.cell? ⟨bw, 0, none⟩ = some (ptr bx) ∧ w'.cell? ⟨ab, 0, none⟩ = some (.int .i64 (n : Int)) ∧ w'.cell? ⟨ab, 1, none⟩ = some (.int .i64 0) ∧ w'.cell? ⟨w.heap.size, 0, none⟩ = some (.int .i64 (pn : Int)) ∧ w'.cell? ⟨w.heap.size, 1, none⟩ = some (.int .i64 (pk : Int))) (first | exact KP1.out | exact KP0.out | go_keep) ((
        go_at_call 26
        refine (CV.out _ _ HK.out.drew.o.desk).mono ?_
        rintro e w2 ⟨rfl, hk, hl⟩
        have HK1 := hid (HK.out.drew.next hk hl)
        have KP1 := hid (And.intro HK1.out.o.desk.cells.1 (And.intro (cell_of_heap (HK1.out.o.own _ (.head _)).1 0) (And.intro (cell_of_heap (HK1.out.o.own _ (.head _)).1 1) (And.intro (cell_of_heap (HK1.out.o.own _ (.tail _ (.head _))).1 0) (cell_of_heap (HK1.out.o.own _ (.tail _ (.head _))).1 1)))))
        clear hk hl))
      clear HK KP0 KP1 HC CV
      rcases hcase with ⟨⟨a1, b1, rfl⟩, hnt⟩ | ⟨rfl, hv, hnt⟩ | ⟨rfl, hv, tn⟩
      · go_wp2
        go_roundw
        case rel => exact ⟨n + 1, tv, _, by simp, rfl, hid (by rw [htv.out]; split <;> split <;> omega), by omega, HK1.out.less⟩
        case measure => simp [intOf]; omega
      · go_wp2
        go_roundw
        case rel => exact ⟨n + 1, tv, _, by simp, rfl, hid (by rw [htv.out]; split <;> split <;> omega), by omega, HK1.out.less⟩
        case measure => simp [intOf]; omega
      · have hv' : ¬ (0 : Int) < v := by omega
        have TN := hid tn
        clear tn
        go_wp2
        go_loopw [13, 14] (fun t13 t14 wq => ∃ (m : Nat) (b : Bool) (Fq : Nat → Prop), t14 = .int .i64 (m : Int) ∧ t13 = .bool b ∧ Hid (n = t → b = true) ∧ Hid (n ≠ t → t < m → b = false) ∧ m ≤ N ∧ DeskK w0 F w Fq wq bw bx (N : Int) M ⟨s, rs⟩ [(ab, .cells #[.int .i64 (n : Int), .int .i64 0] 37 (0, 0)), (w.heap.size, .cells #[.int .i64 (pn : Int), .int .i64 (pk : Int)] 37 (0, 0))]) (fun _ t14 _ => N - (intOf t14).toNat)
        case atStart => exact ⟨0, true, _, rfl, rfl, hid (fun _ => rfl), hid (fun _ h => absurd h (Nat.not_lt_zero _)), Nat.zero_le _, HK1.out⟩
        case round =>
          clear HK1
          obtain ⟨m, b, Fq, rfl, rfl, hb1, hb2, hmN, hQ⟩ := hrel
          obtain ⟨d0, d1, d2⟩ := hQ.o.desk.cells
          by_cases hml : m < N
          · have hml' : (m : Int) < (N : Int) := by omega
            have HQ := hid hQ
            obtain ⟨v2, ev2, c2, G2⟩ := CMP.out m 0 n 0 (by omega) (Nat.zero_le _) (by omega) (Nat.zero_le _)
            have C2 := hid (fun (F' : Nat → Prop) (W : World) (h : Desk w0 F' W bw bx (N : Int) M ⟨s, rs⟩) => G2 W F' bx (h.gg HX.out.1) h.doc)
            have hin : (Flt ev2 ∧ m ≠ t) ∨ (ev2 = .nilIface ∧ 0 ≤ v2 ∧ (m = t → n = t)) ∨ (ev2 = .nilIface ∧ ¬ 0 ≤ v2 ∧ n ≠ t) := by
              obtain ⟨_, wf, u, _, _, _, hpn, hpk, tp, tt⟩ := HX.out
              by_cases hnt : n = t
              · subst hnt
                rcases cmp_root2 wf u (by omega) tt c2 with h | ⟨h, h2⟩
                · refine .inl ⟨h, fun e => ?_⟩
                  subst e
                  obtain ⟨h1, _⟩ := c2.same tt tt
                  obtain ⟨a, y, h⟩ := h
                  rw [h1] at h
                  cases h
                · exact .inr (.inl ⟨h, h2, fun _ => rfl⟩)
              · by_cases hmt : m = t
                · subst hmt
                  obtain ⟨h1, h2, h3⟩ := cmp_root wf u (by omega) (Nat.zero_le _) TN.out c2
                  have := h3 (fun e => hnt e.1)
                  exact .inr (.inr ⟨h1, by omega, hnt⟩)
                · obtain ⟨t2, tm⟩ := top_there wf m (by omega)
                  by_cases e : t2 = t
                  · subst e
                    obtain ⟨h1, _⟩ := c2.same tm TN.out
                    by_cases h0 : 0 ≤ v2
                    · exact .inr (.inl ⟨h1, h0, fun e => absurd e hmt⟩)
                    · exact .inr (.inr ⟨h1, h0, hnt⟩)
                  · exact .inl ⟨(c2.other tm TN.out e).2, hmt⟩
            clear hQ c2 G2
            have KQ0 := hid (And.intro HQ.out.o.desk.cells.1 (And.intro (cell_of_heap (HQ.out.o.own _ (.head _)).1 0) (cell_of_heap (HQ.out.o.own _ (.head _)).1 1)))
            go_wp2
            go_region_held3 (fun w' => w'.cell? ⟨bw, 0, none⟩ = some (ptr bx) ∧ w'.cell? ⟨ab, 0, none⟩ = some (.int .i64 (n : Int)) ∧ w'.cell? ⟨ab, 1, none⟩ = some (.int .i64 0)) (first | exact KQ1.out | exact KQ0.out | go_keep) ((
              go_at_call 26
              refine (C2.out _ _ HQ.out.drew.o.desk).mono ?_
              rintro e w3 ⟨rfl, hk, hl⟩
              have HQ1 := hid (HQ.out.drew.next hk hl)
              have KQ1 := hid (And.intro HQ1.out.o.desk.cells.1 (And.intro (cell_of_heap (HQ1.out.o.own _ (.head _)).1 0) (cell_of_heap (HQ1.out.o.own _ (.head _)).1 1)))
              clear hk hl))
            clear HQ KQ0 KQ1 C2
            have HB := hid (And.intro hb1.out hb2.out)
            clear hb1 hb2
            rcases hin with ⟨⟨a1, b1, rfl⟩, hmt⟩ | ⟨rfl, h0, hmt⟩ | ⟨rfl, h0, hnt⟩
            · cases b
              all_goals
                go_wp2
                go_roundw
                case rel => exact ⟨m + 1, _, _, by simp, rfl, hid HB.out.1, hid (fun h1 h2 => HB.out.2 h1 (by omega)), by omega, HQ1.out⟩
                case measure => simp [intOf]; omega
            · have HMT := hid hmt
              clear hmt
              cases b
              all_goals
                go_wp2
                go_roundw
                case rel => exact ⟨m + 1, _, _, by simp, by first | rfl | simp [h0], hid HB.out.1, hid (fun h1 h2 => HB.out.2 h1 (by
                  have h3 : m ≠ t := fun e => h1 (HMT.out e)
                  omega)), by omega, HQ1.out⟩
                case measure => simp [intOf]; omega
            · cases b
              all_goals
                go_wp2
                go_roundw
                case rel => exact ⟨m + 1, false, _, by simp, by first | rfl | simp [h0], hid (fun e => absurd e hnt), hid (fun _ _ => rfl), by omega, HQ1.out⟩
                case measure => simp [intOf]; omega
          · have hml' : ¬ (m : Int) < (N : Int) := by omega
            have HQ := hid hQ
            clear hQ
            by_cases hnt : n = t
            · obtain rfl : b = true := hb1.out hnt
              have HNT := hid hnt
              clear hnt
              go_wp2
              go_roundw
              case rel => exact ⟨n + 1, (n : Int), _, by simp, rfl, hid (by have h1 := HNT.out; rw [if_pos (by omega), h1]), by omega, HQ.out.less⟩
              case measure => simp [intOf]; omega
            · obtain rfl : b = false := hb2.out hnt (by omega)
              go_wp2
              go_roundw
              case rel => exact ⟨n + 1, tv, _, by simp, rfl, hid (by rw [htv.out]; split <;> split <;> omega), by omega, HQ.out.less⟩
              case measure => simp [intOf]; omega
    · have hlt' : ¬ (n : Int) < (N : Int) := by omega
      have htv2 : tv = (t : Int) := by rw [htv.out, if_pos (by omega)]
      subst htv2
      have hneg : ¬ (t : Int) < 0 := by omega
      obtain ⟨hg, wf, u, hrs, hD, hx, hpn, hpk, tp, tt⟩ := HX.out
      obtain ⟨⟨za, zb, zc, zd⟩, hz1, hz2, hzs, _, CST⟩ := pstart_ok spIs_lives wf u h6 hrs r t 0 x hx htl (Nat.zero_le _)
      obtain rfl : za = (t : Int) := hz1
      obtain rfl : zb = ((0 : Nat) : Int) := hz2
      have hrl := (List.getElem?_eq_some_iff.1 hx).1
      have hx1 : (rs.set r ⟨t, ((0 : Nat) : Int), zc, zd⟩)[r]? = some ⟨t, ((0 : Nat) : Int), zc, zd⟩ := List.getElem?_set_self hrl
      have hrs1 : ∀ z ∈ rs.set r ⟨t, ((0 : Nat) : Int), zc, zd⟩, SpIs s z := by
        intro y hy
        rcases List.mem_or_eq_of_mem_set hy with hy | rfl
        · exact hrs y hy
        · exact hzs
      obtain ⟨z2, _, _, hzs2, hdet, CEN⟩ := pend_ok spIs_lives wf u (by rw [List.length_set]; exact h6) hrs1 r t (sizeAt s t) _ hx1 htl (Nat.le_refl _)
      have hz : z2 = ⟨t, 0, t, (sizeAt s t : Int)⟩ := hdet t 0 t rfl rfl tt tt (by
        rw [wh_first]
        exact wh_nonneg wf u htl (Nat.le_refl _) tt)
      subst hz
      rw [List.set_set] at CEN
      have hx2 : (rs.set r ⟨t, 0, t, (sizeAt s t : Int)⟩)[r]? = some ⟨t, 0, t, (sizeAt s t : Int)⟩ := List.getElem?_set_self hrl
      have S : SpAt s B ⟨t, 0, t, (sizeAt s t : Int)⟩ t 0 t (sizeAt s t) t 0 ((plF s (B + 1) t).length - 1) := by
        refine ⟨rfl, htl, htl, tt, tt, Nat.zero_le _, Nat.le_refl _, ?_, ?_, Nat.zero_le _⟩
        · obtain ⟨q, e⟩ := pl_first (s := s) (k := B) (t := t)
          rw [e]; rfl
        · obtain ⟨q, e⟩ := pl_last wf (k := B) htl
          rw [e]; simp
      have C1 : Hid (∀ (F' : Nat → Prop) (W : World), Desk w0 F' W bw bx (N : Int) M ⟨s, rs⟩ → Calls Tryz.prog 31 #[ptr bx, .int .i64 (r : Int), .agg #[.int .i64 (t : Int), .int .i64 0]] W (PLPost F' W bx ⟨s, rs.set r ⟨t, ((0 : Nat) : Int), zc, zd⟩⟩ .nilIface)) := fun F' W h => by
        have := CST W F' bx (h.gg hg) h.doc
        rw [show errV 0 0 = .nilIface from by simp [errV]] at this
        exact this
      have C2 : Hid (∀ (F' : Nat → Prop) (W : World), Desk w0 F' W bw bx (N : Int) M ⟨s, rs.set r ⟨t, ((0 : Nat) : Int), zc, zd⟩⟩ → Calls Tryz.prog 32 #[ptr bx, .int .i64 (r : Int), .agg #[.int .i64 (t : Int), .int .i64 (sizeAt s t : Int)]] W (PLPost F' W bx ⟨s, rs.set r ⟨t, 0, t, (sizeAt s t : Int)⟩⟩ .nilIface)) := fun F' W h => by
        have := CEN W F' bx (h.gg hg) h.doc
        rw [show errV 0 0 = .nilIface from by simp [errV]] at this
        exact this
      have C3 : Hid (∀ (F' : Nat → Prop) (W : World), Desk w0 F' W bw bx (N : Int) M ⟨s, rs.set r ⟨t, 0, t, (sizeAt s t : Int)⟩⟩ → Calls Tryz.prog 33 #[ptr bx, .int .i64 (r : Int)] W (PLPost F' W bx ⟨s, rs.set r ⟨t, 0, t, (sizeAt s t : Int)⟩⟩ (.tuple #[.string (catB (allC s B t)), .nilIface]))) := fun F' W h => by
        have := pread_yes (rs := rs.set r ⟨t, 0, t, (sizeAt s t : Int)⟩) wf u r t 0 t (sizeAt s t) t 0 ((plF s (B + 1) t).length - 1) _ hx2 S W F' bx (h.gg hg) h.doc
        rw [show errV 0 0 = .nilIface from by simp [errV]] at this
        exact this
      have CS := hid (fun (F' : Nat → Prop) (W : World) (h : Desk w0 F' W bw bx (N : Int) M ⟨s, rs.set r ⟨t, ((0 : Nat) : Int), zc, zd⟩⟩) => size_at hg wf h t htl)
      have HK := hid hK
      have HD0 := hid hD
      clear hK hg wf u hrs hD hx hpn hpk tp tt CST CEN hdet hzs hzs2 hx1 hx2 hrs1 S CMP
      go_wp2_with (
        go_at_call 31
        refine (C1.out _ _ HK.out.o.desk).mono ?_
        rintro e w2 ⟨rfl, hk, hl⟩
        have HK1 := hid (HK.out.next hk hl)
        have f0 := HK1.out.o.desk.cells.1
        clear hk hl)
      go_region_held3 (fun w' => w'.cell? ⟨bw, 0, none⟩ = some (ptr bx)) (first | exact KS2.out | exact KS1.out | go_keep) (first
        | (go_at_call 28
           refine (CS.out _ _ HK1.out.drew.o.desk).mono ?_
           rintro e w3 ⟨rfl, hk, hd⟩
           have HK2 := hid (HK1.out.drew.with hk hd)
           have KS1 := hid HK2.out.o.desk.cells.1
           clear hk hd)
        | (go_at_call 32
           refine (C2.out _ _ HK2.out.o.desk).mono ?_
           rintro e w4 ⟨rfl, hk, hl⟩
           have HK3 := hid (HK2.out.next hk hl)
           have KS2 := hid HK3.out.o.desk.cells.1
           clear hk hl))
      all_goals
        have g0 := HK3.out.o.desk.cells.1
        go_wp2_with (
          go_at_call 33
          refine (C3.out _ _ HK3.out.o.desk).mono ?_
          rintro e w5 ⟨rfl, hk, hl⟩
          have HK4 := hid (HK3.out.next hk hl)
          clear hk hl)
        go_quiet (fail)
        go_wp2
        go_ret2
        have hfin := HK4.out.done HD0.out
        first
          | exact ⟨rfl, hfin.1, hfin.2⟩
          | (refine ⟨rfl, hfin.1.trans (Keeps.of_below (below_draw _ _)), hfin.2.below (below_draw _ _)⟩)
end
end Go.Proofs.YtabogkonklplcaaGreatDoor
