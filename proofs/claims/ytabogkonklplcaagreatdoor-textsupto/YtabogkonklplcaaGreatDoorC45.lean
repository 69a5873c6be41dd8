import Derived.Test.YtabogkonklplcaaGreatDoorC41
import Derived.Test.YtabogkonklplcaaGreatDoorC44

/- The document's answers at Replace. -/
namespace Go.Proofs.YtabogkonklplcaaGreatDoor
open Go.RowKit Go.Lib
set_option linter.unusedSimpArgs false
set_option linter.unusedVariables false

theorem cat_ge (l : List ByteArray) (h : ∀ c ∈ l, IsCh c) : l.length ≤ (catB l).size := by
  induction l with
  | nil => exact Nat.zero_le _
  | cons c l ih =>
    have h1 := ih (fun d hd => h d (by simp [hd]))
    have h2 := (h c (by simp)).1
    rw [catB_cons, ByteArray.size_append, List.length_cons]; omega
theorem charsOf_length (t : ByteArray) (l : List ByteArray) (h : charsOf t = some l) : l.length ≤ t.size := by
  have := cat_ge l (charsOf_isCh t.size t l (Nat.le_refl _) h)
  rwa [charsOf_cat t.size t l (Nat.le_refl _) h] at this

/-- Other characters: the forest is as well formed as it was. -/
theorem wf_chars {s : List Nd} (wf : WF s) {n : Nat} {x : Nd} (hx : s[n]? = some x) (ht : x.t = true) {cs : List ByteArray} (hc : cs.length ≤ 30 ∧ ∀ c ∈ cs, IsCh c) : WF (s.set n { x with cs := cs }) := by
  have key : ∀ (i : Nat) (y : Nd), (s.set n { x with cs := cs })[i]? = some y → ∃ z, s[i]? = some z ∧ y.t = z.t ∧ y.ks = z.ks ∧ y.p = z.p ∧ (y.cs = z.cs ∨ i = n ∧ y.cs = cs) := by
    intro i y h
    rw [List.getElem?_set] at h
    by_cases hi : n = i
    · subst hi
      have hl := (List.getElem?_eq_some_iff.1 hx).1
      rw [if_pos rfl, if_pos hl] at h
      cases h
      exact ⟨x, hx, rfl, rfl, rfl, .inr ⟨rfl, rfl⟩⟩
    · rw [if_neg hi] at h
      exact ⟨y, h, rfl, rfl, rfl, .inl rfl⟩
  have back : ∀ (i : Nat) (z : Nd), s[i]? = some z → ∃ y, (s.set n { x with cs := cs })[i]? = some y ∧ y.t = z.t ∧ y.ks = z.ks ∧ y.p = z.p := by
    intro i z h
    by_cases hi : n = i
    · subst hi
      have hl := (List.getElem?_eq_some_iff.1 hx).1
      obtain rfl : x = z := Option.some.inj (hx.symm.trans h)
      exact ⟨{ x with cs := cs }, by rw [List.getElem?_set, if_pos rfl, if_pos hl], rfl, rfl, rfl⟩
    · exact ⟨z, by rw [List.getElem?_set, if_neg hi]; exact h, rfl, rfl, rfl⟩
  refine ⟨by simpa using wf.pos, by simpa using wf.cap, ?_, ?_, ?_, ?_, ?_, ?_, ?_⟩
  · obtain ⟨h, B, u⟩ := wf.up
    refine ⟨h, B, u.1, fun i y hy hp => ?_⟩
    obtain ⟨z, hz, _, _, ep, _⟩ := key i y hy
    rw [List.length_set, ep]
    exact u.par i z hz (by omega)
  · intro i y hy c hc'
    obtain ⟨z, hz, _, ek, _, _⟩ := key i y hy
    rw [ek] at hc'
    obtain ⟨z2, hz2, hp2⟩ := wf.kid i z hz c hc'
    obtain ⟨y2, hy2, _, _, ep2⟩ := back c z2 hz2
    exact ⟨y2, hy2, by rw [ep2]; exact hp2⟩
  · intro c y hy
    obtain ⟨z, hz, _, _, ep, _⟩ := key c y hy
    rcases wf.par c z hz with h | ⟨i, z2, h1, h2, h3⟩
    · exact .inl (by rw [ep]; exact h)
    · obtain ⟨y2, hy2, _, ek2, _⟩ := back i z2 h2
      exact .inr ⟨i, y2, by rw [ep]; exact h1, hy2, by rw [ek2]; exact h3⟩
  · intro i y hy
    obtain ⟨z, hz, _, ek, _, _⟩ := key i y hy
    rw [ek]; exact wf.nodup i z hz
  · intro y hy
    obtain ⟨z, hz, _, _, ep, _⟩ := key 0 y hy
    rw [ep]; exact wf.root z hz
  · intro i y hy
    obtain ⟨z, hz, et, ek, _, ec⟩ := key i y hy
    refine ⟨fun h => by rw [ek]; exact (wf.elem i z hz).1 (by rw [← et]; exact h), fun h => ?_⟩
    rcases ec with ec | ⟨rfl, ec⟩
    · rw [ec]; exact (wf.elem i z hz).2 (by rw [← et]; exact h)
    · obtain rfl : x = z := Option.some.inj (hx.symm.trans hz)
      rw [et, ht] at h; cases h
  · intro i y hy
    obtain ⟨z, hz, _, _, _, ec⟩ := key i y hy
    rcases ec with ec | ⟨_, ec⟩
    · rw [ec]; exact wf.chars i z hz
    · rw [ec]; exact hc

theorem RDoc.unchanged {w w' : World} {F : Nat → Prop} {bd : Nat} {s : List Nd} (h : RDoc w F bd s []) (hb : Below w.heap.size w w') {e : Ending} {v : Value} (he : e = .returned v) : RPost F w bd ⟨s, []⟩ v e w' := ⟨he, Keeps.of_below hb, h.after hb⟩

theorem ans_replace (s : List Nd) (wf : WF s) (A B C : Int) (t : ByteArray) (hts : t.size < lots) : Ans PDoc GG ⟨s, []⟩ 34 78 [.int .i64 A, .int .i64 B, .int .i64 C, .string t] (fun v => v) (fun v => v) := by
  have hcap := wf.cap
  cases hA : isB s A with
  | false =>
    refine ⟨A, 1, ⟨s, []⟩, ⟨wf, rfl⟩, ?_, ?_⟩
    · intro w F bx hg hP
      refine mreplace_no hg hP A B C t (fun F' bf h => ?_)
      have h' := h
      obtain ⟨bn, cap, pn, h⟩ := h
      exact (treplace_unfit h' A B C t _ (findText_no h A hA)).mono fun e w' hh => ⟨_, _, errOf_P A 1 (by decide), hh⟩
    · intro w F bd hR
      have hR' := hR
      obtain ⟨bn, cap, rn, rv, hD⟩ := hR
      exact (rreplace_unfit A B C t A 1 (by decide) (textFits_node (hD.below (one0_below w)) A B hA)).mono fun e w' ⟨h1, h2⟩ => hR'.unchanged h2 h1
  | true =>
    obtain ⟨h1, h2⟩ := isB_true hA
    obtain ⟨n, rfl⟩ : ∃ n : Nat, A = (n : Int) := ⟨A.toNat, by omega⟩
    have hn : n < s.length := by omega
    obtain ⟨x, hx⟩ : ∃ x, s[n]? = some x := ⟨_, List.getElem?_eq_getElem hn⟩
    have hch := wf.chars n x hx
    have hl' : x.cs.length < lots := by unfold lots; omega
    cases ht : x.t with
    | false =>
      refine ⟨n, 2, ⟨s, []⟩, ⟨wf, rfl⟩, ?_, ?_⟩
      · intro w F bx hg hP
        refine mreplace_no hg hP n B C t (fun F' bf h => ?_)
        have h' := h
        obtain ⟨bn, cap, pn, h⟩ := h
        exact (treplace_unfit h' n B C t _ (findText_kind h n x hx ht)).mono fun e w' hh => ⟨_, _, errOf_P n 2 (by decide), hh⟩
      · intro w F bd hR
        have hR' := hR
        obtain ⟨bn, cap, rn, rv, hD⟩ := hR
        exact (rreplace_unfit n B C t n 2 (by decide) (textFits_kind (hD.below (one0_below w)) n B x hx ht)).mono fun e w' ⟨h1, h2⟩ => hR'.unchanged h2 h1
    | true =>
      by_cases hB : B < 0 ∨ (x.cs.length : Int) < B
      · refine ⟨n, 3, ⟨s, []⟩, ⟨wf, rfl⟩, ?_, ?_⟩
        · intro w F bx hg hP
          refine mreplace_no hg hP n B C t (fun F' bf h => ?_)
          refine (treplace_bad h n B C t x hx ht (Q := fun u => u = outV B) (fun w1 _ => (splice_off x.cs hch.2 hl' B C hB t w1).mono fun e w' hh => ⟨⟨_, _, rfl, hh.1⟩, hh.2⟩)).mono ?_
          rintro e w' ⟨u, rfl, hh⟩
          exact ⟨_, _, errOf_O n B, hh⟩
        · intro w F bd hR
          have hR' := hR
          obtain ⟨bn, cap, rn, rv, hD⟩ := hR
          exact (rreplace_unfit n B C t n 3 (by decide) (textFits_index (hD.below (one0_below w)) n B x hx ht hB)).mono fun e w' ⟨h1, h2⟩ => hR'.unchanged h2 h1
      · obtain ⟨o, rfl⟩ : ∃ o : Nat, B = (o : Int) := ⟨B.toNat, by omega⟩
        have ho : o ≤ x.cs.length := by omega
        by_cases hC : C < 0
        · refine ⟨n, 3, ⟨s, []⟩, ⟨wf, rfl⟩, ?_, ?_⟩
          · intro w F bx hg hP
            refine mreplace_no hg hP n o C t (fun F' bf h => ?_)
            refine (treplace_bad h n o C t x hx ht (Q := fun u => u = outV C) (fun w1 _ => (splice_cnt x.cs hch.2 hl' o ho C hC t w1).mono fun e w' hh => ⟨⟨_, _, rfl, hh.1⟩, hh.2⟩)).mono ?_
            rintro e w' ⟨u, rfl, hh⟩
            exact ⟨_, _, errOf_O n C, hh⟩
          · intro w F bd hR
            have hR' := hR
            obtain ⟨bn, cap, rn, rv, hD⟩ := hR
            exact (rreplace_count n o C t hC (textFits_ok (hD.below (one0_below w)) n o x hx ht ho)).mono fun e w' ⟨h1, h2⟩ => hR'.unchanged h2 h1
        · obtain ⟨cm, hcm⟩ : ∃ cm : Nat, cm = (min C ((x.cs.length : Int) - o)).toNat := ⟨_, rfl⟩
          have hcl : o + cm ≤ x.cs.length := by omega
          have em : 30 - o - (x.cs.length - (o + cm)) = 30 - (x.cs.length - cm) := by omega
          by_cases hY : ∃ lf, TakesM (30 - o - (x.cs.length - (o + cm))) t lf
          · obtain ⟨lf, hlf⟩ := hY
            have hlf30 : lf.length ≤ 30 := by have := hlf.2; omega
            have hsum : x.cs.length - cm + lf.length ≤ 30 := by have := hlf.2; omega
            have hcs : (x.cs.take o ++ lf ++ x.cs.drop (o + cm)).length ≤ 30 ∧ ∀ c ∈ x.cs.take o ++ lf ++ x.cs.drop (o + cm), IsCh c := by
              refine ⟨by simp; omega, fun c hc => ?_⟩
              rcases List.mem_append.1 hc with hc | hc
              · rcases List.mem_append.1 hc with hc | hc
                · exact hch.2 c (List.mem_of_mem_take hc)
                · exact charsOf_isCh t.size t lf (Nat.le_refl _) hlf.1 c hc
              · exact hch.2 c (List.mem_of_mem_drop hc)
            refine ⟨0, 0, ⟨_, []⟩, ⟨wf_chars wf hx ht hcs, rfl⟩, ?_, ?_⟩
            · intro w F bx hg hP
              refine mreplace_of hg hP n o C t (fun F' bf h => (treplace_done h n o C t x hx ht hch.1 hch.2 ho lf _ hlf.1 hlf30 (by omega) (fun w1 hb => ?_)).mono fun e w2 h2 => h2.move)
              have hT := hg.2.below hb
              by_cases hbig : (x.cs.length : Int) - o < C
              · exact splice_yes_big x.cs hch.2 hch.1 o cm C ho (by omega) (by omega) hbig t hts lf hlf w1 hT
              · exact splice_yes_small x.cs hch.2 hch.1 o cm C ho (by omega) (by omega) hcl t hts lf hlf w1 hT
            · rintro w F bd ⟨bn, cap, rn, rv, hD⟩
              exact (rreplace_done hD n o C x hx ht hch.1 ho (by omega) t hts lf hlf.1 cm hcm hsum (by unfold lots; omega)).mono fun e w' h => h
          · have hN : ∀ l', ¬ TakesM (30 - o - (x.cs.length - (o + cm))) t l' := fun l' h => hY ⟨l', h⟩
            refine ⟨n, 6, ⟨s, []⟩, ⟨wf, rfl⟩, ?_, ?_⟩
            · intro w F bx hg hP
              refine mreplace_no hg hP n o C t (fun F' bf h => ?_)
              refine (treplace_bad h n o C t x hx ht (Q := fun u => ∃ k, u = flawV k) (fun w1 hb => ?_)).mono ?_
              · have hT := hg.2.below hb
                by_cases hbig : (x.cs.length : Int) - o < C
                · exact (splice_no_big x.cs hch.2 hch.1 o cm C ho (by omega) (by omega) hbig t hts hN w1 hT).mono fun e w' ⟨k, h1, h2⟩ => ⟨⟨_, _, ⟨k, rfl⟩, h1⟩, h2⟩
                · exact (splice_no_small x.cs hch.2 hch.1 o cm C ho (by omega) (by omega) hcl t hts hN w1 hT).mono fun e w' ⟨k, h1, h2⟩ => ⟨⟨_, _, ⟨k, rfl⟩, h1⟩, h2⟩
              · rintro e w' ⟨u, ⟨k, rfl⟩, hh⟩
                exact ⟨_, _, errOf_F n k, hh⟩
            · intro w F bd hR
              have hR' := hR
              obtain ⟨bn, cap, rn, rv, hD⟩ := hR
              cases hc : charsOf t with
              | none => exact (rreplace_bad hD n o C x hx ht hch.1 ho (by omega) t hts hc).mono fun e w' ⟨h1, h2⟩ => hR'.unchanged h2 h1
              | some lf =>
                have h30 : 30 < x.cs.length - (min C ((x.cs.length : Int) - o)).toNat + lf.length := by
                  rw [← hcm]
                  rcases Nat.lt_or_ge 30 (x.cs.length - cm + lf.length) with h | h
                  · exact h
                  · exact absurd ⟨hc, by omega⟩ (hN lf)
                exact (rreplace_long hD n o C x hx ht hch.1 ho (by omega) t hts lf hc h30 (by have := charsOf_length t lf hc; omega)).mono fun e w' ⟨h1, h2⟩ => hR'.unchanged h2 h1

end Go.Proofs.YtabogkonklplcaaGreatDoor

/- tree.Split. -/
namespace Go.Proofs.YtabogkonklplcaaGreatDoor
open Go.RowKit Go.Lib
set_option linter.unusedSimpArgs false
set_option linter.unusedVariables false

/-- What Split of the forest's must have left that was made. -/
def TSplit (F : Nat → Prop) (w : World) (bf : Nat) (s' : List Nd) (n : Int) (e : Ending) (w' : World) : Prop := ∃ mv, e = .returned (.tuple #[.int .i64 n, mv, .nilIface]) ∧ Keeps F w w' ∧ PFor w' (grow F w) bf s'
/-- .. with the function that moves places. -/
def TSv (f : Mvf) (F : Nat → Prop) (w : World) (bf : Nat) (s' : List Nd) (n : Int) (e : Ending) (w' : World) : Prop := ∃ mv m, e = .returned (.tuple #[.int .i64 n, mv, .nilIface]) ∧ Keeps F w w' ∧ w.heap.size ≤ m ∧ m ≤ w'.heap.size ∧ PFor w' (fun b => F b ∨ (w.heap.size ≤ b ∧ b < m)) bf s' ∧ MoveOk m w' mv f
theorem TSv.split {f : Mvf} {F : Nat → Prop} {w : World} {bf : Nat} {s' : List Nd} {n : Int} {e : Ending} {w' : World} (h : TSv f F w bf s' n e w') : TSplit F w bf s' n e w' := by
  obtain ⟨mv, m, rfl, hk, h1, h2, hf, hm⟩ := h
  exact ⟨mv, rfl, hk, hf.wider (fun b h => h.elim .inl (fun h => .inr h.1))⟩

section
variable {w : World} {F : Nat → Prop} {bf : Nat} {s : List Nd}

set_option maxHeartbeats 400000 in
theorem tsplit_unfit (hD : PFor w F bf s) (n o : Int) (u : Value) (hT : Calls Tryz.prog 101 #[ptr bf, .int .i64 n] w fun e w' => e = .returned (.iface 145 u) ∧ w' = w) :
    Calls Tryz.prog 63 #[ptr bf, .int .i64 n, .int .i64 o] w (TPost F w bf s (.tuple #[.int .i64 0, .nilFunc, .iface 145 u])) := by
  have HD := hid hD
  have C := hid hT
  clear hD hT
  go_enter Tryz.func63, Tryz.ntmps63
  go_wp2_with (go_at_call 101; refine C.out.mono ?_; rintro e w1 ⟨rfl, rfl⟩)
  refine bodyPost_ret (v := .tuple #[.int .i64 0, .nilFunc, .iface 145 u]) (by simp [results, Tryz.results63, go_sem]) rfl ?_
  exact ⟨rfl, Keeps.refl _ _, HD.out.wider (fun b h => .inl h)⟩

set_option maxHeartbeats 1000000 in
theorem tsplit_out (hD : PFor w F bf s) (n : Nat) (o : Int) (x : Nd) (hx : s[n]? = some x) (ht : x.t = true) (hch : ∀ d ∈ x.cs, IsCh d) (hl : x.cs.length < lots) (ho : o < 0 ∨ (x.cs.length : Int) < o) :
    Calls Tryz.prog 63 #[ptr bf, .int .i64 n, .int .i64 o] w (TPost F w bf s (.tuple #[.int .i64 0, .nilFunc, .iface 145 (.agg #[.int .i64 n, outV o])])) := by
  have HD := hid hD
  obtain ⟨bn, cap, pn, hD⟩ := hD
  have hi : n < s.length := (List.getElem?_eq_some_iff.1 hx).1
  have C := hid (findText_ok hD n x hx ht)
  have C2 := hid (fun w1 => find_out x.cs hch hl o ho w1)
  have h0 := hD.nodesCell
  obtain ⟨r, hr, ho', c0, c1, c2, c3⟩ := hD.look hx
  clear hD c0 c1 c2 hr ho' hx hch
  go_enter Tryz.func63, Tryz.ntmps63
  go_wp2_with first
    | (go_at_call 101; refine C.out.mono ?_; rintro e w1 ⟨rfl, hw1⟩; replace hw1 := hw1.symm; subst hw1)
    | (go_at_call 102; refine (C2.out _).mono ?_; rintro e w2 ⟨rfl, hb2⟩)
  refine bodyPost_ret (v := .tuple #[.int .i64 0, .nilFunc, .iface 145 (.agg #[.int .i64 n, outV o])]) (by simp [results, Tryz.results63, go_sem]) rfl ?_
  exact ⟨rfl, Keeps.of_below hb2, (HD.out.below hb2).wider (fun b h => .inl h)⟩

set_option maxHeartbeats 1000000 in
theorem tsplit_full (hD : PFor w F bf s) (n k : Nat) (x : Nd) (hx : s[n]? = some x) (ht : x.t = true) (hch : ∀ d ∈ x.cs, IsCh d) (hl : x.cs.length ≤ 30) (ho : k ≤ x.cs.length) (h40 : 40 ≤ s.length) :
    Calls Tryz.prog 63 #[ptr bf, .int .i64 n, .int .i64 (k : Int)] w (TPost F w bf s (.tuple #[.int .i64 0, .nilFunc, refusalV n 7])) := by
  have HD := hid hD
  obtain ⟨bn, cap, pn, hD⟩ := hD
  have hi : n < s.length := (List.getElem?_eq_some_iff.1 hx).1
  have C := hid (findText_ok hD n x hx ht)
  have C2 := hid (fun w1 => find_at x.cs hch (by unfold lots; omega) k ho w1)
  have h0 := hD.nodesCell
  obtain ⟨r, hr, ho', c0, c1, c2, c3⟩ := hD.look hx
  have s1 := (cat_split x.cs k).2
  have z1 := cat_le x.cs k
  have z2 := cat_size x.cs hch
  have H4 := hid h40
  obtain ⟨p, hp⟩ : ∃ p, (catB (x.cs.take k)).size = p := ⟨_, rfl⟩
  rw [hp] at C2 s1 z1
  obtain ⟨S, hS⟩ : ∃ S, catB x.cs = S := ⟨_, rfl⟩
  rw [hS] at C2 s1 z1 c3 z2
  have pI : (p : Int) ≤ S.size := by omega
  clear hD c0 c1 c2 hr ho' hx hch hp hS h40
  go_enter Tryz.func63, Tryz.ntmps63
  go_wp2_with first
    | (go_at_call 101; refine C.out.mono ?_; rintro e w1 ⟨rfl, hw1⟩; replace hw1 := hw1.symm; subst hw1)
    | (go_at_call 102; refine (C2.out _).mono ?_; rintro e w2 ⟨rfl, hb2⟩)
    | (go_at_call 103; refine (addText_full (HD.out.below hb2) H4.out _ _).mono ?_; rintro e w3 ⟨rfl, hb3⟩)
  refine bodyPost_ret (v := .tuple #[.int .i64 0, .nilFunc, refusalV n 7]) (by simp [results, Tryz.results63, go_sem]) rfl ?_
  have hb := hb2.trans (hb3.mono hb2.size)
  exact ⟨rfl, Keeps.of_below hb, (HD.out.below hb).wider (fun b h => .inl h)⟩

set_option maxRecDepth 20000 in
set_option maxHeartbeats 1000000 in
theorem tsplit_top (hD : PFor w F bf s) (n k : Nat) (x : Nd) (hx : s[n]? = some x) (ht : x.t = true) (hch : ∀ d ∈ x.cs, IsCh d) (hl : x.cs.length ≤ 30) (ho : k ≤ x.cs.length) (h40 : s.length < 40) (hp1 : x.p = -1) :
    Calls Tryz.prog 63 #[ptr bf, .int .i64 n, .int .i64 (k : Int)] w (TSv (resizeF n k ((x.cs.length - k : Nat) : Int) 0) F w bf ((s ++ [(⟨true, x.cs.drop k, [], -1⟩ : Nd)]).set n { x with cs := x.cs.take k }) s.length) := by
  have HD := hid hD
  obtain ⟨bn, cap, pn, hD⟩ := hD
  have hi : n < s.length := (List.getElem?_eq_some_iff.1 hx).1
  have C := hid (findText_ok hD n x hx ht)
  have C2 := hid (fun w1 => find_at x.cs hch (by unfold lots; omega) k ho w1)
  have CC := hid (fun w1 => count_any (x.cs.drop k) (fun d hd => hch d (List.mem_of_mem_drop hd)) (by simp; unfold lots; omega) w1)
  rw [List.length_drop] at CC
  have h0 := hD.nodesCell
  obtain ⟨r, hr, ho', c0, c1, c2, c3⟩ := hD.look hx
  have s1 := (cat_split x.cs k).2
  have s2 := (cat_split x.cs k).1
  have z1 := cat_le x.cs k
  have z2 := cat_size x.cs hch
  have H4 := hid h40
  have HX := hid hx
  have HP := hid hp1
  obtain ⟨p, hp⟩ : ∃ p, (catB (x.cs.take k)).size = p := ⟨_, rfl⟩
  rw [hp] at C2 s1 s2 z1
  obtain ⟨S, hS⟩ : ∃ S, catB x.cs = S := ⟨_, rfl⟩
  rw [hS] at C2 s1 s2 z1 c3 z2
  have pI : (p : Int) ≤ S.size := by omega
  clear hD c0 c1 c2 hr ho' hx hch hp hS h40 hp1
  go_enter Tryz.func63, Tryz.ntmps63
  go_wp2_with first
    | (go_at_call 101; refine C.out.mono ?_; rintro e w1 ⟨rfl, hw1⟩; replace hw1 := hw1.symm; subst hw1)
    | (go_at_call 102; refine (C2.out _).mono ?_; rintro e w2 ⟨rfl, hb2⟩)
    | (go_at_call 103; refine (addText_some (HD.out.below hb2) H4.out (x.cs.drop k) n).mono ?_; rintro e w3 ⟨rfl, hk3, bn3, cap3, pn3, hf3⟩
       have hx3 : (s ++ [(⟨true, x.cs.drop k, [], -1⟩ : Nd)])[n]? = some x := by rw [List.getElem?_append_left hi]; exact HX.out
       have g0 := hf3.nodesCell
       rw [List.length_append] at g0
       simp only [List.length_cons, List.length_nil, Nat.zero_add] at g0
       obtain ⟨r3, hr3, ho3, e0, e1, e2, e3⟩ := hf3.look hx3
       rw [HP.out] at e0
       obtain ⟨gv, g4, gf⟩ := hf3.cellsThere (i := n) (k := 3) (by rw [List.length_append]; omega) (by omega)
       obtain ⟨pn4, h4⟩ := hf3.newChars (cs' := x.cs.take k) hx3
       have H5 := hid (And.intro hk3 (And.intro h4 hf3.Fn))
       have hlt3 := hf3.lt
       have hne3 : ¬ bf = bn3 := hf3.ne
       clear hr3 ho3 e1 e2 hk3 h4 hf3 hx3)
  go_region
  go_wp2_with first
    | (go_at_call 105; refine (CC.out _).mono ?_; rintro e w5 ⟨rfl, hb5⟩)
    | (go_at_call 104; refine (resize_at _ _ _ _ _ (by omega) (by omega) (by omega) (by omega) (by omega) (by omega)).mono ?_; rintro e w6 ⟨bs, rfl, hb6, hM6⟩
       have H6 := hid hM6
       clear hM6)
  refine bodyPost_ret (v := .tuple #[.int .i64 s.length, .func (.func 154) #[] bs, .nilIface]) (by simp [results, Tryz.results63, go_sem]) rfl ?_
  obtain ⟨hk3, h4, hfn⟩ := H5.out
  have hb := hb5.trans (hb6.mono hb5.size)
  have hz2 := hb2.size
  have hk : Keeps F w w3 := (Keeps.of_below hb2).trans (hk3.mono (fun b _ e => .inl e))
  have hz5 : w3.heap.size ≤ w5.heap.size := by
    have := hb5.size
    simp only [World.size_drew, World.size_setCell] at this
    exact this
  have hz3 := hk3.size
  refine ⟨_, w5.heap.size, rfl, (hk.setCell (p := ⟨bn3, n * 4 + 3, none⟩) ?_ _).drew.trans (Keeps.of_below hb), by omega, hb6.size, ⟨bn3, cap3, pn4, (h4.drew.narrow.below hb).wider (fun b h => ?_)⟩, H6.out⟩
  · rcases hfn with e | e
    · exact .inl e
    · exact .inr (by show w.heap.size ≤ bn3; omega)
  · have h2 : b < w3.heap.size := by
      have := h.2
      simp only [World.size_drew, World.size_setCell] at this
      exact this
    rcases h.1 with e | e
    · exact .inl e
    · exact .inr ⟨by omega, by omega⟩
end

end Go.Proofs.YtabogkonklplcaaGreatDoor
