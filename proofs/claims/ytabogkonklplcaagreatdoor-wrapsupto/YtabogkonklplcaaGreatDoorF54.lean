import Derived.Test.YtabogkonklplcaaGreatDoorF48
import Derived.Test.YtabogkonklplcaaGreatDoorF49
import Derived.Test.YtabogkonklplcaaGreatDoorF51
import Derived.Test.YtabogkonklplcaaGreatDoorF44
import Derived.Test.YtabogkonklplcaaGreatDoorF40
import Derived.Test.YtabogkonklplcaaGreatDoorF21
import Derived.Test.YtabogkonklplcaaGreatDoorF52
import Derived.Test.YtabogkonklplcaaGreatDoorF53

/- The document's answer at Delete. -/
namespace Go.Proofs.YtabogkonklplcaaGreatDoor
open Go.RowKit
set_option linter.unusedSimpArgs false
set_option linter.unusedVariables false

theorem lexN_pre : ∀ (p x y : List Nat), lexN (p ++ x) (p ++ y) → lexN x y
  | [], _, _, h => h
  | _ :: p, x, y, h => by
    rcases lexN_cons h with h | ⟨_, h⟩
    · omega
    · exact lexN_pre p x y h

theorem spIs_le {s : List Nd} (wf : WF s) {a b d : Nat} (h : SpIs s ⟨a, b, a, d⟩) : b ≤ d := by
  obtain ⟨n, k, n2, k2, t, l, l2, e, _, _, ht, w1, w2, hle⟩ := h
  simp only [Sp.mk.injEq, Int.natCast_inj] at e
  obtain ⟨rfl, rfl, rfl, rfl⟩ := e
  obtain rfl := w1.only wf ht.2 w2
  rcases hle with h | h
  · unfold pw at h
    have := List.append_cancel_left h
    simp at this
    omega
  · have h1 := lexN_pre _ _ _ h
    rcases lexN_cons h1 with h | ⟨_, h⟩
    · omega
    · exact (lexN_nil h).elim

theorem set_self {α : Type} {l : List α} {r : Nat} {v : α} (h : l[r]? = some v) : l.set r v = l := by
  apply List.ext_getElem?
  intro i
  rw [List.getElem?_set]
  split
  · next h1 =>
    subst h1
    have := (List.getElem?_eq_some_iff.1 h).1
    rw [if_pos this, h]
  · rfl

theorem delActs_len {s : List Nd} (wf : WF s) {B a b c d t : Nat} (ht : t < s.length) : (delActs s B a b c d t).length ≤ 50 := by
  have h1 := leave_len s (plF s (B + 1) t) a b c d (allF s (B + 1) t)
  have h2 := all_length wf (B + 1) t ht
  have h3 : ∀ n o e, (endAct s n o e).length ≤ 1 := fun n o e => by unfold endAct; split <;> simp
  have h4 := h3 a b (csOf s a).length
  have h5 := h3 c 0 d
  unfold delActs
  simp only [List.length_append, List.length_map]
  omega

/-- Of the children before the joint none goes. -/
theorem kid_one {s : List Nd} (wf : WF s) {p m m' i j : Nat} {y yj x : Nd} (hy : s[p]? = some y) (hm' : y.ks[m']? = some i) (hx : s[i]? = some x) (hj : x.p = (j : Int)) (hyj : s[j]? = some yj) (hm : yj.ks[m]? = some i) (hno : i ∉ yj.ks.take m) : j = p ∧ m ≤ m' := by
  obtain ⟨x2, hx2, hp2⟩ := wf.kid p y hy i (List.mem_of_getElem? hm')
  rw [hx] at hx2
  cases hx2
  have e : j = p := by omega
  subst e
  rw [hy] at hyj
  cases hyj
  refine ⟨rfl, ?_⟩
  rcases Nat.lt_or_ge m' m with h | h
  · exact absurd (mem_take_of hm' h) hno
  · exact h

theorem firsts_stay {s : List Nd} (wf : WF s) {L : List (Nat × Nat)} {ns : List Nat} {a b c d p k : Nat} {y : Nd} (hy : s[p]? = some y) (hk : ∀ m n, y.ks[m]? = some n → cov L a b c d p m = true → k ≤ m) : ∀ i ∈ leaveF s L a b c d ns, i ∉ y.ks.take k := by
  intro i hi hm
  obtain ⟨x, yj, j, m, hx, hj, hyj, hmm, hno, hcov⟩ := leave_mem wf hi
  obtain ⟨m', hm', he⟩ := List.getElem_of_mem hm
  rw [List.getElem_take] at he
  have hlt : m' < k ∧ m' < y.ks.length := by rw [List.length_take] at hm'; omega
  have hm2 : y.ks[m']? = some i := by rw [List.getElem?_eq_getElem hlt.2, he]
  obtain ⟨rfl, hle⟩ := kid_one wf hy hm2 hx hj hyj hmm hno
  rw [hy] at hyj
  cases hyj
  have := hk m i hmm hcov
  omega

theorem vans_delete (s : List Nd) (wf : WF s) (rs : List Sp) (h6 : rs.length ≤ 6) (hrs : ∀ z ∈ rs, SpIs s z) (A : Int) : Ans (PDocV SpIs) GG ⟨s, rs⟩ 37 86 [.int .i64 A] (fun v => v) (fun v => v) := by
  by_cases hA : A < 0 ∨ (rs.length : Int) ≤ A
  · refine ⟨A, 8, ⟨s, rs⟩, ⟨wf, h6, hrs⟩, ?_, ?_⟩
    · intro w F bx hg hP
      exact mdelete_no hg hP A hA (errOf_M A)
    · intro w F bd hR
      have hR' := hR
      obtain ⟨bn, cap, rn, rv, hD⟩ := hR
      exact (rdelete_no hD A hA).mono fun e w' ⟨h1, h2⟩ => hR'.unchangedR h2 h1
  · obtain ⟨r, rfl⟩ : ∃ r : Nat, A = (r : Int) := ⟨A.toNat, by omega⟩
    obtain ⟨x, hx⟩ : ∃ x, rs[r]? = some x := ⟨_, List.getElem?_eq_getElem (by omega)⟩
    have hspx := hrs x (List.mem_of_getElem? hx)
    have hsm : Small rs := Small.of wf (fun z hz => (hrs z hz).ok)
    obtain ⟨h, B, u⟩ := wf.up
    obtain ⟨a, b, c, d, t, i, j, S⟩ := spIs_at wf u hspx
    obtain ⟨rfl, ha, hc, ta, tc, hb, hd, hi, hj, hij⟩ := S
    obtain ⟨xa, hxa⟩ : ∃ x, s[a]? = some x := ⟨_, List.getElem?_eq_getElem ha⟩
    obtain ⟨xc, hxc⟩ : ∃ x, s[c]? = some x := ⟨_, List.getElem?_eq_getElem hc⟩
    by_cases hone : a = c ∧ xa.t = true
    · obtain ⟨rfl, hta⟩ := hone
      have hbd := spIs_le wf hspx
      have hdl : d ≤ xa.cs.length := by rw [sizeAt_eq hxa, sizeN_text hta] at hd; exact hd
      obtain ⟨s1, f, hcg, hf⟩ : ∃ s1 f, Chg s (a, some (b, d)) s1 f ∧ f = resizeF a b ((d - b : Nat) : Int) (([] : List ByteArray).length : Int) := ⟨_, _, .cut hxa hta hbd hdl, rfl⟩
      have hset : (rs.map (mvSp (compF [f]))).set r ⟨a, b, a, b⟩ = rs.map (mvSp (compF [f])) := by
        refine set_self ?_
        rw [List.getElem?_map, hx]
        simp only [Option.map_some, Option.some.injEq]
        rw [compF_cons, compF_nil, hf]
        unfold mvSp resizeF shiftF
        simp only [id, List.length_nil, true_and]
        by_cases hbd2 : b = d
        · subst hbd2
          simp
        · have e1 : ((b : Int) < (d : Int) ∧ (d : Int) ≤ (b : Int) + ((d - b : Nat) : Int)) := by omega
          have e2 : ¬ ((b : Int) + ((d - b : Nat) : Int) < (b : Int)) := by omega
          simp [e1, e2]
      refine ⟨0, 0, ⟨s1, rs.map (mvSp (compF [f]))⟩, ⟨hcg.wf wf, by simpa using h6, ?_⟩, ?_, ?_⟩
      · intro z hz
        obtain ⟨z0, hz0, rfl⟩ := List.mem_map.1 hz
        exact (Chgs.cons hcg .nil).lives spIs_lives wf (hrs z0 hz0)
      · intro w F bx hg hP
        have := mdelete_ok hg hP hsm h6 r _ hx (a : Int) (b : Int) (compF [f]) (s' := s1) (fun W F' bf hB hP hTb => tdelete_go hTb hP wf _ (a : Int) (b : Int) _ _ (.cons hcg .nil) (by simp) (fun W' hB' => by
          obtain ⟨bn, cap, pn, h⟩ := hP
          exact tjoint_in wf u (h.below hB') a b a d ha (by simp [allF])) (fun W' hB' => by
          obtain ⟨bn, cap, pn, h⟩ := hP
          exact tdeletion_one (h.below hB') a b d xa hxa hta))
        rw [hset] at this
        exact this
      · intro w F bd hR
        obtain ⟨bn, cap, rn, rv, hD⟩ := hR
        have := rdelete_text wf hD r a b d xa hx hxa hta hcg hbd hdl (fun z hz => (hrs z hz).ok) h6
        rw [map_cons', map_nil']
        exact this
    · have hacx : a ≠ c ∨ xa.t = false := by
        by_cases e : a = c
        · right
          cases ht : xa.t with
          | false => rfl
          | true => exact absurd ⟨e, ht⟩ hone
        · exact .inl e
      have hac : a ≠ c ∨ (s[a]?.map (·.t)) = some false := hacx.imp id (fun h => by rw [hxa]; simp [h])
      obtain ⟨s', fs, hcs, hF⟩ := del_there (B := B) (t := t) wf hac hc ha hb hd
      have hcs0 := hcs
      unfold delActs at hcs
      obtain ⟨s2, f12, f3, h12, h3, rfl⟩ := hcs.split
      obtain ⟨s1, f1, f2, h1, h2, rfl⟩ := h12.split
      have hlen := delActs_len (B := B) (a := a) (b := b) (c := c) (d := d) wf ta.lt
      -- the joint
      obtain ⟨jp, jq, hJP, hJR, hok⟩ : ∃ jp jq : Int,
          (∀ (w : World) (F : Nat → Prop) (bf bn cap : Nat) (pn : List PN), PForAt w F bf bn cap pn s → Calls Tryz.prog 162 #[ptr bf, spV ⟨a, b, c, d⟩] w fun e w' => e = .returned (.agg #[.int .i64 jp, .int .i64 jq]) ∧ Below w.heap.size w w') ∧
          (∀ (w : World) (F : Nat → Prop) (bd bn cap : Nat) (rn : List RN) (rv : Value), RDocAt w F bd bn cap rn rv s rs → Calls Tryz.prog 135 #[.pointer (some ⟨bd, 0, none⟩), spV ⟨a, b, c, d⟩] w fun e w' => e = .returned (.agg #[.int .i64 jp, .int .i64 jq]) ∧ Below w.heap.size w w') ∧ PlOk s' jp jq := by
        by_cases hca : c ∈ allF s (B + 1) a
        · refine ⟨a, b, fun w F bf bn cap pn h => tjoint_in wf u h a b c d ha hca, fun w F bd bn cap rn rv h => rnewPlace_in wf u h a b c d ha hc hca, ?_⟩
          have hel : xa.t = false := by
            rcases hacx with h | h
            · cases ht : xa.t with
              | false => rfl
              | true =>
                exfalso
                have hk : kidsOf s a = [] := by unfold kidsOf; rw [hxa]; exact (wf.elem a xa hxa).1 ht
                simp [allF, hk] at hca
                exact h hca.symm
            · exact h
          have hfi : Firsts s a b (xa.ks.take b) := ⟨xa, hxa, hel, by rw [sizeAt_eq hxa, sizeN_elem hel] at hb; exact hb, rfl⟩
          exact (hF a b _ hfi (firsts_stay wf hxa (fun m n hm hcov => start_after wf u ha ta hb hxa hm hcov))).ok
        · obtain ⟨M, hM⟩ := ta.1
          obtain ⟨q, n, p, m, xj, yj, hJ⟩ := joint_there wf ha hca M M (Nat.le_refl _) t hM (pl_node (B + 1) t (c, d) (List.mem_of_getElem? hj))
          refine ⟨p, (m : Int) + 1, fun w F bf bn cap pn h => tjoint_up wf u h a b c d ha hca hJ, fun w F bd bn cap rn rv h => rnewPlace_up wf u h a b c d ha hc hca hJ, ?_⟩
          obtain ⟨hel, hsz⟩ := kid_size wf hJ.hy hJ.hm
          have hfi : Firsts s p (m + 1) (yj.ks.take (m + 1)) := ⟨yj, hJ.hy, hel, by rw [sizeAt_eq hJ.hy, sizeN_elem hel] at hsz; exact hsz, rfl⟩
          have := (hF p (m + 1) _ hfi (firsts_stay wf hJ.hy (fun m' n' hm' hcov => joint_after wf u ha ta hb hJ hm' hcov))).ok
          simpa using this
      have wf' := hcs0.wf wf
      refine ⟨0, 0, ⟨s', (rs.map (mvSp (compF (f1 ++ f2 ++ f3)))).set r ⟨jp, jq, jp, jq⟩⟩, ⟨wf', by simpa using h6, ?_⟩, ?_, ?_⟩
      · intro z hz
        rcases List.mem_or_eq_of_mem_set hz with hz | rfl
        · obtain ⟨z0, hz0, rfl⟩ := List.mem_map.1 hz
          exact hcs0.lives spIs_lives wf (hrs z0 hz0)
        · exact spIs_one wf' hok
      · intro w F bx hg hP
        exact mdelete_ok hg hP hsm h6 r _ hx jp jq (compF (f1 ++ f2 ++ f3)) (fun W F' bf hB hP hTb => tdelete_go hTb hP wf _ jp jq _ _ hcs0 hlen (fun W' hB' => by
          obtain ⟨bn, cap, pn, h⟩ := hP
          exact hJP W' _ bf bn cap pn (h.below hB')) (fun W' hB' => by
          obtain ⟨bn, cap, pn, h⟩ := hP
          exact tdeletion_many wf u (h.below hB') a b c d t xa xc hxa hxc ta tc hb hd hacx))
      · intro w F bd hR
        obtain ⟨bn, cap, rn, rv, hD⟩ := hR
        exact rdelete_many wf u hD r a b c d t i j hx ha hc ta hi hj hac hxa hxc (by rw [← sizeAt_eq hxa]; exact hb) (by rw [← sizeAt_eq hxc]; exact hd) h1 h2 h3 hrs h6 jp jq (fun W hB => hJR W _ bd bn cap rn rv (hD.below hB))

end Go.Proofs.YtabogkonklplcaaGreatDoor

/- The document's answers, all of them. -/
namespace Go.Proofs.YtabogkonklplcaaGreatDoor
open Go.RowKit

theorem answers4 : Answers4 (PDocV SpIs) GG where
  toAnswers3 := answers3 spIs_lives
  compare := fun ⟨s, r⟩ ⟨wf, h6, hr⟩ p0 p1 q0 q1 => vans_compare s wf r h6 hr p0 p1 q0 q1
  read := fun ⟨s, r⟩ ⟨wf, h6, hr⟩ A => vans_read s wf r h6 hr A
  delete := fun ⟨s, r⟩ ⟨wf, h6, hr⟩ A => vans_delete s wf r h6 hr A

end Go.Proofs.YtabogkonklplcaaGreatDoor

/- All, and Wraps. -/
namespace Go.Proofs.YtabogkonklplcaaGreatDoor
open Go.RowKit

theorem gg_of_laidA (W : World) (h : laidMetH Tryz.prog Rows.allUptoRow.laid W) : GG W := gg_of_laid W h
theorem gg_of_laidW (W : World) (h : laidMetH Tryz.prog Rows.wrapsUptoRow.laid W) : GG W := gg_of_laid W h

/-- The statement of All. -/
theorem all_holds : Rows.AllUptoCardSaid := allL_card answers4 gg_of_laidA
/-- The statement of Wraps. -/
theorem wraps_holds : Rows.WrapsUptoCardSaid := wraps_card answers4 gg_of_laidW
#print axioms all_holds
#print axioms wraps_holds

end Go.Proofs.YtabogkonklplcaaGreatDoor
