import Derived.Test.YtabogkonklplcaaGreatDoorV41
import Derived.Test.YtabogkonklplcaaGreatDoorV31
import Derived.Test.YtabogkonklplcaaGreatDoorV38
import Derived.Test.YtabogkonklplcaaGreatDoorV34
import Derived.Test.YtabogkonklplcaaGreatDoorV39
import Derived.Test.YtabogkonklplcaaGreatDoorV48
import Derived.Laws.StructEq

namespace Go.Proofs.YtabogkonklplcaaGreatDoor
open Go.RowKit Go.Lib
set_option linter.unusedSimpArgs false
set_option linter.unusedVariables false
section
variable {s s' : List Nd} {f : Mvf} {n k : Nat} {z : Sp}
end
end Go.Proofs.YtabogkonklplcaaGreatDoor

namespace Go.Proofs.YtabogkonklplcaaGreatDoor
open Go.RowKit
set_option linter.unusedSimpArgs false
set_option linter.unusedVariables false
theorem lexN_pre : ∀ (p x y : List Nat), lexN (p ++ x) (p ++ y) → lexN x y
  | [], _, _, h => h
  | _ :: p, x, y, h => by
    rcases lexN_cons h with h | ⟨_, h⟩
    · omega
    · exact lexN_pre p x y h
theorem spIs_le {s : List Nd} (wf : WF s) {a b d : Nat} (h : SpIs s ⟨a, b, a, d⟩) : b ≤ d := by
  obtain ⟨n, k, n2, k2, t, l, l2, e, _, _, ht, w1, w2, hle⟩ := h
  simp only [Sp.mk.injEq, Int.natCast_inj] at e
  obtain ⟨rfl, rfl, rfl, rfl⟩ := e
  obtain rfl := w1.only wf ht.2 w2
  rcases hle with h | h
  · unfold pw at h
    have := List.append_cancel_left h
    simp at this
    omega
  · have h1 := lexN_pre _ _ _ h
    rcases lexN_cons h1 with h | ⟨_, h⟩
    · omega
    · exact (lexN_nil h).elim
theorem delActs_len {s : List Nd} (wf : WF s) {B a b c d t : Nat} (ht : t < s.length) : (delActs s B a b c d t).length ≤ 50 := by
  have h1 := leave_len s (plF s (B + 1) t) a b c d (allF s (B + 1) t)
  have h2 := all_length wf (B + 1) t ht
  have h3 : ∀ n o e, (endAct s n o e).length ≤ 1 := fun n o e => by unfold endAct; split <;> simp
  have h4 := h3 a b (csOf s a).length
  have h5 := h3 c 0 d
  unfold delActs
  simp only [List.length_append, List.length_map]
  omega
theorem kid_one {s : List Nd} (wf : WF s) {p m m' i j : Nat} {y yj x : Nd} (hy : s[p]? = some y) (hm' : y.ks[m']? = some i) (hx : s[i]? = some x) (hj : x.p = (j : Int)) (hyj : s[j]? = some yj) (hm : yj.ks[m]? = some i) (hno : i ∉ yj.ks.take m) : j = p ∧ m ≤ m' := by
  obtain ⟨x2, hx2, hp2⟩ := wf.kid p y hy i (List.mem_of_getElem? hm')
  rw [hx] at hx2
  cases hx2
  have e : j = p := by omega
  subst e
  rw [hy] at hyj
  cases hyj
  refine ⟨rfl, ?_⟩
  rcases Nat.lt_or_ge m' m with h | h
  · exact absurd (mem_take_of hm' h) hno
  · exact h
theorem firsts_stay {s : List Nd} (wf : WF s) {L : List (Nat × Nat)} {ns : List Nat} {a b c d p k : Nat} {y : Nd} (hy : s[p]? = some y) (hk : ∀ m n, y.ks[m]? = some n → cov L a b c d p m = true → k ≤ m) : ∀ i ∈ leaveF s L a b c d ns, i ∉ y.ks.take k := by
  intro i hi hm
  obtain ⟨x, yj, j, m, hx, hj, hyj, hmm, hno, hcov⟩ := leave_mem wf hi
  obtain ⟨m', hm', he⟩ := List.getElem_of_mem hm
  rw [List.getElem_take] at he
  have hlt : m' < k ∧ m' < y.ks.length := by rw [List.length_take] at hm'; omega
  have hm2 : y.ks[m']? = some i := by rw [List.getElem?_eq_getElem hlt.2, he]
  obtain ⟨rfl, hle⟩ := kid_one wf hy hm2 hx hj hyj hmm hno
  rw [hy] at hyj
  cases hyj
  have := hk m i hmm hcov
  omega
end Go.Proofs.YtabogkonklplcaaGreatDoor

namespace Go.Proofs.YtabogkonklplcaaGreatDoor
open Go.RowKit
set_option linter.unusedSimpArgs false
set_option linter.unusedVariables false
section
variable {s : List Nd} {rs : List Sp}
theorem pspan_ok {w : World} {F : Nat → Prop} {bx : Nat} (hg : GG w) (hP : PLies w F bx ⟨s, rs⟩) (r : Nat) (x : Sp) (hx : rs[r]? = some x) :
    Calls Tryz.prog 36 #[ptr bx, .int .i64 (r : Int)] w (PLPost F w bx ⟨s, rs⟩ (.tuple #[spV x, .nilIface])) := by
  have := mspan_of hg hP r x _ (.inl rfl) (errOf_nil 0) (fun W bf bl sv h => lspan_ok h r x hx)
  rw [show errV 0 0 = .nilIface from by simp [errV]] at this
  exact this
theorem Desk.call {w0 w W w' : World} {F : Nat → Prop} {bw bx : Nat} {n mine : Int} {st st' : St} (h : Desk w0 F w bw bx n mine st) (hB : Below w.heap.size w W) (hk : Keeps (fun b => F b ∧ b < w.heap.size) W w') (hl : PLies w' (grow (fun b => F b ∧ b < w.heap.size) W) bx st') : Keeps F w w' ∧ Desk w0 (grow F w) w' bw bx n mine st' :=
  ⟨(Keeps.of_below hB).trans (hk.mono (fun b _ e => .inl e.1)), h.back hB ((h.narrow.below hB).next hk hl)⟩
end
end Go.Proofs.YtabogkonklplcaaGreatDoor

namespace Go.Proofs.YtabogkonklplcaaGreatDoor
open Go.RowKit
set_option linter.unusedSimpArgs false
set_option linter.unusedVariables false
theorem Chg.size {s s' : List Nd} {a : Dact} {f : Mvf} (h : Chg s a s' f) : s'.length = s.length := by
  cases h <;> simp
theorem Chgs.size {s s' : List Nd} {ac : List Dact} {fs : List Mvf} (h : Chgs s ac s' fs) : s'.length = s.length := by
  induction h with
  | nil => rfl
  | cons c _ ih => rw [ih, c.size]
def DelR (s : List Nd) (x : Sp) (B : Nat) (s' : List Nd) (f : Mvf) (jp jq : Int) : Prop :=
  (∃ (a b d : Nat) (xa : Nd) (f1 : Mvf), x = ⟨a, b, a, d⟩ ∧ s[a]? = some xa ∧ xa.t = true ∧ b ≤ d ∧ d ≤ xa.cs.length ∧ Chg s (a, some (b, d)) s' f1 ∧ f = compF [f1] ∧ jp = a ∧ jq = b) ∨
  (∃ (a b c d t : Nat) (xa : Nd) (fs : List Mvf), x = ⟨a, b, c, d⟩ ∧ s[a]? = some xa ∧ (a ≠ c ∨ xa.t = false) ∧ IsTop s a t ∧ IsTop s c t ∧ Chgs s (delActs s B a b c d t) s' fs ∧ f = compF fs ∧
    ((c ∈ allF s (B + 1) a ∧ jp = a ∧ jq = b) ∨ (c ∉ allF s (B + 1) a ∧ ∃ (q n p m : Nat) (xj yj : Nd), JointAt s (B + 1) a c q n p m xj yj ∧ jp = p ∧ jq = (m : Int) + 1)))
theorem pdelete_ok {s : List Nd} (wf : WF s) {h : Nat → Nat} {B : Nat} (u : Up s h B) (rs : List Sp) (h6 : rs.length ≤ 6) (hrs : ∀ z ∈ rs, SpIs s z) (r : Nat) (x : Sp) (hx : rs[r]? = some x) :
    ∃ (s' : List Nd) (f : Mvf) (jp jq : Int), WF s' ∧ s'.length = s.length ∧ DelR s x B s' f jp jq ∧ (∀ z, SpIs s z → SpIs s' (mvSp f z)) ∧ PlOk s' jp jq ∧
      ∀ (w : World) (F : Nat → Prop) (bx : Nat), GG w → PLies w F bx ⟨s, rs⟩ → Calls Tryz.prog 37 #[ptr bx, .int .i64 (r : Int)] w (PLPost F w bx ⟨s', (rs.map (mvSp f)).set r ⟨jp, jq, jp, jq⟩⟩ (errV 0 0)) := by
  have hspx := hrs x (List.mem_of_getElem? hx)
  have hsm : Small rs := Small.of wf (fun z hz => (hrs z hz).ok)
  obtain ⟨a, b, c, d, t, i, j, S⟩ := spIs_at wf u hspx
  obtain ⟨rfl, ha, hc, ta, tc, hb, hd, hi, hj, hij⟩ := S
  obtain ⟨xa, hxa⟩ : ∃ x, s[a]? = some x := ⟨_, List.getElem?_eq_getElem ha⟩
  obtain ⟨xc, hxc⟩ : ∃ x, s[c]? = some x := ⟨_, List.getElem?_eq_getElem hc⟩
  by_cases hone : a = c ∧ xa.t = true
  · obtain ⟨rfl, hta⟩ := hone
    have hbd := spIs_le wf hspx
    have hdl : d ≤ xa.cs.length := by rw [sizeAt_eq hxa, sizeN_text hta] at hd; exact hd
    obtain ⟨s1, f, hcg, hf⟩ : ∃ s1 f, Chg s (a, some (b, d)) s1 f ∧ f = resizeF a b ((d - b : Nat) : Int) (([] : List ByteArray).length : Int) := ⟨_, _, .cut hxa hta hbd hdl, rfl⟩
    have hlv : SpIs s1 (mvSp (compF [f]) ⟨a, b, a, d⟩) := (Chgs.cons hcg .nil).lives spIs_lives wf hspx
    have hmv : mvSp (compF [f]) ⟨a, b, a, d⟩ = ⟨a, b, a, b⟩ := by
      rw [compF_cons, compF_nil, hf]
      unfold mvSp resizeF shiftF
      simp only [id, List.length_nil, true_and]
      by_cases hbd2 : b = d
      · subst hbd2
        simp
      · have e1 : ((b : Int) < (d : Int) ∧ (d : Int) ≤ (b : Int) + ((d - b : Nat) : Int)) := by omega
        have e2 : ¬ ((b : Int) + ((d - b : Nat) : Int) < (b : Int)) := by omega
        simp [e1, e2]
    rw [hmv] at hlv
    refine ⟨s1, compF [f], a, b, hcg.wf wf, (Chgs.cons hcg .nil).size, .inl ⟨a, b, d, xa, f, rfl, hxa, hta, hbd, hdl, hcg, rfl, rfl, rfl⟩, fun z hz => (Chgs.cons hcg .nil).lives spIs_lives wf hz, hlv.ok.1, ?_⟩
    intro w F bx hg hP
    exact mdelete_ok hg hP hsm h6 r _ hx (a : Int) (b : Int) (compF [f]) (s' := s1) (fun W F' bf hB hP hTb => tdelete_go hTb hP wf _ (a : Int) (b : Int) _ _ (.cons hcg .nil) (by simp) (fun W' hB' => by
        obtain ⟨bn, cap, pn, h⟩ := hP
        exact tjoint_in wf u (h.below hB') a b a d ha (by simp [allF])) (fun W' hB' => by
        obtain ⟨bn, cap, pn, h⟩ := hP
        exact tdeletion_one (h.below hB') a b d xa hxa hta))
  · have hacx : a ≠ c ∨ xa.t = false := by
      by_cases e : a = c
      · right
        cases ht : xa.t with
        | false => rfl
        | true => exact absurd ⟨e, ht⟩ hone
      · exact .inl e
    have hac : a ≠ c ∨ (s[a]?.map (·.t)) = some false := hacx.imp id (fun h => by rw [hxa]; simp [h])
    obtain ⟨s', fs, hcs, hF⟩ := del_there (B := B) (t := t) wf hac hc ha hb hd
    have hlen := delActs_len (B := B) (a := a) (b := b) (c := c) (d := d) wf ta.lt
    obtain ⟨jp, jq, hJP, hJR, hok⟩ : ∃ jp jq : Int,
        (∀ (w : World) (F : Nat → Prop) (bf bn cap : Nat) (pn : List PN), PForAt w F bf bn cap pn s → Calls Tryz.prog 162 #[ptr bf, spV ⟨a, b, c, d⟩] w fun e w' => e = .returned (.agg #[.int .i64 jp, .int .i64 jq]) ∧ Below w.heap.size w w') ∧
        ((c ∈ allF s (B + 1) a ∧ jp = a ∧ jq = b) ∨ (c ∉ allF s (B + 1) a ∧ ∃ (q n p m : Nat) (xj yj : Nd), JointAt s (B + 1) a c q n p m xj yj ∧ jp = p ∧ jq = (m : Int) + 1)) ∧ PlOk s' jp jq := by
      by_cases hca : c ∈ allF s (B + 1) a
      · refine ⟨a, b, fun w F bf bn cap pn h => tjoint_in wf u h a b c d ha hca, .inl ⟨hca, rfl, rfl⟩, ?_⟩
        have hel : xa.t = false := by
          rcases hacx with h | h
          · cases ht : xa.t with
            | false => rfl
            | true =>
              exfalso
              have hk : kidsOf s a = [] := by unfold kidsOf; rw [hxa]; exact (wf.elem a xa hxa).1 ht
              simp [allF, hk] at hca
              exact h hca.symm
          · exact h
        have hfi : Firsts s a b (xa.ks.take b) := ⟨xa, hxa, hel, by rw [sizeAt_eq hxa, sizeN_elem hel] at hb; exact hb, rfl⟩
        exact (hF a b _ hfi (firsts_stay wf hxa (fun m n hm hcov => start_after wf u ha ta hb hxa hm hcov))).ok
      · obtain ⟨M, hM⟩ := ta.1
        obtain ⟨q, n, p, m, xj, yj, hJ⟩ := joint_there wf ha hca M M (Nat.le_refl _) t hM (pl_node (B + 1) t (c, d) (List.mem_of_getElem? hj))
        refine ⟨p, (m : Int) + 1, fun w F bf bn cap pn h => tjoint_up wf u h a b c d ha hca hJ, .inr ⟨hca, q, n, p, m, xj, yj, hJ, rfl, rfl⟩, ?_⟩
        obtain ⟨hel, hsz⟩ := kid_size wf hJ.hy hJ.hm
        have hfi : Firsts s p (m + 1) (yj.ks.take (m + 1)) := ⟨yj, hJ.hy, hel, by rw [sizeAt_eq hJ.hy, sizeN_elem hel] at hsz; exact hsz, rfl⟩
        have := (hF p (m + 1) _ hfi (firsts_stay wf hJ.hy (fun m' n' hm' hcov => joint_after wf u ha ta hb hJ hm' hcov))).ok
        simpa using this
    refine ⟨s', compF fs, jp, jq, hcs.wf wf, hcs.size, .inr ⟨a, b, c, d, t, xa, fs, rfl, hxa, hacx, ta, tc, hcs, rfl, hJR⟩, fun z hz => hcs.lives spIs_lives wf hz, hok, ?_⟩
    intro w F bx hg hP
    exact mdelete_ok hg hP hsm h6 r _ hx jp jq (compF fs) (fun W F' bf hB hP hTb => tdelete_go hTb hP wf _ jp jq _ _ hcs hlen (fun W' hB' => by
      obtain ⟨bn, cap, pn, h⟩ := hP
      exact hJP W' _ bf bn cap pn (h.below hB')) (fun W' hB' => by
      obtain ⟨bn, cap, pn, h⟩ := hP
      exact tdeletion_many wf u (h.below hB') a b c d t xa xc hxa hxc ta tc hb hd hacx))
end Go.Proofs.YtabogkonklplcaaGreatDoor

namespace Go.Proofs.YtabogkonklplcaaGreatDoor
open Go.RowKit
set_option linter.unusedSimpArgs false
theorem place_fields : Tryz.prog.underlying 37 = some (.struct (Tryz.prog.fieldsOf 37)) := by kernel_rfl
theorem place_held : Tryz.prog.stoodInHeld 37 = false := by kernel_rfl
theorem int_under : Tryz.prog.underlying 3 = some (.int .i64) := by kernel_rfl
theorem place_two : (Tryz.prog.fieldsOf 37).toList.map (fun f => (f.name, f.type, f.offset)) = [("Node", 3, 0), ("Offset", 3, 1)] := by kernel_rfl
theorem fields_two {fs : List Field} {a b : String} {t u : TypeId} {o r : Nat} (h : fs.map (fun f => (f.name, f.type, f.offset)) = [(a, t, o), (b, u, r)]) : ∃ f g : Field, fs = [f, g] ∧ f.name = a ∧ f.type = t ∧ f.offset = o ∧ g.name = b ∧ g.type = u ∧ g.offset = r := by
  match fs, h with
  | [f, g], h =>
    simp at h
    exact ⟨f, g, rfl, h.1.1, h.1.2.1, h.1.2.2, h.2.1, h.2.2.1, h.2.2.2⟩
theorem eq_place (a b c d : Int) (w : World) : (binOp .eql 37 (.agg #[.int .i64 a, .int .i64 b]) (.agg #[.int .i64 c, .int .i64 d])).run Tryz.prog w = .ok (.bool (a == c && b == d)) w := by
  have h0 : (Op.equalIn (9999 + 1) 37 (.agg #[.int .i64 a, .int .i64 b]) (.agg #[.int .i64 c, .int .i64 d])).run Tryz.prog w = .ok (a == c && b == d) w := by
    rw [run_equalIn_struct w 9999 _ _ _ place_fields place_held]
    have e1 : (part 3 #[.int .i64 a, .int .i64 b] 0).run Tryz.prog w = .ok (.int .i64 a) w := by kernel_rfl
    have e2 : (part 3 #[.int .i64 a, .int .i64 b] 1).run Tryz.prog w = .ok (.int .i64 b) w := by kernel_rfl
    have e3 : (part 3 #[.int .i64 c, .int .i64 d] 0).run Tryz.prog w = .ok (.int .i64 c) w := by kernel_rfl
    have e4 : (part 3 #[.int .i64 c, .int .i64 d] 1).run Tryz.prog w = .ok (.int .i64 d) w := by kernel_rfl
    obtain ⟨f, g, hfg, n1, t1, o1, n2, t2, o2⟩ := fields_two place_two
    rw [hfg]
    have q1 := run_equalIn_int (P := Tryz.prog) w 9998 3 .i64 .i64 a c int_under
    have q2 := run_equalIn_int (P := Tryz.prog) w 9998 3 .i64 .i64 b d int_under
    simp only [Op.eqFields, n1, n2, t1, t2, o1, o2, Sem.run_bind, e1, e2, e3, e4, Result.andThen_ok, Sem.run_ite]
    rw [if_pos (by decide)]
    rw [show (9999 : Nat) = 9998 + 1 from rfl, q1]
    simp only [Result.andThen_ok]
    cases hac : (a == c)
    · simp
    · simp only [Bool.not_true, Bool.false_eq_true, if_false]
      rw [if_pos (by decide), e2]
      simp only [Result.andThen_ok, e4, q2]
      cases hbd : (b == d) <;> simp
  rw [run_eql_struct, show (10000 : Nat) = 9999 + 1 from rfl, h0]
  rfl
theorem eqg_place (x y : Operand) (a b c d : Int) (w : World) : (eqGuard .eql 37 x y (.agg #[.int .i64 a, .int .i64 b]) (.agg #[.int .i64 c, .int .i64 d])).run Tryz.prog w = .ok () w := run_eqGuard_agg w _ _ _ _ _ _ (by kernel_rfl)
theorem eq_place_yes (a b : Int) (w : World) : (binOp .eql 37 (.agg #[.int .i64 a, .int .i64 b]) (.agg #[.int .i64 a, .int .i64 b])).run Tryz.prog w = .ok (.bool true) w := by
  rw [eq_place]
  simp
end Go.Proofs.YtabogkonklplcaaGreatDoor
