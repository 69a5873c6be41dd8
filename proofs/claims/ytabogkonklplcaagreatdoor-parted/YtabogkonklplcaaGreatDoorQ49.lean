import Derived.Test.YtabogkonklplcaaGreatDoorQ38
import Derived.Test.YtabogkonklplcaaGreatDoorQ39
import Derived.Test.YtabogkonklplcaaGreatDoorQ40
import Derived.Test.YtabogkonklplcaaGreatDoorQ41
import Derived.Test.YtabogkonklplcaaGreatDoorQ42
import Derived.Test.YtabogkonklplcaaGreatDoorQ43
import Derived.Test.YtabogkonklplcaaGreatDoorQ44
import Derived.Test.YtabogkonklplcaaGreatDoorQ45
import Derived.Test.YtabogkonklplcaaGreatDoorQ46
import Derived.Test.YtabogkonklplcaaGreatDoorQ47
import Derived.Test.YtabogkonklplcaaGreatDoorQ48

namespace Go.Proofs.YtabogkonklplcaaGreatDoor
open Go.RowKit
set_option linter.unusedSimpArgs false
set_option linter.unusedVariables false
section
variable {s : List Nd} {rs : List Sp}
theorem does_at {w0 w : World} {F : Nat → Prop} {bw bx : Nat} {M : Int} (hg : GG w0) (wf : WF s) (h6 : rs.length ≤ 6) (hrs : ∀ z ∈ rs, SpIs s z) (hD : Desk w0 F w bw bx (s.length : Int) M ⟨s, rs⟩) (K A B C : Int) (hK : I64 K) (hA : I64 A) (hB : I64 B) (hC : I64 C) (keep : Bool) :
    Calls Tryz.prog 24 #[ptr bw, .agg #[.int .i64 K, .int .i64 A, .int .i64 B, .int .i64 C], .bool keep] w (DoesPost w0 bw bx M s rs keep) := by
  have h9 : pickM K 9 < 9 := pickM_lt K (by decide)
  obtain ⟨q, hq⟩ : ∃ q, pickM K 9 = q := ⟨_, rfl⟩
  rw [hq] at h9
  match q, h9, hq with
  | 0, _, hq => exact does_k0 hg wf h6 hrs hD K A B C hK hA hB hC keep hq
  | 1, _, hq => exact does_k1 hg wf h6 hrs hD K A B C hK hA hB hC keep hq
  | 2, _, hq => exact does_k2 hg wf h6 hrs hD K A B C hK hA hB hC keep hq
  | 3, _, hq => exact does_k3 hg wf h6 hrs hD K A B C hK hA hB hC keep hq
  | 4, _, hq => exact does_k4 hg wf h6 hrs hD K A B C hK hA hB hC keep hq
  | 5, _, hq => exact does_k5 hg wf h6 hrs hD K A B C hK hA hB hC keep hq
  | 6, _, hq => exact does_k6 hg wf h6 hrs hD K A B C hK hA hB hC keep hq
  | 7, _, hq => exact does_k7 hg wf h6 hrs hD K A B C hK hA hB hC keep hq
  | 8, _, hq => exact does_k8 hg wf h6 hrs hD K A B C hK hA hB hC keep hq
  | _ + 9, h, _ => exact absurd h (by omega)
end
end Go.Proofs.YtabogkonklplcaaGreatDoor

namespace Go.Proofs.YtabogkonklplcaaGreatDoor
open Go.RowKit
set_option linter.unusedSimpArgs false
set_option linter.unusedVariables false
structure StepR where
  K : Int
  A : Int
  B : Int
  C : Int
def StepR.cells (o : StepR) : List Value := [.int .i64 o.K, .int .i64 o.A, .int .i64 o.B, .int .i64 o.C]
def StepR.val (o : StepR) : Value := .agg #[.int .i64 o.K, .int .i64 o.A, .int .i64 o.B, .int .i64 o.C]
structure StepOk (o : StepR) : Prop where
  hK : I64 o.K
  hA : I64 o.A
  hB : I64 o.B
  hC : I64 o.C
def StepsAt (w : World) (g off : Nat) (l : List StepR) : Prop := ∀ (i : Nat) (o : StepR), l[i]? = some o → ∀ (j : Nat) (u : Value), o.cells[j]? = some u → w.cell? ⟨g, off + i * 4 + j, none⟩ = some u
structure ScrAt (w : World) (a : Option Addr) (g off : Nat) (l : List StepR) : Prop where
  ha : 0 < l.length → a = some ⟨g, off, none⟩
  at_ : StepsAt w g off l
  ok : ∀ o ∈ l, StepOk o
  lt : 0 < l.length → g < w.heap.size
theorem ScrAt.below {w W : World} {a : Option Addr} {g off : Nat} {l : List StepR} (h : ScrAt w a g off l) (hb : Below w.heap.size w W) : ScrAt W a g off l :=
  ⟨h.ha, fun i o ho j u hu => by
    have h0 : 0 < l.length := by have := (List.getElem?_eq_some_iff.1 ho).1; omega
    exact (hb.cell (p := ⟨g, off + i * 4 + j, none⟩) (h.lt h0)).trans (h.at_ i o ho j u hu), h.ok, fun h0 => Nat.lt_of_lt_of_le (h.lt h0) hb.size⟩
theorem ScrAt.step {w : World} {a : Option Addr} {g off : Nat} {l : List StepR} (h : ScrAt w a g off l) {i : Nat} {o : StepR} (ho : l[i]? = some o) :
    a = some ⟨g, off, none⟩ ∧ w.cell? ⟨g, off + i * 4, none⟩ = some (.int .i64 o.K) ∧ w.cell? ⟨g, off + i * 4 + 1, none⟩ = some (.int .i64 o.A) ∧ w.cell? ⟨g, off + i * 4 + 2, none⟩ = some (.int .i64 o.B) ∧ w.cell? ⟨g, off + i * 4 + 3, none⟩ = some (.int .i64 o.C) ∧ StepOk o := by
  have h0 : 0 < l.length := by have := (List.getElem?_eq_some_iff.1 ho).1; omega
  refine ⟨h.ha h0, ?_, h.at_ i o ho 1 _ rfl, h.at_ i o ho 2 _ rfl, h.at_ i o ho 3 _ rfl, h.ok o (List.mem_of_getElem? ho)⟩
  have := h.at_ i o ho 0 _ rfl
  simpa using this
structure Mid (w0 w : World) (bw bx : Nat) (s : List Nd) (rs : List Sp) : Prop where
  wf : WF s
  len : rs.length = 2
  sp : ∀ z ∈ rs, SpIs s z
  desk : ∃ F, Desk w0 F w bw bx (s.length : Int) 2 ⟨s, rs⟩
theorem mid_laid {w0 w : World} {bw bx : Nat} {F : Nat → Prop} (h : Desk w0 F w bw bx 4 2 ⟨ndS, rsS⟩) : Mid w0 w bw bx ndS rsS := ⟨wfS, rfl, spS, F, h⟩
theorem Mid.does {w0 w : World} {bw bx : Nat} {s : List Nd} {rs : List Sp} (hg : GG w0) (h : Mid w0 w bw bx s rs) (o : StepR) (ho : StepOk o) (keep : Bool) :
    Calls Tryz.prog 24 #[ptr bw, .agg #[.int .i64 o.K, .int .i64 o.A, .int .i64 o.B, .int .i64 o.C], .bool keep] w fun e w' => e = .returned (.tuple #[]) ∧ ∃ s' fs, Dids keep s s' fs ∧ Mid w0 w' bw bx s' (rs.map (mvSp (compF fs))) := by
  obtain ⟨wf, hl, sp, F, hD⟩ := h
  refine (does_at hg wf (by omega) sp hD o.K o.A o.B o.C ho.hK ho.hA ho.hB ho.hC keep).mono ?_
  rintro e w' ⟨rfl, F', s', fs, hd, hD'⟩
  exact ⟨rfl, s', fs, hd, hd.wf wf, by simpa using hl, hd.all spIs_lives sp, F', hD'⟩
end Go.Proofs.YtabogkonklplcaaGreatDoor

namespace Go.Proofs.YtabogkonklplcaaGreatDoor
open Go.RowKit Go.Lib
set_option linter.unusedSimpArgs false
set_option linter.unusedVariables false
theorem Did1.text {keep : Bool} {s s' : List Nd} {f : Mvf} (h : Did1 keep s s' f) {n : Nat} (hn : ∃ x, s[n]? = some x ∧ x.t = true) : ∃ x, s'[n]? = some x ∧ x.t = true := by
  obtain ⟨x, hx, ht⟩ := hn
  have hl := (List.getElem?_eq_some_iff.1 hx).1
  have setT : ∀ (l : List Nd) (i : Nat) (y z : Nd), l[i]? = some y → z.t = y.t → (∃ x, l[n]? = some x ∧ x.t = true) → ∃ x, (l.set i z)[n]? = some x ∧ x.t = true := by
    intro l i y z hy hz ⟨q, hq, hqt⟩
    by_cases e : i = n
    · subst e
      rw [hq] at hy
      cases hy
      exact ⟨z, List.getElem?_set_self (List.getElem?_eq_some_iff.1 hq).1, by rw [hz]; exact hqt⟩
    · exact ⟨q, by rw [List.getElem?_set_ne e]; exact hq, hqt⟩
  have setS : ∀ (l : List Nd) (i : Nat) (z : Nd), (∀ y, l[i]? = some y → z.t = y.t) → (∃ x, l[n]? = some x ∧ x.t = true) → ∃ x, (l.set i z)[n]? = some x ∧ x.t = true := by
    intro l i z hz h
    cases hy : l[i]? with
    | some y => exact setT l i y z hy (hz y hy) h
    | none =>
      obtain ⟨q, hq, hqt⟩ := h
      have : i ≠ n := fun e => by subst e; rw [hq] at hy; cases hy
      exact ⟨q, by rw [List.getElem?_set_ne this]; exact hq, hqt⟩
  have app : ∀ nd : Nd, ∃ x, (s ++ [nd])[n]? = some x ∧ x.t = true := fun nd => ⟨x, by rw [List.getElem?_append_left hl]; exact hx, ht⟩
  rcases h.act with ⟨r, a, y, nd, hnd, R⟩ | ⟨A, B, C, a, y, R⟩ | ⟨i, a, y, hh, H, _, u, hg, R⟩ | ⟨nn, o, c, m, a, y, hh, H, _, _, hm, u, hg, R⟩ | ⟨A, B, r, a, y, R⟩
  · rcases R with ⟨_, ⟨_, rfl⟩ | ⟨_, _, _, rfl⟩⟩
    · exact ⟨x, hx, ht⟩
    · exact app nd
  · rcases R with ⟨_, rfl, _⟩ | ⟨_, i, j, c, x1, v, _, _, _, hI, _, _, hij, rfl, _⟩
    · exact ⟨x, hx, ht⟩
    · refine setT _ j v _ ?_ rfl (setT s i x1 _ hI.hx rfl ⟨x, hx, ht⟩)
      rw [List.getElem?_set_ne hij]; exact hI.hy
  · rcases R with ⟨_, rfl, _⟩ | ⟨_, i', _, R⟩
    · exact ⟨x, hx, ht⟩
    · cases R with
      | @rem _ j m x1 y1 h2 H2 hx1 hj hy1 hm hno hij wf2 u2 =>
        refine setT _ _ x1 _ ?_ rfl (setT s j y1 _ hy1 rfl ⟨x, hx, ht⟩)
        rw [List.getElem?_set_ne (fun e => hij e.symm)]; exact hx1
  · rcases R with ⟨_, rfl, _⟩ | ⟨_, n1, o1, cm, x1, lf, _, _, _, hx1, _, _, _, _, rfl, _⟩
    · exact ⟨x, hx, ht⟩
    · exact setT s n1 x1 _ hx1 rfl ⟨x, hx, ht⟩
  · rcases R with ⟨_, rfl, _, _⟩ | ⟨_, _, h40, nn, kk, x1, _, _, hx1, ht1, hkk, R⟩
    · exact ⟨x, hx, ht⟩
    · have hl1 := (List.getElem?_eq_some_iff.1 hx1).1
      have h4 := setT (s ++ [(⟨true, x1.cs.drop kk, [], -1⟩ : Nd)]) nn x1 { x1 with cs := x1.cs.take kk } (by rw [List.getElem?_append_left hl1]; exact hx1) rfl (app _)
      rcases R with ⟨_, rfl, _⟩ | ⟨j, m, y1, hp, hy1, hm, hno, hnj, rfl, _⟩
      · exact h4
      · have hjl := (List.getElem?_eq_some_iff.1 hy1).1
        refine setS _ _ _ ?_ (setS _ j _ ?_ h4)
        · intro q hq
          rw [List.getElem?_set_ne (by omega), List.getElem?_set_ne (by omega), List.getElem?_append_right (Nat.le_refl _)] at hq
          simp at hq
          rw [← hq]
        · intro q hq
          rw [List.getElem?_set_ne hnj, List.getElem?_append_left hjl, hy1] at hq
          cases hq
          rfl
theorem Dids.text {keep : Bool} {s s' : List Nd} {fs : List Mvf} (h : Dids keep s s' fs) {n : Nat} (hn : ∃ x, s[n]? = some x ∧ x.t = true) : ∃ x, s'[n]? = some x ∧ x.t = true := by
  induction h with
  | nil => exact hn
  | cons c _ ih => exact ih (c.text hn)
section
variable {s : List Nd} {rs : List Sp} {w0 : World} {bw bx : Nat} {N M : Int}
theorem set_text (hg : GG w0) (wf : WF s) {h : Nat → Nat} {B : Nat} (u : Up s h B) (h6 : rs.length ≤ 6) (hrs : ∀ z ∈ rs, SpIs s z) (r : Nat) (x : Sp) (hx : rs[r]? = some x) (n : Nat) (xn : Nd) (hxn : s[n]? = some xn) (ht : xn.t = true) :
    ∃ zc zd : Int, (∀ z ∈ rs.set r ⟨n, 0, n, (xn.cs.length : Int)⟩, SpIs s z) ∧
      (∀ (F' : Nat → Prop) (W : World), Desk w0 F' W bw bx N M ⟨s, rs⟩ → Calls Tryz.prog 31 #[ptr bx, .int .i64 (r : Int), .agg #[.int .i64 (n : Int), .int .i64 0]] W (PLPost F' W bx ⟨s, rs.set r ⟨n, 0, zc, zd⟩⟩ .nilIface)) ∧
      (∀ (F' : Nat → Prop) (W : World), Desk w0 F' W bw bx N M ⟨s, rs.set r ⟨n, 0, zc, zd⟩⟩ → Calls Tryz.prog 28 #[ptr bw, .int .i64 (n : Int)] W fun e w' => e = .returned (.int .i64 (xn.cs.length : Int)) ∧ Keeps F' W w' ∧ Desk w0 (grow F' W) w' bw bx N M ⟨s, rs.set r ⟨n, 0, zc, zd⟩⟩) ∧
      (∀ (F' : Nat → Prop) (W : World), Desk w0 F' W bw bx N M ⟨s, rs.set r ⟨n, 0, zc, zd⟩⟩ → Calls Tryz.prog 32 #[ptr bx, .int .i64 (r : Int), .agg #[.int .i64 (n : Int), .int .i64 (xn.cs.length : Int)]] W (PLPost F' W bx ⟨s, rs.set r ⟨n, 0, n, (xn.cs.length : Int)⟩⟩ .nilIface)) ∧
      (∀ (F' : Nat → Prop) (W : World), Desk w0 F' W bw bx N M ⟨s, rs.set r ⟨n, 0, n, (xn.cs.length : Int)⟩⟩ → Calls Tryz.prog 33 #[ptr bx, .int .i64 (r : Int)] W (PLPost F' W bx ⟨s, rs.set r ⟨n, 0, n, (xn.cs.length : Int)⟩⟩ (.tuple #[.string (catB xn.cs), .nilIface]))) := by
  have hnl := (List.getElem?_eq_some_iff.1 hxn).1
  have hsz : sizeAt s n = xn.cs.length := (sizeAt_eq hxn).trans (sizeN_text ht)
  have hrl := (List.getElem?_eq_some_iff.1 hx).1
  obtain ⟨⟨za, zb, zc, zd⟩, hz1, hz2, hzs, _, CST⟩ := pstart_ok spIs_lives wf u h6 hrs r n 0 x hx hnl (Nat.zero_le _)
  obtain rfl : za = (n : Int) := hz1
  obtain rfl : zb = ((0 : Nat) : Int) := hz2
  have hx1 : (rs.set r ⟨n, ((0 : Nat) : Int), zc, zd⟩)[r]? = some ⟨n, ((0 : Nat) : Int), zc, zd⟩ := List.getElem?_set_self hrl
  have setI : ∀ z, SpIs s z → ∀ y ∈ rs.set r z, SpIs s y := by
    intro z hz y hy
    rcases List.mem_or_eq_of_mem_set hy with hy | rfl
    · exact hrs y hy
    · exact hz
  obtain ⟨z2, _, _, hzs2, hdet, CEN⟩ := pend_ok spIs_lives wf u (by rw [List.length_set]; exact h6) (setI _ hzs) r n xn.cs.length _ hx1 hnl (by omega)
  obtain ⟨t, tn⟩ := top_there wf n hnl
  have hin := spIs_in wf hnl (show 0 ≤ xn.cs.length by omega) (by omega)
  have hz : z2 = ⟨n, 0, n, (xn.cs.length : Int)⟩ := hdet n 0 t rfl rfl tn tn (by
    obtain ⟨a3, b3, c3, d3, t3, e3, _, _, _, _, ta3, tc3, w3⟩ := hin.where_ wf u
    simp only [Sp.mk.injEq, Int.natCast_inj] at e3
    obtain ⟨rfl, rfl, rfl, rfl⟩ := e3
    obtain rfl := tn.one ta3
    exact w3)
  subst hz
  rw [List.set_set] at CEN
  have hx2 : (rs.set r ⟨n, 0, n, (xn.cs.length : Int)⟩)[r]? = some ⟨n, 0, n, (xn.cs.length : Int)⟩ := List.getElem?_set_self hrl
  obtain ⟨t2, i, S, hrd⟩ := read_text wf u hxn ht
  refine ⟨zc, zd, setI _ hzs2, fun F' W h => ?_, fun F' W h => ?_, fun F' W h => ?_, fun F' W h => ?_⟩
  · have := CST W F' bx (h.gg hg) h.doc
    rw [show errV 0 0 = .nilIface from by simp [errV]] at this
    exact this
  · have := size_at hg wf h n hnl
    rw [hsz] at this
    exact this
  · have := CEN W F' bx (h.gg hg) h.doc
    rw [show errV 0 0 = .nilIface from by simp [errV]] at this
    exact this
  · have := pread_yes (rs := rs.set r ⟨n, 0, n, (xn.cs.length : Int)⟩) wf u r n 0 n xn.cs.length t2 i (i + xn.cs.length) _ hx2 S W F' bx (h.gg hg) h.doc
    rw [show errV 0 0 = .nilIface from by simp [errV], hrd] at this
    exact this
end
end Go.Proofs.YtabogkonklplcaaGreatDoor

namespace Go.Proofs.YtabogkonklplcaaGreatDoor
open Go.RowKit Go.Lib
set_option linter.unusedSimpArgs false
set_option linter.unusedVariables false
theorem part_facts {s s2 : List Nd} (wf : WF s) {h : Nat → Nat} {B : Nat} (u : Up s h B) {nn kk t : Nat} {x : Nd} (hx : s[nn]? = some x) (ht : x.t = true) (tn : IsTop s nn t) {r a y : Int} {f : Mvf} (R : SplR s (nn : Int) (kk : Int) r a y s2 f) (hy0 : y = 0)
    (wf2 : WF s2) {h2 : Nat → Nat} {B2 : Nat} (u2 : Up s2 h2 B2) (L : ∀ z, SpIs s z → SpIs s2 (mvSp f z)) :
    r = (s.length : Int) ∧ s2.length = s.length + 1 ∧ s.length < 40 ∧ IsTop s2 nn t ∧ s2[nn]? = some { x with cs := x.cs.take kk } ∧ kk ≤ x.cs.length ∧ ∃ zn, s2[s.length]? = some zn ∧ zn.t = true ∧ zn.cs = x.cs.drop kk ∧
      (((∀ v ev, CmpIs s2 B2 nn kk s.length 0 v ev → ev = .nilIface ∧ v = -1) ∧ allC s2 B2 t = allC s B t) ∨ (∀ v ev, CmpIs s2 B2 nn kk s.length 0 v ev → Flt ev)) := by
  obtain ⟨hr, hl2⟩ := R.size hy0
  rcases R with ⟨h0, _⟩ | ⟨_, _, h40, n1, k1, x1, e1, e2, hx1, ht1, hkk, R⟩
  · exact absurd hy0 h0
  obtain rfl : nn = n1 := by omega
  obtain rfl : kk = k1 := by omega
  obtain rfl : x = x1 := Option.some.inj (hx.symm.trans hx1)
  have hnl := (List.getElem?_eq_some_iff.1 hx).1
  have htl := tn.lt
  have tt := top_self tn
  -- the root stays where it is
  have hroot : (∃ q, s2[t]? = some q ∧ q.p = -1) → mvSp f ⟨t, 0, nn, 0⟩ = ⟨t, 0, nn, 0⟩ → IsTop s2 nn t := by
    intro ⟨q, hq, hqp⟩ hmv
    have h1 : SpIs s ⟨t, ((0 : Nat) : Int), nn, ((0 : Nat) : Int)⟩ := spIs_of_wh wf u htl hnl (Nat.zero_le _) (Nat.zero_le _) tt tn (by rw [wh_first]; exact wh_nonneg wf u hnl (Nat.zero_le _) tn)
    have h2 := L _ h1
    have e : mvSp f ⟨t, ((0 : Nat) : Int), nn, ((0 : Nat) : Int)⟩ = ⟨t, ((0 : Nat) : Int), nn, ((0 : Nat) : Int)⟩ := hmv
    rw [e] at h2
    obtain ⟨a3, b3, c3, d3, t3, e3, _, _, _, _, ta3, tc3, _⟩ := h2.where_ wf2 u2
    simp only [Sp.mk.injEq, Int.natCast_inj] at e3
    obtain ⟨rfl, _, rfl, _⟩ := e3
    have : IsTop s2 t t := ⟨⟨0, rfl⟩, q, hq, hqp⟩
    obtain rfl := ta3.one this
    exact tc3
  rcases R with ⟨hp, e, ef⟩ | ⟨j, m, y1, hp, hy, hm, hno, hnj, e, ef⟩
  · have hx5 : s2[nn]? = some { x with cs := x.cs.take kk } := by rw [e, List.getElem?_set_self (by simp; omega)]
    have hz5 : s2[s.length]? = some (⟨true, x.cs.drop kk, [], -1⟩ : Nd) := by rw [e, List.getElem?_set_ne (by omega), List.getElem?_append_right (Nat.le_refl _)]; simp
    have tnn : IsTop s nn nn := ⟨⟨0, rfl⟩, x, hx, hp⟩
    obtain rfl : t = nn := tn.one tnn
    have t2 : IsTop s2 t t := ⟨⟨0, rfl⟩, _, hx5, hp⟩
    refine ⟨hr, hl2, h40, t2, hx5, hkk, _, hz5, rfl, rfl, .inr (fun v ev c => ?_)⟩
    exact (c.other t2 (⟨⟨0, rfl⟩, _, hz5, rfl⟩ : IsTop s2 s.length s.length) (by omega)).2
  · have hjl := (List.getElem?_eq_some_iff.1 hy).1
    have hml : m < y1.ks.length := (List.getElem?_eq_some_iff.1 hm).1
    have hx5 : s2[nn]? = some { x with cs := x.cs.take kk } := by rw [e, List.getElem?_set_ne (by omega), List.getElem?_set_ne (fun q => hnj q.symm), List.getElem?_set_self (by simp; omega)]
    have hz5 : s2[s.length]? = some (⟨true, x.cs.drop kk, [], (j : Int)⟩ : Nd) := by rw [e, List.getElem?_set_self (by simp <;> omega)]
    have hy5 : s2[j]? = some { y1 with ks := y1.ks.take (m + 1) ++ s.length :: y1.ks.drop (m + 1) } := by rw [e, List.getElem?_set_ne (by omega), List.getElem?_set_self (by simp; omega)]
    have hoth : ∀ b, b ≠ nn → b ≠ s.length → b ≠ j → s2[b]? = s[b]? := by
      intro b h1 h2 h3
      rw [e, List.getElem?_set_ne (fun q => h2 q.symm), List.getElem?_set_ne (fun q => h3 q.symm), List.getElem?_set_ne (fun q => h1 q.symm)]
      by_cases hb : b < s.length
      · rw [List.getElem?_append_left hb]
      · rw [List.getElem?_eq_none (by simp; omega), List.getElem?_eq_none (by omega)]
    have htnn : t ≠ nn := fun q => by
      subst q
      obtain ⟨q, hq, hqp⟩ := tn.2
      rw [hx] at hq
      cases hq
      omega
    obtain ⟨q, hq, hqp⟩ := tn.2
    have hq2 : ∃ q, s2[t]? = some q ∧ q.p = -1 := by
      by_cases htj : t = j
      · subst htj
        rw [hy] at hq
        cases hq
        exact ⟨_, hy5, hqp⟩
      · exact ⟨q, by rw [hoth t htnn (by omega) htj]; exact hq, hqp⟩
    have t2 := hroot hq2 (by
      rw [ef]
      unfold mvSp carryF shiftF
      simp only [Sp.mk.injEq]
      rw [if_neg (by omega), if_neg (by omega), if_neg (by omega), if_neg (by omega)]
      exact ⟨rfl, rfl, rfl, rfl⟩)
    refine ⟨hr, hl2, h40, t2, hx5, hkk, _, hz5, rfl, rfl, .inl ⟨fun v ev c => ?_, ?_⟩⟩
    · have hsz : kk ≤ sizeAt s2 nn := by
        rw [(sizeAt_eq hx5).trans (sizeN_text ht)]
        show kk ≤ (x.cs.take kk).length
        rw [List.length_take]
        omega
      have hsp := spIs_next wf2 hy5 (m := m) (a := nn) (b := s.length) (ka := kk) (by
        show (y1.ks.take (m + 1) ++ s.length :: y1.ks.drop (m + 1))[m]? = some nn
        rw [List.getElem?_append_left (by rw [List.length_take]; omega), List.getElem?_take_of_lt (by omega)]
        exact hm) (by
        show (y1.ks.take (m + 1) ++ s.length :: y1.ks.drop (m + 1))[m + 1]? = some s.length
        rw [List.getElem?_append_right (by rw [List.length_take]; omega), List.length_take, show m + 1 - min (m + 1) y1.ks.length = 0 by omega]
        rfl) hsz
      obtain ⟨a3, b3, c3, d3, t3, e3, ha3, hc3, hb3, hd3, ta3, tc3, w3⟩ := hsp.where_ wf2 u2
      simp only [Sp.mk.injEq, Int.natCast_inj] at e3
      obtain ⟨rfl, rfl, rfl, rfl⟩ := e3
      obtain ⟨h1, h2⟩ := c.same ta3 tc3
      refine ⟨h1, ?_⟩
      have hne : wh (plF s2 (B2 + 1) t3) (nn, kk) ≠ wh (plF s2 (B2 + 1) t3) (s.length, 0) := fun q => by
        have := (wh_inj wf2 u2 ha3 hb3 hc3 hd3 ta3 tc3 q).1
        omega
      rw [h2, if_pos (by omega)]
    · have tt2 := top_self t2
      rw [allC_txt wf2 u2 t2.lt tt2, allC_txt wf u htl tt]
      rw [txt_stable wf2 u2 (k' := B + B2 + 2) (by have := u2.le t; omega) (by have := u2.le t; omega), txt_stable wf u (k := B + 1) (k' := B + B2 + 2) (by have := u.le t; omega) (by have := u.le t; omega)]
      exact txt_split wf hx ht hp hy hm hx5 hz5 hy5 hoth _ t htnn htl
end Go.Proofs.YtabogkonklplcaaGreatDoor
