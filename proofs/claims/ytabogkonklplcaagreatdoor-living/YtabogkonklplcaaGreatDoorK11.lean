import Derived.Test.YtabogkonklplcaaGreatDoorK06
import Derived.Deep.RegionLaw
import Derived.Deep.RegionHeld3
import Derived.Deep.Cut
import Derived.Deep.CutRange
import Derived.Deep.RegionWith
import Derived.BigQuiet
import Derived.Deep.QuietTactic
import Derived.Laws.AppendOwnNone

namespace Go.Proofs.YtabogkonklplcaaGreatDoor
open Go.RowKit
set_option linter.unusedSimpArgs false
set_option linter.unusedVariables false
def errV (a y : Int) : Value := if y = 0 then .nilIface else .iface 32 (.agg #[.int .i64 a, .int .i64 y])
end Go.Proofs.YtabogkonklplcaaGreatDoor

namespace Go.Proofs.YtabogkonklplcaaGreatDoor
open Go.RowKit
set_option linter.unusedSimpArgs false
set_option linter.unusedVariables false
structure St where
  n : List Nd
  r : List Sp
structure PDT where
  lies : World → (Nat → Prop) → Nat → St → Prop
  ok : St → Prop
instance : CoeFun PDT (fun _ => World → (Nat → Prop) → Nat → St → Prop) := ⟨PDT.lies⟩
abbrev RDocS (w : World) (F : Nat → Prop) (bd : Nat) (s : St) : Prop := RDoc w F bd s.n s.r
structure PDOk (PD : PDT) : Prop where
  keeps : ∀ {w w' : World} {F G : Nat → Prop} {b : Nat} {s : St}, PD w F b s → Keeps G w w' → (∀ b, F b → ¬ G b) → PD w' F b s
  wider : ∀ {w : World} {F G : Nat → Prop} {b : Nat} {s : St}, PD w F b s → (∀ b, F b → G b) → PD w G b s
  narrow : ∀ {w : World} {F : Nat → Prop} {b : Nat} {s : St}, PD w F b s → PD w (fun k => F k ∧ k < w.heap.size) b s
  root : PD.ok ⟨[rootNd], []⟩
def grow (F : Nat → Prop) (w : World) : Nat → Prop := fun b => F b ∨ w.heap.size ≤ b
abbrev ptr (b : Nat) : Value := .pointer (some ⟨b, 0, none⟩)
def PlayAt (w : World) (yb : Nat) (psv : Value) : Prop := ∃ (l0 : Value) (a0 y0 : Int), l0 = errV a0 y0 ∧ w.heap[yb]? = some (.cells #[psv, l0, .int .i64 a0, .int .i64 y0] 34 (0, 0))
abbrev opV (kind D A B C : Int) (S : ByteArray) (p0 p1 q0 q1 : Int) : Value := .agg #[.int .i64 kind, .int .i64 D, .int .i64 A, .int .i64 B, .int .i64 C, .string S, .int .i64 p0, .int .i64 p1, .int .i64 q0, .int .i64 q1]
section
variable {PD : PDT} {G : World → Prop} {FP FR : Nat → Prop} {w : World} {yb bx bd : Nat} {psv : Value} {s : St}
theorem PlayAt.keeps {w w' : World} {F : Nat → Prop} (h : PlayAt w yb psv) (hk : Keeps F w w') (hF : ¬ F yb) : PlayAt w' yb psv := by
  obtain ⟨l0, a0, y0, he, h⟩ := h
  exact ⟨l0, a0, y0, he, (hk.block yb (heap_lt h) hF).trans h⟩
theorem RDoc.narrow {w : World} {F : Nat → Prop} {bd : Nat} {s : List Nd} {rs : List Sp} (h : RDoc w F bd s rs) : RDoc w (fun b => F b ∧ b < w.heap.size) bd s rs := by
  obtain ⟨bn, cap, rn, rv, h⟩ := h
  exact ⟨bn, cap, rn, rv, h.narrow⟩
theorem RDoc.wider {w : World} {F G : Nat → Prop} {bd : Nat} {s : List Nd} {rs : List Sp} (h : RDoc w F bd s rs) (hG : ∀ b, F b → G b) : RDoc w G bd s rs := by
  obtain ⟨bn, cap, rn, rv, h⟩ := h
  exact ⟨bn, cap, rn, rv, h.wider hG⟩
end
end Go.Proofs.YtabogkonklplcaaGreatDoor

namespace Go.Proofs.YtabogkonklplcaaGreatDoor
open Go.RowKit
set_option linter.unusedSimpArgs false
set_option linter.unusedVariables false
structure DocR where
  bx : Nat
  bd : Nat
  s : St
structure Inv (PD : PDT) (Q : Nat → Prop) (w0 w : World) (yb : Nat) (docs : List DocR) (own : Nat → Nat) (psv : Value) : Prop where
  play : PlayAt w yb psv
  row : w.ownsRow 0 44 2 psv docs.length (docs.flatMap fun d => [ptr d.bx, ptr d.bd])
  oy : own yb = 1
  ops : ∀ b, psv.ownBlock = some b → own b = 1 ∧ b ≠ yb
  ol : ∀ b, own b ≠ 0 → Q b ∧ b < w.heap.size
  bl : ∀ b, w.heap.size ≤ b → Q b
  fr : Keeps Q w0 w
  doc : ∀ (i : Nat) (d : DocR), docs[i]? = some d → PD w (fun b => own b = 2 * i + 2) d.bx d.s ∧ RDocS w (fun b => own b = 2 * i + 3) d.bd d.s ∧ PD.ok d.s
def InvE (PD : PDT) (Q : Nat → Prop) (w0 w : World) (yb : Nat) (docs : List DocR) : Prop := ∃ own psv, Inv PD Q w0 w yb docs own psv
section
variable {PD : PDT} {Q : Nat → Prop} {w0 w : World} {yb : Nat} {docs : List DocR} {own : Nat → Nat} {psv : Value}
theorem InvE.below {w' : World} (hPD : PDOk PD) (h : InvE PD Q w0 w yb docs) (hb : Below w.heap.size w w') : InvE PD Q w0 w' yb docs := by
  obtain ⟨own, psv, h⟩ := h
  have hk := Keeps.of_below (F := fun _ => False) hb
  have hz := hb.size
  have hbl := h.bl
  refine ⟨own, psv, h.play.keeps hk (fun e => e), hk.row h.row (fun _ _ e => e), h.oy, h.ops, fun b e => ⟨(h.ol b e).1, by have := (h.ol b e).2; omega⟩, fun b e => hbl b (by omega), h.fr.trans (Keeps.of_below hb), fun i d hd => ?_⟩
  obtain ⟨h1, h2, h3⟩ := h.doc i d hd
  exact ⟨hPD.keeps h1 hk (fun _ _ e => e), h2.keeps hk (fun _ _ e => e), h3⟩
def NewOk (PD : PDT) (G : World → Prop) : Prop := ∀ w : World, G w → Calls Tryz.prog 40 #[] w fun e w' => ∃ bx, e = .returned (ptr bx) ∧ Below w.heap.size w w' ∧ PD w' (fun b => w.heap.size ≤ b) bx ⟨[rootNd], []⟩
end
end Go.Proofs.YtabogkonklplcaaGreatDoor

namespace Go.Proofs.YtabogkonklplcaaGreatDoor
open Go.RowKit
set_option linter.unusedSimpArgs false
set_option linter.unusedVariables false
theorem wf_push {s : List Nd} (wf : WF s) (h40 : s.length < 40) (x : Nd) (hp : x.p = -1) (hk : x.ks = []) (he : x.t = false → x.cs = []) (hc : x.cs.length ≤ 30 ∧ ∀ c ∈ x.cs, IsCh c) : WF (s ++ [x]) := by
  have old : ∀ {i : Nat} {y : Nd}, (s ++ [x])[i]? = some y → s[i]? = some y ∨ (i = s.length ∧ y = x) := by
    intro i y h
    by_cases hi : i < s.length
    · rw [List.getElem?_append_left hi] at h; exact .inl h
    · rw [List.getElem?_append_right (by omega)] at h
      have h1 := (List.getElem?_eq_some_iff.1 h).1
      simp at h1
      have e : i = s.length := by omega
      subst e
      simp at h
      exact .inr ⟨rfl, h.symm⟩
  have new : ∀ {i : Nat} {y : Nd}, s[i]? = some y → (s ++ [x])[i]? = some y := by
    intro i y h
    rw [List.getElem?_append_left (List.getElem?_eq_some_iff.1 h).1]; exact h
  refine ⟨by simp, by simp; omega, ?_, ?_, ?_, ?_, ?_, ?_, ?_⟩
  · obtain ⟨h, B, u⟩ := wf.up
    refine ⟨h, B, u.le, fun i y hy hyp => ?_⟩
    rcases old hy with hy | ⟨rfl, rfl⟩
    · have := u.par i y hy hyp
      exact ⟨by simp; omega, this.2⟩
    · rw [hp] at hyp; omega
  · intro i y hy c hc2
    rcases old hy with hy | ⟨rfl, rfl⟩
    · obtain ⟨z, hz, hzp⟩ := wf.kid i y hy c hc2
      exact ⟨z, new hz, hzp⟩
    · rw [hk] at hc2; simp at hc2
  · intro c y hy
    rcases old hy with hy | ⟨rfl, rfl⟩
    · rcases wf.par c y hy with h | ⟨i, z, h1, h2, h3⟩
      · exact .inl h
      · exact .inr ⟨i, z, h1, new h2, h3⟩
    · exact .inl hp
  · intro i y hy
    rcases old hy with hy | ⟨rfl, rfl⟩
    · exact wf.nodup i y hy
    · rw [hk]; simp
  · intro y hy
    rcases old hy with hy | ⟨h, rfl⟩
    · exact wf.root y hy
    · exact hp
  · intro i y hy
    rcases old hy with hy | ⟨rfl, rfl⟩
    · exact wf.elem i y hy
    · exact ⟨fun _ => hk, he⟩
  · intro i y hy
    rcases old hy with hy | ⟨rfl, rfl⟩
    · exact wf.chars i y hy
    · exact hc
theorem set2_get {s : List Nd} {i j : Nat} {x y : Nd} (hx : s[i]? = some x) (hy : s[j]? = some y) (hij : i ≠ j) (ks : List Nat) (p : Int) (c : Nat) :
    ((s.set i { x with ks := ks }).set j { y with p := p })[c]? = (s[c]?).map (fun z => if c = j then { z with p := p } else if c = i then { z with ks := ks } else z) := by
  have hi := (List.getElem?_eq_some_iff.1 hx).1
  have hj := (List.getElem?_eq_some_iff.1 hy).1
  rw [List.getElem?_set, List.getElem?_set]
  by_cases h1 : j = c
  · subst h1
    rw [if_pos rfl, if_pos (by simpa using hj), hy]
    simp
  · rw [if_neg h1]
    by_cases h2 : i = c
    · subst h2
      rw [if_pos rfl, if_pos hi, hx]
      have e1 : ¬ i = j := hij
      simp [e1]
    · rw [if_neg h2]
      have e1 : ¬ c = j := fun e => h1 e.symm
      have e2 : ¬ c = i := fun e => h2 e.symm
      simp [e1, e2]
theorem within_true_of_climb {s : List Nd} {h : Nat → Nat} {B : Nat} (u : Up s h B) : ∀ (m d e : Nat), d < s.length → climb s m d = (e : Int) → Lim (fun c => withinF s c (d : Int) (e : Int)) true := by
  intro m
  induction m with
  | zero =>
    intro d e hd he
    have : d = e := by simp [climb] at he; omega
    subst this
    exact within_hit s _ (by omega)
  | succ m ih =>
    intro d e hd he
    by_cases hde : (d : Int) = (e : Int)
    · have : d = e := by omega
      subst this
      exact within_hit s _ (by omega)
    · have hx : s[d]? = some s[d] := List.getElem?_eq_getElem hd
      generalize s[d] = x at hx
      refine within_up s d x e hx hde ?_
      have e1 : climb s 1 d = x.p := by rw [climb_step (j := 0) (e := d) rfl]; simp [parOf, hx]
      by_cases hp : 0 ≤ x.p
      · obtain ⟨q, hq⟩ := Int.eq_ofNat_of_zero_le hp
        rw [hq] at e1 ⊢
        have e2 := climb_add e1 m
        rw [Nat.add_comm 1 m, he] at e2
        have := (u.par d x hx hp).1
        exact ih q e (by omega) e2.symm
      · exfalso
        have hneg : ∀ k, climb s (k + 1) d < 0 := by
          intro k
          induction k with
          | zero => rw [show (0 + 1) = 1 from rfl, e1]; omega
          | succ k ih2 => simp [climb] at ih2 ⊢; omega
        have := hneg m
        omega
theorem wf_insert {s : List Nd} (wf : WF s) {i j k : Nat} {x y : Nd} (h : InsOk s i j x y) (hw : Lim (fun c => withinF s c (i : Int) (j : Int)) false) (hk : k ≤ x.ks.length) :
    i ≠ j ∧ WF ((s.set i { x with ks := x.ks.take k ++ j :: x.ks.drop k }).set j { y with p := i }) := by
  obtain ⟨hx, hy, ht, hj, hyp⟩ := h
  have hil := (List.getElem?_eq_some_iff.1 hx).1
  have hjl := (List.getElem?_eq_some_iff.1 hy).1
  have hij : i ≠ j := by
    intro e
    subst e
    have := (within_hit s (i : Int) (by omega)).unique hw
    cases this
  obtain ⟨ht0, B, u⟩ := wf.up
  have noanc : ∀ m, climb s m i ≠ (j : Int) := by
    intro m e
    have := (within_true_of_climb u m i j hil e).unique hw
    cases this
  have jnot : j ∉ x.ks := by
    intro e
    obtain ⟨z, hz, hzp⟩ := wf.kid i x hx j e
    rw [hy] at hz
    cases hz
    omega
  have get := set2_get hx hy hij (x.ks.take k ++ j :: x.ks.drop k) (i : Int)
  have mem : ∀ c, c ∈ x.ks.take k ++ j :: x.ks.drop k ↔ c = j ∨ c ∈ x.ks := by
    intro c
    conv => rhs; rw [← List.take_append_drop k x.ks]
    simp only [List.mem_append, List.mem_cons]
    constructor
    · rintro (h | h | h) <;> simp [h]
    · rintro (h | h | h) <;> simp [h]
  -- what a node of the new state was
  have was : ∀ {c : Nat} {z' : Nd}, ((s.set i { x with ks := x.ks.take k ++ j :: x.ks.drop k }).set j { y with p := i })[c]? = some z' → ∃ z, s[c]? = some z ∧ z'.t = z.t ∧ z'.cs = z.cs ∧ z'.p = (if c = j then (i : Int) else z.p) ∧ z'.ks = (if c = i then x.ks.take k ++ j :: x.ks.drop k else z.ks) := by
    intro c z' hz'
    rw [get c] at hz'
    obtain ⟨z, hz, rfl⟩ := Option.map_eq_some_iff.1 hz'
    refine ⟨z, hz, ?_⟩
    by_cases e1 : c = j
    · subst e1
      have e2 : ¬ c = i := fun e => hij e.symm
      simp [e2]
    · by_cases e2 : c = i
      · subst e2; simp [e1]
      · simp [e1, e2]
  have now : ∀ {c : Nat} {z : Nd}, s[c]? = some z → ∃ z', ((s.set i { x with ks := x.ks.take k ++ j :: x.ks.drop k }).set j { y with p := i })[c]? = some z' ∧ z'.p = (if c = j then (i : Int) else z.p) ∧ z'.ks = (if c = i then x.ks.take k ++ j :: x.ks.drop k else z.ks) := by
    intro c z hz
    refine ⟨_, by rw [get c, hz]; rfl, ?_⟩
    by_cases e1 : c = j
    · subst e1
      have e2 : ¬ c = i := fun e => hij e.symm
      simp [e2]
    · by_cases e2 : c = i
      · subst e2; simp [e1]
      · simp [e1, e2]
  refine ⟨hij, by simpa using wf.pos, by simpa using wf.cap, ?_, ?_, ?_, ?_, ?_, ?_, ?_⟩
  · classical
    refine ⟨fun d => if ∃ m, climb s m i = (d : Int) then ht0 d + ht0 j + 1 else ht0 d, B + B + 1, fun d => ?_, fun d z' hz' hp' => ?_⟩
    · have h1 := u.le d
      have h2 := u.le j
      split <;> omega
    · obtain ⟨z, hz, _, _, hzp, _⟩ := was hz'
      have hdl := (List.getElem?_eq_some_iff.1 hz).1
      by_cases e1 : d = j
      · subst e1
        rw [if_pos rfl] at hzp
        rw [hzp]
        refine ⟨by simp; omega, ?_⟩
        simp only [Int.toNat_natCast]
        rw [if_neg (by rintro ⟨m, hm⟩; exact noanc m hm), if_pos ⟨0, rfl⟩]
        omega
      · rw [if_neg e1] at hzp
        rw [hzp] at hp' ⊢
        have hu := u.par d z hz hp'
        refine ⟨by simp; omega, ?_⟩
        obtain ⟨q, hq⟩ := Int.eq_ofNat_of_zero_le hp'
        rw [hq] at hu ⊢
        simp only [Int.toNat_natCast] at hu ⊢
        by_cases ha : ∃ m, climb s m i = (d : Int)
        · obtain ⟨m, hm⟩ := ha
          have e2 : climb s (m + 1) i = (q : Int) := by rw [climb_step hm]; simp [parOf, hz, hq]
          rw [if_pos ⟨m, hm⟩, if_pos ⟨m + 1, e2⟩]
          omega
        · rw [if_neg ha]
          split <;> omega
  · intro a z' hz' c hc
    obtain ⟨z, hz, _, _, _, hzk⟩ := was hz'
    rw [hzk] at hc
    by_cases e : a = i
    · subst e
      rw [if_pos rfl, mem] at hc
      rcases hc with rfl | hc
      · obtain ⟨z2, h2, hp2, _⟩ := now hy
        exact ⟨z2, h2, by rw [hp2, if_pos rfl]⟩
      · obtain ⟨z2, h2, hp2⟩ := wf.kid a x hx c hc
        obtain ⟨z3, h3, hp3, _⟩ := now h2
        refine ⟨z3, h3, ?_⟩
        rw [hp3]
        by_cases ec : c = j
        · subst ec; exact absurd hc jnot
        · rw [if_neg ec]; exact hp2
    · rw [if_neg e] at hc
      obtain ⟨z2, h2, hp2⟩ := wf.kid a z hz c hc
      obtain ⟨z3, h3, hp3, _⟩ := now h2
      refine ⟨z3, h3, ?_⟩
      rw [hp3]
      by_cases ec : c = j
      · subst ec
        rw [hy] at h2
        cases h2
        omega
      · rw [if_neg ec]; exact hp2
  · intro c z' hz'
    obtain ⟨z, hz, _, _, hzp, _⟩ := was hz'
    by_cases e1 : c = j
    · subst e1
      rw [if_pos rfl] at hzp
      obtain ⟨z2, h2, _, hk2⟩ := now hx
      rw [if_pos rfl] at hk2
      exact .inr ⟨i, z2, hzp, h2, by rw [hk2, mem]; exact .inl rfl⟩
    · rw [if_neg e1] at hzp
      rcases wf.par c z hz with hm | ⟨a, z2, h1, h2, h3⟩
      · exact .inl (by rw [hzp]; exact hm)
      · obtain ⟨z3, h4, _, hk3⟩ := now h2
        refine .inr ⟨a, z3, by rw [hzp]; exact h1, h4, ?_⟩
        rw [hk3]
        by_cases ea : a = i
        · subst ea
          rw [if_pos rfl, mem]
          rw [hx] at h2
          cases h2
          exact .inr h3
        · rw [if_neg ea]; exact h3
  · intro a z' hz'
    obtain ⟨z, hz, _, _, _, hzk⟩ := was hz'
    rw [hzk]
    by_cases e : a = i
    · rw [if_pos e]
      have hn := wf.nodup i x hx
      have e2 : x.ks = x.ks.take k ++ x.ks.drop k := (List.take_append_drop k x.ks).symm
      rw [e2, List.nodup_append] at hn
      have j1 : j ∉ x.ks.take k := fun h => jnot (List.mem_of_mem_take h)
      have j2 : j ∉ x.ks.drop k := fun h => jnot (List.mem_of_mem_drop h)
      rw [List.nodup_append, List.nodup_cons]
      refine ⟨hn.1, ⟨j2, hn.2.1⟩, fun p hp q hq => ?_⟩
      rcases List.mem_cons.1 hq with rfl | hq
      · exact fun e => j1 (e ▸ hp)
      · exact hn.2.2 p hp q hq
    · rw [if_neg e]; exact wf.nodup a z hz
  · intro z' hz'
    obtain ⟨z, hz, _, _, hzp, _⟩ := was hz'
    rw [hzp, if_neg (by omega)]
    exact wf.root z hz
  · intro a z' hz'
    obtain ⟨z, hz, hzt, hzc, _, hzk⟩ := was hz'
    rw [hzt, hzc, hzk]
    have he := wf.elem a z hz
    refine ⟨fun h => ?_, he.2⟩
    by_cases e : a = i
    · subst e
      rw [hx] at hz
      cases hz
      rw [ht] at h
      cases h
    · rw [if_neg e]; exact he.1 h
  · intro a z' hz'
    obtain ⟨z, hz, _, hzc, _, _⟩ := was hz'
    rw [hzc]
    exact wf.chars a z hz
theorem wf_remove {s : List Nd} (wf : WF s) {i j m : Nat} {x y : Nd} (hx : s[i]? = some x) (hxp : x.p = (j : Int)) (hy : s[j]? = some y) (hm : y.ks[m]? = some i) :
    i ≠ j ∧ WF ((s.set j { y with ks := y.ks.take m ++ y.ks.drop (m + 1) }).set i { x with p := -1 }) := by
  have hil := (List.getElem?_eq_some_iff.1 hx).1
  have hjl := (List.getElem?_eq_some_iff.1 hy).1
  have hml := (List.getElem?_eq_some_iff.1 hm).1
  obtain ⟨ht0, B, u⟩ := wf.up
  have hij : j ≠ i := by
    intro e
    subst e
    have := (u.par j x hx (by omega)).2
    rw [hxp] at this
    simp at this
  have hn := wf.nodup j y hy
  have split : y.ks = y.ks.take m ++ i :: y.ks.drop (m + 1) := by
    conv => lhs; rw [← List.take_append_drop m y.ks]
    rw [List.drop_eq_getElem_cons hml]
    have : y.ks[m] = i := by rw [List.getElem?_eq_getElem hml] at hm; exact Option.some.inj hm
    rw [this]
  have hn2 := hn
  rw [split, List.nodup_append, List.nodup_cons] at hn2
  have i1 : i ∉ y.ks.take m := fun h => hn2.2.2 i h i (by simp) rfl
  have mem : ∀ c, c ∈ y.ks.take m ++ y.ks.drop (m + 1) ↔ c ≠ i ∧ c ∈ y.ks := by
    intro c
    constructor
    · intro h
      rw [List.mem_append] at h
      refine ⟨?_, ?_⟩
      · rintro rfl
        rcases h with h | h
        · exact i1 h
        · exact hn2.2.1.1 h
      · rcases h with h | h
        · exact List.mem_of_mem_take h
        · exact List.mem_of_mem_drop h
    · rintro ⟨h1, h2⟩
      rw [split] at h2
      simp only [List.mem_append, List.mem_cons] at h2 ⊢
      rcases h2 with h | h | h
      · exact .inl h
      · exact absurd h h1
      · exact .inr h
  have get := set2_get hy hx hij (y.ks.take m ++ y.ks.drop (m + 1)) (-1 : Int)
  have was : ∀ {c : Nat} {z' : Nd}, ((s.set j { y with ks := y.ks.take m ++ y.ks.drop (m + 1) }).set i { x with p := -1 })[c]? = some z' → ∃ z, s[c]? = some z ∧ z'.t = z.t ∧ z'.cs = z.cs ∧ z'.p = (if c = i then (-1 : Int) else z.p) ∧ z'.ks = (if c = j then y.ks.take m ++ y.ks.drop (m + 1) else z.ks) := by
    intro c z' hz'
    rw [get c] at hz'
    obtain ⟨z, hz, rfl⟩ := Option.map_eq_some_iff.1 hz'
    refine ⟨z, hz, ?_⟩
    by_cases e1 : c = i
    · subst e1
      have e2 : ¬ c = j := fun e => hij e.symm
      simp [e2]
    · by_cases e2 : c = j
      · subst e2; simp [e1]
      · simp [e1, e2]
  have now : ∀ {c : Nat} {z : Nd}, s[c]? = some z → ∃ z', ((s.set j { y with ks := y.ks.take m ++ y.ks.drop (m + 1) }).set i { x with p := -1 })[c]? = some z' ∧ z'.p = (if c = i then (-1 : Int) else z.p) ∧ z'.ks = (if c = j then y.ks.take m ++ y.ks.drop (m + 1) else z.ks) := by
    intro c z hz
    refine ⟨_, by rw [get c, hz]; rfl, ?_⟩
    by_cases e1 : c = i
    · subst e1
      have e2 : ¬ c = j := fun e => hij e.symm
      simp [e2]
    · by_cases e2 : c = j
      · subst e2; simp [e1]
      · simp [e1, e2]
  refine ⟨fun e => hij e.symm, by simpa using wf.pos, by simpa using wf.cap, ?_, ?_, ?_, ?_, ?_, ?_, ?_⟩
  · refine ⟨ht0, B, u.le, fun d z' hz' hp' => ?_⟩
    obtain ⟨z, hz, _, _, hzp, _⟩ := was hz'
    by_cases e1 : d = i
    · rw [if_pos e1] at hzp; omega
    · rw [if_neg e1] at hzp
      rw [hzp] at hp' ⊢
      have := u.par d z hz hp'
      exact ⟨by simpa using this.1, this.2⟩
  · intro a z' hz' c hc
    obtain ⟨z, hz, _, _, _, hzk⟩ := was hz'
    rw [hzk] at hc
    have hc2 : c ∈ z.ks ∧ c ≠ i := by
      by_cases e : a = j
      · subst e
        rw [if_pos rfl, mem] at hc
        rw [hy] at hz
        cases hz
        exact ⟨hc.2, hc.1⟩
      · rw [if_neg e] at hc
        refine ⟨hc, ?_⟩
        rintro rfl
        obtain ⟨z2, h2, hp2⟩ := wf.kid a z hz c hc
        rw [hx] at h2
        cases h2
        rw [hxp] at hp2
        exact e (by omega)
    obtain ⟨z2, h2, hp2⟩ := wf.kid a z hz c hc2.1
    obtain ⟨z3, h3, hp3, _⟩ := now h2
    exact ⟨z3, h3, by rw [hp3, if_neg hc2.2]; exact hp2⟩
  · intro c z' hz'
    obtain ⟨z, hz, _, _, hzp, _⟩ := was hz'
    by_cases e1 : c = i
    · rw [if_pos e1] at hzp; exact .inl hzp
    · rw [if_neg e1] at hzp
      rcases wf.par c z hz with hmm | ⟨a, z2, h1, h2, h3⟩
      · exact .inl (by rw [hzp]; exact hmm)
      · obtain ⟨z3, h4, _, hk3⟩ := now h2
        refine .inr ⟨a, z3, by rw [hzp]; exact h1, h4, ?_⟩
        rw [hk3]
        by_cases ea : a = j
        · subst ea
          rw [if_pos rfl, mem]
          rw [hy] at h2
          cases h2
          exact ⟨e1, h3⟩
        · rw [if_neg ea]; exact h3
  · intro a z' hz'
    obtain ⟨z, hz, _, _, _, hzk⟩ := was hz'
    rw [hzk]
    by_cases e : a = j
    · rw [if_pos e, List.nodup_append]
      exact ⟨hn2.1, hn2.2.1.2, fun p hp q hq => hn2.2.2 p hp q (by simp [hq])⟩
    · rw [if_neg e]; exact wf.nodup a z hz
  · intro z' hz'
    obtain ⟨z, hz, _, _, hzp, _⟩ := was hz'
    rw [hzp]
    split
    · rfl
    · exact wf.root z hz
  · intro a z' hz'
    obtain ⟨z, hz, hzt, hzc, _, hzk⟩ := was hz'
    rw [hzt, hzc, hzk]
    have he := wf.elem a z hz
    refine ⟨fun h => ?_, he.2⟩
    have h1 := he.1 h
    by_cases e : a = j
    · subst e
      rw [hy] at hz
      cases hz
      rw [if_pos rfl, h1]; simp
    · rw [if_neg e]; exact h1
  · intro a z' hz'
    obtain ⟨z, hz, _, hzc, _, _⟩ := was hz'
    rw [hzc]
    exact wf.chars a z hz
theorem WF.place {s : List Nd} (wf : WF s) {i : Nat} {x : Nd} (hx : s[i]? = some x) (hp : 0 ≤ x.p) : ∃ (j m : Nat) (y : Nd), x.p = (j : Int) ∧ s[j]? = some y ∧ y.ks[m]? = some i ∧ i ∉ y.ks.take m ∧ y.ks.length ≤ 40 := by
  rcases wf.par i x hx with h | ⟨j, y, h1, h2, h3⟩
  · omega
  · obtain ⟨m, hm, he⟩ := List.getElem_of_mem h3
    have hm' : y.ks[m]? = some i := by rw [List.getElem?_eq_getElem hm, he]
    obtain ⟨ht, B, u⟩ := wf.up
    refine ⟨j, m, y, h1, h2, hm', ?_, nodup_length 40 _ (wf.nodup j y h2) (fun c hc => by have := (wf.kid_lt u h2 hc).1; have := wf.cap; omega)⟩
    intro hi
    obtain ⟨q, hq, hqe⟩ := List.getElem_of_mem hi
    rw [List.getElem_take] at hqe
    have hq' : q < m := by simp at hq; omega
    have := (List.nodup_iff_pairwise_ne.1 (wf.nodup j y h2))
    exact absurd (hqe.trans he.symm) (List.pairwise_iff_getElem.1 this q m (by omega) hm hq')
end Go.Proofs.YtabogkonklplcaaGreatDoor

namespace Go.Proofs.YtabogkonklplcaaGreatDoor
open Go.RowKit
set_option linter.unusedSimpArgs false
set_option linter.unusedVariables false
section
variable {w : World} {F : Nat → Prop} {bd bn cap : Nat} {rn : List RN} {rv : Value} {s : List Nd} {rs : List Sp}
theorem RDocAt.drewN (h : RDocAt w F bd bn cap rn rv s rs) (n : Nat) : RDocAt (w.drewN n) F bd bn cap rn rv s rs :=
  h.keeps (G := fun _ => False) ⟨rfl, rfl, rfl, Nat.le_refl _, fun _ _ _ => rfl⟩ (fun _ _ e => e)
theorem RDocAt.drew (h : RDocAt w F bd bn cap rn rv s rs) : RDocAt w.drew F bd bn cap rn rv s rs := h.drewN 1
end
end Go.Proofs.YtabogkonklplcaaGreatDoor

namespace Go.Proofs.YtabogkonklplcaaGreatDoor
open Go.RowKit
set_option linter.unusedSimpArgs false
set_option linter.unusedVariables false
theorem all_kid {s : List Nd} (wf : WF s) {h : Nat → Nat} {B : Nat} (u : Up s h B) : ∀ (k e p d : Nat), h e < k → p ∈ allF s k e → d ∈ kidsOf s p → d ∈ allF s k e := by
  intro k
  induction k with
  | zero => intro e p d he; omega
  | succ k ih =>
    intro e p d he hp hd
    simp only [allF, List.mem_cons, List.mem_flatMap] at hp ⊢
    rcases hp with rfl | ⟨c, hc, hp⟩
    · obtain ⟨x, hx, hdx⟩ := kidsOf_mem hd
      have hh := (wf.kid_lt u hx hdx).2
      refine .inr ⟨d, hd, ?_⟩
      obtain ⟨k', rfl⟩ : ∃ k', k = k' + 1 := ⟨k - 1, by omega⟩
      simp [allF]
    · obtain ⟨x, hx, hcx⟩ := kidsOf_mem hc
      have hh := (wf.kid_lt u hx hcx).2
      exact .inr ⟨c, hc, ih c p d (by omega) hp hd⟩
theorem all_of_climb {s : List Nd} (wf : WF s) {h : Nat → Nat} {B : Nat} (u : Up s h B) (k e : Nat) (he : h e < k) : ∀ (m d : Nat), d < s.length → climb s m d = (e : Int) → d ∈ allF s k e := by
  intro m
  induction m with
  | zero =>
    intro d hd hc
    have : d = e := by simp [climb] at hc; omega
    subst this
    obtain ⟨k', rfl⟩ : ∃ k', k = k' + 1 := ⟨k - 1, by omega⟩
    simp [allF]
  | succ m ih =>
    intro d hd hc
    have hx : s[d]? = some s[d] := List.getElem?_eq_getElem hd
    generalize s[d] = x at hx
    have e1 : climb s 1 d = x.p := by rw [climb_step (j := 0) (e := d) rfl]; simp [parOf, hx]
    rcases wf.par d x hx with hp | ⟨i, y, hp, hy, hdy⟩
    · exfalso
      have hneg : ∀ k, climb s (k + 1) d < 0 := by
        intro k
        induction k with
        | zero => rw [show (0 + 1) = 1 from rfl, e1]; omega
        | succ k ih2 => simp [climb] at ih2 ⊢; omega
      have := hneg m
      omega
    · rw [hp] at e1
      have e2 := climb_add e1 m
      rw [Nat.add_comm 1 m, hc] at e2
      exact all_kid wf u k e i d he (ih i (List.getElem?_eq_some_iff.1 hy).1 e2.symm) (by rw [kidsOf_eq hy]; exact hdy)
theorem within_cases {s : List Nd} (wf : WF s) {h : Nat → Nat} {B : Nat} (u : Up s h B) (o : Nat) : ∀ (N i : Nat), B + 1 - h i ≤ N → i < s.length → (∃ m, climb s m i = (o : Int)) ∨ Lim (fun c => withinF s c (i : Int) (o : Int)) false := by
  intro N
  induction N with
  | zero => intro i hi; have := u.le i; omega
  | succ N ih =>
    intro i hi hl
    by_cases hio : i = o
    · exact .inl ⟨0, by simp [climb, hio]⟩
    · have hx : s[i]? = some s[i] := List.getElem?_eq_getElem hl
      generalize s[i] = x at hx
      have e1 : climb s 1 i = x.p := by rw [climb_step (j := 0) (e := i) rfl]; simp [parOf, hx]
      rcases wf.par i x hx with hp | ⟨q, y, hp, hy, hdy⟩
      · exact .inr (within_up s i x o hx (by omega) (by rw [hp]; exact within_end s _ _ (by omega)))
      · have hh := (u.par i x hx (by omega)).2
        rw [hp] at hh e1
        simp at hh
        have hb := u.le q
        have hc := u.le i
        rcases ih q (by omega) (List.getElem?_eq_some_iff.1 hy).1 with ⟨m, hm⟩ | hf
        · exact .inl ⟨1 + m, by rw [climb_add e1 m]; exact hm⟩
        · exact .inr (within_up s i x o hx (by omega) (by rw [hp]; exact hf))
theorem holds_no {s : List Nd} (wf : WF s) {h : Nat → Nat} {B : Nat} (u : Up s h B) {k n d : Nat} (hd : d < s.length) (hk : h n < k) (hm : d ∉ allF s k n) : Lim (fun c => withinF s c (d : Int) (n : Int)) false := by
  rcases within_cases wf u n _ d (Nat.le_refl _) hd with ⟨m, hc⟩ | hf
  · exact absurd (all_of_climb wf u k n hk m d hd hc) hm
  · exact hf
end Go.Proofs.YtabogkonklplcaaGreatDoor

namespace Go.Proofs.YtabogkonklplcaaGreatDoor
open Go.RowKit
set_option linter.unusedSimpArgs false
set_option linter.unusedVariables false
section
variable {w : World} {F : Nat → Prop} {bd bn cap : Nat} {rn : List RN} {rv : Value} {s : List Nd} {rs : List Sp}
end
end Go.Proofs.YtabogkonklplcaaGreatDoor

namespace Go.Proofs.YtabogkonklplcaaGreatDoor
open Go.RowKit
set_option linter.unusedSimpArgs false
set_option linter.unusedVariables false
section
variable {w : World} {F : Nat → Prop} {bd bn cap : Nat} {rn : List RN} {rv : Value} {s : List Nd} {rs : List Sp}
end
end Go.Proofs.YtabogkonklplcaaGreatDoor

namespace Go.Proofs.YtabogkonklplcaaGreatDoor
open Go.RowKit
set_option linter.unusedSimpArgs false
set_option linter.unusedVariables false
def sizeN (x : Nd) : Nat := if x.t = true then x.cs.length else x.ks.length
theorem sizeN_text {x : Nd} (h : x.t = true) : sizeN x = x.cs.length := by simp [sizeN, h]
theorem sizeN_elem {x : Nd} (h : x.t = false) : sizeN x = x.ks.length := by simp [sizeN, h]
def IsTop (s : List Nd) (n t : Nat) : Prop := (∃ m, climb s m n = (t : Int)) ∧ ∃ x, s[t]? = some x ∧ x.p = -1
def TopPost (s : List Nd) (n : Nat) (w : World) (e : Ending) (w' : World) : Prop := (∃ t : Nat, e = .returned (.int .i64 t) ∧ IsTop s n t) ∧ w' = w
def TopInv (s : List Nd) (n : Nat) (w : World) (a : Value) (wr : World) : Prop := wr = w ∧ ∃ (c m : Nat), a = .int .i64 c ∧ c < s.length ∧ climb s m n = (c : Int)
section
variable {w : World} {F : Nat → Prop} {bd bn cap : Nat} {rn : List RN} {rv : Value} {s : List Nd} {rs : List Sp}
abbrev pf (w : World) (n k : Int) : World := (w.alloc (.cells #[.int .i64 n, .int .i64 k] 37)).alloc (.cells #[.int .i64 0, .int .i64 0] 32)
theorem RDocAt.pf (hD : RDocAt w F bd bn cap rn rv s rs) (n k : Int) : RDocAt (pf w n k) F bd bn cap rn rv s rs := hD.below (((Below.refl _ w).alloc (Nat.le_refl _) _).alloc (by simp) _)
end
end Go.Proofs.YtabogkonklplcaaGreatDoor

namespace Go.Proofs.YtabogkonklplcaaGreatDoor
open Go.RowKit
set_option linter.unusedSimpArgs false
set_option linter.unusedVariables false
section
variable {F : Nat → Prop} {bd bn cap : Nat} {rn : List RN} {rv : Value} {s : List Nd} {rs : List Sp}
variable {w : World}
end
end Go.Proofs.YtabogkonklplcaaGreatDoor

namespace Go.Proofs.YtabogkonklplcaaGreatDoor
open Go.RowKit
set_option linter.unusedSimpArgs false
set_option linter.unusedVariables false
def plV (l : List (Nat × Nat)) : List Value := l.flatMap fun p => [.int .i64 p.1, .int .i64 p.2]
@[simp] theorem plV_length (l : List (Nat × Nat)) : (plV l).length = 2 * l.length := by
  induction l with
  | nil => rfl
  | cons a l ih => simp [plV] at ih ⊢; omega
@[simp] theorem plV_append (l m : List (Nat × Nat)) : plV (l ++ m) = plV l ++ plV m := by simp [plV]
theorem below_drewN {B : Nat} {a w : World} (h : Below B a w) (n : Nat) : Below B a (w.drewN n) := ⟨h.os, h.tape, h.output, h.size, h.block⟩
def IsWhere (l : List (Nat × Nat)) (p : Nat × Nat) (q : Int) : Prop := (∃ m : Nat, q = m ∧ l[m]? = some p ∧ p ∉ l.take m) ∨ (q = -1 ∧ p ∉ l)
end Go.Proofs.YtabogkonklplcaaGreatDoor

namespace Go.Proofs.YtabogkonklplcaaGreatDoor
open Go.RowKit
set_option linter.unusedSimpArgs false
set_option linter.unusedVariables false
def upTo (n : Nat) (ks : List Nat) (f : Nat → List (Nat × Nat)) (m : Nat) : List (Nat × Nat) :=
  (List.range m).flatMap fun i => (n, i) :: (match ks[i]? with | some c => f c | none => [])
def sizeAt (s : List Nd) (n : Nat) : Nat := match s[n]? with | some x => sizeN x | none => 0
theorem sizeAt_eq {s : List Nd} {n : Nat} {x : Nd} (h : s[n]? = some x) : sizeAt s n = sizeN x := by simp [sizeAt, h]
def plF (s : List Nd) : Nat → Nat → List (Nat × Nat)
  | 0, _ => []
  | k + 1, n => upTo n (kidsOf s n) (plF s k) (sizeAt s n + 1)
theorem kids_le {s : List Nd} (wf : WF s) {n : Nat} {x : Nd} (hx : s[n]? = some x) : x.ks.length ≤ 40 := by
  obtain ⟨h, B, u⟩ := wf.up
  exact Nat.le_trans (nodup_length s.length _ (wf.nodup n x hx) (fun c hc => (wf.kid_lt u hx hc).1)) wf.cap
theorem sizeN_le {s : List Nd} (wf : WF s) {n : Nat} {x : Nd} (hx : s[n]? = some x) : sizeN x ≤ 40 := by
  unfold sizeN
  split
  · have := (wf.chars n x hx).1; omega
  · exact kids_le wf hx
section
variable {F : Nat → Prop} {bd bn cap : Nat} {rn : List RN} {rv : Value} {s : List Nd} {rs : List Sp}
end
end Go.Proofs.YtabogkonklplcaaGreatDoor

namespace Go.Proofs.YtabogkonklplcaaGreatDoor
open Go.RowKit
set_option linter.unusedSimpArgs false
set_option linter.unusedVariables false
def SrcOk (w : World) (size : Nat) (xv : Value) (m : Nat) (news : List Value) : Prop :=
  (xv = .slice none 0 0 ∧ m = 0 ∧ news = []) ∨ ∃ ad c, xv = .slice (some ad) m c ∧ news.length = m * size ∧ (∀ j u, news[j]? = some u → w.cell? (ad.add j) = some u) ∧ ∀ u ∈ news, u.oneCell' = true
theorem wp_append_any {P : Program} (w : World) {o : Oper} {a : Act} {K : Act → World → Prop} {Q : Exit → Act → World → Prop} (s x : Operand) (t : TypeId)
    (ho : o.op = .call { callee := .builtin .append, args := #[s, x], argTypes := #[t, t] })
    (base : Nat) (e : TypeId) (i : TypeInfo) (z : Value) (size bytes : Nat) (ht : P.underlying t = some (.slice e)) (hi : P.info? e = some i) (hz : i.zero = some z)
    (hsize : i.size = size) (hby : i.bytes = bytes) (hzs : z.cells.size = size) (hsz : 0 < size)
    (v : Value) (n : Nat) (xs : List Value) (hs : a.eval s = v) (hown : w.ownsRow base e size v n xs)
    (xv : Value) (m : Nat) (news : List Value) (hx : a.eval x = xv) (hsrc : SrcOk w size xv m news)
    (h63 : n + m ≤ maxLen) (hbytes : (n + m) * bytes ≤ 140737488355328) (hbase : base ≤ w.heap.size)
    (h : ∀ v' w', w'.ownsRow base e size v' (n + m) (xs ++ news) → Below base w w' → K (a.put o.dst v') w') : o.wp P a w K Q := by
  rcases hsrc with ⟨rfl, rfl, rfl⟩ | ⟨ad, c, rfl, hl, hn, h1⟩
  · have hrun := run_append_owned_none (P := P) (w := w) base t o.type e i size ht hi v n xs hown
    unfold Oper.wp
    simp [execOp, ho, resolve, invoke, builtin, hs, hx, hrun, Result.andThen]
    exact h v w (by simpa using hown) (Below.refl _ w)
  · exact wp_append_own w s x t ho base e i z size bytes ht hi hz hsize hby hzs hsz v n xs hs hown ad m c news hx hl hn h1 h63 hbytes hbase
      (fun v' w' h2 h3 _ => h v' w' h2 ((Below.refl base w).grown h3 hbase (fun k e => (hown.lt k e).1)))
theorem wpList_append_any {P : Program} (w : World) {ops : Array Oper} {rest : List Oper} {o : Oper} {a : Act} {Q : Exit → Act → World → Prop} (hgd : o.guard = none) (s x : Operand) (t : TypeId)
    (ho : o.op = .call { callee := .builtin .append, args := #[s, x], argTypes := #[t, t] })
    (base : Nat) (e : TypeId) (i : TypeInfo) (z : Value) (size bytes : Nat) (ht : P.underlying t = some (.slice e)) (hi : P.info? e = some i) (hz : i.zero = some z)
    (hsize : i.size = size) (hby : i.bytes = bytes) (hzs : z.cells.size = size) (hsz : 0 < size)
    (v : Value) (n : Nat) (xs : List Value) (hs : a.eval s = v) (hown : w.ownsRow base e size v n xs)
    (xv : Value) (m : Nat) (news : List Value) (hx : a.eval x = xv) (hsrc : SrcOk w size xv m news)
    (h63 : n + m ≤ maxLen) (hbytes : (n + m) * bytes ≤ 140737488355328) (hbase : base ≤ w.heap.size)
    (h : ∀ v' w', w'.ownsRow base e size v' (n + m) (xs ++ news) → Below base w w' → wpList P ops Q rest (a.put o.dst v') w') : wpList P ops Q (o :: rest) a w :=
  wpList_plain hgd fun _ hK => wp_append_any w s x t ho base e i z size bytes ht hi hz hsize hby hzs hsz v n xs hs hown xv m news hx hsrc h63 hbytes hbase fun v' w' h2 h3 => hK _ _ (h v' w' h2 h3)
end Go.Proofs.YtabogkonklplcaaGreatDoor

namespace Go.Proofs.YtabogkonklplcaaGreatDoor
open Go.RowKit
set_option linter.unusedSimpArgs false
set_option linter.unusedVariables false
section
variable {w : World} {F : Nat → Prop} {bd bn cap : Nat} {rn : List RN} {rv : Value} {s : List Nd} {rs : List Sp}
theorem RDocAt.newChars (h : RDocAt w F bd bn cap rn rv s rs) {N i : Nat} {x : Nd} {v' : Value} {cs' : List ByteArray} (hF : ∀ b, F b → b < N) (hx : s[i]? = some x) (hrow : w.ownsRow N 9 1 v' cs'.length (strsV cs')) :
    ∃ rn2, RDocAt (w.setCell ⟨bn, i * 4 + 1, none⟩ v') (fun b => F b ∨ N ≤ b) bd bn cap rn2 rv (s.set i { x with cs := cs' }) rs := by
  obtain ⟨r, hr, ho⟩ := h.raw hx
  have hw := h.wider (G := fun b => F b ∨ N ≤ b) (fun b e => .inl e)
  have ho2 := hw.ok i r x hr hx
  have hb := fun b e => (hrow.lt b e).1
  have h0 : w.ownsRow 0 9 1 v' cs'.length (strsV cs') := by
    refine ⟨hrow.1, ?_⟩
    rcases hrow.2 with e | ⟨g, c, cur, e, _, q⟩
    · exact .inl e
    · exact .inr ⟨g, c, cur, e, Nat.zero_le _, q⟩
  refine ⟨_, hw.setNode (r' := { r with cv := v' }) hr hx 1 (by omega) v' rfl ⟨ho2.t, ho2.p, h0, ho2.kids, fun b e => ?_, ho2.apartK⟩⟩
  have h1 := hb b e
  have h2 := hF _ h.Fd
  have h3 := hF _ h.Fn
  refine ⟨.inr h1, by omega, by omega, fun e2 => ?_⟩
  have h4 := hF _ (h.apart b e2).1
  omega
end
end Go.Proofs.YtabogkonklplcaaGreatDoor

namespace Go.Proofs.YtabogkonklplcaaGreatDoor
open Go.RowKit
set_option linter.unusedSimpArgs false
set_option linter.unusedVariables false
section
variable {w : World} {F : Nat → Prop} {bd bn cap : Nat} {rn : List RN} {rv : Value} {s : List Nd} {rs : List Sp}
end
end Go.Proofs.YtabogkonklplcaaGreatDoor

namespace Go.Proofs.YtabogkonklplcaaGreatDoor
open Go.RowKit
set_option linter.unusedSimpArgs false
set_option linter.unusedVariables false
theorem spcells_get (rs : List Sp) (i : Nat) (x : Sp) (h : rs[i]? = some x) (j : Nat) (hj : j < 4) : (rs.flatMap Sp.cells)[i * 4 + j]? = x.cells[j]? := by
  induction rs generalizing i with
  | nil => simp at h
  | cons a l ih =>
    cases i with
    | zero =>
      simp at h; subst h
      rw [List.flatMap_cons, Nat.zero_mul, Nat.zero_add, List.getElem?_append_left (by simpa [Sp.cells] using hj)]
    | succ i =>
      have e : (i + 1) * 4 + j = (i * 4 + j) + 4 := by omega
      rw [e, List.flatMap_cons, List.getElem?_append_right (by simp [Sp.cells])]
      simpa [Sp.cells] using ih i (by simpa using h)
section
variable {w : World} {F : Nat → Prop} {bd bn cap : Nat} {rn : List RN} {rv : Value} {s : List Nd} {rs : List Sp}
end
end Go.Proofs.YtabogkonklplcaaGreatDoor

namespace Go.Proofs.YtabogkonklplcaaGreatDoor
open Go.RowKit
set_option linter.unusedSimpArgs false
set_option linter.unusedVariables false
abbrev spV (x : Sp) : Value := .agg #[.int .i64 x.a, .int .i64 x.b, .int .i64 x.c, .int .i64 x.d]
abbrev sp0 (w : World) : World := (w.alloc (.cells #[.int .i64 0, .int .i64 0, .int .i64 0, .int .i64 0] 79)).alloc (.cells #[.int .i64 0, .int .i64 0] 32)
section
variable {w : World} {F : Nat → Prop} {bd bn cap : Nat} {rn : List RN} {rv : Value} {s : List Nd} {rs : List Sp}
end
end Go.Proofs.YtabogkonklplcaaGreatDoor

namespace Go.Proofs.YtabogkonklplcaaGreatDoor
open Go.RowKit
set_option linter.unusedSimpArgs false
set_option linter.unusedVariables false
theorem Tryz.info79 : (Tryz.prog.info? 79).map (fun i => (i.zero, i.size, i.bytes)) = some (some (.agg #[.int .i64 0, .int .i64 0, .int .i64 0, .int .i64 0]), 4, 32) := by kernel_rfl
section
variable {w : World} {F : Nat → Prop} {bd bn cap : Nat} {rn : List RN} {rv : Value} {s : List Nd} {rs : List Sp}
end
end Go.Proofs.YtabogkonklplcaaGreatDoor

namespace Go.Proofs.YtabogkonklplcaaGreatDoor
open Go.RowKit
set_option linter.unusedSimpArgs false
set_option linter.unusedVariables false
theorem IsTop.lt {s : List Nd} {n t : Nat} (h : IsTop s n t) : t < s.length := by
  obtain ⟨_, x, hx, _⟩ := h
  exact (List.getElem?_eq_some_iff.1 hx).1
section
variable {F : Nat → Prop} {bd bn cap : Nat} {rn : List RN} {rv : Value} {s : List Nd} {rs : List Sp}
abbrev two (w : World) (a b : Nat × Nat) : World := (w.alloc (.cells #[.int .i64 a.1, .int .i64 a.2] 37)).alloc (.cells #[.int .i64 b.1, .int .i64 b.2] 37)
end
end Go.Proofs.YtabogkonklplcaaGreatDoor

namespace Go.Proofs.YtabogkonklplcaaGreatDoor
open Go.RowKit
set_option linter.unusedSimpArgs false
set_option linter.unusedVariables false
def placeFault (s : List Nd) (n k : Int) : Int × Int := if isB s n = false then (n, 1) else if k < 0 ∨ (sizeAt s n.toNat : Int) < k then (n, 3) else (0, 0)
section
variable {w : World} {F : Nat → Prop} {bd bn cap : Nat} {rn : List RN} {rv : Value} {s : List Nd} {rs : List Sp}
abbrev three (w : World) (a0 a1 b0 b1 : Int) : World := ((w.alloc (.cells #[.int .i64 a0, .int .i64 a1] 37)).alloc (.cells #[.int .i64 b0, .int .i64 b1] 37)).alloc (.cells #[.int .i64 0, .int .i64 0] 32)
theorem three_below (w : World) (a0 a1 b0 b1 : Int) : Below w.heap.size w (three w a0 a1 b0 b1) := (((Below.refl _ w).alloc (Nat.le_refl _) _).alloc (by simp) _).alloc (by simp; omega) _
end
end Go.Proofs.YtabogkonklplcaaGreatDoor

namespace Go.Proofs.YtabogkonklplcaaGreatDoor
open Go.RowKit
set_option linter.unusedSimpArgs false
set_option linter.unusedVariables false
structure Cmp (w : World) (W fb : Nat) (a0 a1 b0 b1 f0 f1 : Int) : Prop where
  a : w.heap[W]? = some (.cells #[.int .i64 a0, .int .i64 a1] 37 (0, 0))
  b : w.heap[W + 1]? = some (.cells #[.int .i64 b0, .int .i64 b1] 37 (0, 0))
  z : w.heap[W + 1 + 1]? = some (.cells #[.int .i64 0, .int .i64 0] 32 (0, 0))
  f : w.heap[fb]? = some (.cells #[.int .i64 f0, .int .i64 f1] 32 (0, 0))
  gt : W + 2 < fb
section
variable {w w' : World} {W fb : Nat} {a0 a1 b0 b1 f0 f1 : Int}
theorem Cmp.below (h : Cmp w W fb a0 a1 b0 b1 f0 f1) (hb : Below w.heap.size w w') : Cmp w' W fb a0 a1 b0 b1 f0 f1 :=
  ⟨(hb.block _ (heap_lt h.a)).trans h.a, (hb.block _ (heap_lt h.b)).trans h.b, (hb.block _ (heap_lt h.z)).trans h.z, (hb.block _ (heap_lt h.f)).trans h.f, h.gt⟩
theorem Cmp.put (h : Cmp w W fb a0 a1 b0 b1 f0 f1) (g0 g1 : Int) : Cmp ((w.setCell ⟨fb, 0, none⟩ (.int .i64 g0)).setCell ⟨fb, 1, none⟩ (.int .i64 g1)) W fb a0 a1 b0 b1 g0 g1 := by
  have hg := h.gt
  have hk : ∀ i, i ≠ fb → ((w.setCell ⟨fb, 0, none⟩ (.int .i64 g0)).setCell ⟨fb, 1, none⟩ (.int .i64 g1)).heap[i]? = w.heap[i]? := fun i hi => by
    rw [Below.heap_setCell _ _ _ _ (by simpa using hi), Below.heap_setCell _ _ _ _ (by simpa using hi)]
  refine ⟨(hk _ (by omega)).trans h.a, (hk _ (by omega)).trans h.b, (hk _ (by omega)).trans h.z, ?_, hg⟩
  rw [heap_setCell_same _ fb 1 _ _ _ (heap_setCell_same w fb 0 _ _ _ h.f)]
  simp
theorem Cmp.cells (h : Cmp w W fb a0 a1 b0 b1 f0 f1) :
    (w.cell? ⟨W, 0, none⟩ = some (.int .i64 a0) ∧ w.cell? ⟨W, 1, none⟩ = some (.int .i64 a1)) ∧ (w.cell? ⟨W + 1, 0, none⟩ = some (.int .i64 b0) ∧ w.cell? ⟨W + 1, 1, none⟩ = some (.int .i64 b1)) ∧
    (w.cell? ⟨W + 1 + 1, 0, none⟩ = some (.int .i64 0) ∧ w.cell? ⟨W + 1 + 1, 1, none⟩ = some (.int .i64 0)) ∧ (w.cell? ⟨fb, 0, none⟩ = some (.int .i64 f0) ∧ w.cell? ⟨fb, 1, none⟩ = some (.int .i64 f1)) :=
  ⟨⟨cell_of_heap h.a 0, cell_of_heap h.a 1⟩, ⟨cell_of_heap h.b 0, cell_of_heap h.b 1⟩, ⟨cell_of_heap h.z 0, cell_of_heap h.z 1⟩, ⟨cell_of_heap h.f 0, cell_of_heap h.f 1⟩⟩
theorem Cmp.first {w1 w2 : World} (hb1 : Below (three w a0 a1 b0 b1).heap.size (three w a0 a1 b0 b1) w1) (hb2 : Below (w1.alloc (.cells #[.int .i64 f0, .int .i64 f1] 32)).heap.size (w1.alloc (.cells #[.int .i64 f0, .int .i64 f1] 32)) w2) :
    Cmp w2 w.heap.size w1.heap.size a0 a1 b0 b1 f0 f1 ∧ Below w.heap.size w w2 := by
  have hs1 : w.heap.size + 3 ≤ w1.heap.size := by have := hb1.size; simpa using this
  have hB1 : Below w.heap.size w w1 := (three_below w a0 a1 b0 b1).trans (hb1.mono (three_below w a0 a1 b0 b1).size)
  have hal := ((Below.refl _ w1).alloc (Nat.le_refl _) (.cells #[.int .i64 f0, .int .i64 f1] 32)).trans (hb2.mono (by simp))
  have k0 : (three w a0 a1 b0 b1).heap[w.heap.size]? = some (.cells #[.int .i64 a0, .int .i64 a1] 37 (0, 0)) := by
    rw [((Below.refl _ (w.alloc (.cells #[.int .i64 a0, .int .i64 a1] 37))).alloc (Nat.le_refl _) (.cells #[.int .i64 b0, .int .i64 b1] 37)).alloc (by simp) (.cells #[.int .i64 0, .int .i64 0] 32) |>.block w.heap.size (by simp)]
    exact heap_alloc_new w _
  have k1 : (three w a0 a1 b0 b1).heap[w.heap.size + 1]? = some (.cells #[.int .i64 b0, .int .i64 b1] 37 (0, 0)) := by
    rw [((Below.refl _ ((w.alloc (.cells #[.int .i64 a0, .int .i64 a1] 37)).alloc (.cells #[.int .i64 b0, .int .i64 b1] 37))).alloc (Nat.le_refl _) (.cells #[.int .i64 0, .int .i64 0] 32)).block (w.heap.size + 1) (by simp)]
    have := heap_alloc_new (w.alloc (.cells #[.int .i64 a0, .int .i64 a1] 37)) (.cells #[.int .i64 b0, .int .i64 b1] 37)
    simpa using this
  have k2 : (three w a0 a1 b0 b1).heap[w.heap.size + 1 + 1]? = some (.cells #[.int .i64 0, .int .i64 0] 32 (0, 0)) := by
    have := heap_alloc_new ((w.alloc (.cells #[.int .i64 a0, .int .i64 a1] 37)).alloc (.cells #[.int .i64 b0, .int .i64 b1] 37)) (.cells #[.int .i64 0, .int .i64 0] 32)
    simpa using this
  have up : ∀ i, i < w.heap.size + 3 → w2.heap[i]? = (three w a0 a1 b0 b1).heap[i]? := fun i hi => (hal.block i (by omega)).trans (hb1.block i (by simp; omega))
  refine ⟨⟨(up _ (by omega)).trans k0, (up _ (by omega)).trans k1, (up _ (by omega)).trans k2, (hb2.block _ (by simp)).trans (heap_alloc_new w1 _), by omega⟩, hB1.trans (hal.mono hB1.size)⟩
end
end Go.Proofs.YtabogkonklplcaaGreatDoor

namespace Go.Proofs.YtabogkonklplcaaGreatDoor
open Go.RowKit
set_option linter.unusedSimpArgs false
set_option linter.unusedVariables false
section
variable {w : World} {F : Nat → Prop} {bd bn cap : Nat} {rn : List RN} {rv : Value} {s : List Nd} {rs : List Sp}
end
end Go.Proofs.YtabogkonklplcaaGreatDoor

namespace Go.Proofs.YtabogkonklplcaaGreatDoor
open Go.RowKit
set_option linter.unusedSimpArgs false
set_option linter.unusedVariables false
theorem climb_neg {s : List Nd} {j n : Nat} (h : climb s j n < 0) : ∀ i, climb s (j + i) n < 0 := by
  intro i
  induction i with
  | zero => exact h
  | succ i ih =>
    show climb s (j + i + 1) n < 0
    simp [climb, ih]
theorem IsTop.one {s : List Nd} {n t t' : Nat} (h : IsTop s n t) (h' : IsTop s n t') : t = t' := by
  have key : ∀ {a b : Nat} {i j : Nat} {x : Nd}, climb s i n = (a : Int) → s[a]? = some x → x.p = -1 → climb s j n = (b : Int) → ¬ i < j := by
    intro a b i j x h1 h2 h3 h4 hlt
    have e : climb s (i + 1) n < 0 := by rw [climb_step h1]; simp [parOf, h2, h3]
    have := climb_neg e (j - (i + 1))
    rw [show i + 1 + (j - (i + 1)) = j by omega, h4] at this
    omega
  obtain ⟨⟨i, hi⟩, x, hx, hp⟩ := h
  obtain ⟨⟨j, hj⟩, y, hy, hq⟩ := h'
  have h1 := key hi hx hp hj
  have h2 := key hj hy hq hi
  obtain rfl : i = j := by omega
  rw [hi] at hj
  omega
theorem IsTop.up {s : List Nd} {n q t : Nat} {x : Nd} (hx : s[n]? = some x) (hp : x.p = (q : Int)) (h : IsTop s q t) : IsTop s n t := by
  obtain ⟨⟨m, hm⟩, r⟩ := h
  have e : climb s 1 n = (q : Int) := by
    show climb s (0 + 1) n = _
    rw [climb_step (show climb s 0 n = (n : Int) from rfl)]
    simp [parOf, hx, hp]
  exact ⟨⟨1 + m, by rw [climb_add e, hm]⟩, r⟩
theorem top_there {s : List Nd} (wf : WF s) : ∀ n, n < s.length → ∃ t, IsTop s n t := by
  obtain ⟨h, B, u⟩ := wf.up
  have key : ∀ k n, n < s.length → B - h n < k → ∃ t, IsTop s n t := by
    intro k
    induction k with
    | zero => intro n _ hk; omega
    | succ k ih =>
      intro n hn hk
      have hx : s[n]? = some s[n] := List.getElem?_eq_getElem hn
      rcases wf.par n _ hx with e | ⟨q, y, e, hy, _⟩
      · exact ⟨n, ⟨0, rfl⟩, _, hx, e⟩
      · have hup := u.par n _ hx (by omega)
        rw [e] at hup
        simp at hup
        have := u.le q
        obtain ⟨t, ht⟩ := ih q (List.getElem?_eq_some_iff.1 hy).1 (by omega)
        exact ⟨t, ht.up hx e⟩
  intro n hn
  exact key (B - h n + 1) n hn (by omega)
section
variable {w : World} {F : Nat → Prop} {bd bn cap : Nat} {rn : List RN} {rv : Value} {s : List Nd} {rs : List Sp}
theorem IsWhere.one {l : List (Nat × Nat)} {p : Nat × Nat} {q q' : Int} (h : IsWhere l p q) (h' : IsWhere l p q') : q = q' := by
  have key : ∀ {i j : Nat}, l[i]? = some p → p ∉ l.take j → ¬ i < j := fun h1 h2 hlt => h2 (List.mem_of_getElem? (i := _) (by rw [List.getElem?_take, if_pos hlt]; exact h1))
  rcases h with ⟨i, rfl, hi, hi'⟩ | ⟨rfl, hn⟩ <;> rcases h' with ⟨j, rfl, hj, hj'⟩ | ⟨rfl, hn'⟩
  · have h1 := key hi hj'
    have h2 := key hj hi'
    omega
  · exact absurd (List.mem_of_getElem? hi) hn'
  · exact absurd (List.mem_of_getElem? hj) hn
  · rfl
end
end Go.Proofs.YtabogkonklplcaaGreatDoor

namespace Go.Proofs.YtabogkonklplcaaGreatDoor
open Go.RowKit
set_option linter.unusedSimpArgs false
set_option linter.unusedVariables false
section
variable {w : World} {F : Nat → Prop} {bd bn cap : Nat} {rn : List RN} {rv : Value} {s : List Nd} {rs : List Sp}
end
end Go.Proofs.YtabogkonklplcaaGreatDoor

namespace Go.Proofs.YtabogkonklplcaaGreatDoor
open Go.RowKit
set_option linter.unusedSimpArgs false
set_option linter.unusedVariables false
section
variable {w : World} {F : Nat → Prop} {bd bn cap : Nat} {rn : List RN} {rv : Value} {s : List Nd} {rs : List Sp}
end
end Go.Proofs.YtabogkonklplcaaGreatDoor

namespace Go.Proofs.YtabogkonklplcaaGreatDoor
set_option linter.unusedSimpArgs false
set_option linter.unusedVariables false
abbrev PP : Type := (Nat × Nat) × List Nat
def ppB (n : Nat) (ks : List Nat) (f : Nat → List PP) (i : Nat) : List PP :=
  ((n, i), [2 * i]) :: (match ks[i]? with | some c => (f c).map (fun e => (e.1, (2 * i + 1) :: e.2)) | none => [])
def ppF (s : List Nd) : Nat → Nat → List PP
  | 0, _ => []
  | k + 1, n => (List.range (sizeAt s n + 1)).flatMap (ppB n (kidsOf s n) (ppF s k))
theorem pp_fst (s : List Nd) : ∀ (k n : Nat), (ppF s k n).map Prod.fst = plF s k n := by
  intro k
  induction k with
  | zero => intro n; rfl
  | succ k ih =>
    intro n
    simp only [ppF, plF, upTo, List.map_flatMap]
    congr 1
    funext i
    unfold ppB
    cases (kidsOf s n)[i]? with
    | none => rfl
    | some c =>
      simp only [List.map_cons, List.map_map]
      rw [← ih c]
      rfl
theorem ppB_head {n i : Nat} {ks : List Nat} {f : Nat → List PP} {e : PP} (h : e ∈ ppB n ks f i) : ∃ a l, e.2 = a :: l ∧ (a = 2 * i ∨ a = 2 * i + 1) := by
  unfold ppB at h
  rcases List.mem_cons.1 h with rfl | h
  · exact ⟨_, _, rfl, .inl rfl⟩
  · split at h
    · obtain ⟨e', _, rfl⟩ := List.mem_map.1 h
      exact ⟨_, _, rfl, .inr rfl⟩
    · simp at h
abbrev lexN : List Nat → List Nat → Prop := List.Lex (· < ·)
theorem pp_sorted (s : List Nd) : ∀ (k n : Nat), (ppF s k n).Pairwise (fun a b => lexN a.2 b.2) := by
  intro k
  induction k with
  | zero => intro n; simp [ppF]
  | succ k ih =>
    intro n
    rw [ppF, List.pairwise_flatMap]
    refine ⟨fun i _ => ?_, ?_⟩
    · unfold ppB
      rw [List.pairwise_cons]
      constructor
      · intro e he
        split at he
        · obtain ⟨e', _, rfl⟩ := List.mem_map.1 he
          exact .rel (by omega)
        · simp at he
      · split
        · rw [List.pairwise_map]
          exact (ih _).imp (fun h => .cons h)
        · exact List.Pairwise.nil
    · refine List.pairwise_lt_range.imp ?_
      intro i j hij x hx y hy
      obtain ⟨a, l, ea, ha⟩ := ppB_head hx
      obtain ⟨b, m, eb, hb⟩ := ppB_head hy
      rw [ea, eb]
      exact .rel (by omega)
theorem pp_here {s : List Nd} {k n i : Nat} (h : i ≤ sizeAt s n) : ((n, i), [2 * i]) ∈ ppF s (k + 1) n := by
  rw [ppF, List.mem_flatMap]
  exact ⟨i, List.mem_range.2 (by omega), by unfold ppB; exact List.mem_cons_self⟩
theorem pp_down {s : List Nd} {k n j c : Nat} {e : PP} (hj : (kidsOf s n)[j]? = some c) (hl : j ≤ sizeAt s n) (h : e ∈ ppF s k c) : (e.1, (2 * j + 1) :: e.2) ∈ ppF s (k + 1) n := by
  rw [ppF, List.mem_flatMap]
  refine ⟨j, List.mem_range.2 (by omega), ?_⟩
  unfold ppB
  rw [hj]
  exact List.mem_cons_of_mem _ (List.mem_map.2 ⟨e, h, rfl⟩)
theorem pl_node {s : List Nd} : ∀ (k n : Nat) (p : Nat × Nat), p ∈ plF s k n → p.1 ∈ allF s k n := by
  intro k
  induction k with
  | zero => intro n p h; simp [plF] at h
  | succ k ih =>
    intro n p h
    simp only [plF, upTo, List.mem_flatMap] at h
    obtain ⟨i, _, h⟩ := h
    rw [allF, List.mem_cons]
    rcases List.mem_cons.1 h with rfl | h
    · exact .inl rfl
    · split at h
      · rename_i c hc
        exact .inr (List.mem_flatMap.2 ⟨c, List.mem_of_getElem? hc, ih c p h⟩)
      · simp at h
theorem pl_nodup {s : List Nd} (wf : WF s) : ∀ (k n : Nat), (plF s k n).Nodup := by
  obtain ⟨h, B, u⟩ := wf.up
  intro k
  induction k with
  | zero => intro n; simp [plF]
  | succ k ih =>
    intro n
    have hks : (kidsOf s n).Nodup := by
      unfold kidsOf
      split
      · exact wf.nodup n _ ‹_›
      · exact List.nodup_nil
    unfold List.Nodup
    rw [plF, upTo, List.pairwise_flatMap]
    refine ⟨fun i _ => ?_, ?_⟩
    · rw [List.pairwise_cons]
      constructor
      · intro p hp e
        subst e
        split at hp
        · rename_i c hc
          exact all_head_not wf u (List.mem_of_getElem? hc) (pl_node k c _ hp)
        · simp at hp
      · split
        · exact ih _
        · exact List.Pairwise.nil
    · refine List.pairwise_lt_range.imp ?_
      intro i j hij x hx y hy e
      subst e
      rcases List.mem_cons.1 hx with rfl | hx <;> rcases List.mem_cons.1 hy with hy | hy
      · simp at hy; omega
      · split at hy
        · rename_i c hc
          exact all_head_not wf u (List.mem_of_getElem? hc) (pl_node k c _ hy)
        · simp at hy
      · subst hy
        split at hx
        · rename_i c hc
          exact all_head_not wf u (List.mem_of_getElem? hc) (pl_node k c _ hx)
        · simp at hx
      · split at hx
        · rename_i c hc
          split at hy
          · rename_i d hd
            have e := all_apart wf u (List.mem_of_getElem? hc) (List.mem_of_getElem? hd) (pl_node k c _ hx) (pl_node k d _ hy)
            subst e
            obtain ⟨h1, h2⟩ := List.getElem?_eq_some_iff.1 hc
            obtain ⟨h3, h4⟩ := List.getElem?_eq_some_iff.1 hd
            exact List.pairwise_iff_getElem.1 hks i j h1 h3 hij (h2.trans h4.symm)
          · simp at hy
        · simp at hx
theorem pp_index {s : List Nd} (wf : WF s) {k t : Nat} {a : Nat × Nat} {l : List Nat} {q : Int} (h : (a, l) ∈ ppF s k t) (hw : IsWhere (plF s k t) a q) : ∃ i : Nat, q = i ∧ (ppF s k t)[i]? = some (a, l) := by
  obtain ⟨i, hi⟩ := List.mem_iff_getElem?.1 h
  have hp : (plF s k t)[i]? = some a := by rw [← pp_fst, List.getElem?_map, hi]; rfl
  rcases hw with ⟨m, rfl, hm, _⟩ | ⟨_, hn⟩
  · refine ⟨i, ?_, hi⟩
    obtain ⟨h1, h2⟩ := List.getElem?_eq_some_iff.1 hp
    obtain ⟨h3, h4⟩ := List.getElem?_eq_some_iff.1 hm
    have hnd := List.pairwise_iff_getElem.1 (pl_nodup wf k t)
    rcases Nat.lt_trichotomy i m with e | e | e
    · exact absurd (h2.trans h4.symm) (hnd i m h1 h3 e)
    · rw [e]
    · exact absurd (h4.trans h2.symm) (hnd m i h3 h1 e)
  · exact absurd (List.mem_of_getElem? hp) hn
theorem pp_order {s : List Nd} (wf : WF s) {k t : Nat} {a b : Nat × Nat} {l m : List Nat} {qa qb : Int} (ha : (a, l) ∈ ppF s k t) (hb : (b, m) ∈ ppF s k t) (wa : IsWhere (plF s k t) a qa) (wb : IsWhere (plF s k t) b qb) :
    (qa < qb → lexN l m) ∧ (qb < qa → lexN m l) ∧ (qa = qb → l = m ∧ a = b) := by
  obtain ⟨i, rfl, hi⟩ := pp_index wf ha wa
  obtain ⟨j, rfl, hj⟩ := pp_index wf hb wb
  obtain ⟨h1, h2⟩ := List.getElem?_eq_some_iff.1 hi
  obtain ⟨h3, h4⟩ := List.getElem?_eq_some_iff.1 hj
  have hs := List.pairwise_iff_getElem.1 (pp_sorted s k t)
  refine ⟨fun e => ?_, fun e => ?_, fun e => ?_⟩
  · have := hs i j h1 h3 (by omega)
    rw [h2, h4] at this
    exact this
  · have := hs j i h3 h1 (by omega)
    rw [h2, h4] at this
    exact this
  · obtain rfl : i = j := by omega
    rw [hi] at hj
    cases hj
    exact ⟨rfl, rfl⟩
end Go.Proofs.YtabogkonklplcaaGreatDoor

namespace Go.Proofs.YtabogkonklplcaaGreatDoor
open Go.RowKit
set_option linter.unusedSimpArgs false
set_option linter.unusedVariables false
section
variable {w : World} {F : Nat → Prop} {bd bn cap : Nat} {rn : List RN} {rv : Value} {s : List Nd} {rs : List Sp}
end
end Go.Proofs.YtabogkonklplcaaGreatDoor

namespace Go.Proofs.YtabogkonklplcaaGreatDoor
open Go.RowKit
set_option linter.unusedSimpArgs false
set_option linter.unusedVariables false
def cmpB : Bool → Bool → Int
  | true, _ => -1
  | false, true => 1
  | false, false => 0
section
variable {w : World} {F : Nat → Prop} {bd bn cap : Nat} {rn : List RN} {rv : Value} {s : List Nd} {rs : List Sp}
end
end Go.Proofs.YtabogkonklplcaaGreatDoor
