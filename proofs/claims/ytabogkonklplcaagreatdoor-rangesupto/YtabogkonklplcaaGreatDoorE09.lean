import Derived.Test.YtabogkonklplcaaGreatDoorE08
import Derived.Deep.RegionLaw
import Derived.Deep.RegionHeld3
import Derived.Deep.Cut
import Derived.Deep.CutRange
import Derived.BigQuiet
import Derived.Test.YtabogkonklplcaaGreatDoorE03

/- marginlaw's step: one step of a script. -/
namespace Go.Proofs.YtabogkonklplcaaGreatDoor
open Go.RowKit
set_option linter.unusedSimpArgs false
set_option linter.unusedVariables false

/-- A pair: the program's document, the document's own, the state of both. -/
structure DocR where
  bx : Nat
  bd : Nat
  s : St

/-- What is played, in memory: whose block is whose ('own': 1 the play's, 2i + 2 the program's document i, 2i + 3 the document's own i, 0 nobody's); all of it lies where Q lets things turn, and nothing else has turned since w0. -/
structure Inv (PD : PDT) (Q : Nat → Prop) (w0 w : World) (yb : Nat) (docs : List DocR) (own : Nat → Nat) (psv : Value) : Prop where
  play : PlayAt w yb psv
  row : w.ownsRow 0 44 2 psv docs.length (docs.flatMap fun d => [ptr d.bx, ptr d.bd])
  oy : own yb = 1
  ops : ∀ b, psv.ownBlock = some b → own b = 1 ∧ b ≠ yb
  ol : ∀ b, own b ≠ 0 → Q b ∧ b < w.heap.size
  bl : ∀ b, w.heap.size ≤ b → Q b
  fr : Keeps Q w0 w
  doc : ∀ (i : Nat) (d : DocR), docs[i]? = some d → PD w (fun b => own b = 2 * i + 2) d.bx d.s ∧ RDocS w (fun b => own b = 2 * i + 3) d.bd d.s ∧ PD.ok d.s

def InvE (PD : PDT) (Q : Nat → Prop) (w0 w : World) (yb : Nat) (docs : List DocR) : Prop := ∃ own psv, Inv PD Q w0 w yb docs own psv

/-- What a step must have left. -/
def StepPost (PD : PDT) (Q : Nat → Prop) (w0 : World) (yb : Nat) (m n : Nat) (e : Ending) (w' : World) : Prop := e = .returned (.bool true) ∧ ∃ docs, InvE PD Q w0 w' yb docs ∧ m ≤ docs.length ∧ docs.length ≤ n

theorem pairs_length (docs : List DocR) : (docs.flatMap fun d => [ptr d.bx, ptr d.bd]).length = docs.length * 2 := by
  induction docs with
  | nil => rfl
  | cons d l ih => simp [ih]; omega
theorem pairs_get (docs : List DocR) (i : Nat) (d : DocR) (h : docs[i]? = some d) : (docs.flatMap fun d => [ptr d.bx, ptr d.bd])[i * 2]? = some (ptr d.bx) ∧ (docs.flatMap fun d => [ptr d.bx, ptr d.bd])[i * 2 + 1]? = some (ptr d.bd) := by
  induction docs generalizing i with
  | nil => simp at h
  | cons a l ih =>
    cases i with
    | zero => simp at h; subst h; simp
    | succ i =>
      have := ih i (by simpa using h)
      have e1 : (i + 1) * 2 = i * 2 + 1 + 1 := by omega
      have e2 : (i + 1) * 2 + 1 = i * 2 + 1 + 1 + 1 := by omega
      rw [e2, e1]
      simpa using this
theorem pairs_set (docs : List DocR) (i : Nat) (d d' : DocR) (h : docs[i]? = some d) (hx : d'.bx = d.bx) (hd : d'.bd = d.bd) : ((docs.set i d').flatMap fun d => [ptr d.bx, ptr d.bd]) = (docs.flatMap fun d => [ptr d.bx, ptr d.bd]) := by
  induction docs generalizing i with
  | nil => simp at h
  | cons a l ih =>
    cases i with
    | zero => simp at h; subst h; simp [hx, hd]
    | succ i => simp [ih i (by simpa using h)]

section
variable {PD : PDT} {Q : Nat → Prop} {w0 w : World} {yb : Nat} {docs : List DocR} {own : Nat → Nat} {psv : Value}

theorem InvE.below {w' : World} (hPD : PDOk PD) (h : InvE PD Q w0 w yb docs) (hb : Below w.heap.size w w') : InvE PD Q w0 w' yb docs := by
  obtain ⟨own, psv, h⟩ := h
  have hk := Keeps.of_below (F := fun _ => False) hb
  have hz := hb.size
  have hbl := h.bl
  refine ⟨own, psv, h.play.keeps hk (fun e => e), hk.row h.row (fun _ _ e => e), h.oy, h.ops, fun b e => ⟨(h.ol b e).1, by have := (h.ol b e).2; omega⟩, fun b e => hbl b (by omega), h.fr.trans (Keeps.of_below hb), fun i d hd => ?_⟩
  obtain ⟨h1, h2, h3⟩ := h.doc i d hd
  exact ⟨hPD.keeps h1 hk (fun _ _ e => e), h2.keeps hk (fun _ _ e => e), h3⟩

/-- The pair that a step is played on. -/
theorem Inv.pair (h : Inv PD Q w0 w yb docs own psv) {i : Nat} {d : DocR} (hd : docs[i]? = some d) : PairAt PD (fun b => own b = 2 * i + 2) (fun b => own b = 2 * i + 3) w yb d.bx d.bd psv d.s := by
  obtain ⟨h1, h2, h3⟩ := h.doc i d hd
  have hy := h.oy
  exact ⟨h.play, h1, h2, fun b e1 e2 => by omega, by omega, by omega, fun b e => (h.ol b (by omega)).2, fun b e => (h.ol b (by omega)).2⟩

/-- Behind a step on one pair. -/
theorem Inv.stepped (hPD : PDOk PD) (h : Inv PD Q w0 w yb docs own psv) {i : Nat} {d : DocR} (hd : docs[i]? = some d) {e : Ending} {w' : World} (hp : PairPost PD (fun b => own b = 2 * i + 2) (fun b => own b = 2 * i + 3) w yb d.bx d.bd psv e w') :
    StepPost PD Q w0 yb docs.length docs.length e w' := by
  obtain ⟨rfl, m, s', hm1, hm2, hwf, hk, hpl, hpd, hrd⟩ := hp
  have hbl := h.bl
  have hi := (List.getElem?_eq_some_iff.1 hd).1
  refine ⟨rfl, docs.set i ⟨d.bx, d.bd, s'⟩, ⟨fun b => if w.heap.size ≤ b then (if b < m then 2 * i + 2 else if b < w'.heap.size then 2 * i + 3 else 0) else own b, psv, ?_⟩, by simp, by simp⟩
  have hyb : yb < w.heap.size := (h.ol yb (by rw [h.oy]; decide)).2
  refine ⟨hpl, ?_, ?_, ?_, ?_, fun b e => hbl b (by omega), ?_, ?_⟩
  · rw [List.length_set, pairs_set docs i d ⟨d.bx, d.bd, s'⟩ hd rfl rfl]
    refine hk.row h.row (fun b e => ?_)
    have := h.ops b e
    omega
  · rw [if_neg (by omega)]; exact h.oy
  · intro b e
    have h1 := h.ops b e
    have h2 := (h.ol b (by omega)).2
    exact ⟨by rw [if_neg (by omega)]; exact h1.1, h1.2⟩
  · intro b e
    split at e
    · split at e
      · exact ⟨hbl b (by omega), by omega⟩
      · split at e
        · exact ⟨hbl b (by omega), by omega⟩
        · exact absurd rfl e
    · have := h.ol b e
      exact ⟨this.1, by omega⟩
  · refine h.fr.trans (hk.mono (fun k _ e => .inl ?_))
    have h1 : own k ≠ 0 := by
      rcases e with e | e | e
      · omega
      · omega
      · rw [e, h.oy]; decide
    exact (h.ol k h1).1
  · intro j d' hd'
    rw [List.getElem?_set] at hd'
    by_cases hij : i = j
    · subst hij
      rw [if_pos rfl, if_pos hi] at hd'
      cases hd'
      refine ⟨hPD.wider hpd (fun b hb => ?_), hrd.wider (fun b hb => ?_), hwf⟩
      · rcases hb with hb | hb
        · have := (h.ol b (by omega)).2
          rw [if_neg (by omega)]; exact hb
        · rw [if_pos hb.1, if_pos hb.2]
      · rcases hb with hb | hb
        · have := (h.ol b (by omega)).2
          rw [if_neg (by omega)]; exact hb
        · rw [if_pos (by omega), if_neg (by omega), if_pos hb.2]
    · rw [if_neg hij] at hd'
      obtain ⟨h1, h2, h3⟩ := h.doc j d' hd'
      refine ⟨hPD.wider (hPD.keeps h1 hk (fun b hb hf => by have := h.oy; rcases hf with hf | hf | hf; omega; omega; (rw [hf] at hb; omega))) (fun b hb => ?_), (h2.keeps hk (fun b hb hf => by have := h.oy; rcases hf with hf | hf | hf; omega; omega; (rw [hf] at hb; omega))).wider (fun b hb => ?_), h3⟩
      · have := (h.ol b (by omega)).2
        rw [if_neg (by omega)]; exact hb
      · have := (h.ol b (by omega)).2
        rw [if_neg (by omega)]; exact hb

/-- What the program's New must do. -/
def NewOk (PD : PDT) (G : World → Prop) : Prop := ∀ w : World, G w → Calls Tryz.prog 40 #[] w fun e w' => ∃ bx, e = .returned (ptr bx) ∧ Below w.heap.size w w' ∧ PD w' (fun b => w.heap.size ≤ b) bx ⟨[rootNd], []⟩

theorem wf_root : WF [rootNd] where
  pos := by decide
  cap := by decide
  up := ⟨fun _ => 0, 0, fun _ => Nat.le_refl _, fun i x hx hp => by
    cases i with
    | zero => simp at hx; subst hx; simp [rootNd] at hp
    | succ i => simp at hx⟩
  kid := fun i x hx c hc => by
    cases i with
    | zero => simp at hx; subst hx; simp [rootNd] at hc
    | succ i => simp at hx
  par := fun c y hy => by
    cases c with
    | zero => simp at hy; subst hy; exact .inl rfl
    | succ i => simp at hy
  nodup := fun i x hx => by
    cases i with
    | zero => simp at hx; subst hx; simp [rootNd]
    | succ i => simp at hx
  root := fun x hx => by simp at hx; subst hx; rfl
  elem := fun i x hx => by
    cases i with
    | zero => simp at hx; subst hx; exact ⟨fun h => (by cases h), fun _ => rfl⟩
    | succ i => simp at hx
  chars := fun i x hx => by
    cases i with
    | zero => simp at hx; subst hx; exact ⟨by decide, fun c hc => by simp [rootNd] at hc⟩
    | succ i => simp at hx

abbrev opCells (kind D A B C : Int) (S : ByteArray) (p0 p1 q0 q1 : Int) : Array Value := #[.int .i64 kind, .int .i64 D, .int .i64 A, .int .i64 B, .int .i64 C, .string S, .int .i64 p0, .int .i64 p1, .int .i64 q0, .int .i64 q1]

set_option maxRecDepth 20000 in
set_option maxHeartbeats 4000000 in
/-- A step that does nothing: no document, or no such kind. -/
theorem step_none (hPD : PDOk PD) (h : InvE PD Q w0 w yb docs) (kind D A B C : Int) (S : ByteArray) (p0 p1 q0 q1 : Int) (hk1 : kind ≠ 1) (hk : docs.length = 0 ∨ kind < 2 ∨ 15 < kind) :
    Calls Tryz.prog 15 #[ptr yb, opV kind D A B C S p0 p1 q0 q1] w (StepPost PD Q w0 yb docs.length docs.length) := by
  have hI := h
  obtain ⟨own, psv, h⟩ := h
  obtain ⟨a, c, hv⟩ := slice_shape h.row
  obtain ⟨l0, a0, y0, hq⟩ := h.play
  have hl := heap_lt hq
  have c0 : w.cell? ⟨yb, 0, none⟩ = some (.slice a docs.length c) := by rw [← hv]; exact cell_of_heap hq 0
  have hk1' : (kind == 1) = false := by simpa using hk1
  have HI := hid hI
  have HPD := hid hPD
  clear hq h hI hPD hv hk1
  have done : ∀ (v : Value) (W : World), Below w.heap.size w W → StepPost PD Q w0 yb docs.length docs.length (.returned (.bool true)) W := fun v W hb => ⟨rfl, docs, HI.out.below HPD.out hb, Nat.le_refl _, Nat.le_refl _⟩
  have DONE := hid done
  clear done
  by_cases h0 : docs.length = 0
  · have h0' : ((docs.length : Int) == 0) = true := by simp [h0]
    rw [h0] at c0
    go_enter Tryz.func15, Tryz.ntmps15
    go_wp2
    go_ret
    exact DONE.out (.bool true) _ (by go_grown)
  · have h0' : ((docs.length : Int) == 0) = false := by simp; intro e; exact h0 (by simp [e])
    by_cases h2 : kind < 2
    · go_enter Tryz.func15, Tryz.ntmps15
      go_wp2
      go_ret
      exact DONE.out (.bool true) _ (by go_grown)
    · have h2' : decide (kind < 2) = false := decide_eq_false h2
      have h15 : 15 < kind := by omega
      go_enter Tryz.func15, Tryz.ntmps15
      go_wp2
      go_ret
      exact DONE.out (.bool true) _ (by go_grown)
end

end Go.Proofs.YtabogkonklplcaaGreatDoor

/- marginref's size, top, placeFits. -/
namespace Go.Proofs.YtabogkonklplcaaGreatDoor
open Go.RowKit
set_option linter.unusedSimpArgs false
set_option linter.unusedVariables false

/-- How many places a node has, but one. -/
def sizeN (x : Nd) : Nat := if x.t = true then x.cs.length else x.ks.length
theorem sizeN_text {x : Nd} (h : x.t = true) : sizeN x = x.cs.length := by simp [sizeN, h]
theorem sizeN_elem {x : Nd} (h : x.t = false) : sizeN x = x.ks.length := by simp [sizeN, h]

/-- The top of a node's tree. -/
def IsTop (s : List Nd) (n t : Nat) : Prop := (∃ m, climb s m n = (t : Int)) ∧ ∃ x, s[t]? = some x ∧ x.p = -1
def TopPost (s : List Nd) (n : Nat) (w : World) (e : Ending) (w' : World) : Prop := (∃ t : Nat, e = .returned (.int .i64 t) ∧ IsTop s n t) ∧ w' = w
def TopInv (s : List Nd) (n : Nat) (w : World) (a : Value) (wr : World) : Prop := wr = w ∧ ∃ (c m : Nat), a = .int .i64 c ∧ c < s.length ∧ climb s m n = (c : Int)

section
variable {w : World} {F : Nat → Prop} {bd bn cap : Nat} {rn : List RN} {rv : Value} {s : List Nd} {rs : List Sp}

set_option maxRecDepth 20000 in
set_option maxHeartbeats 1000000 in
theorem size_any (hD : RDocAt w F bd bn cap rn rv s rs) (n : Nat) (x : Nd) (hx : s[n]? = some x) :
    Calls Tryz.prog 168 #[.pointer (some ⟨bd, 0, none⟩), .int .i64 n] w fun e w' => e = .returned (.int .i64 (sizeN x)) ∧ w' = w := by
  have hi : n < s.length := (List.getElem?_eq_some_iff.1 hx).1
  have h0 := hD.nodesCell
  obtain ⟨r, hr, ho, c0, c1, c2, c3⟩ := hD.look hx
  obtain ⟨sa, sc, hcv⟩ : ∃ a c, r.cv = .slice a x.cs.length c := by
    rcases row_cases ho.chars with ⟨h1, h2⟩ | ⟨g, c, h1⟩
    · exact ⟨none, 0, by rw [h1, h2]⟩
    · exact ⟨_, _, h1⟩
  obtain ⟨ka, kc, hkv⟩ : ∃ a c, r.kv = .slice a x.ks.length c := by
    rcases row_cases ho.kids with ⟨h1, h2⟩ | ⟨g, c, h1⟩
    · exact ⟨none, 0, by rw [h1, h2]⟩
    · exact ⟨_, _, h1⟩
  rw [hcv] at c1
  rw [hkv] at c2
  cases ht : x.t with
  | true =>
    rw [ht] at c0
    rw [sizeN_text ht]
    clear hD c2 c3 hr ho hx hkv hcv ht
    go_enter Tryz.func168, Tryz.ntmps168
    go_wp2
    go_ret
    exact ⟨rfl, rfl⟩
  | false =>
    rw [ht] at c0
    rw [sizeN_elem ht]
    clear hD c1 c3 hr ho hx hkv hcv ht
    go_enter Tryz.func168, Tryz.ntmps168
    go_wp2
    go_ret
    exact ⟨rfl, rfl⟩

set_option maxRecDepth 20000 in
set_option maxHeartbeats 1000000 in
theorem top_any (wf : WF s) (hD : RDocAt w F bd bn cap rn rv s rs) (n : Nat) (hn : n < s.length) :
    Calls Tryz.prog 128 #[.pointer (some ⟨bd, 0, none⟩), .int .i64 n] w (TopPost s n w) := by
  obtain ⟨h, B, u⟩ := wf.up
  have h0 := hD.nodesCell
  have HD := hid hD
  have HW := hid wf
  have HU := hid u
  clear hD wf u
  go_enter Tryz.func128, Tryz.ntmps128
  go_wp2
  go_loopw [1] (fun a wr => TopInv s n w a wr) (fun a _ => upMeas h B (intOf a))
  case atStart => exact ⟨rfl, n, 0, rfl, hn, rfl⟩
  case round =>
    obtain ⟨rfl, c, m, rfl, hc, hm⟩ := hrel
    obtain ⟨x, hx⟩ : ∃ x, s[c]? = some x := ⟨_, List.getElem?_eq_getElem hc⟩
    obtain ⟨r, hr, ho, c0, c1, c2, c3⟩ := HD.out.look hx
    have HM := hid hm
    have HX := hid hx
    clear c0 c1 c2 hr ho hm hx
    by_cases hp : 0 ≤ x.p
    · have hup := upMeas_lt HU.out HX.out
      have hpar := (HU.out.par c x HX.out hp).1
      have HUP := hid hup
      clear hup
      go_wp2
      go_roundw
      case rel =>
        obtain ⟨q, hq⟩ := Int.eq_ofNat_of_zero_le hp
        refine ⟨rfl, q, m + 1, by rw [hq], by omega, ?_⟩
        rw [climb_step HM.out]
        simp [parOf, HX.out, hq]
      case measure => exact HUP.out
    · have hp' : x.p < 0 := by omega
      have hp1 : x.p = -1 := by
        rcases HW.out.par c x HX.out with e | ⟨q, y, e, _⟩
        · exact e
        · omega
      go_wp2
      go_ret
      exact ⟨⟨c, rfl, ⟨m, HM.out⟩, x, HX.out, hp1⟩, rfl⟩

/-- The two blocks that placeFits lays. -/
abbrev pf (w : World) (n k : Int) : World := (w.alloc (.cells #[.int .i64 n, .int .i64 k] 37)).alloc (.cells #[.int .i64 0, .int .i64 0] 32)
theorem pf_below (w : World) (n k : Int) (q : Nat) : Below w.heap.size w ((pf w n k).drewN q) := by
  have h : Below w.heap.size w (pf w n k) := ((Below.refl _ w).alloc (Nat.le_refl _) _).alloc (by simp) _
  exact ⟨h.os, h.tape, h.output, h.size, h.block⟩
theorem RDocAt.pf (hD : RDocAt w F bd bn cap rn rv s rs) (n k : Int) : RDocAt (pf w n k) F bd bn cap rn rv s rs := hD.below (((Below.refl _ w).alloc (Nat.le_refl _) _).alloc (by simp) _)

set_option maxRecDepth 20000 in
set_option maxHeartbeats 1000000 in
theorem placeFits_node (hD : RDocAt w F bd bn cap rn rv s rs) (n k : Int) (hn : isB s n = false) :
    Calls Tryz.prog 127 #[.pointer (some ⟨bd, 0, none⟩), .agg #[.int .i64 n, .int .i64 k]] w fun e w' => e = .returned (rfltV n 1) ∧ Below w.heap.size w w' := by
  have HD := hid (hD.pf n k)
  clear hD
  go_enter Tryz.func127, Tryz.ntmps127
  go_wp2_with (first
    | (go_at_call 47; refine (is_at HD.out _).mono ?_; rintro e w' ⟨rfl, rfl⟩)
    | (go_at_call 48; refine (no_any _ _ _).mono ?_; rintro e w' ⟨rfl, rfl⟩))
  go_returns
  refine ⟨rfl, ?_⟩
  go_grown

set_option maxRecDepth 20000 in
set_option maxHeartbeats 1000000 in
theorem placeFits_index (hD : RDocAt w F bd bn cap rn rv s rs) (n : Nat) (k : Int) (x : Nd) (hx : s[n]? = some x) (hk : k < 0 ∨ (sizeN x : Int) < k) :
    Calls Tryz.prog 127 #[.pointer (some ⟨bd, 0, none⟩), .agg #[.int .i64 n, .int .i64 k]] w fun e w' => e = .returned (rfltV n 3) ∧ Below w.heap.size w w' := by
  have hi : n < s.length := (List.getElem?_eq_some_iff.1 hx).1
  have hb : isB s n = true := isB_of (by omega)
  have HD := hid (hD.pf n k)
  have CS := hid (fun q => size_any (w := (pf w n k).drewN q) ((hD.pf n k).keeps (G := fun _ => False) ⟨rfl, rfl, rfl, Nat.le_refl _, fun _ _ _ => rfl⟩ (fun _ _ e => e)) n x hx)
  clear hD hx
  by_cases hneg : k < 0
  · clear hk CS
    go_enter Tryz.func127, Tryz.ntmps127
    go_wp2_with (go_at_call 47; refine (is_at HD.out _).mono ?_; rintro e w' ⟨rfl, rfl⟩)
    go_quiet (fail)
    go_wp2_with (go_at_call 48; refine (no_any _ _ _).mono ?_; rintro e w' ⟨rfl, rfl⟩)
    go_returns
    refine ⟨rfl, ?_⟩
    go_grown
    exact pf_below _ _ _ _
  · have hk2 : (sizeN x : Int) < k := by omega
    have hneg2 : decide (k < 0) = false := decide_eq_false hneg
    clear hk
    go_enter Tryz.func127, Tryz.ntmps127
    go_wp2_with (go_at_call 47; refine (is_at HD.out _).mono ?_; rintro e w' ⟨rfl, rfl⟩)
    go_quiet ((go_at_call 168; exact Calls.quiet_of_same (CS.out _)))
    go_wp2_with (go_at_call 48; refine (no_any _ _ _).mono ?_; rintro e w' ⟨rfl, rfl⟩)
    go_returns
    refine ⟨rfl, ?_⟩
    go_grown
    exact pf_below _ _ _ _

set_option maxRecDepth 20000 in
set_option maxHeartbeats 1000000 in
theorem placeFits_ok (hD : RDocAt w F bd bn cap rn rv s rs) (n k : Nat) (x : Nd) (hx : s[n]? = some x) (hk : k ≤ sizeN x) :
    Calls Tryz.prog 127 #[.pointer (some ⟨bd, 0, none⟩), .agg #[.int .i64 n, .int .i64 k]] w fun e w' => e = .returned (rfltV 0 0) ∧ Below w.heap.size w w' := by
  have hi : n < s.length := (List.getElem?_eq_some_iff.1 hx).1
  have hb : isB s n = true := isB_of (by omega)
  have HD := hid (hD.pf n k)
  have CS := hid (fun q => size_any (w := (pf w n k).drewN q) ((hD.pf n k).keeps (G := fun _ => False) ⟨rfl, rfl, rfl, Nat.le_refl _, fun _ _ _ => rfl⟩ (fun _ _ e => e)) n x hx)
  clear hD hx
  have hk2 : ¬ (sizeN x : Int) < (k : Int) := by omega
  have hneg2 : decide ((k : Int) < 0) = false := decide_eq_false (by omega)
  have hk3 : decide ((sizeN x : Int) < (k : Int)) = false := decide_eq_false hk2
  go_enter Tryz.func127, Tryz.ntmps127
  go_wp2_with (go_at_call 47; refine (is_at HD.out _).mono ?_; rintro e w' ⟨rfl, rfl⟩)
  go_quiet ((go_at_call 168; exact Calls.quiet_of_same (CS.out _)))
  go_wp2
  go_returns
  refine ⟨rfl, ?_⟩
  go_grown
  exact pf_below _ _ _ _
end

end Go.Proofs.YtabogkonklplcaaGreatDoor

/- marginref's all, Walk. -/
namespace Go.Proofs.YtabogkonklplcaaGreatDoor
open Go.RowKit
set_option linter.unusedSimpArgs false
set_option linter.unusedVariables false

/-- A list of numbers that a call has made. -/
def NewList (w : World) (xs : List Nat) (e : Ending) (w' : World) : Prop :=
  ∃ a c, e = .returned (.slice a xs.length c) ∧ w'.ownsRow w.heap.size 3 1 (.slice a xs.length c) xs.length (intsV xs) ∧ Below w.heap.size w w'

theorem slice_form' {w : World} {B : Nat} {e : TypeId} {z n : Nat} {v : Value} {xs : List Value} (h : w.ownsRow B e z v n xs) : ∃ a c, v = .slice a n c := by
  obtain ⟨_, h2⟩ := h
  rcases h2 with ⟨e1, e2⟩ | ⟨g, c, cur, e1, _⟩
  · exact ⟨none, 0, by rw [e1, e2]⟩
  · exact ⟨_, _, e1⟩
theorem ownsRow_below {w w' : World} {B : Nat} {e : TypeId} {z n : Nat} {v : Value} {xs : List Value} (h : w.ownsRow B e z v n xs) (hb : Below w.heap.size w w') : w'.ownsRow B e z v n xs := by
  obtain ⟨h1, h2⟩ := h
  refine ⟨h1, ?_⟩
  rcases h2 with h2 | ⟨g, cap, cur, e1, hg, hh, rest⟩
  · exact .inl h2
  · exact .inr ⟨g, cap, cur, e1, hg, (hb.block g (heap_lt hh)).trans hh, rest⟩
theorem Keeps.rowB {F : Nat → Prop} {w w' : World} (h : Keeps F w w') {B : Nat} {e : TypeId} {z n : Nat} {v : Value} {xs : List Value} (hr : w.ownsRow B e z v n xs) (hv : ∀ b, v.ownBlock = some b → ¬ F b) : w'.ownsRow B e z v n xs := by
  obtain ⟨h1, h2⟩ := hr
  refine ⟨h1, ?_⟩
  rcases h2 with h2 | ⟨g, cap, cur, rfl, hg, hh, rest⟩
  · exact .inl h2
  · exact .inr ⟨g, cap, cur, rfl, hg, (h.block g (heap_lt hh) (hv g rfl)).trans hh, rest⟩
theorem slice_some {w : World} {B : Nat} {e : TypeId} {n : Nat} {a : Option Addr} {c : Nat} {xs : List Value} (h : w.ownsRow B e 1 (.slice a n c) n xs) (hn : 0 < n) : ∃ g, a = some ⟨g, 0, none⟩ ∧ ∀ j u, xs[j]? = some u → w.cell? ((⟨g, 0, none⟩ : Addr).add j) = some u := by
  have h' := h
  obtain ⟨h1, h2⟩ := h
  rcases h2 with ⟨e1, e2⟩ | ⟨g, c', cur, e1, _, hh, _, _, _, ht⟩
  · omega
  · cases e1
    refine ⟨g, rfl, fun j u hu => ?_⟩
    have hj : j < xs.length := (List.getElem?_eq_some_iff.1 hu).1
    rw [Addr.add_lit, Nat.zero_add, cell_of_heap hh, ← Array.getElem?_toList]
    rw [← ht, List.getElem?_take] at hu
    split at hu
    · exact hu
    · cases hu

section
variable {F : Nat → Prop} {bd bn cap : Nat} {rn : List RN} {rv : Value} {s : List Nd} {rs : List Sp}

theorem flatMap_len (wf : WF s) {h : Nat → Nat} {B : Nat} (u : Up s h B) {k n j : Nat} {x : Nd} (hx : s[n]? = some x) : (n :: (x.ks.take j).flatMap (allF s k)).length ≤ 40 := by
  have h1 := all_length wf (k + 1) n (List.getElem?_eq_some_iff.1 hx).1
  rw [allF, kidsOf_eq hx] at h1
  have e : x.ks.flatMap (allF s k) = (x.ks.take j).flatMap (allF s k) ++ (x.ks.drop j).flatMap (allF s k) := by rw [← List.flatMap_append, List.take_append_drop]
  rw [e] at h1
  simp only [List.length_cons, List.length_append] at h1 ⊢
  omega

set_option maxRecDepth 20000 in
set_option maxHeartbeats 2000000 in
theorem rall_any (wf : WF s) {h : Nat → Nat} {B : Nat} (u : Up s h B) : ∀ (k n : Nat), n < s.length → h n < k → ∀ w, RDocAt w F bd bn cap rn rv s rs → Calls Tryz.prog 49 #[.pointer (some ⟨bd, 0, none⟩), .int .i64 n] w (NewList w (allF s k n)) := by
  intro k
  induction k with
  | zero => intro n _ hh; omega
  | succ k ih =>
    intro n hn hh w hD
    obtain ⟨i0, hi, hz0, hz1, hz2⟩ := info_parts Tryz.info3
    have hx : s[n]? = some s[n] := List.getElem?_eq_getElem hn
    generalize s[n] = x at hx
    have HD := hid hD
    have hlt := hD.lt
    obtain ⟨r, hr, ho, _, _, hc2, _⟩ := hD.look hx
    obtain ⟨sa, sc, hkv⟩ := slice_form' ho.kids
    rw [hkv] at hc2
    have h0 := hD.nodesCell
    have hrow := ho.kids
    rw [hkv] at hrow
    have HROW := hid hrow
    have HX := hid hx
    have HL := hid (fun j => flatMap_len (k := k) (j := j) wf u hx)
    have HKID := hid (fun (c : Nat) (hc : c ∈ x.ks) => wf.kid_lt u hx hc)
    have IH := hid ih
    have hkl : x.ks.length ≤ 40 := Nat.le_trans (nodup_length s.length _ (wf.nodup n x hx) (fun c hc => (wf.kid_lt u hx hc).1)) wf.cap
    have hw0 : (w.alloc (.cells #[.int .i64 (n : Int)] 3)).ownsRow w.heap.size 3 1 (.slice (some ⟨w.heap.size, 0, none⟩) 1 1) 1 [.int .i64 (n : Int)] := by
      have := World.ownsRow_lit (base := w.heap.size) (e := 3) (size := 1) w #[.int .i64 (n : Int)] 1 (Nat.le_refl _) (by decide) rfl
      simpa using this
    have HW0 := hid hw0
    clear hD hr ho hrow hx ih hw0 hkv wf u
    go_enter Tryz.func49, Tryz.ntmps49
    go_wp2
    go_loopw [5, 6] (fun a b wr => ∃ (j : Nat) (v : Value), j ≤ x.ks.length ∧ b = .int .i64 j ∧ a = v ∧ wr.ownsRow w.heap.size 3 1 v (n :: (x.ks.take j).flatMap (allF s k)).length (intsV (n :: (x.ks.take j).flatMap (allF s k))) ∧ Below w.heap.size w wr) (fun _ b _ => x.ks.length - (intOf b).toNat)
    case atStart => exact ⟨0, _, Nat.zero_le _, rfl, rfl, by simpa [intsV] using HW0.out, (Below.refl _ w).alloc (Nat.le_refl _) _⟩
    case round =>
      obtain ⟨j, v, hj, rfl, rfl, hv, hb⟩ := hrel
      have hrw := (Keeps.of_below (F := fun _ => False) hb).row HROW.out (fun _ _ e => e)
      have hDr := HD.out.below hb
      have d0 := (hb.cell (p := ⟨bd, 0, none⟩) hlt.1).trans h0
      have d2 := (hb.cell (p := ⟨bn, n * 4 + 2, none⟩) hlt.2).trans hc2
      by_cases hlt2 : j < x.ks.length
      · obtain ⟨c, hc⟩ : ∃ c, x.ks[j]? = some c := ⟨_, List.getElem?_eq_getElem hlt2⟩
        obtain ⟨hcl, hch⟩ := HKID.out c (List.mem_of_getElem? hc)
        rcases row_cases hrw with ⟨_, hl0⟩ | ⟨g, cc, hgv⟩
        · omega
        cases hgv
        have cel : wr.cell? ⟨g, j, none⟩ = some (.int .i64 (c : Int)) := by
          rw [hrw.cellAt j (by omega)]
          simp [intsV, hc]
        have C := hid (IH.out c hcl (by omega) wr hDr)
        have hjI : (j : Int) < x.ks.length := by omega
        have HC := hid hc
        have HV := hid hv
        have HB := hid hb
        have hpos : 0 < (allF s k c).length := by
          obtain ⟨k', rfl⟩ : ∃ k', k = k' + 1 := ⟨k - 1, by omega⟩
          simp [allF]
        have htk : (n :: (x.ks.take (j + 1)).flatMap (allF s k)) = (n :: (x.ks.take j).flatMap (allF s k)) ++ allF s k c := by
          rw [List.take_add_one, hc]; simp
        have HTK := hid htk
        have hll := HL.out (j + 1)
        rw [htk] at hll
        simp only [List.length_append] at hll
        clear hc hv hb hDr hrw htk
        go_wp2_with (first
          | (go_at_call 49; refine C.out.mono ?_; rintro e w2 ⟨a2, c2, rfl, h2, hb2⟩
             obtain ⟨g2, rfl, hsrc⟩ := slice_some h2 hpos
             have hv2 := ownsRow_below HV.out hb2
             have H2 := hid h2
             have HB2 := hid (HB.out.trans (hb2.mono HB.out.size))
             clear h2 hb2)
          | (at_builtin; refine wpList_append_own _ rfl _ _ 24 rfl w.heap.size 3 i0 (.int .i64 0) 1 8 Tryz.underlying24 hi hz0 hz1 hz2 rfl (by decide) u5 _ _ rfl hv2 ⟨g2, 0, none⟩ (allF s k c).length c2 (intsV (allF s k c)) rfl (by simp) hsrc (intsV_one _) (by unfold maxLen; omega) (by omega) HB2.out.size ?_
             intro v3 w3 ho3 hg3 _
             have HO3 := hid ho3
             have HB3 := hid (HB2.out.grown hg3 HB2.out.size (fun k e => (hv2.lt k e).1))
             clear ho3 hg3))
        go_roundw
        case rel =>
          refine ⟨j + 1, v3, by omega, by go_num, rfl, ?_, HB3.out⟩
          have e : intsV ((n :: (x.ks.take j).flatMap (allF s k)) ++ allF s k c) = intsV (n :: (x.ks.take j).flatMap (allF s k)) ++ intsV (allF s k c) := by simp [intsV]
          rw [HTK.out, List.length_append, e]
          exact HO3.out
        case measure => simp [intOf]; omega
      · obtain rfl : j = x.ks.length := by omega
        have hjI : ¬ (x.ks.length : Int) < x.ks.length := by omega
        have hfin : allF s (k + 1) n = n :: (x.ks.take x.ks.length).flatMap (allF s k) := by rw [allF, kidsOf_eq HX.out, List.take_of_length_le (Nat.le_refl _)]
        rw [← hfin] at hv
        obtain ⟨L, hLL⟩ : ∃ L, allF s (k + 1) n = L := ⟨_, rfl⟩
        rw [hLL] at hv
        have HLL := hid hLL
        obtain ⟨va, vc, hva⟩ := slice_form' hv
        subst hva
        clear hfin hLL
        have HV := hid hv
        have HB := hid hb
        clear hv hb hDr hrw
        go_wp2
        go_ret
        rw [HLL.out]
        exact ⟨va, vc, rfl, HV.out, HB.out⟩

variable {w : World}

set_option maxRecDepth 20000 in
set_option maxHeartbeats 1000000 in
theorem rwalk_no (hD : RDocAt w F bd bn cap rn rv s rs) (n : Int) (hn : isB s n = false) :
    Calls Tryz.prog 19 #[.pointer (some ⟨bd, 0, none⟩), .int .i64 n] w fun e w' => e = .returned (.tuple #[.slice none 0 0, .agg #[.int .i64 n, .int .i64 1]]) ∧ Below w.heap.size w w' := by
  have HD := hid hD.faultAt
  clear hD
  go_enter Tryz.func19, Tryz.ntmps19
  go_wp2_with (first
    | (go_at_call 47; refine (is_at HD.out _).mono ?_; rintro e w' ⟨rfl, rfl⟩)
    | (go_at_call 48; refine (no_any _ _ _).mono ?_; rintro e w' ⟨rfl, rfl⟩))
  go_returns
  refine ⟨rfl, ?_⟩
  go_grown

/-- A list that a call has made, and no fault. -/
def NewWalk (w : World) (xs : List Nat) (e : Ending) (w' : World) : Prop :=
  ∃ a c, e = .returned (.tuple #[.slice a xs.length c, .agg #[.int .i64 0, .int .i64 0]]) ∧ w'.ownsRow w.heap.size 3 1 (.slice a xs.length c) xs.length (intsV xs) ∧ Below w.heap.size w w'

theorem ownsRow_base {w : World} {B B' : Nat} {e : TypeId} {z n : Nat} {v : Value} {xs : List Value} (h : w.ownsRow B e z v n xs) (hB : B' ≤ B) : w.ownsRow B' e z v n xs := by
  obtain ⟨h1, h2⟩ := h
  refine ⟨h1, ?_⟩
  rcases h2 with h2 | ⟨g, cap, cur, e1, hg, rest⟩
  · exact .inl h2
  · exact .inr ⟨g, cap, cur, e1, Nat.le_trans hB hg, rest⟩

set_option maxRecDepth 20000 in
set_option maxHeartbeats 1000000 in
theorem rwalk_yes (wf : WF s) {h : Nat → Nat} {B : Nat} (u : Up s h B) (hD : RDocAt w F bd bn cap rn rv s rs) (k n : Nat) (hn : n < s.length) (hk : h n < k) :
    Calls Tryz.prog 19 #[.pointer (some ⟨bd, 0, none⟩), .int .i64 n] w (NewWalk w (allF s k n)) := by
  have hi : isB s n = true := isB_of (by omega)
  have HC := hid (rall_any (F := F) (bd := bd) (bn := bn) (cap := cap) (rn := rn) (rv := rv) (rs := rs) wf u k n hn hk _ hD.faultAt)
  have HD := hid hD.faultAt
  clear hD
  generalize allF s k n = L at HC ⊢
  go_enter Tryz.func19, Tryz.ntmps19
  go_wp2_with (first
    | (go_at_call 47; refine (is_at HD.out _).mono ?_; rintro e w' ⟨rfl, rfl⟩)
    | (go_at_call 49
       refine HC.out.mono ?_
       rintro e w1 ⟨a2, c2, rfl, hr, hb⟩
       have hq : w1.heap[w.heap.size]? = some (.cells #[.int .i64 0, .int .i64 0] 32 (0, 0)) := (hb.block w.heap.size (by simp)).trans (heap_alloc_new w _)
       have hc2 : w1.cell? ⟨w.heap.size, 0, none⟩ = some (.int .i64 0) := cell_of_heap hq 0
       have hc3 : w1.cell? ⟨w.heap.size, 1, none⟩ = some (.int .i64 0) := cell_of_heap hq 1
       have hf2 := frozen_of_heap hq 0
       have hf3 := frozen_of_heap hq 1
       have HB : Hid (Below w.heap.size w w1) := ((Below.refl _ w).alloc (Nat.le_refl _) _).trans (hb.mono (by simp))
       have HR := hid (And.intro (ownsRow_base hr (Nat.le_of_lt (show w.heap.size < (w.alloc _).heap.size by simp))) (And.intro hr hb))
       clear hq hb hr))
  refine bodyPost_ret (v := .tuple #[.slice a2 L.length c2, .agg #[.int .i64 0, .int .i64 0]]) (by simp [results, Tryz.results19, go_sem, *]) rfl ?_
  refine ⟨a2, c2, rfl, ?_, ?_⟩
  · have h1 := HR.out.2.1
    have hne : ∀ b, (Value.slice a2 L.length c2).ownBlock = some b → b ≠ w.heap.size := fun b e => by have := (h1.lt b e).1; simp at this; omega
    exact Keeps.rowB (((Keeps.refl (fun b => b = w.heap.size) w1).setCell (p := ⟨w.heap.size, 0, none⟩) (.inl rfl) _).setCell (p := ⟨w.heap.size, 1, none⟩) (.inl rfl) _) HR.out.1 hne
  · have hh := HB.out
    have hsz := hh.size
    go_grown
end
end Go.Proofs.YtabogkonklplcaaGreatDoor
