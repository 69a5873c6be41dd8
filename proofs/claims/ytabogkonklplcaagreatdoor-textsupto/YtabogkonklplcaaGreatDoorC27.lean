import Derived.Test.YtabogkonklplcaaGreatDoorC03
import Derived.RangeFuncNested
import Derived.RangeFuncBound
import Derived.RangeFuncCalls
import Derived.RangeFuncLeaves
import Derived.ControlIn

/- Ranging over a function: the loop's side and the function's side each have blocks of their own; what either does is told by what it owns. For functions that range over themselves. Our own. -/
namespace Go.Proofs.YtabogkonklplcaaGreatDoor
open Go.RowKit
set_option linter.unusedSimpArgs false
set_option linter.unusedVariables false

/-- One side's step: of what there was, its own blocks alone change; what it gains is new. -/
structure Stp (O O' : Nat → Prop) (w w' : World) : Prop where
  keeps : Keeps O w w'
  gains : ∀ k, O' k → O k ∨ w.heap.size ≤ k
  there : ∀ k, O' k → k < w'.heap.size

theorem Stp.refl {O : Nat → Prop} {w : World} (h : ∀ k, O k → k < w.heap.size) : Stp O O w w := ⟨Keeps.refl _ _, fun k h => .inl h, h⟩
theorem Stp.trans {O1 O2 O3 : Nat → Prop} {a b c : World} (h : Stp O1 O2 a b) (k : Stp O2 O3 b c) : Stp O1 O3 a c where
  keeps := h.keeps.trans (k.keeps.mono (fun i _ e => h.gains i e))
  gains := fun i e => (k.gains i e).elim (h.gains i) (fun e => .inr (Nat.le_trans h.keeps.size e))
  there := k.there

/-- What is said of the blocks in O, and of those below B. -/
def Mine (B : Nat) (I : List Nat → (Nat → Prop) → World → Prop) : Prop := ∀ pre O w w', I pre O w → Keeps (fun k => ¬ O k ∧ B ≤ k) w w' → I pre O w'

theorem Mine.later {B B' : Nat} {I : List Nat → (Nat → Prop) → World → Prop} (h : Mine B I) (hB : B ≤ B') : Mine B' I :=
  fun pre O w w' hi hk => h pre O w w' hi (hk.mono (fun k _ e => ⟨e.1, Nat.le_trans hB e.2⟩))

def encN (x : Nat) : Array Value := #[.int .i64 (x : Int)]

/-- What a call of yield does. -/
def YieldOk (P : Program) (l : Nat) (xs : List Nat) (J Jx : List Nat → (Nat → Prop) → World → Prop) : Prop :=
  ∀ (n : Nat) pre x O w, J pre O w → pre ++ [x] <+: xs → (∀ k, O k → k < w.heap.size) → YieldAt Fence.wide n P l (encN x) w fun e w' => ∃ O', Stp O O' w w' ∧
    ((e = .returned (.bool true) ∧ J (pre ++ [x]) O' w') ∨ (e = .returned (.bool false) ∧ Jx (pre ++ [x]) O' w'))

/-- What a function gives that is ranged over. -/
def SeqOk (P : Program) (gf : Nat) (lb : Array Value) (xs : List Nat) (w : World) (O : Nat → Prop) : Prop :=
  ∀ (l : Nat) (J Jx : List Nat → (Nat → Prop) → World → Prop) (O1 : Nat → Prop) (w1 : World), Below w.heap.size w w1 → (∀ k, O1 k → O k ∨ w.heap.size ≤ k) → (∀ k, O1 k → k < w1.heap.size) → Mine w1.heap.size J → Mine w1.heap.size Jx → YieldOk P l xs J Jx → J [] O1 w1 →
    Calls P gf (#[.func (.yield l) #[] #[]] ++ lb) w1 fun e w' => (∃ v, e = .returned v) ∧ ∃ O', Stp O1 O' w1 w' ∧ (J xs O' w' ∨ ∃ pre, pre <+: xs ∧ Jx pre O' w')

/-- How a round's body may be left. -/
def minePost (I Ix : List Nat → (Nat → Prop) → World → Prop) (O : Nat → Prop) (xs : List Nat) (W : World) : Exit → Act → World → Prop
  | .normal, _, W' => ∃ O', Stp O O' W W' ∧ I xs O' W'
  | .ret, _, W' => ∃ O', Stp O O' W W' ∧ Ix xs O' W'
  | .exit _, _, _ => False
  | .goto _, _, _ => False
  | .panic _, _, _ => False
  | .outgrown, _, _ => False

/-- The same, a round's jump said by its code. -/
def anyPost (I : List Nat → (Nat → Prop) → World → Prop) (Ix : Code → List Nat → (Nat → Prop) → World → Prop) (O : Nat → Prop) (xs : List Nat) (W : World) : Exit → Act → World → Prop
  | .normal, _, W' => ∃ O', Stp O O' W W' ∧ I xs O' W'
  | .ret, _, W' => ∃ O', Stp O O' W W' ∧ Ix .ret xs O' W'
  | .exit id, _, W' => ∃ O', Stp O O' W W' ∧ Ix (.exit id) xs O' W'
  | .goto _, _, _ => False
  | .panic _, _, _ => False
  | .outgrown, _, _ => False

theorem keeps_putObj {F : Nat → Prop} {a w : World} (h : Keeps F a w) {l : Nat} (hl : F l ∨ a.heap.size ≤ l) (o : Obj) : Keeps F a (w.putObj l o) :=
  h.trans ⟨rfl, rfl, rfl, by simp, fun k hk hF => World.putObj_heap_other (fun e => hF (e ▸ hl))⟩

set_option maxHeartbeats 1000000 in
theorem range_any {P : Program} {n : Nat} {g : Operand} {ps : Array Tmp} {assign body : Code} {Q : Exit → Act → World → Prop} {a : Act} {w : World} {gf : Nat} {lb : Array Value}
    (hg : a.eval g = .func (.func gf) #[] lb) (eg : ∀ args w, (callFunc gf args).run P w = .ok (.enter gf args) w) (hps : ps.size = 1)
    {xs : List Nat} {O : Nat → Prop} (hO : ∀ k, O k → k < w.heap.size) (hseq : SeqOk P gf lb xs w O)
    (I : List Nat → (Nat → Prop) → World → Prop) (Ix : Code → List Nat → (Nat → Prop) → World → Prop) (mI : Mine w.heap.size I) (mIx : ∀ c, Mine w.heap.size (Ix c)) (h0 : I [] O w) (a₁ : Nat → Act)
    (hassign : ∀ (m l x : Nat) (W : World) (K : Act → World → Prop), K (a₁ x) W → assign.wpIn (Fence.wide.inRound l) m P (Exit.then K (fun _ _ _ => False)) { tmps := (ps.zip (encN x)).foldl (fun t (p, v) => t.setIfInBounds p v) a.tmps, defers := [] } W)
    (hbody : ∀ (m l : Nat) pre x O W, pre ++ [x] <+: xs → (∀ k, O k → k < W.heap.size) → I pre O W → body.wpIn (Fence.wide.inRound l) m P (anyPost I Ix O (pre ++ [x]) W) (a₁ x) W)
    (hdone : ∀ O' W, Stp O O' w W → ¬ O' w.heap.size → I xs O' W → W.heap[w.heap.size]? = some (.deferred (some [])) → Q .normal { a with defers := { target := .collected w.heap.size, args := #[] } :: a.defers } W)
    (hstop : ∀ (c : Code) O' pre W, pre <+: xs → Stp O O' w W → ¬ O' w.heap.size → Ix c pre O' W → W.heap[w.heap.size]? = some (.deferred (some [])) → c.wpIn Fence.wide n P Q { a with defers := { target := .collected w.heap.size, args := #[] } :: a.defers } W) :
    (Code.rangeFunc g ps assign body).wpIn Fence.wide n P Q a w := by
  refine wpIn_rangeFunc ?_
  intro fn hfn
  obtain ⟨rec, hrec⟩ : ∃ rec : LoopState → Option Code → Loop, rec = fun st pe => { state := st, pending := pe, fn, tmps := a.tmps, params := ps, assign, body, defers := w.heap.size } := ⟨_, rfl⟩
  obtain ⟨l, hl⟩ : ∃ l, l = w.heap.size + 1 := ⟨_, rfl⟩
  obtain ⟨W1, hW1⟩ : ∃ W1, (w.alloc (.deferred (some []))).alloc (.loop (rec .ready none)) = W1 := ⟨_, rfl⟩
  have hs1 : W1.heap.size = w.heap.size + 2 := by rw [← hW1]; simp
  have hL1 : W1.heap[l]? = some (.loop (rec .ready none)) := by
    rw [← hW1, hl]; have := World.alloc_heap_new (w.alloc (.deferred (some []))) (.loop (rec .ready none)); rwa [World.size_alloc] at this
  have hK1 : W1.heap[w.heap.size]? = some (.deferred (some [])) := by
    rw [← hW1]; exact (Below.heap_alloc _ _ _ (by simp)).trans (World.alloc_heap_new w _)
  have hb1 : Below w.heap.size w W1 := by rw [← hW1]; exact ((Below.refl _ w).alloc (Nat.le_refl _) _).alloc (by simp) _
  have hOl : ¬ O l := fun e => by have := hO l e; omega
  refine ⟨l, [{ target := .collected w.heap.size, args := #[] }], W1, { target := .fn (.func gf) lb, args := #[.func (.yield l) #[] #[]] }, W1, gf, #[.func (.yield l) #[] #[]] ++ lb, W1, ?_, ?_, fun _ _ => trivial, ?_, ?_, ?_⟩
  · rw [← hW1, hrec, hl]; exact run_enterLoop_outer _ _ _ _ _
  · simp only [resolve, hg]
    simp [go_sem]
  · simp [invoke, go_sem, eg]
  · intro h; simp [Fence.wide] at h
  have hI1 : I [] O W1 := mI [] O w W1 h0 (Keeps.of_below hb1)
  obtain ⟨J, hJ⟩ : ∃ J : List Nat → (Nat → Prop) → World → Prop, J = fun pre O' W => ∃ O2 : Nat → Prop, (O' = fun k => O2 k ∨ k = l) ∧ ¬ O2 l ∧ I pre O2 W ∧ W.heap[l]? = some (.loop (rec .ready none)) := ⟨_, rfl⟩
  obtain ⟨Jx, hJx⟩ : ∃ J : List Nat → (Nat → Prop) → World → Prop, J = fun pre O' W => ∃ (c : Code) (O2 : Nat → Prop), (O' = fun k => O2 k ∨ k = l) ∧ ¬ O2 l ∧ Ix c pre O2 W ∧ W.heap[l]? = some (.loop (rec .done (some c))) := ⟨_, rfl⟩
  have mJ : Mine W1.heap.size J := by
    rintro pre O' X Y hj hk
    rw [hJ] at hj ⊢
    obtain ⟨O2, rfl, h1, h2, h3⟩ := hj
    exact ⟨O2, rfl, h1, mI pre O2 X Y h2 (hk.mono (fun k _ e => ⟨fun h => e.1 (.inl h), by omega⟩)), (hk.block l (heap_lt h3) (fun e => e.1 (.inr rfl))).trans h3⟩
  have mJx : Mine W1.heap.size Jx := by
    rintro pre O' X Y hj hk
    rw [hJx] at hj ⊢
    obtain ⟨c, O2, rfl, h1, h2, h3⟩ := hj
    exact ⟨c, O2, rfl, h1, mIx c pre O2 X Y h2 (hk.mono (fun k _ e => ⟨fun h => e.1 (.inl h), by omega⟩)), (hk.block l (heap_lt h3) (fun e => e.1 (.inr rfl))).trans h3⟩
  have hY : YieldOk P l xs J Jx := by
    intro m pre x O' W hj hpre hO'
    rw [hJ] at hj
    obtain ⟨O2, rfl, h1, h2, h3⟩ := hj
    have hlt := heap_lt h3
    have hy := run_yield (P := P) (args := encN x) h3 (by rw [hrec]; exact hps.symm)
    rw [hrec] at hy
    refine ⟨fn, _, assign, body, hy, roundIn_of_wpIn trivial (hassign m l x W _ ?_)⟩
    clear hy
    refine ⟨_, run_beginRound h3 (by rw [hrec]), ?_⟩
    obtain ⟨Wb, hWb⟩ : ∃ Wb, W.putObj l (.loop { rec .ready none with state := .busy }) = Wb := ⟨_, rfl⟩
    rw [hWb]
    have hszb : Wb.heap.size = W.heap.size := by rw [← hWb]; simp
    have hlb : Wb.heap[l]? = some (.loop { rec .ready none with state := .busy }) := by rw [← hWb]; exact World.putObj_heap_same hlt
    have hIb : I pre O2 Wb := mI pre O2 W Wb h2 (by rw [← hWb]; exact keeps_putObj (Keeps.refl _ _) (.inl ⟨h1, by omega⟩) _)
    have hkb : Keeps (fun k => O2 k ∨ k = l) W Wb := by rw [← hWb]; exact keeps_putObj (Keeps.refl _ _) (.inl (.inr rfl)) _
    have fin : ∀ (jump : Option Code) (O3 : Nat → Prop) (W3 : World), Stp O2 O3 Wb W3 →
        (Instr.endRound l jump).run P W3 = .ok (.bool jump.isNone) (W3.putObj l (.loop (rec (if jump.isNone then .ready else .done) jump))) ∧ ¬ O3 l ∧ l < W3.heap.size ∧
        (W3.putObj l (.loop (rec (if jump.isNone then .ready else .done) jump))).heap[l]? = some (.loop (rec (if jump.isNone then .ready else .done) jump)) ∧
        Stp (fun k => O2 k ∨ k = l) (fun k => O3 k ∨ k = l) W (W3.putObj l (.loop (rec (if jump.isNone then .ready else .done) jump))) := by
      intro jump O3 W3 hs
      have hl3 := (hs.keeps.block l (by omega) h1).trans hlb
      have hn3 : ¬ O3 l := fun e => (hs.gains l e).elim h1 (fun e => by omega)
      have he := run_endRound (P := P) jump hl3
      rw [hrec] at he ⊢
      refine ⟨he, hn3, heap_lt hl3, World.putObj_heap_same (heap_lt hl3), ?_, ?_, ?_⟩
      · exact keeps_putObj (hkb.trans (hs.keeps.mono (fun k _ e => .inl (.inl e)))) (.inl (.inr rfl)) _
      · rintro k (e | e)
        · rcases hs.gains k e with e | e
          · exact .inl (.inl e)
          · exact .inr (by omega)
        · exact .inl (.inr e)
      · rintro k (e | e)
        · have := hs.there k e
          simpa using this
        · have := heap_lt hl3
          simp; omega
    refine wpIn_mono (hbody m l pre x O2 Wb hpre (fun k hk => by rw [hszb]; exact hO' k (.inl hk)) hIb) ?_
    rintro e a3 W3 hp
    cases e with
    | normal =>
      obtain ⟨O3, hs, hi⟩ := hp
      obtain ⟨hr, hn3, hlt3, hl4, hs4⟩ := fin none O3 W3 hs
      refine ⟨_, _, hr, _, hs4, .inl ⟨rfl, ?_⟩⟩
      rw [hJ]
      exact ⟨O3, rfl, hn3, mI _ O3 W3 _ hi (keeps_putObj (Keeps.refl _ _) (.inl ⟨hn3, by omega⟩) _), hl4⟩
    | ret =>
      obtain ⟨O3, hs, hi⟩ := hp
      obtain ⟨hr, hn3, hlt3, hl4, hs4⟩ := fin (some .ret) O3 W3 hs
      refine ⟨_, _, hr, _, hs4, .inr ⟨rfl, ?_⟩⟩
      rw [hJx]
      exact ⟨.ret, O3, rfl, hn3, mIx _ _ O3 W3 _ hi (keeps_putObj (Keeps.refl _ _) (.inl ⟨hn3, by omega⟩) _), hl4⟩
    | exit id =>
      obtain ⟨O3, hs, hi⟩ := hp
      obtain ⟨hr, hn3, hlt3, hl4, hs4⟩ := fin (some (.exit id)) O3 W3 hs
      refine ⟨_, _, hr, _, hs4, .inr ⟨rfl, ?_⟩⟩
      rw [hJx]
      exact ⟨.exit id, O3, rfl, hn3, mIx _ _ O3 W3 _ hi (keeps_putObj (Keeps.refl _ _) (.inl ⟨hn3, by omega⟩) _), hl4⟩
    | goto t => exact hp.elim
    | panic ch => exact hp.elim
    | outgrown => exact hp.elim
  refine (callsIn_wide.2 (hseq l J Jx (fun k => O k ∨ k = l) W1 hb1 ?_ ?_ mJ mJx hY ?_)).mono ?_
  · rintro k (e | e)
    · exact .inl e
    · exact .inr (by omega)
  · rintro k (e | e)
    · have := hO k e; omega
    · omega
  · rw [hJ]; exact ⟨O, rfl, hOl, hI1, hL1⟩
  · rintro e W2 ⟨⟨v, rfl⟩, O', hs, hh⟩
    have hD : W2.heap[w.heap.size]? = some (.deferred (some [])) := (hs.keeps.block _ (by omega) (fun e => e.elim (fun e => by have := hO _ e; omega) (fun e => by omega))).trans hK1
    have hk2 : Keeps O w W2 := (Keeps.of_below hb1).trans (hs.keeps.mono (fun k _ e => e.elim .inl (fun e => .inr (by omega))))
    have step : ∀ (O2 : Nat → Prop) (o : Obj), (O' = fun k => O2 k ∨ k = l) → Stp O O2 w (W2.putObj l o) := by
      rintro O2 o rfl
      refine ⟨keeps_putObj hk2 (.inr (by omega)) _, fun k e => ?_, fun k e => ?_⟩
      · rcases hs.gains k (.inl e) with (e | e) | e
        · exact .inl e
        · exact .inr (by omega)
        · exact .inr (by omega)
      · have := hs.there k (.inl e)
        simpa using this
    have nd : ∀ (O2 : Nat → Prop), (O' = fun k => O2 k ∨ k = l) → ¬ O2 w.heap.size := by
      rintro O2 rfl e
      rcases hs.gains _ (.inl e) with (e | e) | e
      · have := hO _ e; omega
      · omega
      · omega
    rcases hh with hj | ⟨pre, hpre, hj⟩
    · rw [hJ] at hj
      obtain ⟨O2, he, h1, h2, h3⟩ := hj
      refine ⟨none, _, by have := run_endLoop (P := P) h3 (by rw [hrec]; simp); rw [hrec] at this; exact this, hdone O2 _ (step O2 _ he) (nd O2 he) (mI _ O2 W2 _ h2 (keeps_putObj (Keeps.refl _ _) (.inl ⟨h1, by omega⟩) _)) ((World.putObj_heap_other (by omega)).trans hD)⟩
    · rw [hJx] at hj
      obtain ⟨c, O2, he, h1, h2, h3⟩ := hj
      refine ⟨some c, _, by have := run_endLoop (P := P) h3 (by rw [hrec]; simp); rw [hrec] at this; exact this, hstop c O2 pre _ hpre (step O2 _ he) (nd O2 he) (mIx _ _ O2 W2 _ h2 (keeps_putObj (Keeps.refl _ _) (.inl ⟨h1, by omega⟩) _)) ((World.putObj_heap_other (by omega)).trans hD)⟩

/-- The same where a round is left by a return alone. -/
theorem range_mine {P : Program} {n : Nat} {g : Operand} {ps : Array Tmp} {assign body : Code} {Q : Exit → Act → World → Prop} {a : Act} {w : World} {gf : Nat} {lb : Array Value}
    (hg : a.eval g = .func (.func gf) #[] lb) (eg : ∀ args w, (callFunc gf args).run P w = .ok (.enter gf args) w) (hps : ps.size = 1)
    {xs : List Nat} {O : Nat → Prop} (hO : ∀ k, O k → k < w.heap.size) (hseq : SeqOk P gf lb xs w O)
    (I Ix : List Nat → (Nat → Prop) → World → Prop) (mI : Mine w.heap.size I) (mIx : Mine w.heap.size Ix) (h0 : I [] O w) (a₁ : Nat → Act)
    (hassign : ∀ (m l x : Nat) (W : World) (K : Act → World → Prop), K (a₁ x) W → assign.wpIn (Fence.wide.inRound l) m P (Exit.then K (fun _ _ _ => False)) { tmps := (ps.zip (encN x)).foldl (fun t (p, v) => t.setIfInBounds p v) a.tmps, defers := [] } W)
    (hbody : ∀ (m l : Nat) pre x O W, pre ++ [x] <+: xs → (∀ k, O k → k < W.heap.size) → I pre O W → body.wpIn (Fence.wide.inRound l) m P (minePost I Ix O (pre ++ [x]) W) (a₁ x) W)
    (hdone : ∀ O' W, Stp O O' w W → ¬ O' w.heap.size → I xs O' W → W.heap[w.heap.size]? = some (.deferred (some [])) → Q .normal { a with defers := { target := .collected w.heap.size, args := #[] } :: a.defers } W)
    (hstop : ∀ O' pre W, pre <+: xs → Stp O O' w W → ¬ O' w.heap.size → Ix pre O' W → W.heap[w.heap.size]? = some (.deferred (some [])) → Code.ret.wpIn Fence.wide n P Q { a with defers := { target := .collected w.heap.size, args := #[] } :: a.defers } W) :
    (Code.rangeFunc g ps assign body).wpIn Fence.wide n P Q a w := by
  refine range_any hg eg hps hO hseq I (fun c pre O W => c = .ret ∧ Ix pre O W) mI (fun c pre O w w' h hk => ⟨h.1, mIx pre O w w' h.2 hk⟩) h0 a₁ hassign ?_ hdone ?_
  · intro m l pre x O W hpre hO hi
    refine wpIn_mono (hbody m l pre x O W hpre hO hi) ?_
    intro e a' W' hp
    cases e with
    | normal => exact hp
    | ret => obtain ⟨O', hs, hx⟩ := hp; exact ⟨O', hs, rfl, hx⟩
    | exit id => exact hp.elim
    | goto t => exact hp.elim
    | panic ch => exact hp.elim
    | outgrown => exact hp.elim
  · rintro c O' pre W hpre hs hn ⟨rfl, hx⟩ hD
    exact hstop O' pre W hpre hs hn hx hD

/-- The same over one loop variable that lies in slot q. -/
theorem range_std {P : Program} {n : Nat} {g : Operand} {p : Tmp} {assign body : Code} {Q : Exit → Act → World → Prop} {T : Array Value} {D : List Deferred} {w : World} {gf : Nat} {lb : Array Value} (q : Tmp)
    (hg : (Act.mk T D).eval g = .func (.func gf) #[] lb) (eg : ∀ args w, (callFunc gf args).run P w = .ok (.enter gf args) w)
    {xs : List Nat} {O : Nat → Prop} (hO : ∀ k, O k → k < w.heap.size) (hseq : SeqOk P gf lb xs w O)
    (I : List Nat → (Nat → Prop) → World → Prop) (Ix : Code → List Nat → (Nat → Prop) → World → Prop) (mI : Mine w.heap.size I) (mIx : ∀ c, Mine w.heap.size (Ix c)) (h0 : I [] O w)
    (hassign : ∀ (m l x : Nat) (W : World) (K : Act → World → Prop), K (Act.mk ((T.setIfInBounds p (.int .i64 (x : Int))).setIfInBounds q (.int .i64 (x : Int))) []) W → assign.wpIn (Fence.wide.inRound l) m P (Exit.then K (fun _ _ _ => False)) (Act.mk (T.setIfInBounds p (.int .i64 (x : Int))) []) W)
    (hbody : ∀ (m l : Nat) (pre : List Nat) (x : Nat) O W, pre ++ [x] <+: xs → (∀ k, O k → k < W.heap.size) → I pre O W → body.wpIn (Fence.wide.inRound l) m P (anyPost I Ix O (pre ++ [x]) W) (Act.mk ((T.setIfInBounds p (.int .i64 (x : Int))).setIfInBounds q (.int .i64 (x : Int))) []) W)
    (hdone : ∀ O' W, Stp O O' w W → ¬ O' w.heap.size → I xs O' W → W.heap[w.heap.size]? = some (.deferred (some [])) → Q .normal (Act.mk T ({ target := .collected w.heap.size, args := #[] } :: D)) W)
    (hstop : ∀ (c : Code) O' pre W, pre <+: xs → Stp O O' w W → ¬ O' w.heap.size → Ix c pre O' W → W.heap[w.heap.size]? = some (.deferred (some [])) → c.wpIn Fence.wide n P Q (Act.mk T ({ target := .collected w.heap.size, args := #[] } :: D)) W) :
    (Code.rangeFunc g #[p] assign body).wpIn Fence.wide n P Q (Act.mk T D) w :=
  range_any hg eg rfl hO hseq I Ix mI mIx h0 (fun x => Act.mk ((T.setIfInBounds p (.int .i64 (x : Int))).setIfInBounds q (.int .i64 (x : Int))) []) (fun m l x W K hK => by simpa [encN] using hassign m l x W K hK) hbody hdone hstop

theorem stp_mine {O0 O : Nat → Prop} {B : Nat} {w0 W W' : World} (hB : w0.heap.size ≤ B) (h : Stp O0 O w0 W) (hk : Keeps (fun k => ¬ O k ∧ B ≤ k) W W') : Stp O0 O w0 W' :=
  ⟨h.keeps.trans (hk.mono (fun k _ e => .inr (by have := e.2; omega))), h.gains, fun k e => Nat.lt_of_lt_of_le (h.there k e) hk.size⟩
theorem Stp.alloc {O : Nat → Prop} {w : World} (h : ∀ k, O k → k < w.heap.size) (o : Obj) : Stp O O w (w.alloc o) := ⟨(Keeps.refl _ _).alloc _, fun k e => .inl e, fun k e => by have := h k e; simp; omega⟩
theorem Stp.drew {O O' : Nat → Prop} {w w' : World} (h : Stp O O' w w') : Stp O O' w w'.drew := ⟨h.keeps.drew, h.gains, h.there⟩

/-! ### Leaving a function that has ranged over functions -/
def mark (D : Nat) : Deferred := { target := .collected D, args := #[] }

theorem leaves_marks {n : Nat} {P : Program} {fn : Func} {tmps : Array Value} {R : Ending → World → Prop} : ∀ (ds : List Nat) (w : World), ds.Nodup → (∀ D ∈ ds, w.heap[D]? = some (.deferred (some []))) →
    (∀ w', Keeps (fun k => k ∈ ds) w w' → ∃ v, (results fn tmps).run P w' = .ok v w' ∧ R (.returned v) w') → LeavesInM Fence.wide n P fn tmps R (ds.map mark) .returning w
  | [], w, _, _, h => h w (Keeps.refl _ _)
  | D :: ds, w, hn, hd, h => by
    refine ⟨by simp, .inl ⟨D, _, rfl, run_takeDeferred (hd D (by simp)), ?_⟩⟩
    have hn' := List.nodup_cons.1 hn
    refine leaves_marks ds _ hn'.2 (fun D' h' => ?_) (fun w' hk => h w' ?_)
    · refine (World.putObj_heap_other ?_).trans (hd D' (by simp [h']))
      rintro rfl
      exact hn'.1 h'
    · exact (keeps_putObj (Keeps.refl _ _) (.inl (by simp)) _).trans (hk.mono (fun k _ e => .inl (by simp [e])))

theorem left_ok {O1 O' : Nat → Prop} {w1 wr w' : World} {ds : List Nat} (st : Stp O1 O' w1 wr) (hds : ∀ D ∈ ds, w1.heap.size ≤ D ∧ ¬ O' D) (hk : Keeps (fun k => k ∈ ds) wr w') :
    Stp O1 O' w1 w' ∧ Keeps (fun k => ¬ O' k ∧ w1.heap.size ≤ k) wr w' :=
  ⟨⟨st.keeps.trans (hk.mono (fun k _ e => .inr (hds k e).1)), st.gains, fun k e => Nat.lt_of_lt_of_le (st.there k e) hk.size⟩, hk.mono (fun k _ e => ⟨(hds k e).2, (hds k e).1⟩)⟩

end Go.Proofs.YtabogkonklplcaaGreatDoor
