import Derived.Test.YtabogkonklplcaaGreatDoorV03
import Derived.RangeFuncNested
import Derived.RangeFuncBound
import Derived.RangeFuncCalls
import Derived.RangeFuncLeaves
import Derived.ControlIn
import Derived.Test.YtabogkonklplcaaGreatDoorV07
import Derived.Test.YtabogkonklplcaaGreatDoorV10
import Derived.Test.YtabogkonklplcaaGreatDoorV08
import Derived.Shelf.Abstract
import Derived.Shelf.RegionOpen
import Derived.OwnWalkIn
import Derived.TacticsInMore
import Derived.LoopNIn
import Derived.LoopIn
import Derived.Maps.AppendAt
import Derived.Maps.OwnIn

namespace Go.Proofs.YtabogkonklplcaaGreatDoor
open Go.RowKit
set_option linter.unusedSimpArgs false
set_option linter.unusedVariables false
structure Stp (O O' : Nat → Prop) (w w' : World) : Prop where
  keeps : Keeps O w w'
  gains : ∀ k, O' k → O k ∨ w.heap.size ≤ k
  there : ∀ k, O' k → k < w'.heap.size
theorem Stp.refl {O : Nat → Prop} {w : World} (h : ∀ k, O k → k < w.heap.size) : Stp O O w w := ⟨Keeps.refl _ _, fun k h => .inl h, h⟩
theorem Stp.trans {O1 O2 O3 : Nat → Prop} {a b c : World} (h : Stp O1 O2 a b) (k : Stp O2 O3 b c) : Stp O1 O3 a c where
  keeps := h.keeps.trans (k.keeps.mono (fun i _ e => h.gains i e))
  gains := fun i e => (k.gains i e).elim (h.gains i) (fun e => .inr (Nat.le_trans h.keeps.size e))
  there := k.there
def Mine (B : Nat) (I : List Nat → (Nat → Prop) → World → Prop) : Prop := ∀ pre O w w', I pre O w → Keeps (fun k => ¬ O k ∧ B ≤ k) w w' → I pre O w'
theorem Mine.later {B B' : Nat} {I : List Nat → (Nat → Prop) → World → Prop} (h : Mine B I) (hB : B ≤ B') : Mine B' I :=
  fun pre O w w' hi hk => h pre O w w' hi (hk.mono (fun k _ e => ⟨e.1, Nat.le_trans hB e.2⟩))
def encN (x : Nat) : Array Value := #[.int .i64 (x : Int)]
def YieldOk (P : Program) (l : Nat) (xs : List Nat) (J Jx : List Nat → (Nat → Prop) → World → Prop) : Prop :=
  ∀ (n : Nat) pre x O w, J pre O w → pre ++ [x] <+: xs → (∀ k, O k → k < w.heap.size) → YieldAt Fence.wide n P l (encN x) w fun e w' => ∃ O', Stp O O' w w' ∧
    ((e = .returned (.bool true) ∧ J (pre ++ [x]) O' w') ∨ (e = .returned (.bool false) ∧ Jx (pre ++ [x]) O' w'))
def SeqOk (P : Program) (gf : Nat) (lb : Array Value) (xs : List Nat) (w : World) (O : Nat → Prop) : Prop :=
  ∀ (l : Nat) (J Jx : List Nat → (Nat → Prop) → World → Prop) (O1 : Nat → Prop) (w1 : World), Below w.heap.size w w1 → (∀ k, O1 k → O k ∨ w.heap.size ≤ k) → (∀ k, O1 k → k < w1.heap.size) → Mine w1.heap.size J → Mine w1.heap.size Jx → YieldOk P l xs J Jx → J [] O1 w1 →
    Calls P gf (#[.func (.yield l) #[] #[]] ++ lb) w1 fun e w' => (∃ v, e = .returned v) ∧ ∃ O', Stp O1 O' w1 w' ∧ (J xs O' w' ∨ ∃ pre, pre <+: xs ∧ Jx pre O' w')
def minePost (I Ix : List Nat → (Nat → Prop) → World → Prop) (O : Nat → Prop) (xs : List Nat) (W : World) : Exit → Act → World → Prop
  | .normal, _, W' => ∃ O', Stp O O' W W' ∧ I xs O' W'
  | .ret, _, W' => ∃ O', Stp O O' W W' ∧ Ix xs O' W'
  | .exit _, _, _ => False
  | .goto _, _, _ => False
  | .panic _, _, _ => False
  | .outgrown, _, _ => False
def anyPost (I : List Nat → (Nat → Prop) → World → Prop) (Ix : Code → List Nat → (Nat → Prop) → World → Prop) (O : Nat → Prop) (xs : List Nat) (W : World) : Exit → Act → World → Prop
  | .normal, _, W' => ∃ O', Stp O O' W W' ∧ I xs O' W'
  | .ret, _, W' => ∃ O', Stp O O' W W' ∧ Ix .ret xs O' W'
  | .exit id, _, W' => ∃ O', Stp O O' W W' ∧ Ix (.exit id) xs O' W'
  | .goto _, _, _ => False
  | .panic _, _, _ => False
  | .outgrown, _, _ => False
theorem keeps_putObj {F : Nat → Prop} {a w : World} (h : Keeps F a w) {l : Nat} (hl : F l ∨ a.heap.size ≤ l) (o : Obj) : Keeps F a (w.putObj l o) :=
  h.trans ⟨rfl, rfl, rfl, by simp, fun k hk hF => World.putObj_heap_other (fun e => hF (e ▸ hl))⟩
set_option maxHeartbeats 1000000 in
theorem range_any {P : Program} {n : Nat} {g : Operand} {ps : Array Tmp} {assign body : Code} {Q : Exit → Act → World → Prop} {a : Act} {w : World} {gf : Nat} {lb : Array Value}
    (hg : a.eval g = .func (.func gf) #[] lb) (eg : ∀ args w, (callFunc gf args).run P w = .ok (.enter gf args) w) (hps : ps.size = 1)
    {xs : List Nat} {O : Nat → Prop} (hO : ∀ k, O k → k < w.heap.size) (hseq : SeqOk P gf lb xs w O)
    (I : List Nat → (Nat → Prop) → World → Prop) (Ix : Code → List Nat → (Nat → Prop) → World → Prop) (mI : Mine w.heap.size I) (mIx : ∀ c, Mine w.heap.size (Ix c)) (h0 : I [] O w) (a₁ : Nat → Act)
    (hassign : ∀ (m l x : Nat) (W : World) (K : Act → World → Prop), K (a₁ x) W → assign.wpIn (Fence.wide.inRound l) m P (Exit.then K (fun _ _ _ => False)) { tmps := (ps.zip (encN x)).foldl (fun t (p, v) => t.setIfInBounds p v) a.tmps, defers := [] } W)
    (hbody : ∀ (m l : Nat) pre x O W, pre ++ [x] <+: xs → (∀ k, O k → k < W.heap.size) → I pre O W → body.wpIn (Fence.wide.inRound l) m P (anyPost I Ix O (pre ++ [x]) W) (a₁ x) W)
    (hdone : ∀ O' W, Stp O O' w W → ¬ O' w.heap.size → I xs O' W → W.heap[w.heap.size]? = some (.deferred (some [])) → Q .normal { a with defers := { target := .collected w.heap.size, args := #[] } :: a.defers } W)
    (hstop : ∀ (c : Code) O' pre W, pre <+: xs → Stp O O' w W → ¬ O' w.heap.size → Ix c pre O' W → W.heap[w.heap.size]? = some (.deferred (some [])) → c.wpIn Fence.wide n P Q { a with defers := { target := .collected w.heap.size, args := #[] } :: a.defers } W) :
    (Code.rangeFunc g ps assign body).wpIn Fence.wide n P Q a w := by
  refine wpIn_rangeFunc ?_
  intro fn hfn
  obtain ⟨rec, hrec⟩ : ∃ rec : LoopState → Option Code → Loop, rec = fun st pe => { state := st, pending := pe, fn, tmps := a.tmps, params := ps, assign, body, defers := w.heap.size } := ⟨_, rfl⟩
  obtain ⟨l, hl⟩ : ∃ l, l = w.heap.size + 1 := ⟨_, rfl⟩
  obtain ⟨W1, hW1⟩ : ∃ W1, (w.alloc (.deferred (some []))).alloc (.loop (rec .ready none)) = W1 := ⟨_, rfl⟩
  have hs1 : W1.heap.size = w.heap.size + 2 := by rw [← hW1]; simp
  have hL1 : W1.heap[l]? = some (.loop (rec .ready none)) := by
    rw [← hW1, hl]; have := World.alloc_heap_new (w.alloc (.deferred (some []))) (.loop (rec .ready none)); rwa [World.size_alloc] at this
  have hK1 : W1.heap[w.heap.size]? = some (.deferred (some [])) := by
    rw [← hW1]; exact (Below.heap_alloc _ _ _ (by simp)).trans (World.alloc_heap_new w _)
  have hb1 : Below w.heap.size w W1 := by rw [← hW1]; exact ((Below.refl _ w).alloc (Nat.le_refl _) _).alloc (by simp) _
  have hOl : ¬ O l := fun e => by have := hO l e; omega
  refine ⟨l, [{ target := .collected w.heap.size, args := #[] }], W1, { target := .fn (.func gf) lb, args := #[.func (.yield l) #[] #[]] }, W1, gf, #[.func (.yield l) #[] #[]] ++ lb, W1, ?_, ?_, fun _ _ => trivial, ?_, ?_, ?_⟩
  · rw [← hW1, hrec, hl]; exact run_enterLoop_outer _ _ _ _ _
  · simp only [resolve, hg]
    simp [go_sem]
  · simp [invoke, go_sem, eg]
  · intro h; simp [Fence.wide] at h
  have hI1 : I [] O W1 := mI [] O w W1 h0 (Keeps.of_below hb1)
  obtain ⟨J, hJ⟩ : ∃ J : List Nat → (Nat → Prop) → World → Prop, J = fun pre O' W => ∃ O2 : Nat → Prop, (O' = fun k => O2 k ∨ k = l) ∧ ¬ O2 l ∧ I pre O2 W ∧ W.heap[l]? = some (.loop (rec .ready none)) := ⟨_, rfl⟩
  obtain ⟨Jx, hJx⟩ : ∃ J : List Nat → (Nat → Prop) → World → Prop, J = fun pre O' W => ∃ (c : Code) (O2 : Nat → Prop), (O' = fun k => O2 k ∨ k = l) ∧ ¬ O2 l ∧ Ix c pre O2 W ∧ W.heap[l]? = some (.loop (rec .done (some c))) := ⟨_, rfl⟩
  have mJ : Mine W1.heap.size J := by
    rintro pre O' X Y hj hk
    rw [hJ] at hj ⊢
    obtain ⟨O2, rfl, h1, h2, h3⟩ := hj
    exact ⟨O2, rfl, h1, mI pre O2 X Y h2 (hk.mono (fun k _ e => ⟨fun h => e.1 (.inl h), by omega⟩)), (hk.block l (heap_lt h3) (fun e => e.1 (.inr rfl))).trans h3⟩
  have mJx : Mine W1.heap.size Jx := by
    rintro pre O' X Y hj hk
    rw [hJx] at hj ⊢
    obtain ⟨c, O2, rfl, h1, h2, h3⟩ := hj
    exact ⟨c, O2, rfl, h1, mIx c pre O2 X Y h2 (hk.mono (fun k _ e => ⟨fun h => e.1 (.inl h), by omega⟩)), (hk.block l (heap_lt h3) (fun e => e.1 (.inr rfl))).trans h3⟩
  have hY : YieldOk P l xs J Jx := by
    intro m pre x O' W hj hpre hO'
    rw [hJ] at hj
    obtain ⟨O2, rfl, h1, h2, h3⟩ := hj
    have hlt := heap_lt h3
    have hy := run_yield (P := P) (args := encN x) h3 (by rw [hrec]; exact hps.symm)
    rw [hrec] at hy
    refine ⟨fn, _, assign, body, hy, roundIn_of_wpIn trivial (hassign m l x W _ ?_)⟩
    clear hy
    refine ⟨_, run_beginRound h3 (by rw [hrec]), ?_⟩
    obtain ⟨Wb, hWb⟩ : ∃ Wb, W.putObj l (.loop { rec .ready none with state := .busy }) = Wb := ⟨_, rfl⟩
    rw [hWb]
    have hszb : Wb.heap.size = W.heap.size := by rw [← hWb]; simp
    have hlb : Wb.heap[l]? = some (.loop { rec .ready none with state := .busy }) := by rw [← hWb]; exact World.putObj_heap_same hlt
    have hIb : I pre O2 Wb := mI pre O2 W Wb h2 (by rw [← hWb]; exact keeps_putObj (Keeps.refl _ _) (.inl ⟨h1, by omega⟩) _)
    have hkb : Keeps (fun k => O2 k ∨ k = l) W Wb := by rw [← hWb]; exact keeps_putObj (Keeps.refl _ _) (.inl (.inr rfl)) _
    have fin : ∀ (jump : Option Code) (O3 : Nat → Prop) (W3 : World), Stp O2 O3 Wb W3 →
        (Instr.endRound l jump).run P W3 = .ok (.bool jump.isNone) (W3.putObj l (.loop (rec (if jump.isNone then .ready else .done) jump))) ∧ ¬ O3 l ∧ l < W3.heap.size ∧
        (W3.putObj l (.loop (rec (if jump.isNone then .ready else .done) jump))).heap[l]? = some (.loop (rec (if jump.isNone then .ready else .done) jump)) ∧
        Stp (fun k => O2 k ∨ k = l) (fun k => O3 k ∨ k = l) W (W3.putObj l (.loop (rec (if jump.isNone then .ready else .done) jump))) := by
      intro jump O3 W3 hs
      have hl3 := (hs.keeps.block l (by omega) h1).trans hlb
      have hn3 : ¬ O3 l := fun e => (hs.gains l e).elim h1 (fun e => by omega)
      have he := run_endRound (P := P) jump hl3
      rw [hrec] at he ⊢
      refine ⟨he, hn3, heap_lt hl3, World.putObj_heap_same (heap_lt hl3), ?_, ?_, ?_⟩
      · exact keeps_putObj (hkb.trans (hs.keeps.mono (fun k _ e => .inl (.inl e)))) (.inl (.inr rfl)) _
      · rintro k (e | e)
        · rcases hs.gains k e with e | e
          · exact .inl (.inl e)
          · exact .inr (by omega)
        · exact .inl (.inr e)
      · rintro k (e | e)
        · have := hs.there k e
          simpa using this
        · have := heap_lt hl3
          simp; omega
    refine wpIn_mono (hbody m l pre x O2 Wb hpre (fun k hk => by rw [hszb]; exact hO' k (.inl hk)) hIb) ?_
    rintro e a3 W3 hp
    cases e with
    | normal =>
      obtain ⟨O3, hs, hi⟩ := hp
      obtain ⟨hr, hn3, hlt3, hl4, hs4⟩ := fin none O3 W3 hs
      refine ⟨_, _, hr, _, hs4, .inl ⟨rfl, ?_⟩⟩
      rw [hJ]
      exact ⟨O3, rfl, hn3, mI _ O3 W3 _ hi (keeps_putObj (Keeps.refl _ _) (.inl ⟨hn3, by omega⟩) _), hl4⟩
    | ret =>
      obtain ⟨O3, hs, hi⟩ := hp
      obtain ⟨hr, hn3, hlt3, hl4, hs4⟩ := fin (some .ret) O3 W3 hs
      refine ⟨_, _, hr, _, hs4, .inr ⟨rfl, ?_⟩⟩
      rw [hJx]
      exact ⟨.ret, O3, rfl, hn3, mIx _ _ O3 W3 _ hi (keeps_putObj (Keeps.refl _ _) (.inl ⟨hn3, by omega⟩) _), hl4⟩
    | exit id =>
      obtain ⟨O3, hs, hi⟩ := hp
      obtain ⟨hr, hn3, hlt3, hl4, hs4⟩ := fin (some (.exit id)) O3 W3 hs
      refine ⟨_, _, hr, _, hs4, .inr ⟨rfl, ?_⟩⟩
      rw [hJx]
      exact ⟨.exit id, O3, rfl, hn3, mIx _ _ O3 W3 _ hi (keeps_putObj (Keeps.refl _ _) (.inl ⟨hn3, by omega⟩) _), hl4⟩
    | goto t => exact hp.elim
    | panic ch => exact hp.elim
    | outgrown => exact hp.elim
  refine (callsIn_wide.2 (hseq l J Jx (fun k => O k ∨ k = l) W1 hb1 ?_ ?_ mJ mJx hY ?_)).mono ?_
  · rintro k (e | e)
    · exact .inl e
    · exact .inr (by omega)
  · rintro k (e | e)
    · have := hO k e; omega
    · omega
  · rw [hJ]; exact ⟨O, rfl, hOl, hI1, hL1⟩
  · rintro e W2 ⟨⟨v, rfl⟩, O', hs, hh⟩
    have hD : W2.heap[w.heap.size]? = some (.deferred (some [])) := (hs.keeps.block _ (by omega) (fun e => e.elim (fun e => by have := hO _ e; omega) (fun e => by omega))).trans hK1
    have hk2 : Keeps O w W2 := (Keeps.of_below hb1).trans (hs.keeps.mono (fun k _ e => e.elim .inl (fun e => .inr (by omega))))
    have step : ∀ (O2 : Nat → Prop) (o : Obj), (O' = fun k => O2 k ∨ k = l) → Stp O O2 w (W2.putObj l o) := by
      rintro O2 o rfl
      refine ⟨keeps_putObj hk2 (.inr (by omega)) _, fun k e => ?_, fun k e => ?_⟩
      · rcases hs.gains k (.inl e) with (e | e) | e
        · exact .inl e
        · exact .inr (by omega)
        · exact .inr (by omega)
      · have := hs.there k (.inl e)
        simpa using this
    have nd : ∀ (O2 : Nat → Prop), (O' = fun k => O2 k ∨ k = l) → ¬ O2 w.heap.size := by
      rintro O2 rfl e
      rcases hs.gains _ (.inl e) with (e | e) | e
      · have := hO _ e; omega
      · omega
      · omega
    rcases hh with hj | ⟨pre, hpre, hj⟩
    · rw [hJ] at hj
      obtain ⟨O2, he, h1, h2, h3⟩ := hj
      refine ⟨none, _, by have := run_endLoop (P := P) h3 (by rw [hrec]; simp); rw [hrec] at this; exact this, hdone O2 _ (step O2 _ he) (nd O2 he) (mI _ O2 W2 _ h2 (keeps_putObj (Keeps.refl _ _) (.inl ⟨h1, by omega⟩) _)) ((World.putObj_heap_other (by omega)).trans hD)⟩
    · rw [hJx] at hj
      obtain ⟨c, O2, he, h1, h2, h3⟩ := hj
      refine ⟨some c, _, by have := run_endLoop (P := P) h3 (by rw [hrec]; simp); rw [hrec] at this; exact this, hstop c O2 pre _ hpre (step O2 _ he) (nd O2 he) (mIx _ _ O2 W2 _ h2 (keeps_putObj (Keeps.refl _ _) (.inl ⟨h1, by omega⟩) _)) ((World.putObj_heap_other (by omega)).trans hD)⟩
theorem range_mine {P : Program} {n : Nat} {g : Operand} {ps : Array Tmp} {assign body : Code} {Q : Exit → Act → World → Prop} {a : Act} {w : World} {gf : Nat} {lb : Array Value}
    (hg : a.eval g = .func (.func gf) #[] lb) (eg : ∀ args w, (callFunc gf args).run P w = .ok (.enter gf args) w) (hps : ps.size = 1)
    {xs : List Nat} {O : Nat → Prop} (hO : ∀ k, O k → k < w.heap.size) (hseq : SeqOk P gf lb xs w O)
    (I Ix : List Nat → (Nat → Prop) → World → Prop) (mI : Mine w.heap.size I) (mIx : Mine w.heap.size Ix) (h0 : I [] O w) (a₁ : Nat → Act)
    (hassign : ∀ (m l x : Nat) (W : World) (K : Act → World → Prop), K (a₁ x) W → assign.wpIn (Fence.wide.inRound l) m P (Exit.then K (fun _ _ _ => False)) { tmps := (ps.zip (encN x)).foldl (fun t (p, v) => t.setIfInBounds p v) a.tmps, defers := [] } W)
    (hbody : ∀ (m l : Nat) pre x O W, pre ++ [x] <+: xs → (∀ k, O k → k < W.heap.size) → I pre O W → body.wpIn (Fence.wide.inRound l) m P (minePost I Ix O (pre ++ [x]) W) (a₁ x) W)
    (hdone : ∀ O' W, Stp O O' w W → ¬ O' w.heap.size → I xs O' W → W.heap[w.heap.size]? = some (.deferred (some [])) → Q .normal { a with defers := { target := .collected w.heap.size, args := #[] } :: a.defers } W)
    (hstop : ∀ O' pre W, pre <+: xs → Stp O O' w W → ¬ O' w.heap.size → Ix pre O' W → W.heap[w.heap.size]? = some (.deferred (some [])) → Code.ret.wpIn Fence.wide n P Q { a with defers := { target := .collected w.heap.size, args := #[] } :: a.defers } W) :
    (Code.rangeFunc g ps assign body).wpIn Fence.wide n P Q a w := by
  refine range_any hg eg hps hO hseq I (fun c pre O W => c = .ret ∧ Ix pre O W) mI (fun c pre O w w' h hk => ⟨h.1, mIx pre O w w' h.2 hk⟩) h0 a₁ hassign ?_ hdone ?_
  · intro m l pre x O W hpre hO hi
    refine wpIn_mono (hbody m l pre x O W hpre hO hi) ?_
    intro e a' W' hp
    cases e with
    | normal => exact hp
    | ret => obtain ⟨O', hs, hx⟩ := hp; exact ⟨O', hs, rfl, hx⟩
    | exit id => exact hp.elim
    | goto t => exact hp.elim
    | panic ch => exact hp.elim
    | outgrown => exact hp.elim
  · rintro c O' pre W hpre hs hn ⟨rfl, hx⟩ hD
    exact hstop O' pre W hpre hs hn hx hD
theorem stp_mine {O0 O : Nat → Prop} {B : Nat} {w0 W W' : World} (hB : w0.heap.size ≤ B) (h : Stp O0 O w0 W) (hk : Keeps (fun k => ¬ O k ∧ B ≤ k) W W') : Stp O0 O w0 W' :=
  ⟨h.keeps.trans (hk.mono (fun k _ e => .inr (by have := e.2; omega))), h.gains, fun k e => Nat.lt_of_lt_of_le (h.there k e) hk.size⟩
theorem Stp.alloc {O : Nat → Prop} {w : World} (h : ∀ k, O k → k < w.heap.size) (o : Obj) : Stp O O w (w.alloc o) := ⟨(Keeps.refl _ _).alloc _, fun k e => .inl e, fun k e => by have := h k e; simp; omega⟩
theorem Stp.drew {O O' : Nat → Prop} {w w' : World} (h : Stp O O' w w') : Stp O O' w w'.drew := ⟨h.keeps.drew, h.gains, h.there⟩
def mark (D : Nat) : Deferred := { target := .collected D, args := #[] }
theorem leaves_marks {n : Nat} {P : Program} {fn : Func} {tmps : Array Value} {R : Ending → World → Prop} : ∀ (ds : List Nat) (w : World), ds.Nodup → (∀ D ∈ ds, w.heap[D]? = some (.deferred (some []))) →
    (∀ w', Keeps (fun k => k ∈ ds) w w' → ∃ v, (results fn tmps).run P w' = .ok v w' ∧ R (.returned v) w') → LeavesInM Fence.wide n P fn tmps R (ds.map mark) .returning w
  | [], w, _, _, h => h w (Keeps.refl _ _)
  | D :: ds, w, hn, hd, h => by
    refine ⟨by simp, .inl ⟨D, _, rfl, run_takeDeferred (hd D (by simp)), ?_⟩⟩
    have hn' := List.nodup_cons.1 hn
    refine leaves_marks ds _ hn'.2 (fun D' h' => ?_) (fun w' hk => h w' ?_)
    · refine (World.putObj_heap_other ?_).trans (hd D' (by simp [h']))
      rintro rfl
      exact hn'.1 h'
    · exact (keeps_putObj (Keeps.refl _ _) (.inl (by simp)) _).trans (hk.mono (fun k _ e => .inl (by simp [e])))
theorem left_ok {O1 O' : Nat → Prop} {w1 wr w' : World} {ds : List Nat} (st : Stp O1 O' w1 wr) (hds : ∀ D ∈ ds, w1.heap.size ≤ D ∧ ¬ O' D) (hk : Keeps (fun k => k ∈ ds) wr w') :
    Stp O1 O' w1 w' ∧ Keeps (fun k => ¬ O' k ∧ w1.heap.size ≤ k) wr w' :=
  ⟨⟨st.keeps.trans (hk.mono (fun k _ e => .inr (hds k e).1)), st.gains, fun k e => Nat.lt_of_lt_of_le (st.there k e) hk.size⟩, hk.mono (fun k _ e => ⟨(hds k e).2, (hds k e).1⟩)⟩
end Go.Proofs.YtabogkonklplcaaGreatDoor

namespace Go.Proofs.YtabogkonklplcaaGreatDoor
open Go.RowKit Go.Shelf
set_option linter.unusedSimpArgs false
set_option linter.unusedVariables false
attribute [local go_sem] Oper.semAt_some
set_option maxHeartbeats 400000 in
theorem all_any (bf : Nat) (c : Int) (w : World) : Calls Tryz.prog 90 #[ptr bf, .int .i64 c] w fun e w' =>
    e = .returned (.func (.func 138) #[] #[ptr (w.heap.size + 1), ptr w.heap.size]) ∧ w' = (w.alloc (.cells #[ptr bf] 91)).alloc (.cells #[.int .i64 c] 3) := by
  go_enter Tryz.func90, Tryz.ntmps90
  go_wp2
  go_ret
  exact ⟨by simp, rfl⟩
structure Seen (s : List Nd) (F : Nat → Prop) (bf bn cap : Nat) (pn : List PN) (n b1 b2 b3 l : Nat) (w : World) : Prop where
  forest : PForAt w F bf bn cap pn s
  number : w.cell? ⟨b1, 0, none⟩ = some (.int .i64 n)
  whose : w.cell? ⟨b2, 0, none⟩ = some (ptr bf)
  yield : w.cell? ⟨b3, 0, none⟩ = some (.func (.yield l) #[] #[])
theorem Seen.keeps {s : List Nd} {F O : Nat → Prop} {bf bn cap : Nat} {pn : List PN} {n b1 b2 b3 l : Nat} {w w' : World} (h : Seen s F bf bn cap pn n b1 b2 b3 l w) (hk : Keeps O w w') (hF : ∀ b, F b → ¬ O b) (o1 : ¬ O b1) (o2 : ¬ O b2) (o3 : ¬ O b3) : Seen s F bf bn cap pn n b1 b2 b3 l w' :=
  ⟨h.forest.keeps hk hF, hk.cell h.number o1, hk.cell h.whose o2, hk.cell h.yield o3⟩
set_option maxRecDepth 20000 in
set_option maxHeartbeats 4000000 in
theorem all1_ok {s : List Nd} (wf : WF s) {h : Nat → Nat} {B : Nat} (u : Up s h B) {F : Nat → Prop} {bf bn cap : Nat} {pn : List PN} : ∀ (k n : Nat), n < s.length → h n < k → ∀ (w : World) (O : Nat → Prop) (b1 b2 : Nat), PForAt w F bf bn cap pn s → (∀ b, F b → b < w.heap.size ∧ ¬ O b) →
    w.cell? ⟨b1, 0, none⟩ = some (.int .i64 n) → w.cell? ⟨b2, 0, none⟩ = some (ptr bf) → ¬ O b1 → ¬ O b2 → SeqOk Tryz.prog 138 #[ptr b1, ptr b2] (allF s k n) w O := by
  intro k
  induction k with
  | zero => intro n _ hh; omega
  | succ k ih =>
    intro n hn hh w O b1 b2 hD hF c1 c2 o1 o2 l J Jx O1 w1 hb hO1 hlt mJ mJx hY hJ0
    have hb1 := hb
    have l1 := World.block_lt_of_cell? w _ c1
    have l2 := World.block_lt_of_cell? w _ c2
    have hF1 : ∀ b, F b → ¬ O1 b := fun b hb1 e => (hO1 b e).elim (hF b hb1).2 (fun e => by have := (hF b hb1).1; omega)
    have p1 : ¬ O1 b1 := fun e => (hO1 _ e).elim o1 (fun e => by simp at l1; omega)
    have p2 : ¬ O1 b2 := fun e => (hO1 _ e).elim o2 (fun e => by simp at l2; omega)
    have p3 : ¬ O1 w1.heap.size := fun e => by have := hlt _ e; omega
    have hk0 : Keeps O1 w1 (w1.alloc (.cells #[.func (.yield l) #[] #[]] 83)) := (Keeps.refl _ _).alloc _
    have S0 : Seen s F bf bn cap pn n b1 b2 w1.heap.size l (w1.alloc (.cells #[.func (.yield l) #[] #[]] 83)) :=
      ⟨(hD.below hb).keeps hk0 hF1, hk0.cell ((hb.cell (p := ⟨b1, 0, none⟩) l1).trans c1) p1, hk0.cell ((hb.cell (p := ⟨b2, 0, none⟩) l2).trans c2) p2, cell_of_heap (heap_alloc_new w1 _) 0⟩
    have hJ1 : J [] O1 (w1.alloc (.cells #[.func (.yield l) #[] #[]] 83)) := mJ _ _ _ _ hJ0 ((Keeps.refl _ _).alloc _)
    obtain ⟨fn, tmps, assign, body, hy, hR⟩ := hY 0 [] n O1 _ hJ1 ⟨(kidsOf s n).flatMap (allF s k), rfl⟩ (fun b e => by have := hlt b e; simp; omega)
    have e1 := S0.number
    have e2 := S0.yield
    have SS := hid S0
    have HR := hid hR
    refine callsIn_wide.1 (callsIn_of_wp_marks (F := Fence.wide) (n := 1) Tryz.func138 rfl trivial ?_ rfl)
    clear hR S0 hJ1 hJ0 c1 c2 hb hD
    simp only [Tryz.ntmps138, List.size_toArray, List.length_cons, List.length_nil, Nat.reduceAdd, Nat.reduceSub, Array.replicate_succ, Array.replicate_zero, List.push_toArray, List.append_toArray, List.nil_append, List.cons_append]
    dsimp only [encN] at hy
    gi_wp2
    refine HR.out.mono ?_
    rintro e w2 ⟨O2, st2, (⟨rfl, hJ2⟩ | ⟨rfl, hX2⟩)⟩
    · have S2 := SS.out.keeps st2.keeps hF1 p1 p2 p3
      have f1 := S2.number
      have f2 := S2.whose
      have h0 := S2.forest.nodesCell
      have hx : s[n]? = some s[n] := List.getElem?_eq_getElem hn
      obtain ⟨x, hxx⟩ : ∃ x, x = s[n] := ⟨_, rfl⟩
      rw [← hxx] at hx
      clear hxx
      obtain ⟨r, hr, ho, d0, d1, d2, d3⟩ := S2.forest.look hx
      obtain ⟨sa, sc, hkv⟩ : ∃ a c, r.kv = .slice a x.ks.length c := by
        rcases row_cases ho.kids with ⟨h1, h2⟩ | ⟨g, c, h1⟩
        · exact ⟨none, 0, by rw [h1, h2]⟩
        · exact ⟨_, _, h1⟩
      rw [hkv] at d2
      have S3 := hid S2
      have RO := hid ho
      have RH := hid hr
      have JJ := hid hJ2
      have ST := hid st2
      clear S2 d0 d1 d3 hr ho hJ2 st2 hy HR SS e1 e2
      gi_wp2
      gi_region
      gi_wp2
      have hkid : ∀ c ∈ x.ks, c < s.length ∧ h c < h n := fun c hc => wf.kid_lt u hx hc
      have hkl : x.ks.length ≤ 40 := Nat.le_trans (nodup_length s.length _ (wf.nodup n x hx) (fun c hc => (hkid c hc).1)) wf.cap
      refine wpIn_loop (fun a wr => ∃ (i : Nat) (ds : List Nat) (O' : Nat → Prop) (u5 u21 u22 u23 u24 u25 u26 u32 : Value), i ≤ x.ks.length ∧ a = Act.mk
        #[Value.func (Fn.yield l) #[] #[], ptr b1, ptr b2, Value.pointer (some { block := w1.heap.size, off := 0 }),
          undef, u5, undef, Value.func (Fn.yield l) #[] #[], Value.int IntKind.i64 n, Value.bool true,
          Value.bool false, ptr bf, Value.pointer (some { block := bf, off := 0 }),
          Value.pointer (some { block := bf, off := 0 }), Value.slice (some { block := bn, off := 0 }) s.length cap,
          Value.int IntKind.i64 n, Value.pointer (some { block := bn, off := n * 4 }),
          Value.pointer (some { block := bn, off := n * 4 + 2 }), Value.slice sa x.ks.length sc,
          Value.int IntKind.i64 x.ks.length, Value.int IntKind.i64 i, u21, u22, u23, u24, u25, u26, undef,
          undef, undef, undef, undef, u32] (ds.map mark) ∧
        Stp O1 O' (w1.alloc (.cells #[.func (.yield l) #[] #[]] 83)) wr ∧ J (n :: (x.ks.take i).flatMap (allF s k)) O' wr ∧ Seen s F bf bn cap pn n b1 b2 w1.heap.size l wr ∧ ds.Nodup ∧ (∀ D ∈ ds, (w1.heap.size < D ∧ ¬ O' D) ∧ wr.heap[D]? = some (.deferred (some []))))
        (fun a _ => x.ks.length - (intOf (a.tmps.getD 20 undef)).toNat) ?start ?round
      case start =>
        have st1 := ST.out.drew
        have kd : Keeps (fun _ => False) w2 w2.drew := (Keeps.refl _ _).drew
        refine ⟨0, [], O2, _, _, _, _, _, _, _, _, Nat.zero_le _, rfl, st1, ?_, S3.out.keeps kd (fun _ _ e => e) (fun e => e) (fun e => e) (fun e => e), by simp, by simp⟩
        exact mJ _ _ _ _ JJ.out (kd.mono (fun _ _ e => e.elim))
      case round =>
        rintro a wr ⟨i, ds, O', u5, u21, u22, u23, u24, u25, u26, u32, hi, rfl, st, hJ, hS, hnd, hds⟩
        have hsz1 := hb1.size
        have hszr := st.keeps.size
        simp only [World.size_alloc] at hszr
        have gn : ∀ b, O' b → O1 b ∨ w1.heap.size + 1 ≤ b := fun b e => by have := st.gains b e; simpa using this
        have q1 : ¬ O' b1 := fun e => (gn _ e).elim p1 (fun e => by omega)
        have q2 : ¬ O' b2 := fun e => (gn _ e).elim p2 (fun e => by omega)
        have q3 : ¬ O' w1.heap.size := fun e => (gn _ e).elim p3 (fun e => by omega)
        have qF : ∀ b, F b → ¬ O' b := fun b hb e => (gn _ e).elim (hF1 b hb) (fun e => by have := (hF b hb).1; omega)
        by_cases hil : i < x.ks.length
        · obtain ⟨c, hc⟩ : ∃ c, x.ks[i]? = some c := ⟨_, List.getElem?_eq_getElem hil⟩
          have hcm : c ∈ x.ks := List.mem_of_getElem? hc
          obtain ⟨hcl, hch⟩ := hkid c hcm
          obtain ⟨r2, hr2, ho2, _, _, g2, _⟩ := hS.forest.look hx
          have hrr : r2 = r := by rw [RH.out] at hr2; cases hr2; rfl
          subst hrr
          have hrow := ho2.kids
          rw [hkv] at hrow
          rcases row_cases hrow with ⟨_, hl0⟩ | ⟨g, cc, hv⟩
          · omega
          cases hv
          have cel : wr.cell? ⟨g, i, none⟩ = some (.int .i64 (c : Int)) := by
            rw [hrow.cellAt i (by omega)]
            simp [intsV, hc]
          have hw := hS.whose
          have hilI : (i : Int) < x.ks.length := by omega
          have C : Hid (∀ n, CallsIn Fence.wide n _ _ _ _ _) := hid (fun n => callsIn_wide.2 (all_any bf c wr))
          have HS := hid hS
          have HJ := hid hJ
          have HST := hid st
          have HDS := hid hds
          have HND := hid hnd
          have HC := hid hc
          clear hS hJ hds hnd hc g2 hrow ho2 hr2 st
          gi_wp2_with (refine ⟨trivial, ?_⟩; gi_at_call 90; refine (C.out _).mono ?_; rintro e w3 ⟨rfl, rfl⟩)
          obtain ⟨wb, hwb⟩ : ∃ wb, (wr.alloc (.cells #[ptr bf] 91)).alloc (.cells #[.int .i64 (c : Int)] 3) = wb := ⟨_, rfl⟩
          have hszb : wb.heap.size = wr.heap.size + 2 := by rw [← hwb]; simp
          have hkb : Keeps (fun _ => False) wr wb := by rw [← hwb]; exact ((Keeps.refl _ _).alloc _).alloc _
          have SB : Seen s F bf bn cap pn n b1 b2 w1.heap.size l wb := HS.out.keeps hkb (fun _ _ e => e) (fun e => e) (fun e => e) (fun e => e)
          have cb1 : wb.cell? ⟨wr.heap.size + 1, 0, none⟩ = some (.int .i64 (c : Int)) := by
            have := cell_of_heap (heap_alloc_new (wr.alloc (.cells #[ptr bf] 91)) (.cells #[.int .i64 (c : Int)] 3)) 0
            rw [hwb, World.size_alloc] at this
            exact this
          have cb2 : wb.cell? ⟨wr.heap.size, 0, none⟩ = some (ptr bf) := by
            have := (Keeps.refl (fun _ => False) (wr.alloc (.cells #[ptr bf] 91))).alloc (.cells #[.int .i64 (c : Int)] 3)
            rw [hwb] at this
            exact this.cell (cell_of_heap (heap_alloc_new wr _) 0) (fun e => e)
          have hOr : ∀ b, O' b → b < wr.heap.size := HST.out.there
          rw [hwb]
          have hxs : (n :: (x.ks.take i).flatMap (allF s k)) ++ allF s k c <+: allF s (k + 1) n := by
            refine ⟨(x.ks.drop (i + 1)).flatMap (allF s k), ?_⟩
            simp only [allF, kidsOf_eq hx, List.cons_append]
            congr 1
            have e1 : x.ks.take i ++ c :: x.ks.drop (i + 1) = x.ks := by
              obtain ⟨hil', hce⟩ := List.getElem?_eq_some_iff.1 HC.out
              rw [← hce, ← List.drop_eq_getElem_cons, List.take_append_drop]
            conv => rhs; rw [← e1]
            simp
          refine range_mine (gf := 138) (lb := #[ptr (wr.heap.size + 1), ptr wr.heap.size]) rfl (enters_of Tryz.func138 (by kernel_rfl) rfl) rfl (O := O') (fun b e => by have := hOr b e; omega)
            (ih c hcl (by omega) wb O' _ _ SB.forest (fun b hb => ⟨by have := (hF b hb).1; omega, qF b hb⟩) cb1 cb2 (fun e => by have := hOr _ e; omega) (fun e => by have := hOr _ e; omega))
            (fun pre O3 W => J ((n :: (x.ks.take i).flatMap (allF s k)) ++ pre) O3 W ∧ Stp O' O3 wb W) (fun pre O3 W => Jx ((n :: (x.ks.take i).flatMap (allF s k)) ++ pre) O3 W ∧ Stp O' O3 wb W) ?mI ?mIx ?h0 
            (fun y => Act.mk #[Value.func (Fn.yield l) #[] #[], ptr b1, ptr b2, Value.pointer (some { block := w1.heap.size, off := 0 }), undef, Value.int IntKind.i64 c, Value.int IntKind.i64 y,
                Value.func (Fn.yield l) #[] #[], Value.int IntKind.i64 n, Value.bool true, Value.bool false, ptr bf,
                Value.pointer (some { block := bf, off := 0 }), Value.pointer (some { block := bf, off := 0 }),
                Value.slice (some { block := bn, off := 0 }) s.length cap, Value.int IntKind.i64 n,
                Value.pointer (some { block := bn, off := n * 4 }),
                Value.pointer (some { block := bn, off := n * 4 + 2 }),
                Value.slice (some { block := g, off := 0 }) x.ks.length sc, Value.int IntKind.i64 x.ks.length,
                Value.int IntKind.i64 i, Value.bool true, Value.pointer (some { block := g, off := i }),
                Value.int IntKind.i64 c, ptr bf, Value.int IntKind.i64 c, Value.func (.func 138) #[] #[ptr (wr.heap.size + 1), ptr wr.heap.size], Value.int IntKind.i64 y, undef, undef, undef, undef, u32] []) ?assign ?body ?done ?stop
          case mI =>
            rintro pre O3 X Y ⟨h1, h2⟩ hk
            exact ⟨mJ _ _ _ _ h1 (hk.mono (fun k _ e => ⟨e.1, by have := e.2; omega⟩)), stp_mine (Nat.le_refl _) h2 hk⟩
          case mIx =>
            rintro pre O3 X Y ⟨h1, h2⟩ hk
            exact ⟨mJx _ _ _ _ h1 (hk.mono (fun k _ e => ⟨e.1, by have := e.2; omega⟩)), stp_mine (Nat.le_refl _) h2 hk⟩
          case h0 => exact ⟨by rw [List.append_nil]; exact mJ _ _ _ _ HJ.out (hkb.mono (fun _ _ e => e.elim)), Stp.refl (fun b e => by have := hOr b e; omega)⟩
          case assign =>
            intro m l' y W K hK
            dsimp only [encN]
            gi_wp2
            exact hK
          case body =>
            rintro m l' pre y O3 W hpre hO3 ⟨hJ3, st3⟩
            have f3 := (SB.keeps st3.keeps qF q1 q2 q3).yield
            obtain ⟨fn2, tmps2, assign2, body2, hy2, hR2⟩ := hY (m - 1) _ y O3 W hJ3 (by rw [List.append_assoc]; exact ((List.prefix_append_right_inj _).2 hpre).trans hxs) hO3
            have HR2 : Hid (RoundIn (Fence.wide.inRound l') _ _ _ _ _ _ _ _ _) := hid hR2
            have ST3 := hid st3
            dsimp only [encN] at hy2
            have hdd : ∀ k : Nat, ((Fence.wide.inRound l').depth.isSome = true → 1 ≤ k) := fun k h => by simp [Fence.wide] at h
            clear hR2 hJ3 st3 hxs SB cb1 cb2 HJ HS HDS HND HST C S3 JJ ST RO RH
            gi_wp2_with ((try refine ⟨hdd _, ?_⟩); refine HR2.out.mono ?_; clear HR2; rintro e W4 ⟨O4, st4, (⟨rfl, hJ4⟩ | ⟨rfl, hX4⟩)⟩)
            · exact ⟨O4, st4, by rw [← List.append_assoc]; exact hJ4, ST3.out.trans st4⟩
            · exact ⟨O4, st4, by rw [← List.append_assoc]; exact hX4, ST3.out.trans st4⟩
          case done =>
            rintro O5 W st5 hn5 ⟨hJ5, _⟩ hD5
            have hk5 := st5.keeps
            have S5 := SB.keeps hk5 qF q1 q2 q3
            have stb : Stp O' O' wr wb := by rw [← hwb]; exact (Stp.alloc hOr _).trans (Stp.alloc (fun b e => by have := hOr b e; simp; omega) _)
            have HFIN := hid (And.intro hJ5 (And.intro st5 (And.intro hn5 (And.intro hD5 S5))))
            clear hJ5 st5 hn5 hD5 S5 hk5 SB cb1 cb2
            gi_wp2
            obtain ⟨hJ5, st5, hn5, hD5, S5⟩ := HFIN.out
            refine ⟨⟨i + 1, wb.heap.size :: ds, O5, _, _, _, _, _, _, _, _, hil, rfl, HST.out.trans (stb.trans st5), ?_, S5, ?_, ?_⟩, ?_⟩
            · rw [List.take_add_one, HC.out]
              simpa using hJ5
            · refine List.nodup_cons.2 ⟨fun hm => ?_, HND.out⟩
              have := heap_lt (HDS.out _ hm).2
              omega
            · intro D hm
              rcases List.mem_cons.1 hm with rfl | hm
              · exact ⟨⟨by omega, hn5⟩, hD5⟩
              · obtain ⟨⟨d1, d2⟩, d3⟩ := HDS.out D hm
                have hdl := heap_lt d3
                refine ⟨⟨d1, fun e => (st5.gains D e).elim d2 (fun e => by omega)⟩, ?_⟩
                rw [st5.keeps.block D (by omega) d2, hkb.block D hdl (fun e => e)]
                exact d3
            · show x.ks.length - ((i : Int) + 1).toNat < x.ks.length - ((i : Int)).toNat
              omega
          case stop =>
            rintro O5 pre W hpre st5 hn5 ⟨hX5, _⟩ hD5
            have stb : Stp O' O' wr wb := by rw [← hwb]; exact (Stp.alloc hOr _).trans (Stp.alloc (fun b e => by have := hOr b e; simp; omega) _)
            gi_wp2
            have hds : ∀ D ∈ wb.heap.size :: ds, (w1.heap.size ≤ D ∧ ¬ O5 D) ∧ W.heap[D]? = some (.deferred (some [])) := by
              intro D hm
              rcases List.mem_cons.1 hm with rfl | hm
              · exact ⟨⟨by omega, hn5⟩, hD5⟩
              · obtain ⟨⟨d1, d2⟩, d3⟩ := HDS.out D hm
                have hdl := heap_lt d3
                refine ⟨⟨by omega, fun e => (st5.gains D e).elim d2 (fun e => by omega)⟩, ?_⟩
                rw [st5.keeps.block D (by omega) d2, hkb.block D hdl (fun e => e)]
                exact d3
            have stA := (Stp.alloc hlt (.cells #[.func (.yield l) #[] #[]] 83)).trans (HST.out.trans (stb.trans st5))
            refine leaves_marks (wb.heap.size :: ds) _ (List.nodup_cons.2 ⟨fun hm => ?_, HND.out⟩) (fun D hm => (hds D hm).2) (fun w' hk => ⟨_, results_none rfl _ _ _, ⟨_, rfl⟩, O5, (left_ok stA (fun D hm => (hds D hm).1) hk).1, .inr ⟨_, ?_, mJx _ _ _ _ hX5 (left_ok stA (fun D hm => (hds D hm).1) hk).2⟩⟩)
            · have := heap_lt (HDS.out _ hm).2
              omega
            · exact ((List.prefix_append_right_inj _).2 hpre).trans hxs
        · obtain rfl : i = x.ks.length := by omega
          have hilI : ¬ (x.ks.length : Int) < x.ks.length := by omega
          have HJ := hid hJ
          have HST := hid st
          have HDS := hid hds
          have HND := hid hnd
          clear hJ st hds hnd hS
          gi_wp2
          have stA := (Stp.alloc hlt (.cells #[.func (.yield l) #[] #[]] 83)).trans HST.out
          have hds2 : ∀ D ∈ ds, w1.heap.size ≤ D ∧ ¬ O' D := fun D hm => ⟨by have := (HDS.out D hm).1.1; omega, (HDS.out D hm).1.2⟩
          refine leaves_marks ds _ HND.out (fun D hm => (HDS.out D hm).2) (fun w' hk => ⟨_, results_none rfl _ _ _, ⟨_, rfl⟩, O', (left_ok stA hds2 hk).1, .inl ?_⟩)
          have := mJ _ _ _ _ HJ.out (left_ok stA hds2 hk).2
          rw [List.take_of_length_le (Nat.le_refl _)] at this
          rw [allF, kidsOf_eq hx]
          exact this
    · gi_wp2
      refine leaves_marks [] _ (by simp) (by simp) (fun w' hk => ⟨_, results_none rfl _ _ _, ⟨_, rfl⟩, O2, ?_, .inr ⟨[n], ⟨(kidsOf s n).flatMap (allF s k), rfl⟩, ?_⟩⟩)
      · exact (left_ok ((Stp.alloc hlt _).trans st2) (ds := []) (by simp) hk).1
      · exact mJx _ _ _ _ hX2 (left_ok ((Stp.alloc hlt _).trans st2) (ds := []) (by simp) hk).2
end Go.Proofs.YtabogkonklplcaaGreatDoor

namespace Go.Proofs.YtabogkonklplcaaGreatDoor
open Go.RowKit Go.Shelf
set_option linter.unusedSimpArgs false
set_option linter.unusedVariables false
attribute [local go_sem] Oper.semAt_some
set_option maxRecDepth 20000 in
set_option maxHeartbeats 4000000 in
theorem holds_any {s : List Nd} (wf : WF s) {h : Nat → Nat} {B : Nat} (u : Up s h B) {F : Nat → Prop} {bf bn cap : Nat} {pn : List PN} {w : World} (hD : PForAt w F bf bn cap pn s) (k n o : Nat) (hn : n < s.length) (hk : h n < k) :
    Calls Tryz.prog 173 #[ptr bf, .int .i64 n, .int .i64 o] w fun e w' => e = .returned (.bool (decide (o ∈ allF s k n))) ∧ Below w.heap.size w w' := by
  have HD := hid hD.narrow
  clear hD
  refine callsIn_wide.1 (callsIn_of_wp_marks (F := Fence.wide) (n := 1) Tryz.func173 rfl trivial ?_ rfl)
  simp only [Tryz.ntmps173, List.size_toArray, List.length_cons, List.length_nil, Nat.reduceAdd, Nat.reduceSub, Array.replicate_succ, Array.replicate_zero, List.push_toArray, List.append_toArray, List.nil_append, List.cons_append]
  have C : Hid (∀ (m : Nat) (W : World), CallsIn Fence.wide m _ _ _ _ _) := hid (fun m W => callsIn_wide.2 (all_any bf n W))
  gi_wp2_with (refine ⟨trivial, ?_⟩; gi_at_call 90; refine (C.out _ _).mono ?_; rintro e w3 ⟨rfl, rfl⟩)
  obtain ⟨wb, hwb⟩ : ∃ wb, (((w.alloc (.cells #[.int .i64 (o : Int)] 3)).alloc (.cells #[.bool false] 4)).alloc (.cells #[ptr bf] 91)).alloc (.cells #[.int .i64 (n : Int)] 3) = wb := ⟨_, rfl⟩
  have hszb : wb.heap.size = w.heap.size + 4 := by rw [← hwb]; simp
  have hbb : Below w.heap.size w wb := by rw [← hwb]; exact ((((Below.refl _ w).alloc (Nat.le_refl _) _).alloc (by simp) _).alloc (by simp; omega) _).alloc (by simp; omega) _
  have x0 : wb.heap[w.heap.size]? = some (.cells #[.int .i64 (o : Int)] 3 (0, 0)) := by
    rw [← hwb, Below.heap_alloc _ _ _ (by simp; omega), Below.heap_alloc _ _ _ (by simp; omega), Below.heap_alloc _ _ _ (by simp)]
    exact heap_alloc_new w _
  have x1 : wb.heap[w.heap.size + 1]? = some (.cells #[.bool false] 4 (0, 0)) := by
    rw [← hwb, Below.heap_alloc _ _ _ (by simp), Below.heap_alloc _ _ _ (by simp)]
    have := heap_alloc_new (w.alloc (.cells #[.int .i64 (o : Int)] 3)) (.cells #[.bool false] 4)
    rwa [World.size_alloc] at this
  have x2 : wb.heap[w.heap.size + 2]? = some (.cells #[ptr bf] 91 (0, 0)) := by
    rw [← hwb, Below.heap_alloc _ _ _ (by simp)]
    have := heap_alloc_new ((w.alloc (.cells #[.int .i64 (o : Int)] 3)).alloc (.cells #[.bool false] 4)) (.cells #[ptr bf] 91)
    rwa [World.size_alloc, World.size_alloc] at this
  have x3 : wb.heap[w.heap.size + 3]? = some (.cells #[.int .i64 (n : Int)] 3 (0, 0)) := by
    rw [← hwb]
    have := heap_alloc_new (((w.alloc (.cells #[.int .i64 (o : Int)] 3)).alloc (.cells #[.bool false] 4)).alloc (.cells #[ptr bf] 91)) (.cells #[.int .i64 (n : Int)] 3)
    rwa [World.size_alloc, World.size_alloc, World.size_alloc] at this
  rw [hwb]
  refine range_mine (gf := 138) (lb := #[ptr (w.heap.size + 3), ptr (w.heap.size + 2)]) rfl (enters_of Tryz.func138 (by kernel_rfl) rfl) rfl (O := fun b => b = w.heap.size + 1) (fun b e => by omega)
    (all1_ok wf u k n hn hk wb _ _ _ (HD.out.below hbb) (fun b hb => ⟨by have := hb.2; omega, by have := hb.2; omega⟩) (cell_of_heap x3 0) (cell_of_heap x2 0) (by omega) (by omega))
    (fun pre O3 W => O3 = (fun b => b = w.heap.size + 1) ∧ o ∉ pre ∧ W.heap[w.heap.size + 1]? = some (.cells #[.bool false] 4 (0, 0)) ∧ Stp (fun b => b = w.heap.size + 1) O3 wb W)
    (fun pre O3 W => O3 = (fun b => b = w.heap.size + 1) ∧ o ∈ pre ∧ W.heap[w.heap.size + 1]? = some (.cells #[.bool true] 4 (0, 0)) ∧ Stp (fun b => b = w.heap.size + 1) O3 wb W) ?mI ?mIx ?h0
    (fun y => Act.mk #[ptr bf, Value.int IntKind.i64 n, Value.int IntKind.i64 o, undef, undef,
          Value.pointer (some { block := w.heap.size, off := 0 }),
          Value.pointer (some { block := w.heap.size + 1, off := 0 }), Value.int IntKind.i64 y, ptr bf, Value.int IntKind.i64 n,
          Value.func (Fn.func 138) #[] #[ptr (w.heap.size + 1 + 1 + 1), ptr (w.heap.size + 1 + 1)], Value.int IntKind.i64 y, undef, undef,
          undef] []) ?assign ?body ?done ?stop
  case mI =>
    rintro pre O3 X Y ⟨rfl, h1, h2, h3⟩ hk
    exact ⟨rfl, h1, by rw [hk.block _ (heap_lt h2) (fun e => e.1 rfl)]; exact h2, stp_mine (Nat.le_refl _) h3 hk⟩
  case mIx =>
    rintro pre O3 X Y ⟨rfl, h1, h2, h3⟩ hk
    exact ⟨rfl, h1, by rw [hk.block _ (heap_lt h2) (fun e => e.1 rfl)]; exact h2, stp_mine (Nat.le_refl _) h3 hk⟩
  case h0 => exact ⟨rfl, by simp, x1, Stp.refl (fun b e => by omega)⟩
  case assign =>
    intro m l' y W K hK
    dsimp only [encN]
    gi_wp2
    exact hK
  case body =>
    rintro m l' pre y O3 W hpre hO3 ⟨rfl, h1, h2, h3⟩
    have f0 : W.cell? ⟨w.heap.size, 0, none⟩ = some (.int .i64 (o : Int)) := h3.keeps.cell (cell_of_heap x0 0) (by simp)
    have f1 : W.cell? ⟨w.heap.size + 1, 0, none⟩ = some (.bool false) := cell_of_heap h2 0
    have f2 := frozen_of_heap h2 0
    have H3 := hid h3
    have H2 := hid h2
    have H1 := hid h1
    clear h3 h2 h1 x0 x1 x2 x3 hpre
    by_cases hyo : y = o
    · subst hyo
      gi_wp2
      have hs : Stp (fun b => b = w.heap.size + 1) (fun b => b = w.heap.size + 1) W (W.setCell ⟨w.heap.size + 1, 0, none⟩ (.bool true)) :=
        ⟨(Keeps.refl (fun b => b = w.heap.size + 1) W).setCell (p := ⟨w.heap.size + 1, 0, none⟩) (.inl rfl) _, fun b e => .inl e, fun b e => by have := hO3 b e; simpa [World.setCell] using this⟩
      exact ⟨_, hs, rfl, by simp, by rw [heap_setCell_same W _ 0 _ _ _ H2.out]; rfl, H3.out.trans hs⟩
    · have hyI : ((y : Int) == (o : Int)) = false := by simp; omega
      have hyJ : ¬ (y : Int) = (o : Int) := by omega
      gi_wp2
      exact ⟨_, Stp.refl hO3, rfl, by simp [H1.out]; omega, H2.out, H3.out⟩
  case done =>
    rintro O5 W st5 hn5 ⟨rfl, h1, h2, h3⟩ hD5
    have f1 : W.cell? ⟨w.heap.size + 1, 0, none⟩ = some (.bool false) := cell_of_heap h2 0
    have f2 := frozen_of_heap h2 0
    have H5 := hid (And.intro st5 (And.intro h1 (And.intro h2 hD5)))
    clear st5 hn5 h1 h2 h3 hD5 x0 x1 x2 x3
    gi_wp2
    obtain ⟨st5, h1, h2, hD5⟩ := H5.out
    refine leaves_marks [wb.heap.size] _ (by simp) (fun D hm => ?_) (fun w' hk' => ⟨.bool false, ?_, ?_, ?_⟩)
    · obtain rfl : D = wb.heap.size := by simpa using hm
      rw [Below.heap_setCell _ _ _ _ (by simp; omega)]
      exact hD5
    · have hh := heap_setCell_same W _ 0 _ _ (.bool false) h2
      have hc : w'.cell? ⟨w.heap.size + 1, 0, none⟩ = some (.bool false) := hk'.cell (cell_of_heap hh 0) (by simp; omega)
      simp [results, Tryz.f173, go_sem, hc]
    · rw [decide_eq_false h1]
    · have k1 : Keeps (fun _ => False) w wb := Keeps.of_below hbb
      have k2 : Keeps (fun _ => False) w W := k1.trans (st5.keeps.mono (fun b _ e => .inr (by omega)))
      exact ((k2.setCell (p := ⟨w.heap.size + 1, 0, none⟩) (.inr (by simp)) _).trans (hk'.mono (fun b _ e => .inr (by simp at e; omega)))).below
  case stop =>
    rintro O5 pre W hpre st5 hn5 ⟨rfl, h1, h2, h3⟩ hD5
    have H5 := hid (And.intro st5 (And.intro h1 (And.intro h2 (And.intro hD5 hpre))))
    clear st5 hn5 h1 h2 h3 hD5 x0 x1 x2 x3 hpre
    gi_wp2
    obtain ⟨st5, h1, h2, hD5, hpre⟩ := H5.out
    refine leaves_marks [wb.heap.size] _ (by simp) (fun D hm => ?_) (fun w' hk' => ⟨.bool true, ?_, ?_, ?_⟩)
    · obtain rfl : D = wb.heap.size := by simpa using hm
      exact hD5
    · have hc : w'.cell? ⟨w.heap.size + 1, 0, none⟩ = some (.bool true) := hk'.cell (cell_of_heap h2 0) (by simp; omega)
      simp [results, Tryz.f173, go_sem, hc]
    · rw [decide_eq_true (hpre.subset h1)]
    · have k1 : Keeps (fun _ => False) w wb := Keeps.of_below hbb
      have k2 : Keeps (fun _ => False) w W := k1.trans (st5.keeps.mono (fun b _ e => .inr (by omega)))
      exact (k2.trans (hk'.mono (fun b _ e => .inr (by simp at e; omega)))).below
end Go.Proofs.YtabogkonklplcaaGreatDoor

namespace Go.Proofs.YtabogkonklplcaaGreatDoor
open Go.RowKit Go.Shelf
set_option linter.unusedSimpArgs false
set_option linter.unusedVariables false
attribute [local go_sem] Oper.semAt_some
theorem slice_form {w : World} {e : TypeId} {z n : Nat} {v : Value} {xs : List Value} (h : w.ownsRow 0 e z v n xs) : ∃ a c, v = .slice a n c := by
  rcases row_cases h with ⟨e1, e2⟩ | ⟨g, c, e1⟩
  · exact ⟨none, 0, by rw [e1, e2]⟩
  · exact ⟨_, _, e1⟩
theorem Tryz.infoInt : (Tryz.prog.info? 3).map (fun i => (i.zero, i.size, i.bytes)) = some (some (.int .i64 0), 1, 8) := by kernel_rfl
set_option maxRecDepth 20000 in
set_option maxHeartbeats 2000000 in
theorem appendSeq_any {gf : Nat} {lb : Array Value} (eg : ∀ args w, (callFunc gf args).run Tryz.prog w = .ok (.enter gf args) w) {xs : List Nat} (hlen : xs.length < lots) {w : World}
    (hseq : ∀ (w1 : World) (O : Nat → Prop), Below w.heap.size w w1 → (∀ k, O k → w.heap.size ≤ k) → SeqOk Tryz.prog gf lb xs w1 O) :
    Calls Tryz.prog 137 #[.slice none 0 0, .func (.func gf) #[] lb] w fun e w' => ∃ v, e = .returned v ∧ w'.ownsRow 0 3 1 v xs.length (intsV xs) ∧ Below w.heap.size w w' ∧ (∀ b, v.ownBlock = some b → w.heap.size ≤ b) := by
  obtain ⟨i0, hi, hz0, hz1, hz2⟩ := info_parts Tryz.infoInt
  refine callsIn_wide.1 (callsIn_of_wp_marks (F := Fence.wide) (n := 1) Tryz.func137 rfl trivial ?_ rfl)
  simp only [Tryz.ntmps137, List.size_toArray, List.length_cons, List.length_nil, Nat.reduceAdd, Nat.reduceSub, Array.replicate_succ, Array.replicate_zero, List.push_toArray, List.append_toArray, List.nil_append, List.cons_append]
  gi_wp2
  obtain ⟨wb, hwb⟩ : ∃ wb, w.alloc (.cells #[.slice none 0 0] 24) = wb := ⟨_, rfl⟩
  have hszb : wb.heap.size = w.heap.size + 1 := by rw [← hwb]; simp
  have hbb : Below w.heap.size w wb := by rw [← hwb]; exact (Below.refl _ w).alloc (Nat.le_refl _) _
  have x0 : wb.heap[w.heap.size]? = some (.cells #[.slice none 0 0] 24 (0, 0)) := by rw [← hwb]; exact heap_alloc_new w _
  have hl2 : xs.length < 2000000 := by unfold lots at hlen; exact hlen
  rw [hwb]
  refine range_mine (gf := gf) (lb := lb) rfl eg rfl (O := fun b => b = w.heap.size) (fun b e => by omega) (hseq wb _ hbb (fun k e => by omega))
    (fun pre O3 W => ∃ v, O3 = (fun b => b = w.heap.size ∨ v.ownBlock = some b) ∧ W.heap[w.heap.size]? = some (.cells #[v] 24 (0, 0)) ∧ W.ownsRow 0 3 1 v pre.length (intsV pre) ∧ v.ownBlock ≠ some w.heap.size ∧ Stp (fun b => b = w.heap.size) O3 wb W)
    (fun _ _ _ => False) ?mI ?mIx ?h0
    (fun y => Act.mk #[Value.slice none 0 0, Value.func (Fn.func gf) #[] lb, Value.pointer (some { block := w.heap.size, off := 0 }),
          undef, Value.slice none 0 0, Value.int IntKind.i64 y, Value.func (Fn.func gf) #[] lb, Value.int IntKind.i64 y, undef, undef, undef, undef, undef] []) ?assign ?body ?done ?stop
  case mI =>
    rintro pre O3 X Y ⟨v, rfl, h2, h3, h4, h5⟩ hk
    exact ⟨v, rfl, by rw [hk.block _ (heap_lt h2) (fun e => e.1 (.inl rfl))]; exact h2, hk.row h3 (fun b e e2 => e2.1 (.inr e)), h4, stp_mine (Nat.le_refl _) h5 hk⟩
  case mIx => intro pre O3 X Y h _; exact h
  case h0 =>
    refine ⟨.slice none 0 0, ?_, x0, World.ownsRow_nil _ _ _ _, by simp [Value.ownBlock], ?_⟩
    · funext b; simp [Value.ownBlock]
    · exact Stp.refl (fun b e => by omega)
  case assign =>
    intro m l' y W K hK
    dsimp only [encN]
    gi_wp2
    exact hK
  case body =>
    rintro m l' pre y O3 W hpre hO3 ⟨v, rfl, h2, h3, h4, h5⟩
    have hpl : pre.length + 1 ≤ xs.length := by have := hpre.length_le; simpa using this
    have f1 : W.cell? ⟨w.heap.size, 0, none⟩ = some v := cell_of_heap h2 0
    have hlW : w.heap.size < W.heap.size := heap_lt h2
    have H2 := hid h2
    have H3 := hid h3
    have H4 := hid h4
    have H5 := hid h5
    have HO := hid hO3
    clear h2 h3 h4 h5 hO3 hpre x0
    gi_wp2_with (gi_at_builtin; refine wpListIn_append_own_at _ rfl _ _ 24 rfl 0 3 i0 (.int .i64 0) 1 8 Tryz.underlying24 hi hz0 hz1 hz2 rfl (by decide) v _ _ rfl (H3.out.alloc _) ⟨W.heap.size, 0, none⟩ 1 1 [.int .i64 (y : Int)] rfl rfl (cell_one_new _ _ _) (by simp [Value.oneCell']) (by unfold maxLen; omega) (by omega) (Nat.zero_le _) ?_
                 intro v' w1 hown' hgrow _ hob
                 obtain ⟨g', cap', rfl⟩ := ownsRow_succ hown'
                 have hq1 := (hgrow.block w.heap.size (by simp only [World.size_alloc]; omega) (fun e => H4.out e.symm)).trans ((Below.heap_alloc _ _ _ hlW).trans H2.out)
                 have hc1 : w1.cell? ⟨w.heap.size, 0, none⟩ = some v := cell_of_heap hq1 0
                 have hf1 := frozen_of_heap hq1 0
                 have HQ := hid hq1
                 have HW := hid hown'
                 have HG := hid hgrow
                 have HB := hid hob
                 clear hown' hgrow hob hq1)
    have hgb : v.ownBlock = some g' ∨ g' = W.heap.size + 1 := by
      rcases HB.out with e | e
      · left; rw [← e]; rfl
      · right; simpa [Value.ownBlock] using e
    have hg' : g' ≠ w.heap.size := by
      rcases hgb with e | e
      · rintro rfl; exact H4.out e
      · omega
    have hs : Stp (fun b => b = w.heap.size ∨ v.ownBlock = some b) (fun b => b = w.heap.size ∨ (Value.slice (some ⟨g', 0, none⟩) (pre.length + 1) cap').ownBlock = some b) W (w1.setCell ⟨w.heap.size, 0, none⟩ (.slice (some ⟨g', 0, none⟩) (pre.length + 1) cap')) := by
      refine ⟨?_, ?_, ?_⟩
      · exact (((Keeps.refl (fun b => b = w.heap.size ∨ v.ownBlock = some b) W).alloc _).trans (Keeps.grown HG.out (fun k e => .inl (.inl (.inr e))))).setCell (p := ⟨w.heap.size, 0, none⟩) (.inl (.inl rfl)) _
      · rintro b (e | e)
        · exact .inl (.inl e)
        · have e' : g' = b := by simpa [Value.ownBlock] using e
          subst e'
          rcases hgb with e | e
          · exact .inl (.inr e)
          · exact .inr (by omega)
      · have hz : (w1.setCell ⟨w.heap.size, 0, none⟩ (.slice (some ⟨g', 0, none⟩) (pre.length + 1) cap')).heap.size = w1.heap.size := by simp
        rintro b (e | e)
        · rw [hz, e]; exact heap_lt HQ.out
        · have e' : g' = b := by simpa [Value.ownBlock] using e
          subst e'
          rw [hz]
          exact (HW.out.lt g' rfl).2
    refine ⟨_, hs, _, rfl, by rw [heap_setCell_same w1 _ 0 _ _ _ HQ.out]; rfl, ?_, by simpa [Value.ownBlock] using hg', H5.out.trans hs⟩
    rw [List.length_append]
    have := row_setCell_other HW.out (p := ⟨w.heap.size, 0, none⟩) (by simpa [Value.ownBlock] using hg') (.slice (some ⟨g', 0, none⟩) (pre.length + 1) cap')
    simpa [intsV] using this
  case done =>
    rintro O5 W st5 hn5 ⟨v, rfl, h2, h3, h4, h5⟩ hD5
    obtain ⟨sa, sc, hkv⟩ : ∃ a c, v = .slice a xs.length c := by
      rcases row_cases h3 with ⟨e1, e2⟩ | ⟨g, c, e1⟩
      · exact ⟨none, 0, by rw [e1, e2]⟩
      · exact ⟨_, _, e1⟩
    subst hkv
    have f1 : W.cell? ⟨w.heap.size, 0, none⟩ = some (.slice sa xs.length sc) := cell_of_heap h2 0
    have H := hid (And.intro st5 (And.intro hn5 (And.intro h3 (And.intro h4 hD5))))
    have HZ := hid hszb
    clear st5 hn5 h2 h3 h4 h5 hD5 x0 hszb
    gi_wp2
    obtain ⟨st5, hn5, h3, h4, hD5⟩ := H.out
    have hszb := HZ.out
    refine leaves_marks [wb.heap.size] _ (by simp) (fun D hm => ?_) (fun w' hk' => ⟨.slice sa xs.length sc, ?_, _, rfl, ?_, ?_, ?_⟩)
    · obtain rfl : D = wb.heap.size := by simpa using hm
      exact hD5
    · exact results_tmp (fn := Tryz.f137) (t := 4) rfl _ _ _
    · refine hk'.row h3 (fun b e e2 => ?_)
      have : b = wb.heap.size := by simpa using e2
      subst this
      exact hn5 (.inr e)
    · have k1 : Keeps (fun _ => False) w wb := Keeps.of_below hbb
      have k2 : Keeps (fun _ => False) w W := k1.trans (st5.keeps.mono (fun b _ e => .inr (by omega)))
      exact (k2.trans (hk'.mono (fun b _ e => .inr (by simp at e; omega)))).below
    · intro b e
      rcases st5.gains b (.inr e) with e1 | e1
      · omega
      · omega
  case stop =>
    rintro O5 pre W hpre st5 hn5 h hD5
    exact h.elim
set_option maxHeartbeats 400000 in
theorem collect_any {gf : Nat} {lb : Array Value} (eg : ∀ args w, (callFunc gf args).run Tryz.prog w = .ok (.enter gf args) w) {xs : List Nat} (hlen : xs.length < lots) {w : World}
    (hseq : ∀ (w1 : World) (O : Nat → Prop), Below w.heap.size w w1 → (∀ k, O k → w.heap.size ≤ k) → SeqOk Tryz.prog gf lb xs w1 O) :
    Calls Tryz.prog 89 #[.func (.func gf) #[] lb] w fun e w' => ∃ a c, e = .returned (.slice a xs.length c) ∧ w'.ownsRow 0 3 1 (.slice a xs.length c) xs.length (intsV xs) ∧ Below w.heap.size w w' ∧ (∀ b, (Value.slice a xs.length c).ownBlock = some b → w.heap.size ≤ b) := by
  have C := hid (appendSeq_any eg hlen hseq)
  clear hseq eg
  go_enter Tryz.func89, Tryz.ntmps89
  go_wp2_with (go_at_call 137; refine C.out.mono ?_; rintro e w1 ⟨v, rfl, h1, h2, h3⟩; obtain ⟨sa, sc, rfl⟩ := slice_form h1)
  go_ret
  exact ⟨_, _, rfl, h1, h2, h3⟩
end Go.Proofs.YtabogkonklplcaaGreatDoor
