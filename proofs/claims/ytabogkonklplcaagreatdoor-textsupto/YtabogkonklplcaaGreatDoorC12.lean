import Derived.Test.YtabogkonklplcaaGreatDoorC11

/- marginlaw's head and plays: a script is played. -/
namespace Go.Proofs.YtabogkonklplcaaGreatDoor
open Go.RowKit
set_option linter.unusedSimpArgs false
set_option linter.unusedVariables false

/-- One step of a script. -/
structure OpR where
  kind : Int
  D : Int
  A : Int
  B : Int
  C : Int
  S : ByteArray
  p0 : Int
  p1 : Int
  q0 : Int
  q1 : Int
abbrev OpR.cells (o : OpR) : List Value := [.int .i64 o.kind, .int .i64 o.D, .int .i64 o.A, .int .i64 o.B, .int .i64 o.C, .string o.S, .int .i64 o.p0, .int .i64 o.p1, .int .i64 o.q0, .int .i64 o.q1]
abbrev OpR.val (o : OpR) : Value := opV o.kind o.D o.A o.B o.C o.S o.p0 o.p1 o.q0 o.q1
structure OpOk (o : OpR) : Prop where
  d1 : -9223372036854775808 ≤ o.D
  d2 : o.D ≤ 9223372036854775807
  s : o.S.size < lots

def headOps : List OpR := [⟨1, 0, 0, 0, 0, ⟨#[]⟩, 0, 0, 0, 0⟩, ⟨2, 0, 0, 0, 0, ⟨#[]⟩, 0, 0, 0, 0⟩, ⟨3, 0, 0, 0, 0, ⟨#[97, 98, 99, 100]⟩, 0, 0, 0, 0⟩, ⟨4, 0, 0, 1, 0, ⟨#[]⟩, 0, 0, 0, 0⟩, ⟨4, 0, 1, 2, 0, ⟨#[]⟩, 0, 0, 0, 0⟩]
theorem headOps_ok : ∀ o ∈ headOps, OpOk o ∧ 1 ≤ o.kind ∧ o.kind ≤ 4 := by
  intro o ho
  simp only [headOps, List.mem_cons, List.not_mem_nil, or_false] at ho
  rcases ho with rfl | rfl | rfl | rfl | rfl <;> exact ⟨⟨by decide, by decide, by decide⟩, by decide, by decide⟩

set_option maxRecDepth 20000 in
set_option maxHeartbeats 400000 in
theorem head_any (w : World) :
    Calls Tryz.prog 17 #[] w fun e w' => e = .returned (.slice (some ⟨w.heap.size, 0, none⟩) 5 5) ∧ w' = w.alloc (.cells (headOps.flatMap OpR.cells).toArray 39) := by
  go_enter Tryz.func17, Tryz.ntmps17
  go_wp2
  go_ret
  exact ⟨rfl, rfl⟩

theorem opcells_get (l : List OpR) (i : Nat) (o : OpR) (h : l[i]? = some o) (j : Nat) (hj : j < 10) : (l.flatMap OpR.cells)[i * 10 + j]? = o.cells[j]? := by
  induction l generalizing i with
  | nil => simp at h
  | cons a l ih =>
    cases i with
    | zero =>
      simp at h; subst h
      rw [List.flatMap_cons, Nat.zero_mul, Nat.zero_add, List.getElem?_append_left (by simpa using hj)]
    | succ i =>
      have e : (i + 1) * 10 + j = (i * 10 + j) + 10 := by omega
      rw [e, List.flatMap_cons, List.getElem?_append_right (by simp)]
      simpa using ih i (by simpa using h)

/-- A script in memory: where its steps lie. -/
def ScriptAt (w : World) (g off : Nat) (l : List OpR) : Prop := ∀ (i : Nat) (o : OpR), l[i]? = some o → ∀ (j : Nat) (u : Value), o.cells[j]? = some u → w.cell? ⟨g, off + i * 10 + j, none⟩ = some u

/-- What one step must do, of whatever kind is played. -/
def Steps (PD : PDT) (Q : Nat → Prop) (w0 : World) (yb : Nat) (K : Int → Prop) : Prop :=
  ∀ (o : OpR), OpOk o → K o.kind → ∀ (W : World) (docs : List DocR), InvE PD Q w0 W yb docs → docs.length < lots →
    Calls Tryz.prog 15 #[ptr yb, o.val] W (StepPost PD Q w0 yb docs.length (docs.length + 1))

def leftV (n : Nat) (v : Value) : Nat := n - (intOf v).toNat

set_option maxRecDepth 20000 in
set_option maxHeartbeats 8000000 in
theorem plays_any {PD : PDT} {w : World} (a : Option Addr) (g off c gk ck : Nat) (script : List OpR) (ks : List Int) (ha : 0 < script.length → a = some ⟨g, off, none⟩) (hs : ScriptAt w g off script) (hok : ∀ o ∈ script, OpOk o) (hlen : script.length + 6 < lots) (hgl : 0 < script.length → g < w.heap.size)
    (hk : w.ownsRow 0 3 1 (.slice (some ⟨gk, 0, none⟩) ks.length ck) ks.length (ks.map (fun k => Value.int .i64 k))) (hkb : ks.length < 100)
    (hst : Steps PD (fun b => b = w.heap.size ∨ w.heap.size + 1 + 1 ≤ b) ((w.alloc (.cells #[.slice none 0 0, .nilIface, .int .i64 0, .int .i64 0] 34)).alloc (.cells (headOps.flatMap OpR.cells).toArray 39)) w.heap.size (fun k => (1 ≤ k ∧ k ≤ 4) ∨ k ∈ ks))
    (hPD : PDOk PD) :
    Calls Tryz.prog 14 #[.slice a script.length c, .slice (some ⟨gk, 0, none⟩) ks.length ck] w fun e w' => e = .returned (.bool true) ∧ Below w.heap.size w w' := by
  obtain ⟨W0, hW0⟩ : ∃ W, W = (w.alloc (.cells #[.slice none 0 0, .nilIface, .int .i64 0, .int .i64 0] 34)).alloc (.cells (headOps.flatMap OpR.cells).toArray 39) := ⟨_, rfl⟩
  have hz0 : W0.heap.size = w.heap.size + 1 + 1 := by rw [hW0]; simp
  have hbW : Below w.heap.size w W0 := by rw [hW0]; exact ((Below.refl _ w).alloc (Nat.le_refl _) _).alloc (by simp) _
  have hqy : W0.heap[w.heap.size]? = some (.cells #[.slice none 0 0, .nilIface, .int .i64 0, .int .i64 0] 34 (0, 0)) := by rw [hW0, Below.heap_alloc _ _ _ (by simp), heap_alloc_new]
  have hqh : W0.heap[w.heap.size + 1]? = some (.cells (headOps.flatMap OpR.cells).toArray 39 (0, 0)) := by
    have := heap_alloc_new (w.alloc (.cells #[.slice none 0 0, .nilIface, .int .i64 0, .int .i64 0] 34)) (.cells (headOps.flatMap OpR.cells).toArray 39)
    rw [hW0]
    simpa using this
  have inv0 : InvE PD (fun b => b = w.heap.size ∨ w.heap.size + 1 + 1 ≤ b) W0 W0 w.heap.size [] := by
    refine ⟨fun b => if b = w.heap.size then 1 else 0, .slice none 0 0, ⟨_, _, _, hqy⟩, World.ownsRow_nil _ _ _ _, by simp, fun b e => (by cases e), fun b e => ?_, fun b e => .inr (by omega), Keeps.refl _ _, fun i d h => (by simp at h)⟩
    have : b = w.heap.size := by
      rcases Classical.em (b = w.heap.size) with e1 | e1
      · exact e1
      · simp [e1] at e
    exact ⟨.inl this, by omega⟩
  have HEADAT : Hid (∀ W, Keeps (fun b => b = w.heap.size ∨ w.heap.size + 1 + 1 ≤ b) W0 W → ScriptAt W (w.heap.size + 1) 0 headOps) := by
    intro W hk i o ho j u hu
    have hj : j < 10 := by have := (List.getElem?_eq_some_iff.1 hu).1; simpa using this
    refine hk.cell (p := ⟨w.heap.size + 1, 0 + i * 10 + j, none⟩) ?_ (by simp only; omega)
    rw [cell_of_heap hqh]
    have := opcells_get headOps i o ho j hj
    rw [hu] at this
    simpa using this
  have SCRAT : Hid (∀ W, Keeps (fun b => b = w.heap.size ∨ w.heap.size + 1 + 1 ≤ b) W0 W → ScriptAt W g off script) := by
    intro W hk i o ho j u hu
    have hgl := hgl (by have := (List.getElem?_eq_some_iff.1 ho).1; omega)
    refine hk.cell (p := ⟨g, off + i * 10 + j, none⟩) ?_ (by simp only; omega)
    exact (hbW.cell (p := ⟨g, off + i * 10 + j, none⟩) hgl).trans (hs i o ho j u hu)
  have KROW : Hid (∀ W, Keeps (fun b => b = w.heap.size ∨ w.heap.size + 1 + 1 ≤ b) W0 W → W.ownsRow 0 3 1 (.slice (some ⟨gk, 0, none⟩) ks.length ck) ks.length (ks.map (fun k => Value.int .i64 k))) := by
    intro W hkk
    have h1 := (Keeps.of_below (F := fun _ => False) hbW).row hk (fun _ _ e => e)
    refine hkk.row h1 (fun b e e2 => ?_)
    have e' : gk = b := by simpa [Value.ownBlock] using e
    subst e'
    have := (hk.lt gk rfl).2
    omega
  rw [← hW0] at hst
  have HST := hid hst
  have HPD := hid hPD
  have HOK := hid hok
  have INV0 := hid inv0
  have HBW := hid hbW
  have HAA := hid ha
  unfold lots at hlen
  clear ha hgl hst hPD hok inv0 hbW hqy hqh hs hk
  go_enter Tryz.func14, Tryz.ntmps14
  go_wp2_with (go_at_call 17; refine (head_any _).mono ?_; rintro e w' ⟨rfl, rfl⟩)
  rw [← hW0]
  clear hW0
  go_loopw [7] (fun t wr => ∃ (j : Nat) (docs : List DocR), j ≤ 5 ∧ t = .int .i64 j ∧ InvE PD (fun b => b = w.heap.size ∨ w.heap.size + 1 + 1 ≤ b) W0 wr w.heap.size docs ∧ docs.length ≤ j) (fun t _ => leftV 5 t)
  case atStart => exact ⟨0, [], by omega, rfl, INV0.out, by simp⟩
  case round =>
    obtain ⟨j, docs, hj, rfl, hinv, hdl⟩ := hrel
    by_cases hlt : j < 5
    · obtain ⟨o, ho⟩ : ∃ o, headOps[j]? = some o := ⟨_, List.getElem?_eq_getElem (show j < headOps.length from hlt)⟩
      have hoo := headOps_ok o (List.mem_of_getElem? ho)
      have hat := (by obtain ⟨own, psv, hI⟩ := hinv; exact HEADAT.out wr hI.fr j o ho : ∀ (q : Nat) (u : Value), o.cells[q]? = some u → wr.cell? ⟨w.heap.size + 1, 0 + j * 10 + q, none⟩ = some u)
      have e0 : wr.cell? ⟨w.heap.size + 1, j * 10, none⟩ = some (.int .i64 o.kind) := by simpa using hat 0 _ rfl
      have e1 : wr.cell? ⟨w.heap.size + 1, j * 10 + 1, none⟩ = some (.int .i64 o.D) := by simpa using hat 1 _ rfl
      have e2 : wr.cell? ⟨w.heap.size + 1, j * 10 + 2, none⟩ = some (.int .i64 o.A) := by simpa using hat 2 _ rfl
      have e3 : wr.cell? ⟨w.heap.size + 1, j * 10 + 3, none⟩ = some (.int .i64 o.B) := by simpa using hat 3 _ rfl
      have e4 : wr.cell? ⟨w.heap.size + 1, j * 10 + 4, none⟩ = some (.int .i64 o.C) := by simpa using hat 4 _ rfl
      have e5 : wr.cell? ⟨w.heap.size + 1, j * 10 + 5, none⟩ = some (.string o.S) := by simpa using hat 5 _ rfl
      have e6 : wr.cell? ⟨w.heap.size + 1, j * 10 + 6, none⟩ = some (.int .i64 o.p0) := by simpa using hat 6 _ rfl
      have e7 : wr.cell? ⟨w.heap.size + 1, j * 10 + 7, none⟩ = some (.int .i64 o.p1) := by simpa using hat 7 _ rfl
      have e8 : wr.cell? ⟨w.heap.size + 1, j * 10 + 8, none⟩ = some (.int .i64 o.q0) := by simpa using hat 8 _ rfl
      have e9 : wr.cell? ⟨w.heap.size + 1, j * 10 + 9, none⟩ = some (.int .i64 o.q1) := by simpa using hat 9 _ rfl
      have CS := hid (HST.out o hoo.1 (.inl hoo.2) wr docs hinv (by unfold lots; omega))
      clear hat ho hoo hinv
      go_wp2_with (go_at_call 15; refine CS.out.mono ?_; clear CS; rintro e w3 ⟨rfl, docs', hI', hm', hl'⟩; have HI' := hid hI'; clear hI')
      refine ⟨⟨j + 1, docs', by omega, by go_num, HI'.out, by omega⟩, by simp [leftV, intOf]; omega⟩
    · have HINV := hid hinv
      clear hinv
      go_wp2
      go_loopw [9] (fun t wr => ∃ (i : Nat) (docs : List DocR), i ≤ script.length ∧ t = .int .i64 i ∧ InvE PD (fun b => b = w.heap.size ∨ w.heap.size + 1 + 1 ≤ b) W0 wr w.heap.size docs ∧ docs.length ≤ i + 5) (fun t _ => leftV script.length t)
      case atStart => exact ⟨0, docs, by omega, rfl, HINV.out, by omega⟩
      case round =>
        obtain ⟨i, docs2, hi, rfl, hinv, hdl2⟩ := hrel
        by_cases hlt2 : i < script.length
        · have haa := HAA.out (by omega)
          subst haa
          obtain ⟨o, ho⟩ : ∃ o, script[i]? = some o := ⟨_, List.getElem?_eq_getElem hlt2⟩
          have hoo := HOK.out o (List.mem_of_getElem? ho)
          have hfr := (by obtain ⟨own, psv, hI⟩ := hinv; exact hI.fr : Keeps (fun b => b = w.heap.size ∨ w.heap.size + 1 + 1 ≤ b) W0 wr)
          have hat := SCRAT.out wr hfr i o ho
          have e0 : wr.cell? ⟨g, off + i * 10, none⟩ = some (.int .i64 o.kind) := by simpa using hat 0 _ rfl
          have e1 : wr.cell? ⟨g, off + i * 10 + 1, none⟩ = some (.int .i64 o.D) := by simpa using hat 1 _ rfl
          have e2 : wr.cell? ⟨g, off + i * 10 + 2, none⟩ = some (.int .i64 o.A) := by simpa using hat 2 _ rfl
          have e3 : wr.cell? ⟨g, off + i * 10 + 3, none⟩ = some (.int .i64 o.B) := by simpa using hat 3 _ rfl
          have e4 : wr.cell? ⟨g, off + i * 10 + 4, none⟩ = some (.int .i64 o.C) := by simpa using hat 4 _ rfl
          have e5 : wr.cell? ⟨g, off + i * 10 + 5, none⟩ = some (.string o.S) := by simpa using hat 5 _ rfl
          have e6 : wr.cell? ⟨g, off + i * 10 + 6, none⟩ = some (.int .i64 o.p0) := by simpa using hat 6 _ rfl
          have e7 : wr.cell? ⟨g, off + i * 10 + 7, none⟩ = some (.int .i64 o.p1) := by simpa using hat 7 _ rfl
          have e8 : wr.cell? ⟨g, off + i * 10 + 8, none⟩ = some (.int .i64 o.q0) := by simpa using hat 8 _ rfl
          have e9 : wr.cell? ⟨g, off + i * 10 + 9, none⟩ = some (.int .i64 o.q1) := by simpa using hat 9 _ rfl
          have CI := hid (in_any o.kind gk ck ks wr (KROW.out wr hfr) hkb)
          have HINV2 := hid hinv
          have HOO := hid hoo
          clear hat ho hoo hinv hfr
          cases hc : ks.contains o.kind with
          | true =>
            rw [hc] at CI
            have CS := hid (HST.out o HOO.out (.inr (by simpa using hc)) wr docs2 HINV2.out (by unfold lots; omega))
            clear hc
            go_wp2_with (first
              | (go_at_call 39; refine CI.out.mono ?_; clear CI; rintro e w3 ⟨rfl, rfl⟩)
              | (go_at_call 15; refine CS.out.mono ?_; clear CS; rintro e w3 ⟨rfl, docs', hI', hm', hl'⟩; have HI' := hid hI'; clear hI'))
            exact ⟨⟨i + 1, docs', by omega, by go_num, HI'.out, by omega⟩, by simp [leftV, intOf]; omega⟩
          | false =>
            rw [hc] at CI
            clear hc
            go_wp2_with (go_at_call 39; refine CI.out.mono ?_; clear CI; rintro e w3 ⟨rfl, rfl⟩)
            exact ⟨⟨i + 1, docs2, by omega, by go_num, HINV2.out, by omega⟩, by simp [leftV, intOf]; omega⟩
        · have HINV2 := hid hinv
          clear hinv
          go_wp2
          go_ret
          refine ⟨rfl, ?_⟩
          obtain ⟨own, psv, hI⟩ := HINV2.out
          have hk := hI.fr
          have hz := HBW.out.size
          exact HBW.out.trans ⟨hk.os, hk.tape, hk.output, hk.size, fun k hk2 => hk.block k (by omega) (by omega)⟩

set_option maxRecDepth 20000 in
set_option maxHeartbeats 1000000 in
/-- Trees. -/
theorem trees_any {PD : PDT} {w : World} (a : Option Addr) (g off c : Nat) (script : List OpR) (ha : 0 < script.length → a = some ⟨g, off, none⟩) (hs : ScriptAt w g off script) (hok : ∀ o ∈ script, OpOk o) (hlen : script.length + 6 < lots) (hgl : 0 < script.length → g < w.heap.size)
    (hPD : PDOk PD) (hst : ∀ (Q : Nat → Prop) (w0 : World) (yb : Nat), Below w.heap.size w w0 → (∀ b, Q b → w.heap.size ≤ b) → Steps PD Q w0 yb (fun k => 1 ≤ k ∧ k ≤ 6)) :
    Calls Tryz.prog 3 #[.slice a script.length c] w fun e w' => e = .returned (.bool true) ∧ Below w.heap.size w w' := by
  have hrow : (w.alloc (.cells #[.int .i64 1, .int .i64 2, .int .i64 3, .int .i64 4, .int .i64 5, .int .i64 6] 3)).ownsRow 0 3 1 (.slice (some ⟨w.heap.size, 0, none⟩) 6 6) 6 (([1, 2, 3, 4, 5, 6] : List Int).map (fun k => Value.int .i64 k)) := by
    have := World.ownsRow_lit (base := 0) (e := 3) (size := 1) w #[.int .i64 1, .int .i64 2, .int .i64 3, .int .i64 4, .int .i64 5, .int .i64 6] 6 (Nat.zero_le _) (by decide) rfl
    simpa using this
  have hB : Below w.heap.size w (w.alloc (.cells #[.int .i64 1, .int .i64 2, .int .i64 3, .int .i64 4, .int .i64 5, .int .i64 6] 3)) := (Below.refl _ w).alloc (Nat.le_refl _) _
  have C := hid (plays_any (PD := PD) (w := w.alloc (.cells #[.int .i64 1, .int .i64 2, .int .i64 3, .int .i64 4, .int .i64 5, .int .i64 6] 3)) a g off c w.heap.size 6 script [1, 2, 3, 4, 5, 6] ha
    (fun i o ho j u hu => by
      have hg := hgl (by have := (List.getElem?_eq_some_iff.1 ho).1; omega)
      exact (hB.cell (p := ⟨g, off + i * 10 + j, none⟩) hg).trans (hs i o ho j u hu))
    hok hlen (fun h => by have := hgl h; simp; omega) hrow (by decide)
    (by
      intro o ho hk
      refine hst _ _ _ ((hB.alloc (by simp) _).alloc (by simp; omega) _) (fun b e => by simp at e; omega) o ho ?_
      rcases hk with hk | hk
      · exact ⟨hk.1, by omega⟩
      · simp at hk; omega)
    hPD)
  have HB := hid hB
  clear hrow hB hs hok hlen hgl hPD hst ha
  go_enter Tryz.func3, Tryz.ntmps3
  go_wp2_with (go_at_call 14; refine C.out.mono ?_; rintro e w3 ⟨rfl, hb⟩)
  go_ret
  exact ⟨rfl, HB.out.trans (hb.mono (by simp))⟩

end Go.Proofs.YtabogkonklplcaaGreatDoor
