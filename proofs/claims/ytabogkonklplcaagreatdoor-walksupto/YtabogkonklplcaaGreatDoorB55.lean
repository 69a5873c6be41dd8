import Derived.Test.YtabogkonklplcaaGreatDoorB17
import Derived.Test.YtabogkonklplcaaGreatDoorB54
import Derived.Test.YtabogkonklplcaaGreatDoorB28
import Derived.Test.YtabogkonklplcaaGreatDoorB48
import Derived.Test.YtabogkonklplcaaGreatDoorB51

/- From what the program's calls answer to the card of Walks. -/
namespace Go.Proofs.YtabogkonklplcaaGreatDoor
open Go.ChangeShapes Go.WideShapes Go.ChangeAt Go.RowKit Go.Deep
set_option linter.unusedSimpArgs false
set_option linter.unusedVariables false

section
variable {PD : PDT} {G : World → Prop}

theorem trodAll_six {H : Type} {enc : TypeId × Value → H} {P : Program} {w : World} {base : Nat} {spare : Nat → Bool} {held : Bool} {t1 t2 t3 t4 t5 t6 : TypeId} {args : Array Value} {ds : List (DataW H)} {ps : List MemPlace} (h : DataW.TrodAll enc P w base spare held [t1, t2, t3, t4, t5, t6] args.toList ds ps) :
    ∃ a1 a2 a3 a4 a5 a6 d1 d2 d3 d4 d5 d6 p1 p2 p3 p4 p5 p6, args = #[a1, a2, a3, a4, a5, a6] ∧ ds = [d1, d2, d3, d4, d5, d6] ∧ ps = p1 ++ (p2 ++ (p3 ++ (p4 ++ (p5 ++ p6)))) ∧ DataW.Trod enc P w base spare held t1 a1 d1 p1 ∧ DataW.Trod enc P w base spare held t2 a2 d2 p2 ∧ DataW.Trod enc P w base spare held t3 a3 d3 p3 ∧ DataW.Trod enc P w base spare held t4 a4 d4 p4 ∧ DataW.Trod enc P w base spare held t5 a5 d5 p5 ∧ DataW.Trod enc P w base spare held t6 a6 d6 p6 := by
  obtain ⟨a1, r1, d1, e1, p1, q1, hargs, rfl, rfl, h1, s1⟩ := trodAll_cons h
  obtain ⟨a2, r2, d2, e2, p2, q2, rfl, rfl, rfl, h2, s2⟩ := trodAll_cons s1
  obtain ⟨a3, r3, d3, e3, p3, q3, rfl, rfl, rfl, h3, s3⟩ := trodAll_cons s2
  obtain ⟨a4, r4, d4, e4, p4, q4, rfl, rfl, rfl, h4, s4⟩ := trodAll_cons s3
  obtain ⟨a5, r5, d5, e5, p5, q5, rfl, rfl, rfl, h5, s5⟩ := trodAll_cons s4
  obtain ⟨a6, r6, d6, e6, p6, q6, rfl, rfl, rfl, h6, s6⟩ := trodAll_cons s5
  obtain ⟨rfl, rfl, rfl⟩ := trodAll_nil s6
  exact ⟨a1, a2, a3, a4, a5, a6, d1, d2, d3, d4, d5, d6, p1, p2, p3, p4, p5, p6, by cases args; simp_all, rfl, by simp, h1, h2, h3, h4, h5, h6⟩

theorem bulk_mem {H : Type} {ds : List (DataW H)} (hk : Rows.uptoSmall H (ds ++ []) = true) {d : DataW H} (hd : d ∈ ds) : Rows.uptoBulk d ≤ 1048576 := by
  have h := of_decide_eq_true hk
  rw [List.append_nil] at h
  exact Nat.le_trans (bulkAll_mem hd) h

theorem scr_open {H : Type} {enc : TypeId × Value → H} {w : World} {sp : Nat → Bool} {held : Bool} {a : Option Addr} {n c : Nat} {d : DataW H} {p : List MemPlace} (h : DataW.Trod enc Tryz.prog w 0 sp held 22 (.slice a n c) d p) (hb : Rows.uptoBulk d ≤ 1048576) : ∃ script g, Scr w (.slice a n c) script g := by
  obtain ⟨fuel, h'⟩ := h
  obtain ⟨a, g, off, c, script, hv, ha, hs, hok, hlen, hgl⟩ := script_open (x := (d, p)) h' hb
  exact ⟨script, g, ⟨a, off, c, hv, ha, hs, hgl⟩, hok, hlen⟩

theorem int_open {H : Type} {enc : TypeId × Value → H} {w : World} {sp : Nat → Bool} {held : Bool} {n : Int} {d : DataW H} {p : List MemPlace} (h : DataW.Trod enc Tryz.prog w 0 sp held 3 (.int .i64 n) d p) : -9223372036854775808 ≤ n ∧ n ≤ 9223372036854775807 := by
  obtain ⟨fuel, h'⟩ := h
  obtain ⟨m, hn, _, hw⟩ := DataW.trod_int Tryz.underlying3 h'
  have e : n = m := by simpa [Value.cells] using hn
  subst e
  exact wf_i64 hw

set_option maxRecDepth 20000 in
theorem walks_contract (hA : Answers PD G) (hWk : WalkAns PD G) (hL : ∀ W, laidMetH Tryz.prog Rows.walksUptoRow.laid W → G W) (H : Type) (enc : TypeId × Value → H) (W : World) (base : Nat) (args : Array Value) (ds gs : List (DataW H)) (before : List MemPlace)
    (hval : ∀ (j : Nat) t v, Tryz.f4.params[j]? = some t → args[j]? = some v → Value.okWide Tryz.prog W .any base t v)
    (hW : DataW.Whole enc Tryz.prog Tryz.f4.params.toList Rows.walksSpec.vars false W args.toList ds gs before)
    (hk : Rows.uptoSmall H (ds ++ gs) = true) (hLW : laidMetH Tryz.prog Rows.walksUptoRow.laid W) :
    Calls Tryz.prog 4 args W fun e W' => ∃ v, e = .returned v ∧ Rows.walksSpec.post enc Tryz.prog Tryz.f4 false true false false W args v W' := by
  have hW' := hW
  have hlt := hW.lt
  obtain ⟨p, q, hA0, hV, rfl, hfz, hnd⟩ := hW
  have hA1 : DataW.TrodAll enc Tryz.prog W 0 (fun _ => true) true Tryz.f4.params.toList args.toList ds p := hA0
  rw [Tryz.params4] at hA1 hval
  obtain ⟨a1, a2, a3, a4, a5, a6, d1, d2, d3, d4, d5, d6, p1, p2, p3, p4, p5, p6, rfl, rfl, rfl, h1, h2, h3, h4, h5, h6⟩ := trodAll_six hA1
  obtain ⟨rfl, rfl⟩ := trodVars_none hV
  obtain ⟨k1, l1, c1, rfl⟩ := okWide_slice Tryz.underlying22 (hval 0 22 a1 rfl rfl)
  obtain ⟨n2, rfl⟩ := okWide_int Tryz.underlying3 (hval 1 3 a2 rfl rfl)
  obtain ⟨n3, rfl⟩ := okWide_int Tryz.underlying3 (hval 2 3 a3 rfl rfl)
  obtain ⟨k4, l4, c4, rfl⟩ := okWide_slice Tryz.underlying22 (hval 3 22 a4 rfl rfl)
  obtain ⟨k5, l5, c5, rfl⟩ := okWide_slice Tryz.underlying22 (hval 4 22 a5 rfl rfl)
  obtain ⟨n6, rfl⟩ := okWide_int Tryz.underlying3 (hval 5 3 a6 rfl rfl)
  obtain ⟨s1, g1, hs1⟩ := scr_open h1 (bulk_mem hk (by simp))
  obtain ⟨s4, g4, hs4⟩ := scr_open h4 (bulk_mem hk (by simp))
  obtain ⟨s5, g5, hs5⟩ := scr_open h5 (bulk_mem hk (by simp))
  obtain ⟨b1, b2⟩ := int_open h6
  refine (walks_any hA hWk (hL W hLW) hs1 hs4 hs5 n2 n3 n6 b1 b2).mono fun e W' ⟨he, hbl⟩ => ?_
  subst he
  refine ⟨_, rfl, _, _, _, [], p1 ++ (p2 ++ (p3 ++ (p4 ++ (p5 ++ p6)))), [], hW', ?_, ?_, rfl, hbl.frame _, fun h => by cases h⟩
  · exact trodAll_mk1 (shut_bool Tryz.underlying4 true)
  · rw [Tryz.params4]
    have st : ∀ {t : TypeId} {v : Value} {d : DataW H} {ps : List MemPlace}, Tryz.prog.readableRec t = true → t < Tryz.prog.types.size → DataW.Trod enc Tryz.prog W 0 (fun _ => true) true t v d ps → (∀ x ∈ ps, x ∈ p1 ++ (p2 ++ (p3 ++ (p4 ++ (p5 ++ p6))))) → DataW.Trod enc Tryz.prog W' 0 (fun b => decide (b < W.heap.size)) true t v d ps :=
      fun hr ht h hin => Below.trod Tryz.laidOut' hr ht h hbl (fun x hx => hlt x (by simpa using hin x hx))
    exact trodAll_cons_mk (st (by kernel_rfl) (of_decide_eq_true (by kernel_rfl)) h1 (fun x hx => by simp [hx]))
      (trodAll_cons_mk (st (by kernel_rfl) (of_decide_eq_true (by kernel_rfl)) h2 (fun x hx => by simp [hx]))
      (trodAll_cons_mk (st (by kernel_rfl) (of_decide_eq_true (by kernel_rfl)) h3 (fun x hx => by simp [hx]))
      (trodAll_cons_mk (st (by kernel_rfl) (of_decide_eq_true (by kernel_rfl)) h4 (fun x hx => by simp [hx]))
      (trodAll_cons_mk (st (by kernel_rfl) (of_decide_eq_true (by kernel_rfl)) h5 (fun x hx => by simp [hx]))
      (trodAll_mk1 (st (by kernel_rfl) (of_decide_eq_true (by kernel_rfl)) h6 (fun x hx => by simp [hx])))))))

theorem walks_reads (os : Os) {H : Type} (enc : TypeId × Value → H) : ∃ places, DataW.whole enc Tryz.prog ((laidWorld os).forCall (fun _ _ => 0) ⟨#[], #[.slice none 0 0, .int .i64 0, .int .i64 0, .slice none 0 0, .slice none 0 0, .int .i64 0], []⟩).memory Tryz.f4.params.toList Rows.walksSpec.vars false #[Value.slice none 0 0, .int .i64 0, .int .i64 0, .slice none 0 0, .slice none 0 0, .int .i64 0].toList 8 = some ([.nil, .lit (.int .i64 0), .lit (.int .i64 0), .nil, .nil, .lit (.int .i64 0)], [], places) :=
  ⟨[], by kernel_rfl⟩

set_option maxRecDepth 100000 in
theorem laidWorld_met2 (os : Os) (args : Array Value) : laidMetH Tryz.prog Rows.walksUptoRow.laid ((laidWorld os).forCall (fun _ _ => 0) ⟨#[], args, []⟩).memory := laidWorld_met os args

set_option maxRecDepth 100000 in
theorem walks_lifted (hA : Answers PD G) (hWk : WalkAns PD G) (hL : ∀ W, laidMetH Tryz.prog Rows.walksUptoRow.laid W → G W) (os : Os) (started : os.Started) (H : Type) (enc : TypeId × Value → H) (F : Stop.Interp) :
    ReturnsInHanded {} Tryz.checked os 4 .any ((Rows.OpenSpec.upto Rows.walksSpec).preRow enc Tryz.prog Tryz.f4 Rows.walksUptoRow.domain false Rows.walksUptoRow.laid) (((Rows.OpenSpec.upto Rows.walksSpec).at F).post enc Tryz.prog Tryz.f4 false true false false) := by
  obtain ⟨places, hx⟩ := walks_reads os enc
  refine returnsInHanded_of_row (C := Tryz.checked) (s := Rows.OpenSpec.upto Rows.walksSpec) Tryz.own started (by kernel_rfl) Tryz.func4
    (witness_row_atRef (enc := enc) (C := Tryz.checked) false (laidWorld os) #[.slice none 0 0, .int .i64 0, .int .i64 0, .slice none 0 0, .slice none 0 0, .int .i64 0] rfl (by kernel_rfl) (by kernel_rfl) (by kernel_rfl)
      (OpenSpec.preRow_of_cond 8 hx (by kernel_rfl) (fun k hk => by cases hk; kernel_rfl) (by kernel_rfl) (laidWorld_met2 os _))) ?_
  intro W base args ds gs before hval hW _ hcond _ hLW _ _
  exact walks_contract hA hWk hL H enc W base args ds gs before hval hW (hcond _ rfl) hLW

theorem walks_said (hA : Answers PD G) (hWk : WalkAns PD G) (hL : ∀ W, laidMetH Tryz.prog Rows.walksUptoRow.laid W → G W) : Rows.WalksUptoSaid :=
  OpenClaim.holds_of_cond 4 Tryz.f4 rfl rfl rfl rfl rfl rfl rfl ⟨rfl, rfl, rfl, rfl, rfl⟩ rfl rfl rfl rfl rfl (by kernel_rfl) Tryz.func4 (by kernel_rfl)
    (of_decide_eq_true (by kernel_rfl)) (by unfold Func.isWrapper; first | (rw [if_pos (by decide +kernel)]; kernel_rfl) | (rw [if_neg (by decide +kernel)]; exact ⟨rfl, rfl⟩))
    (fun os started H enc _ F => by rw [OpenClaim.pre_eq_preRow]; exact walks_lifted hA hWk hL os started H enc F)

theorem walks_plain (f : FuncId) (fn : Func) (hf : Tryz.pinned.checked.prog.funcNamed "margin/marginlaw.Walks" = some f) (hfn : Tryz.pinned.checked.prog.funcs[f]? = some fn) :
    true = Tryz.pinned.checked.prog.looks [] ∧ ∀ (j : Nat) t, fn.params[j]? = some t → Tryz.pinned.checked.prog.wantsStandIn t = false := by
  obtain rfl : f = 4 := Option.some.inj ((show Tryz.prog.funcNamed "margin/marginlaw.Walks" = some 4 by kernel_rfl).symm.trans hf) |>.symm
  obtain rfl : fn = Tryz.f4 := (Option.some.inj (Tryz.func4.symm.trans hfn)).symm
  refine ⟨by kernel_rfl, fun j t ht => ?_⟩
  rw [Tryz.params4] at ht
  have hm := Array.mem_of_getElem? ht
  have hc : t = 22 ∨ t = 3 := by
    simp only [List.mem_toArray, List.mem_cons, List.not_mem_nil, or_false] at hm
    rcases hm with h | h | h | h | h | h
    · exact .inl h
    · exact .inr h
    · exact .inr h
    · exact .inl h
    · exact .inl h
    · exact .inr h
  rcases hc with rfl | rfl
  · exact (show Tryz.prog.wantsStandIn 22 = false by kernel_rfl)
  · exact (show Tryz.prog.wantsStandIn 3 = false by kernel_rfl)

theorem walks_card (hA : Answers PD G) (hWk : WalkAns PD G) (hL : ∀ W, laidMetH Tryz.prog Rows.walksUptoRow.laid W → G W) : Rows.WalksUptoCardSaid :=
  Claim7.holds_tied_plain_at .later [] _ _ _ _ (walks_said hA hWk hL) (fun _ h => by cases h) (by kernel_rfl) (fun _ h => by cases h) walksUpto_row_tie rfl ⟨rfl, rfl⟩ (by kernel_rfl) rfl walks_plain (by kernel_rfl)
end

end Go.Proofs.YtabogkonklplcaaGreatDoor

/- Walks. -/
namespace Go.Proofs.YtabogkonklplcaaGreatDoor
open Go.RowKit

theorem gg_of_laid2 (W : World) (h : laidMetH Tryz.prog Rows.walksUptoRow.laid W) : GG W := gg_of_laid W h

/-- The statement. -/
theorem walks_holds : Rows.WalksUptoCardSaid := walks_card (answers_of ans_insert) walkAns gg_of_laid2
#print axioms walks_holds

end Go.Proofs.YtabogkonklplcaaGreatDoor
