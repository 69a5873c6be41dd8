import Derived.Test.YtabogkonklplcaaGreatDoorV51
import Derived.Test.YtabogkonklplcaaGreatDoorV52
import Derived.Test.YtabogkonklplcaaGreatDoorV45

namespace Go.Proofs.YtabogkonklplcaaGreatDoor
open Go.RowKit
theorem goneLaw_any {w : World} (hg : GG w) (a : Option Addr) (g off c : Nat) (l : List StepR) (hS : ScrAt w a g off l) (p q : StepR) (hp : StepOk p) (hq : StepOk q) :
    Calls Tryz.prog 13 #[.slice a l.length c, p.val, q.val] w fun e w' => e = .returned (.bool true) ∧ Below w.heap.size w w' := by
  by_cases hl : l.length ≤ 40
  · exact gone_A hg a g off c l hS p q hp hq hl
  · exact gone_B hg a g off c l hS p q hp hq (by omega)
end Go.Proofs.YtabogkonklplcaaGreatDoor

namespace Go.Proofs.YtabogkonklplcaaGreatDoor
open Go.ChangeShapes Go.WideShapes Go.ChangeAt Go.RowKit Go.Deep
set_option linter.unusedSimpArgs false
set_option linter.unusedVariables false
theorem gone_met (os : Os) (args : Array Value) : laidMetH Tryz.prog Rows.goneRow.laid ((keepWorld os).forCall (fun _ _ => 0) ⟨#[], args, []⟩).memory := keepWorld_met os args
section
variable {H : Type} {enc : TypeId × Value → H} {P : Program} {w : World} {base : Nat} {spare : Nat → Bool} {held : Bool}
theorem trodAll_mk3' {t t' t'' : TypeId} {v v' v'' : Value} {d d' d'' : DataW H} {p p' p'' : List MemPlace} (h : DataW.Trod enc P w base spare held t v d p) (h' : DataW.Trod enc P w base spare held t' v' d' p') (h'' : DataW.Trod enc P w base spare held t'' v'' d'' p'') : DataW.TrodAll enc P w base spare held [t, t', t''] [v, v', v''] [d, d', d''] (p ++ p' ++ p'') := by
  rw [List.append_assoc]
  exact trodAll_mk3 h h' h''
end
set_option maxRecDepth 20000 in
theorem gone_contract (H : Type) (enc : TypeId × Value → H) (W : World) (base : Nat) (args : Array Value) (ds gs : List (DataW H)) (before : List MemPlace)
    (hval : ∀ (j : Nat) t v, Tryz.f13.params[j]? = some t → args[j]? = some v → Value.okWide Tryz.prog W .any base t v)
    (hW : DataW.Whole enc Tryz.prog Tryz.f13.params.toList Rows.goneSpec.vars false W args.toList ds gs before)
    (hLW : laidMetH Tryz.prog Rows.goneRow.laid W) :
    Calls Tryz.prog 13 args W fun e W' => ∃ v, e = .returned v ∧ Rows.goneSpec.post enc Tryz.prog Tryz.f13 false true false false W args v W' := by
  have hW' := hW
  have hlt := hW.lt
  obtain ⟨p, q, hA0, hV, rfl, hfz, hnd⟩ := hW
  have hA1 : DataW.TrodAll enc Tryz.prog W 0 (fun _ => true) true Tryz.f13.params.toList args.toList ds p := hA0
  rw [Tryz.params13] at hA1 hval
  obtain ⟨v0, v1, v2, d0, d1, d2, p0, p1, p2, rfl, rfl, rfl, h0, h1, h2⟩ := trodAll_three hA1
  obtain ⟨rfl, rfl⟩ := trodVars_none hV
  obtain ⟨ka, kl, kc, rfl⟩ := okWide_slice Tryz.underlying54 (hval 0 54 v0 rfl rfl)
  have hh := h0
  obtain ⟨fuel, h0'⟩ := hh
  obtain ⟨a, g, off, c, l, hv, hs⟩ := steps_open (x := (d0, p0)) h0'
  obtain ⟨o1, hv1, ho1⟩ := step_arg (hval 1 56 v1 rfl rfl) h1
  obtain ⟨o2, hv2, ho2⟩ := step_arg (hval 2 56 v2 rfl rfl) h2
  rw [hv] at hW' h0 ⊢
  rw [hv1] at hW' h1 ⊢
  rw [hv2] at hW' h2 ⊢
  refine (goneLaw_any (gg_keep W hLW) a g off c l hs o1 o2 ho1 ho2).mono fun e W' ⟨he, hbl⟩ => ?_
  subst he
  refine ⟨_, rfl, _, _, _, [], p0 ++ p1 ++ p2, [], hW', ?_, ?_, rfl, hbl.frame _, fun h => by cases h⟩
  · exact trodAll_mk1 (shut_bool Tryz.underlying4 true)
  · rw [Tryz.params13]
    refine trodAll_mk3' ?_ ?_ ?_
    · exact Below.trod Tryz.laidOutK (by kernel_rfl) (of_decide_eq_true (by kernel_rfl)) h0 hbl (fun x hx => hlt x (by simp; simp_all))
    · exact Below.trod Tryz.laidOutK (by kernel_rfl) (of_decide_eq_true (by kernel_rfl)) h1 hbl (fun x hx => hlt x (by simp; simp_all))
    · exact Below.trod Tryz.laidOutK (by kernel_rfl) (of_decide_eq_true (by kernel_rfl)) h2 hbl (fun x hx => hlt x (by simp; simp_all))
theorem gone_reads (os : Os) {H : Type} (enc : TypeId × Value → H) : ∃ places, DataW.whole enc Tryz.prog ((keepWorld os).forCall (fun _ _ => 0) ⟨#[], #[.slice none 0 0, .agg #[.int .i64 0, .int .i64 0, .int .i64 0, .int .i64 0], .agg #[.int .i64 0, .int .i64 0, .int .i64 0, .int .i64 0]], []⟩).memory Tryz.f13.params.toList Rows.goneSpec.vars false (#[.slice none 0 0, .agg #[.int .i64 0, .int .i64 0, .int .i64 0, .int .i64 0], .agg #[.int .i64 0, .int .i64 0, .int .i64 0, .int .i64 0]] : Array Value).toList 8 = some ([.nil, .agg [.lit (.int .i64 0), .lit (.int .i64 0), .lit (.int .i64 0), .lit (.int .i64 0)], .agg [.lit (.int .i64 0), .lit (.int .i64 0), .lit (.int .i64 0), .lit (.int .i64 0)]], [], places) :=
  ⟨[], by kernel_rfl⟩
set_option maxRecDepth 100000 in
theorem gone_lifted (os : Os) (started : os.Started) (H : Type) (enc : TypeId × Value → H) (F : Stop.Interp) :
    ReturnsInHanded {} Tryz.checked os 13 .any ((OpenSpec.ofChange Rows.goneSpec).preRow enc Tryz.prog Tryz.f13 Rows.goneRow.domain false Rows.goneRow.laid) (((OpenSpec.ofChange Rows.goneSpec).at F).post enc Tryz.prog Tryz.f13 false true false false) := by
  obtain ⟨places, hx⟩ := gone_reads os enc
  refine returnsInHanded_of_row (C := Tryz.checked) (s := OpenSpec.ofChange Rows.goneSpec) Tryz.ownK started (by kernel_rfl) Tryz.func13
    (witness_row_atRef (enc := enc) (C := Tryz.checked) false (keepWorld os) #[.slice none 0 0, .agg #[.int .i64 0, .int .i64 0, .int .i64 0, .int .i64 0], .agg #[.int .i64 0, .int .i64 0, .int .i64 0, .int .i64 0]] rfl (by kernel_rfl) (by kernel_rfl) (by kernel_rfl)
      (OpenSpec.preRow_of_cond 8 hx (by kernel_rfl) (fun k hk => by cases hk) (by kernel_rfl) (gone_met os _))) ?_
  intro W base args ds gs before hval hW _ _ _ hLW _ _
  exact gone_contract H enc W base args ds gs before hval hW hLW
theorem gone_said : Rows.GoneSaid :=
  OpenClaim.holds_of_cond 13 Tryz.f13 rfl rfl rfl rfl rfl rfl rfl ⟨rfl, rfl, rfl, rfl, rfl⟩ rfl rfl rfl rfl rfl (by kernel_rfl) Tryz.func13 (by kernel_rfl)
    (of_decide_eq_true (by kernel_rfl)) (by unfold Func.isWrapper; first | (rw [if_pos (by decide +kernel)]; kernel_rfl) | (rw [if_neg (by decide +kernel)]; exact ⟨rfl, rfl⟩))
    (fun os started H enc _ F => by rw [OpenClaim.pre_eq_preRow]; exact gone_lifted os started H enc F)
theorem gone_plain (f : FuncId) (fn : Func) (hf : Tryz.pinned.checked.prog.funcNamed "margin/marginkeep.Gone" = some f) (hfn : Tryz.pinned.checked.prog.funcs[f]? = some fn) :
    true = Tryz.pinned.checked.prog.looks [] ∧ ∀ (j : Nat) t, fn.params[j]? = some t → Tryz.pinned.checked.prog.wantsStandIn t = false := by
  obtain rfl : f = 13 := Option.some.inj ((show Tryz.prog.funcNamed "margin/marginkeep.Gone" = some 13 by kernel_rfl).symm.trans hf) |>.symm
  obtain rfl : fn = Tryz.f13 := (Option.some.inj (Tryz.func13.symm.trans hfn)).symm
  refine ⟨by kernel_rfl, fun j t ht => ?_⟩
  rw [Tryz.params13] at ht
  have hm := Array.mem_of_getElem? ht
  have hm' : t = 54 ∨ t = 56 := by
    simp at hm
    omega
  rcases hm' with rfl | rfl
  · exact (show Tryz.prog.wantsStandIn 54 = false by kernel_rfl)
  · exact (show Tryz.prog.wantsStandIn 56 = false by kernel_rfl)
theorem gone_holds : Rows.GoneCardSaid :=
  Claim7.holds_tied_plain_at .later [] _ _ _ _ gone_said (fun _ h => by cases h) (by kernel_rfl) (fun _ h => by cases h) gone_row_tie rfl ⟨rfl, rfl⟩ (by kernel_rfl) rfl gone_plain (by kernel_rfl)
end Go.Proofs.YtabogkonklplcaaGreatDoor
