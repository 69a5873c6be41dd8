import Derived.Test.YtabogkonklplcaaGreatDoorE34

/- From what the program's calls answer to the card of Trees. -/
namespace Go.Proofs.YtabogkonklplcaaGreatDoor
open Go.ChangeShapes Go.WideShapes Go.ChangeAt Go.RowKit Go.Deep
set_option linter.unusedSimpArgs false
set_option linter.unusedVariables false

section
variable {PD : PDT} {G : World → Prop}

theorem bulk_of {H : Type} {d : DataW H} (hk : Rows.uptoSmall H ([d] ++ []) = true) : Rows.uptoBulk d ≤ 1048576 := by
  have h := of_decide_eq_true hk
  rw [List.append_nil] at h
  simp only [Rows.uptoBulkAll] at h
  exact h
set_option maxRecDepth 20000 in
theorem trees_contract (hA : Answers PD G) (hL : ∀ W, laidMetH Tryz.prog Rows.treesUptoRow.laid W → G W) (H : Type) (enc : TypeId × Value → H) (W : World) (base : Nat) (args : Array Value) (ds gs : List (DataW H)) (before : List MemPlace)
    (hval : ∀ (j : Nat) t v, Tryz.f3.params[j]? = some t → args[j]? = some v → Value.okWide Tryz.prog W .any base t v)
    (hW : DataW.Whole enc Tryz.prog Tryz.f3.params.toList Rows.treesSpec.vars false W args.toList ds gs before)
    (hk : Rows.uptoSmall H (ds ++ gs) = true) (hLW : laidMetH Tryz.prog Rows.treesUptoRow.laid W) :
    Calls Tryz.prog 3 args W fun e W' => ∃ v, e = .returned v ∧ Rows.treesSpec.post enc Tryz.prog Tryz.f3 false true false false W args v W' := by
  have hW' := hW
  have hlt := hW.lt
  obtain ⟨p, q, hA0, hV, rfl, hfz, hnd⟩ := hW
  have hA1 : DataW.TrodAll enc Tryz.prog W 0 (fun _ => true) true Tryz.f3.params.toList args.toList ds p := hA0
  rw [Tryz.params3] at hA1 hval
  obtain ⟨v0, d0, rfl, rfl, h0⟩ := trodAll_one hA1
  obtain ⟨rfl, rfl⟩ := trodVars_none hV
  obtain ⟨ka, kl, kc, rfl⟩ := okWide_slice Tryz.underlying22 (hval 0 22 v0 rfl rfl)
  have hh := h0
  obtain ⟨fuel, h0'⟩ := hh
  have hb : Rows.uptoBulk d0 ≤ 1048576 := bulk_of hk
  obtain ⟨a, g, off, c, script, hv, ha, hs, hok, hlen, hgl⟩ := script_open (x := (d0, p)) h0' hb
  rw [hv] at hW' h0 ⊢
  have hG := hL W hLW
  refine (trees_any (PD := PD) a g off c script ha hs hok hlen hgl hA.pd (fun Q w0 yb hb0 hQ => ?_)).mono fun e W' ⟨he, hbl⟩ => ?_
  · refine steps_of hA (fun W1 hK => ?_)
    refine hA.gb W W1 hG (hb0.trans ?_)
    exact ⟨hK.os, hK.tape, hK.output, hK.size, fun k hk => hK.block k (Nat.lt_of_lt_of_le hk hb0.size) (fun e => by have := hQ k e; omega)⟩
  · subst he
    refine ⟨_, rfl, _, _, _, [], p, [], hW', ?_, ?_, rfl, hbl.frame _, fun h => by cases h⟩
    · exact trodAll_mk1 (shut_bool Tryz.underlying4 true)
    · rw [Tryz.params3]
      exact trodAll_mk1 (Below.trod Tryz.laidOut' (by kernel_rfl) (of_decide_eq_true (by kernel_rfl)) h0 hbl (fun x hx => hlt x (by simpa using hx)))

theorem trees_reads (os : Os) {H : Type} (enc : TypeId × Value → H) : ∃ places, DataW.whole enc Tryz.prog ((laidWorld os).forCall (fun _ _ => 0) ⟨#[], #[.slice none 0 0], []⟩).memory Tryz.f3.params.toList Rows.treesSpec.vars false #[Value.slice none 0 0].toList 8 = some ([.nil], [], places) :=
  ⟨[], by kernel_rfl⟩

set_option maxRecDepth 100000 in
theorem trees_lifted (hA : Answers PD G) (hL : ∀ W, laidMetH Tryz.prog Rows.treesUptoRow.laid W → G W) (os : Os) (started : os.Started) (H : Type) (enc : TypeId × Value → H) (F : Stop.Interp) :
    ReturnsInHanded {} Tryz.checked os 3 .any ((Rows.OpenSpec.upto Rows.treesSpec).preRow enc Tryz.prog Tryz.f3 Rows.treesUptoRow.domain false Rows.treesUptoRow.laid) (((Rows.OpenSpec.upto Rows.treesSpec).at F).post enc Tryz.prog Tryz.f3 false true false false) := by
  obtain ⟨places, hx⟩ := trees_reads os enc
  refine returnsInHanded_of_row (C := Tryz.checked) (s := Rows.OpenSpec.upto Rows.treesSpec) Tryz.own started (by kernel_rfl) Tryz.func3
    (witness_row_atRef (enc := enc) (C := Tryz.checked) false (laidWorld os) #[.slice none 0 0] rfl (by kernel_rfl) (by kernel_rfl) (by kernel_rfl)
      (OpenSpec.preRow_of_cond 8 hx (by kernel_rfl) (fun k hk => by cases hk; kernel_rfl) (by kernel_rfl) (laidWorld_met os _))) ?_
  intro W base args ds gs before hval hW _ hcond _ hLW _ _
  exact trees_contract hA hL H enc W base args ds gs before hval hW (hcond _ rfl) hLW

theorem trees_said (hA : Answers PD G) (hL : ∀ W, laidMetH Tryz.prog Rows.treesUptoRow.laid W → G W) : Rows.TreesUptoSaid :=
  OpenClaim.holds_of_cond 3 Tryz.f3 rfl rfl rfl rfl rfl rfl rfl ⟨rfl, rfl, rfl, rfl, rfl⟩ rfl rfl rfl rfl rfl (by kernel_rfl) Tryz.func3 (by kernel_rfl)
    (of_decide_eq_true (by kernel_rfl)) (by unfold Func.isWrapper; first | (rw [if_pos (by decide +kernel)]; kernel_rfl) | (rw [if_neg (by decide +kernel)]; exact ⟨rfl, rfl⟩))
    (fun os started H enc _ F => by rw [OpenClaim.pre_eq_preRow]; exact trees_lifted hA hL os started H enc F)

theorem trees_plain (f : FuncId) (fn : Func) (hf : Tryz.pinned.checked.prog.funcNamed "margin/marginlaw.Trees" = some f) (hfn : Tryz.pinned.checked.prog.funcs[f]? = some fn) :
    true = Tryz.pinned.checked.prog.looks [] ∧ ∀ (j : Nat) t, fn.params[j]? = some t → Tryz.pinned.checked.prog.wantsStandIn t = false := by
  obtain rfl : f = 3 := Option.some.inj ((show Tryz.prog.funcNamed "margin/marginlaw.Trees" = some 3 by kernel_rfl).symm.trans hf) |>.symm
  obtain rfl : fn = Tryz.f3 := (Option.some.inj (Tryz.func3.symm.trans hfn)).symm
  refine ⟨by kernel_rfl, fun j t ht => ?_⟩
  rw [Tryz.params3] at ht
  obtain rfl : t = 22 := by simpa using Array.mem_of_getElem? ht
  exact (show Tryz.prog.wantsStandIn 22 = false by kernel_rfl)

theorem trees_card (hA : Answers PD G) (hL : ∀ W, laidMetH Tryz.prog Rows.treesUptoRow.laid W → G W) : Rows.TreesUptoCardSaid :=
  Claim7.holds_tied_plain_at .later [] _ _ _ _ (trees_said hA hL) (fun _ h => by cases h) (by kernel_rfl) (fun _ h => by cases h) treesUpto_row_tie rfl ⟨rfl, rfl⟩ (by kernel_rfl) rfl trees_plain (by kernel_rfl)

end

end Go.Proofs.YtabogkonklplcaaGreatDoor
