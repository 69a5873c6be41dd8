import Derived.Test.YtabogkonklplcaaGreatDoorB16

/- marginlaw's trees: the steps of a script that change trees, or show them. -/
namespace Go.Proofs.YtabogkonklplcaaGreatDoor
open Go.RowKit
set_option linter.unusedSimpArgs false
set_option linter.unusedVariables false

def TreesPost (PD : PDT) (Q : Nat → Prop) (w0 : World) (yb n : Nat) (e : Ending) (w' : World) : Prop := e = .returned (.bool true) ∧ ∃ docs, InvE PD Q w0 w' yb docs ∧ docs.length = n

set_option maxRecDepth 20000 in
set_option maxHeartbeats 4000000 in
theorem ptrees_any {PD : PDT} {G : World → Prop} (hA : Answers PD G) {Q : Nat → Prop} {w0 w : World} {yb : Nat} (hG : ∀ W, Keeps Q w0 W → G W) (a : Option Addr) (g off c : Nat) (script : List OpR) (ha : 0 < script.length → a = some ⟨g, off, none⟩) (hs : ScriptAt w0 g off script) (hok : ∀ o ∈ script, OpOk o) (hlen : script.length + 6 < lots) (hgq : 0 < script.length → ¬ Q g)
    {docs : List DocR} (hI : InvE PD Q w0 w yb docs) (hdl : docs.length < lots) :
    Calls Tryz.prog 16 #[ptr yb, .slice a script.length c] w (TreesPost PD Q w0 yb docs.length) := by
  have SCRAT : Hid (∀ W, Keeps Q w0 W → ScriptAt W g off script) := by
    intro W hk i o ho j u hu
    have hgq := hgq (by have := (List.getElem?_eq_some_iff.1 ho).1; omega)
    exact hk.cell (p := ⟨g, off + i * 10 + j, none⟩) (hs i o ho j u hu) hgq
  have HA := hid hA
  have HGG := hid hG
  have HOK := hid hok
  have HI0 := hid hI
  have HAA := hid ha
  have HDL := hid hdl
  unfold lots at hlen
  clear ha hgq hA hok hI hs hG hdl
  go_enter Tryz.func16, Tryz.ntmps16
  go_wp2
  go_loopw [5] (fun t wr => ∃ (i : Nat) (ds : List DocR), i ≤ script.length ∧ t = .int .i64 i ∧ InvE PD Q w0 wr yb ds ∧ ds.length = docs.length) (fun t _ => leftV script.length t)
  case atStart => exact ⟨0, docs, by omega, rfl, HI0.out, rfl⟩
  case round =>
    obtain ⟨i, ds, hi, rfl, hinv, hdl2⟩ := hrel
    by_cases hlt2 : i < script.length
    · have haa := HAA.out (by omega)
      subst haa
      obtain ⟨o, ho⟩ : ∃ o, script[i]? = some o := ⟨_, List.getElem?_eq_getElem hlt2⟩
      have hoo := HOK.out o (List.mem_of_getElem? ho)
      have hfr := (by obtain ⟨own, psv, hI⟩ := hinv; exact hI.fr : Keeps Q w0 wr)
      have hat := SCRAT.out wr hfr i o ho
      have e0 : wr.cell? ⟨g, off + i * 10, none⟩ = some (.int .i64 o.kind) := by simpa using hat 0 _ rfl
      have hbk : Below wr.heap.size wr (wr.alloc (.cells #[.int .i64 2, .int .i64 3, .int .i64 4, .int .i64 5, .int .i64 6] 3)) := (Below.refl _ wr).alloc (Nat.le_refl _) _
      have hrow : (wr.alloc (.cells #[.int .i64 2, .int .i64 3, .int .i64 4, .int .i64 5, .int .i64 6] 3)).ownsRow 0 3 1 (.slice (some ⟨wr.heap.size, 0, none⟩) 5 5) 5 (([2, 3, 4, 5, 6] : List Int).map (fun k => Value.int .i64 k)) := by
        have := World.ownsRow_lit (base := 0) (e := 3) (size := 1) wr #[.int .i64 2, .int .i64 3, .int .i64 4, .int .i64 5, .int .i64 6] 5 (Nat.zero_le _) (by decide) rfl
        simpa using this
      have CI := hid (in_any o.kind wr.heap.size 5 [2, 3, 4, 5, 6] _ hrow (by decide))
      have hinv2 := hinv.below HA.out.pd hbk
      have hfr2 := hfr.trans (Keeps.of_below hbk)
      have hat2 := SCRAT.out _ hfr2 i o ho
      have b0 : (wr.alloc (.cells #[.int .i64 2, .int .i64 3, .int .i64 4, .int .i64 5, .int .i64 6] 3)).cell? ⟨g, off + i * 10, none⟩ = some (.int .i64 o.kind) := by simpa using hat2 0 _ rfl
      have b1 : (wr.alloc (.cells #[.int .i64 2, .int .i64 3, .int .i64 4, .int .i64 5, .int .i64 6] 3)).cell? ⟨g, off + i * 10 + 1, none⟩ = some (.int .i64 o.D) := by simpa using hat2 1 _ rfl
      have b2 : (wr.alloc (.cells #[.int .i64 2, .int .i64 3, .int .i64 4, .int .i64 5, .int .i64 6] 3)).cell? ⟨g, off + i * 10 + 2, none⟩ = some (.int .i64 o.A) := by simpa using hat2 2 _ rfl
      have b3 : (wr.alloc (.cells #[.int .i64 2, .int .i64 3, .int .i64 4, .int .i64 5, .int .i64 6] 3)).cell? ⟨g, off + i * 10 + 3, none⟩ = some (.int .i64 o.B) := by simpa using hat2 3 _ rfl
      have b4 : (wr.alloc (.cells #[.int .i64 2, .int .i64 3, .int .i64 4, .int .i64 5, .int .i64 6] 3)).cell? ⟨g, off + i * 10 + 4, none⟩ = some (.int .i64 o.C) := by simpa using hat2 4 _ rfl
      have b5 : (wr.alloc (.cells #[.int .i64 2, .int .i64 3, .int .i64 4, .int .i64 5, .int .i64 6] 3)).cell? ⟨g, off + i * 10 + 5, none⟩ = some (.string o.S) := by simpa using hat2 5 _ rfl
      have b6 : (wr.alloc (.cells #[.int .i64 2, .int .i64 3, .int .i64 4, .int .i64 5, .int .i64 6] 3)).cell? ⟨g, off + i * 10 + 6, none⟩ = some (.int .i64 o.p0) := by simpa using hat2 6 _ rfl
      have b7 : (wr.alloc (.cells #[.int .i64 2, .int .i64 3, .int .i64 4, .int .i64 5, .int .i64 6] 3)).cell? ⟨g, off + i * 10 + 7, none⟩ = some (.int .i64 o.p1) := by simpa using hat2 7 _ rfl
      have b8 : (wr.alloc (.cells #[.int .i64 2, .int .i64 3, .int .i64 4, .int .i64 5, .int .i64 6] 3)).cell? ⟨g, off + i * 10 + 8, none⟩ = some (.int .i64 o.q0) := by simpa using hat2 8 _ rfl
      have b9 : (wr.alloc (.cells #[.int .i64 2, .int .i64 3, .int .i64 4, .int .i64 5, .int .i64 6] 3)).cell? ⟨g, off + i * 10 + 9, none⟩ = some (.int .i64 o.q1) := by simpa using hat2 9 _ rfl
      have HINV2 := hid hinv2
      have HOO := hid hoo
      clear hat hat2 ho hoo hinv hinv2 hfr hfr2 hrow hbk
      cases hc : ([2, 3, 4, 5, 6] : List Int).contains o.kind with
      | true =>
        rw [hc] at CI
        have hkk : 2 ≤ o.kind ∧ o.kind ≤ 6 := by simp at hc; omega
        have CS := hid (steps_nodes HA.out HGG.out o HOO.out hkk _ ds HINV2.out (by rw [hdl2]; exact HDL.out))
        clear hc hkk
        go_wp2_with (first
          | (go_at_call 39; refine CI.out.mono ?_; clear CI; rintro e w3 ⟨rfl, rfl⟩)
          | (go_at_call 15; refine CS.out.mono ?_; clear CS; rintro e w3 ⟨rfl, docs', hI', hm', hl'⟩; have HI' := hid hI'; clear hI'))
        exact ⟨⟨i + 1, docs', by omega, by go_num, HI'.out, by omega⟩, by show script.length - ((i : Int) + 1).toNat < script.length - ((i : Int)).toNat; omega⟩
      | false =>
        rw [hc] at CI
        clear hc
        go_wp2_with (go_at_call 39; refine CI.out.mono ?_; clear CI; rintro e w3 ⟨rfl, rfl⟩)
        exact ⟨⟨i + 1, ds, by omega, by go_num, HINV2.out, hdl2⟩, by show script.length - ((i : Int) + 1).toNat < script.length - ((i : Int)).toNat; omega⟩
    · have HINV2 := hid hinv
      clear hinv
      go_wp2
      go_ret
      exact ⟨rfl, ds, HINV2.out, hdl2⟩

end Go.Proofs.YtabogkonklplcaaGreatDoor
