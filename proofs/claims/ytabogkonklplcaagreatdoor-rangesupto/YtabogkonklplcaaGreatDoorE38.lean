import Derived.Test.YtabogkonklplcaaGreatDoorE33
import Derived.Test.YtabogkonklplcaaGreatDoorE19
import Derived.Test.YtabogkonklplcaaGreatDoorE27
import Derived.Shelf.Abstract
import Derived.Deep.RegionHeld3
import Derived.Test.YtabogkonklplcaaGreatDoorE36
import Derived.Test.YtabogkonklplcaaGreatDoorE37

/- margin.Range. -/
namespace Go.Proofs.YtabogkonklplcaaGreatDoor
open Go.RowKit Go.Lib
set_option linter.unusedSimpArgs false
set_option linter.unusedVariables false

theorem errOf_M (r : Int) : ErrOf (.iface 141 (.agg #[.int .i64 r])) r 8 := fun w hg => (fault_M r w hg).mono fun e w' ⟨h1, h2⟩ => ⟨by rw [h1]; simp [errV], h2⟩

theorem PLies.after {w w' : World} {F : Nat → Prop} {bx : Nat} {st : St} (h : PLies w F bx st) (hb : Below w.heap.size w w') : Keeps F w w' ∧ PLies w' (grow F w) bx st :=
  ⟨Keeps.of_below hb, (h.keeps (Keeps.of_below (F := fun _ => False) hb) (fun _ _ e => e)).wider (fun b h => .inl h)⟩

section
variable {w : World} {F : Nat → Prop} {bx : Nat} {s : List Nd} {rs : List Sp}

set_option maxHeartbeats 400000 in
theorem mrange_full (hg : GG w) (hP : PLies w F bx ⟨s, rs⟩) (h6 : 6 ≤ rs.length) : Calls Tryz.prog 56 #[ptr bx] w (PLPost F w bx ⟨s, rs⟩ (.tuple #[.int .i64 0, errV 0 7])) := by
  have HP := hid hP
  obtain ⟨bf, bl, sv, hD⟩ := hP
  have C := hid (ladd_full hD h6)
  have c1 : w.cell? ⟨bx, 1, none⟩ = some (ptr bl) := cell_of_heap hD.doc 1
  have E := hid (fun w1 (hb : Below w.heap.size w w1) => errOf_P 0 7 (by decide) w1 (hg.below hb).1)
  clear hD hg
  go_enter Tryz.func56, Tryz.ntmps56
  go_wp2_with first
    | (go_at_call 96; refine C.out.mono ?_; rintro e w1 ⟨rfl, hb1⟩; have E1 := hid (E.out w1 hb1))
    | (go_at_call 46; refine E1.out.mono ?_; rintro e w2 ⟨rfl, hb2⟩)
  go_ret2
  exact ⟨rfl, HP.out.after (hb1.trans (hb2.mono hb1.size))⟩

set_option maxHeartbeats 400000 in
theorem mrange_some (hg : GG w) (hP : PLies w F bx ⟨s, rs⟩) (h6 : rs.length < 6) : Calls Tryz.prog 56 #[ptr bx] w (PLPost F w bx ⟨s, rs ++ [⟨0, 0, 0, 0⟩]⟩ (.tuple #[.int .i64 rs.length, errV 0 0])) := by
  obtain ⟨bf, bl, sv, hD⟩ := hP
  have C := hid (ladd_some hg hD h6)
  have c1 : w.cell? ⟨bx, 1, none⟩ = some (ptr bl) := cell_of_heap hD.doc 1
  clear hD hg
  go_enter Tryz.func56, Tryz.ntmps56
  go_wp2_with first
    | (go_at_call 96; refine C.out.mono ?_; rintro e w1 ⟨rfl, hk1, sv', hD1⟩; have H1 := hid (And.intro hk1 hD1); clear hk1 hD1)
    | (go_at_call 46; refine (fault_nil _).mono ?_; rintro e w2 ⟨rfl, hb2⟩)
  go_ret2
  obtain ⟨hk1, hD1⟩ := H1.out
  exact ⟨by simp [errV], hk1.trans (Keeps.of_below hb2), _, _, _, hD1.below hb2⟩
end

end Go.Proofs.YtabogkonklplcaaGreatDoor

/- ranges.Follow: all ranges go with a change. -/
namespace Go.Proofs.YtabogkonklplcaaGreatDoor
open Go.RowKit Go.Lib
set_option linter.unusedSimpArgs false
set_option linter.unusedVariables false

/-- One cell of one range in a row of ranges. -/
theorem spRow_set {w : World} {g c n : Nat} {rs : List Sp} (hrow : w.ownsRow 0 79 4 (.slice (some ⟨g, 0, none⟩) n c) n (rs.flatMap Sp.cells)) {q : Nat} {r r' : Sp} (hr : rs[q]? = some r) (j : Nat) (hj : j < 4) (u : Value) (he : r'.cells = r.cells.set j u) :
    (w.setCell ⟨g, q * 4 + j, none⟩ u).ownsRow 0 79 4 (.slice (some ⟨g, 0, none⟩) n c) n ((rs.set q r').flatMap Sp.cells) := by
  have := (hrow.stored (q * 4 + j) u).1
  rw [spcells_set rs q r r' hr j hj u he] at this
  exact this

def FolInv (w : World) (g : Nat) (rv : Value) (rs : List Sp) (f : Mvf) (t : Value) (wr : World) : Prop :=
  ∃ q : Nat, q ≤ rs.length ∧ t = .int .i64 (q : Int) ∧ wr.ownsRow 0 79 4 rv rs.length (((rs.take q).map (mvSp f) ++ rs.drop q).flatMap Sp.cells) ∧ Keeps (fun b => b = g) w wr

set_option maxRecDepth 20000 in
set_option maxHeartbeats 2000000 in
theorem lfollow_some {w : World} {bl bf g c m : Nat} {mv : Value} {f : Mvf} {rs : List Sp} (h : w.heap[bl]? = some (.cells #[ptr bf, .slice (some ⟨g, 0, none⟩) rs.length c] 176 (0, 0))) (hr : w.ownsRow 0 79 4 (.slice (some ⟨g, 0, none⟩) rs.length c) rs.length (rs.flatMap Sp.cells)) (hgl : g ≠ bl) (hgm : g < m) (hm : MoveOk m w mv f) (hsm : Small rs) (h6 : rs.length ≤ 6) :
    Calls Tryz.prog 110 #[ptr bl, mv] w fun e w' => e = .returned (.tuple #[]) ∧ Keeps (fun b => b = g) w w' ∧ w'.ownsRow 0 79 4 (.slice (some ⟨g, 0, none⟩) rs.length c) rs.length ((rs.map (mvSp f)).flatMap Sp.cells) := by
  have c1 : w.cell? ⟨bl, 1, none⟩ = some (.slice (some ⟨g, 0, none⟩) rs.length c) := cell_of_heap h 1
  have hl := heap_lt h
  obtain ⟨gf, lb, rfl, eg, hrun⟩ := hm.runs
  have HRUN := hid hrun
  have HR := hid hr
  have HSM := hid hsm
  clear h hr hm hrun hsm
  go_enter Tryz.func110, Tryz.ntmps110
  go_wp2
  go_loopw [11] (FolInv w g (.slice (some ⟨g, 0, none⟩) rs.length c) rs f) (fun t _ => leftN rs.length t)
  case atStart => exact ⟨0, Nat.zero_le _, rfl, by simpa using HR.out, Keeps.refl _ _⟩
  case round =>
    obtain ⟨q, hq, rfl, hR, hK⟩ := hrel
    by_cases hlt : q < rs.length
    · have hlI : (q : Int) < (rs.length : Int) := by omega
      obtain ⟨z, hz⟩ : ∃ z, rs[q]? = some z := ⟨_, List.getElem?_eq_getElem hlt⟩
      obtain ⟨za, zb, zc, zd⟩ := z
      obtain ⟨hb0, hb1, hd0, hd1⟩ := HSM.out _ (List.mem_of_getElem? hz)
      simp only at hb0 hb1 hd0 hd1
      have hgz := get_mid (mvSp f) rs q _ hz
      have e0 : wr.cell? ⟨g, q * 4, none⟩ = some (.int .i64 za) := by have := hR.cellAt (q * 4 + 0) (by omega); rw [spcells_get _ q _ hgz 0 (by omega)] at this; simpa [Sp.cells] using this
      have e1 : wr.cell? ⟨g, q * 4 + 1, none⟩ = some (.int .i64 zb) := by have := hR.cellAt (q * 4 + 1) (by omega); rw [spcells_get _ q _ hgz 1 (by omega)] at this; simpa [Sp.cells] using this
      have e2 : wr.cell? ⟨g, q * 4 + 2, none⟩ = some (.int .i64 zc) := by have := hR.cellAt (q * 4 + 2) (by omega); rw [spcells_get _ q _ hgz 2 (by omega)] at this; simpa [Sp.cells] using this
      have e3 : wr.cell? ⟨g, q * 4 + 3, none⟩ = some (.int .i64 zd) := by have := hR.cellAt (q * 4 + 3) (by omega); rw [spcells_get _ q _ hgz 3 (by omega)] at this; simpa [Sp.cells] using this
      have hgl2 : g < wr.heap.size := World.block_lt_of_cell? wr _ e0
      have hz2 := hK.size
      have c1r : wr.cell? ⟨bl, 1, none⟩ = some (.slice (some ⟨g, 0, none⟩) rs.length c) := hK.cell c1 (fun e => hgl e.symm)
      have hll : bl < wr.heap.size := by omega
      have hbg : ¬ bl = g := fun e => hgl e.symm
      have hwg : ¬ wr.heap.size = g := by omega
      have hwb : ¬ wr.heap.size = bl := by omega
      have hkA : Keeps (fun b => b = g) w (wr.alloc (.cells #[.int .i64 za, .int .i64 zb, .int .i64 zc, .int .i64 zd] 79)).drew := (hK.alloc _).drew
      have hSp := heap_alloc_new wr (.cells #[.int .i64 za, .int .i64 zb, .int .i64 zc, .int .i64 zd] 79)
      obtain ⟨v0, v1, hv01⟩ : ∃ v0 v1, f za zb = (v0, v1) := ⟨_, _, rfl⟩
      obtain ⟨u0, u1, hu01⟩ : ∃ u0 u1, f zc zd = (u0, u1) := ⟨_, _, rfl⟩
      have CM1 := hid (HRUN.out (fun b => b = g) _ hkA (fun b hb e => by omega) za zb hb0 hb1)
      have CM2 := hid (fun W (hk : Keeps (fun b => b = g) w W) => HRUN.out (fun b => b = g) W hk (fun b hb e => by omega) zc zd hd0 hd1)
      rw [hv01] at CM1
      rw [hu01] at CM2
      have hmz : mvSp f ⟨za, zb, zc, zd⟩ = ⟨v0, v1, u0, u1⟩ := by
        unfold mvSp
        simp only [hv01, hu01]
      have HMZ := hid hmz
      have HKA := hid hkA
      have HSp := hid hSp
      have hrlen : ((rs.take q).map (mvSp f) ++ rs.drop q).length = rs.length := by simp; omega
      have HGZ := hid hgz
      have HZ := hid hz
      have HR2 := hid hR
      have HK := hid hK
      clear hgz hz hR hK hkA hSp hmz hv01 hu01
      go_wp2
      go_region_held3 (fun w' => w'.cell? ⟨bl, 1, none⟩ = some (.slice (some ⟨g, 0, none⟩) rs.length c) ∧ w'.cell? ⟨wr.heap.size, 0, none⟩ = some (.int .i64 za) ∧ w'.cell? ⟨wr.heap.size, 1, none⟩ = some (.int .i64 zb) ∧ w'.cell? ⟨wr.heap.size, 2, none⟩ = some (.int .i64 zc) ∧ w'.cell? ⟨wr.heap.size, 3, none⟩ = some (.int .i64 zd)) (first | exact KP3.out | exact KP2.out | exact KP1.out | go_keep) (first
        | (go_at_fn gf
           refine (CM2.out _ HKB.out).mono ?_
           rintro e w2 ⟨rfl, hb2⟩
           have hB2 : Below w1.heap.size w1 w2 := hb2
           obtain ⟨k0, k1, k2, k3, k4⟩ := KP1.out
           have hs2 := (hB2.block _ (heap_lt HS1.out)).trans HS1.out
           have t1 := (hB2.cell (p := ⟨bl, 1, none⟩) (World.block_lt_of_cell? w1 _ k0)).trans k0
           have KP2 := hid (And.intro t1 (And.intro ((hB2.cell (p := ⟨wr.heap.size, 0, none⟩) (heap_lt HS1.out)).trans k1) (And.intro ((hB2.cell (p := ⟨wr.heap.size, 1, none⟩) (heap_lt HS1.out)).trans k2) (And.intro ((hB2.cell (p := ⟨wr.heap.size, 2, none⟩) (heap_lt HS1.out)).trans k3) ((hB2.cell (p := ⟨wr.heap.size, 3, none⟩) (heap_lt HS1.out)).trans k4)))))
           have hkC : Keeps (fun b => b = g) wr w2 := (HKW.out.trans (Keeps.of_below hB2))
           have hrow2 := (Keeps.of_below (F := fun _ => False) hB2).row HROW1.out (fun _ _ e => e)
           have n0 : w2.cell? ⟨g, q * 4, none⟩ = some (.int .i64 za) := by have := hrow2.cellAt (q * 4 + 0) (by omega); rw [spcells_get _ q _ HGZ.out 0 (by omega)] at this; simpa [Sp.cells] using this
           have n1 : w2.cell? ⟨g, q * 4 + 1, none⟩ = some (.int .i64 zb) := by have := hrow2.cellAt (q * 4 + 1) (by omega); rw [spcells_get _ q _ HGZ.out 1 (by omega)] at this; simpa [Sp.cells] using this
           have n2 : w2.cell? ⟨g, q * 4 + 2, none⟩ = some (.int .i64 zc) := by have := hrow2.cellAt (q * 4 + 2) (by omega); rw [spcells_get _ q _ HGZ.out 2 (by omega)] at this; simpa [Sp.cells] using this
           have n3 : w2.cell? ⟨g, q * 4 + 3, none⟩ = some (.int .i64 zd) := by have := hrow2.cellAt (q * 4 + 3) (by omega); rw [spcells_get _ q _ HGZ.out 3 (by omega)] at this; simpa [Sp.cells] using this
           have f0 := hrow2.frozenAt (q * 4)
           have f1 := hrow2.frozenAt (q * 4 + 1)
           have f2 := hrow2.frozenAt (q * 4 + 2)
           have f3 := hrow2.frozenAt (q * 4 + 3)
           have hkS : ∀ (a0 a1 a2 a3 : Value), Keeps (fun b => b = g) w2 ((((w2.setCell ⟨g, q * 4, none⟩ a0).setCell ⟨g, q * 4 + 1, none⟩ a1).setCell ⟨g, q * 4 + 2, none⟩ a2).setCell ⟨g, q * 4 + 3, none⟩ a3) := fun a0 a1 a2 a3 => ((((Keeps.refl (fun b => b = g) w2).setCell (p := ⟨g, q * 4, none⟩) (.inl rfl) _).setCell (p := ⟨g, q * 4 + 1, none⟩) (.inl rfl) _).setCell (p := ⟨g, q * 4 + 2, none⟩) (.inl rfl) _).setCell (p := ⟨g, q * 4 + 3, none⟩) (.inl rfl) _
           have KP3 := hid (And.intro ((hkS (.int .i64 v0) (.int .i64 v1) (.int .i64 u0) (.int .i64 u1)).cell KP2.out.1 hbg) (And.intro ((hkS (.int .i64 v0) (.int .i64 v1) (.int .i64 u0) (.int .i64 u1)).cell KP2.out.2.1 hwg) (And.intro ((hkS (.int .i64 v0) (.int .i64 v1) (.int .i64 u0) (.int .i64 u1)).cell KP2.out.2.2.1 hwg) (And.intro ((hkS (.int .i64 v0) (.int .i64 v1) (.int .i64 u0) (.int .i64 u1)).cell KP2.out.2.2.2.1 hwg) ((hkS (.int .i64 v0) (.int .i64 v1) (.int .i64 u0) (.int .i64 u1)).cell KP2.out.2.2.2.2 hwg)))))
           have HROW2 := hid hrow2
           have HKC := hid (And.intro hB2 (hkS (.int .i64 v0) (.int .i64 v1) (.int .i64 u0) (.int .i64 u1)))
           clear hb2 hB2 k0 k1 k2 k3 k4 hs2 t1 hkC hrow2 hkS)
        | (go_at_fn gf
           refine CM1.out.mono ?_
           clear CM1
           rintro e w1 ⟨rfl, hb1⟩
           have hB1 : Below (wr.alloc (.cells #[.int .i64 za, .int .i64 zb, .int .i64 zc, .int .i64 zd] 79)).heap.size (wr.alloc (.cells #[.int .i64 za, .int .i64 zb, .int .i64 zc, .int .i64 zd] 79)) w1 := ⟨hb1.os, hb1.tape, hb1.output, hb1.size, hb1.block⟩
           have hs1 := (hB1.block wr.heap.size (by simp)).trans HSp.out
           have hKW : Keeps (fun b => b = g) wr w1 := ((Keeps.refl (fun b => b = g) wr).alloc _).trans (Keeps.of_below hB1)
           have KP1 := hid (And.intro (hKW.cell c1r hbg) (And.intro (show w1.cell? ⟨wr.heap.size, 0, none⟩ = some (.int .i64 za) from cell_of_heap hs1 0) (And.intro (show w1.cell? ⟨wr.heap.size, 1, none⟩ = some (.int .i64 zb) from cell_of_heap hs1 1) (And.intro (show w1.cell? ⟨wr.heap.size, 2, none⟩ = some (.int .i64 zc) from cell_of_heap hs1 2) (show w1.cell? ⟨wr.heap.size, 3, none⟩ = some (.int .i64 zd) from cell_of_heap hs1 3)))))
           have HKB := hid (HK.out.trans (hKW.mono (fun k _ e => .inl e)))
           have HKW := hid hKW
           have HS1 := hid hs1
           have HROW1 := hid ((Keeps.of_below (F := fun _ => False) (((Below.refl _ wr).alloc (Nat.le_refl _) _).trans (hB1.mono (by simp)))).row HR2.out (fun _ _ e => e))
           clear hb1 hB1 hs1 hKW))
      all_goals
        go_wp2
        go_roundw
        case rel =>
          have d0 := spRow_set HROW2.out HGZ.out (r' := ⟨v0, zb, zc, zd⟩) 0 (by omega) (.int .i64 v0) rfl
          have d1 := spRow_set d0 (List.getElem?_set_self (by rw [hrlen]; exact hlt)) (r' := ⟨v0, v1, zc, zd⟩) 1 (by omega) (.int .i64 v1) rfl
          rw [List.set_set] at d1
          have d2 := spRow_set d1 (List.getElem?_set_self (by rw [hrlen]; exact hlt)) (r' := ⟨v0, v1, u0, zd⟩) 2 (by omega) (.int .i64 u0) rfl
          rw [List.set_set] at d2
          have d3 := spRow_set d2 (List.getElem?_set_self (by rw [hrlen]; exact hlt)) (r' := ⟨v0, v1, u0, u1⟩) 3 (by omega) (.int .i64 u1) rfl
          rw [List.set_set] at d3
          have hs := set_mid (mvSp f) rs q _ HZ.out
          rw [HMZ.out] at hs
          rw [hs] at d3
          refine ⟨q + 1, by omega, by go_num, d3, ?_⟩
          exact ((HKB.out.trans (Keeps.of_below HKC.out.1)).trans (HKC.out.2.mono (fun k _ e => .inl e)))
        case measure =>
          show rs.length - ((q : Int) + 1).toNat < rs.length - ((q : Int)).toNat
          omega
    · obtain rfl : q = rs.length := by omega
      have hlI : ¬ (rs.length : Int) < (rs.length : Int) := by omega
      rw [List.take_of_length_le (Nat.le_refl _), List.drop_of_length_le (Nat.le_refl _), List.append_nil] at hR
      have HR2 := hid hR
      have HK := hid hK
      clear hR hK
      go_wp2
      go_end0
      exact ⟨rfl, HK.out, HR2.out⟩

end Go.Proofs.YtabogkonklplcaaGreatDoor

/- The document's answers at Split. -/
namespace Go.Proofs.YtabogkonklplcaaGreatDoor
open Go.RowKit Go.Lib
set_option linter.unusedSimpArgs false
set_option linter.unusedVariables false

set_option maxHeartbeats 400000 in
theorem msplit_no {w : World} {F : Nat → Prop} {bx : Nat} {s s' : List Nd} {rs : List Sp} (hg : GG w) (hP : PLies w F bx ⟨s, rs⟩) {t : TypeId} {u : Value} {a y : Int} (A B : Int) (hE : ErrOf (.iface t u) a y)
    (hT : ∀ (F' : Nat → Prop) (bf : Nat), PFor w F' bf s → Calls Tryz.prog 63 #[ptr bf, .int .i64 A, .int .i64 B] w (TPost F' w bf s' (.tuple #[.int .i64 0, .nilFunc, .iface t u]))) :
    Calls Tryz.prog 30 #[ptr bx, .int .i64 A, .int .i64 B] w (PLPost F w bx ⟨s', rs⟩ (.tuple #[.int .i64 0, errV a y])) := by
  obtain ⟨bf, bl, sv, hD⟩ := hP
  have C := hid (hT _ _ hD.nodes)
  have c0 : w.cell? ⟨bx, 0, none⟩ = some (ptr bf) := cell_of_heap hD.doc 0
  have AF := hid (fun w1 w2 => pdoc_after (w1 := w1) (w2 := w2) (s' := s') hg hD)
  have AG := hid (fun w1 => gg_after (w1 := w1) (F := F) (bx := bx) (bl := bl) (sv := sv) hg)
  have E := hid (fun w1 (h1 : Glob w1) => mfollow_no h1 bx .nilFunc hE)
  clear hD hT hg hE
  go_enter Tryz.func30, Tryz.ntmps30
  go_wp2_with first
    | (go_at_call 63; refine C.out.mono ?_; rintro e w1 ⟨rfl, hk, hf⟩; have E1 := hid (E.out w1 (AG.out w1 hk)); have A1 := hid (fun w2 => AF.out w1 w2 hk hf); clear hk hf)
    | (go_at_call 64; refine E1.out.mono ?_; rintro e w2 ⟨rfl, hb⟩)
  go_ret2
  exact ⟨rfl, (A1.out _ hb).1, _, _, _, (A1.out _ hb).2⟩

set_option maxHeartbeats 400000 in
theorem msplit_of {w : World} {F : Nat → Prop} {bx : Nat} {s s' : List Nd} {n : Int} (hg : GG w) (hP : PLies w F bx ⟨s, []⟩) (A B : Int)
    (hT : ∀ (F' : Nat → Prop) (bf : Nat), PFor w F' bf s → Calls Tryz.prog 63 #[ptr bf, .int .i64 A, .int .i64 B] w (TSplit F' w bf s' n)) :
    Calls Tryz.prog 30 #[ptr bx, .int .i64 A, .int .i64 B] w (PLPost F w bx ⟨s', []⟩ (.tuple #[.int .i64 n, errV 0 0])) := by
  obtain ⟨bf, bl, sv, hD⟩ := hP
  have C := hid (hT _ _ hD.nodes)
  have c0 : w.cell? ⟨bx, 0, none⟩ = some (ptr bf) := cell_of_heap hD.doc 0
  have AF := hid (fun w1 => pdoc_after (w1 := w1) (w2 := w1) (s' := s') hg hD)
  clear hD hT hg
  go_enter Tryz.func30, Tryz.ntmps30
  go_wp2_with first
    | (go_at_call 63; refine C.out.mono ?_; rintro e w1 ⟨mv, rfl, hk, hf⟩; have A1 := hid (AF.out w1 hk hf (Below.refl _ _)); have E1 := hid (mfollow_yes A1.out.2 mv); clear hk hf)
    | (go_at_call 64; refine E1.out.mono ?_; rintro e w2 ⟨rfl, hb⟩)
  go_ret2
  exact ⟨by simp [errV], A1.out.1.trans (Keeps.of_below hb), _, _, _, A1.out.2.below hb⟩

/-- A text that has come: half of another one. -/
theorem wf_half {s : List Nd} (wf : WF s) (h40 : s.length < 40) {n k : Nat} {x : Nd} (hx : s[n]? = some x) (ht : x.t = true) : WF ((s ++ [(⟨true, x.cs.drop k, [], -1⟩ : Nd)]).set n { x with cs := x.cs.take k }) := by
  have hch := wf.chars n x hx
  have hn := (List.getElem?_eq_some_iff.1 hx).1
  have w1 := wf_push wf h40 ⟨true, x.cs.drop k, [], -1⟩ rfl rfl (fun h => by cases h) ⟨by simp; omega, fun c hc => hch.2 c (List.mem_of_mem_drop hc)⟩
  exact wf_chars w1 (by rw [List.getElem?_append_left hn]; exact hx) ht ⟨by simp; omega, fun c hc => hch.2 c (List.mem_of_mem_take hc)⟩

theorem split_state {s : List Nd} {n j : Nat} {x y : Nd} {X Y a b : Nd} (hn : n < s.length) (hj : j < s.length) (hnj : n ≠ j) :
    (((s ++ [a]).set n X).set j Y).set s.length b = ((s ++ [b]).set j Y).set n X := by
  have e1 : (s ++ [a]).set n X = s.set n X ++ [a] := List.set_append_left _ _ hn
  have e2 : (s.set n X ++ [a]).set j Y = (s.set n X).set j Y ++ [a] := List.set_append_left _ _ (by simpa using hj)
  have e3 : ((s.set n X).set j Y ++ [a]).set s.length b = (s.set n X).set j Y ++ [b] := by
    rw [List.set_append_right _ _ (by simp)]; simp
  have e4 : (s ++ [b]).set j Y = s.set j Y ++ [b] := List.set_append_left _ _ hj
  have e5 : (s.set j Y ++ [b]).set n X = (s.set j Y).set n X ++ [b] := List.set_append_left _ _ (by simpa using hn)
  rw [e1, e2, e3, e4, e5, List.set_comm _ _ hnj]

theorem ans_split (s : List Nd) (wf : WF s) (A B : Int) : ∃ n : Int, Ans PDoc GG ⟨s, []⟩ 30 79 [.int .i64 A, .int .i64 B] (fun v => .tuple #[.int .i64 n, v]) (fun v => .tuple #[.int .i64 n, v]) := by
  have hcap := wf.cap
  cases hA : isB s A with
  | false =>
    refine ⟨0, A, 1, ⟨s, []⟩, ⟨wf, rfl⟩, ?_, ?_⟩
    · intro w F bx hg hP
      refine msplit_no hg hP A B (errOf_P A 1 (by decide)) (fun F' bf h => ?_)
      have h' := h
      obtain ⟨bn, cap, pn, h⟩ := h
      exact tsplit_unfit h' A B _ (findText_no h A hA)
    · intro w F bd hR
      have hR' := hR
      obtain ⟨bn, cap, rn, rv, hD⟩ := hR
      exact (rsplit_unfit A B A 1 (by decide) (textFits_node (hD.below (one0_below w)) A B hA)).mono fun e w' ⟨h1, h2⟩ => hR'.unchanged h2 h1
  | true =>
    obtain ⟨h1, h2⟩ := isB_true hA
    obtain ⟨n, rfl⟩ : ∃ n : Nat, A = (n : Int) := ⟨A.toNat, by omega⟩
    have hn : n < s.length := by omega
    obtain ⟨x, hx⟩ : ∃ x, s[n]? = some x := ⟨_, List.getElem?_eq_getElem hn⟩
    have hch := wf.chars n x hx
    have hl' : x.cs.length < lots := by unfold lots; omega
    cases ht : x.t with
    | false =>
      refine ⟨0, n, 2, ⟨s, []⟩, ⟨wf, rfl⟩, ?_, ?_⟩
      · intro w F bx hg hP
        refine msplit_no hg hP n B (errOf_P n 2 (by decide)) (fun F' bf h => ?_)
        have h' := h
        obtain ⟨bn, cap, pn, h⟩ := h
        exact tsplit_unfit h' n B _ (findText_kind h n x hx ht)
      · intro w F bd hR
        have hR' := hR
        obtain ⟨bn, cap, rn, rv, hD⟩ := hR
        exact (rsplit_unfit n B n 2 (by decide) (textFits_kind (hD.below (one0_below w)) n B x hx ht)).mono fun e w' ⟨h1, h2⟩ => hR'.unchanged h2 h1
    | true =>
      by_cases hB : B < 0 ∨ (x.cs.length : Int) < B
      · refine ⟨0, n, 3, ⟨s, []⟩, ⟨wf, rfl⟩, ?_, ?_⟩
        · intro w F bx hg hP
          exact msplit_no hg hP n B (errOf_O n B) (fun F' bf h => tsplit_out h n B x hx ht hch.2 hl' hB)
        · intro w F bd hR
          have hR' := hR
          obtain ⟨bn, cap, rn, rv, hD⟩ := hR
          exact (rsplit_unfit n B n 3 (by decide) (textFits_index (hD.below (one0_below w)) n B x hx ht hB)).mono fun e w' ⟨h1, h2⟩ => hR'.unchanged h2 h1
      · obtain ⟨k, rfl⟩ : ∃ k : Nat, B = (k : Int) := ⟨B.toNat, by omega⟩
        have hk : k ≤ x.cs.length := by omega
        by_cases h40 : s.length < 40
        · have wf4 := wf_half wf h40 (k := k) hx ht
          rcases wf.par n x hx with hp | ⟨j, y, hp, hy, hmem⟩
          · refine ⟨s.length, 0, 0, ⟨_, []⟩, ⟨wf4, rfl⟩, ?_, ?_⟩
            · intro w F bx hg hP
              exact msplit_of hg hP n k (fun F' bf h => (tsplit_top h n k x hx ht hch.2 hch.1 hk h40 hp).mono fun e w2 h2 => h2.split)
            · rintro w F bd ⟨bn, cap, rn, rv, hD⟩
              have h := rsplit_top (s := s) hD n k x hx ht hch.1 hk h40 (by omega)
              have e : (⟨true, x.cs.drop k, [], x.p⟩ : Nd) = ⟨true, x.cs.drop k, [], -1⟩ := by rw [hp]
              rw [e] at h
              exact h.mono fun e w' h => h
          · obtain ⟨j', m, y', hj', hy', hm, hno, hyl⟩ := wf.place hx (by omega)
            obtain rfl : j = j' := by omega
            obtain rfl : y = y' := Option.some.inj (hy.symm.trans hy')
            have hjl := (List.getElem?_eq_some_iff.1 hy).1
            have hml : m < y.ks.length := (List.getElem?_eq_some_iff.1 hm).1
            have hyt : y.t = false := by
              cases h : y.t with
              | false => rfl
              | true => have := (wf.elem j y hy).1 h; rw [this] at hmem; cases hmem
            have hnj : n ≠ j := by
              intro e; subst e
              obtain rfl : x = y := Option.some.inj (hx.symm.trans hy)
              rw [ht] at hyt; cases hyt
            have hx4 : ((s ++ [(⟨true, x.cs.drop k, [], -1⟩ : Nd)]).set n { x with cs := x.cs.take k })[j]? = some y := by rw [List.getElem?_set_ne hnj, List.getElem?_append_left hjl]; exact hy
            have hz4 : ((s ++ [(⟨true, x.cs.drop k, [], -1⟩ : Nd)]).set n { x with cs := x.cs.take k })[s.length]? = some (⟨true, x.cs.drop k, [], -1⟩ : Nd) := by rw [List.getElem?_set_ne (by omega), List.getElem?_append_right (Nat.le_refl _)]; simp
            have hI : InsOk ((s ++ [(⟨true, x.cs.drop k, [], -1⟩ : Nd)]).set n { x with cs := x.cs.take k }) j s.length y ⟨true, x.cs.drop k, [], -1⟩ := ⟨hx4, hz4, hyt, by omega, by show (-1 : Int) < 0; decide⟩
            obtain ⟨h4, B4, u4⟩ := wf4.up
            have hnm : j ∉ allF ((s ++ [(⟨true, x.cs.drop k, [], -1⟩ : Nd)]).set n { x with cs := x.cs.take k }) (h4 s.length + 1) s.length := by
              rw [allF, kidsOf_eq hz4]
              simp
              omega
            have hw := holds_no wf4 u4 (d := j) (by rw [List.length_set, List.length_append]; omega) (Nat.lt_succ_self _) hnm
            obtain ⟨_, hwf⟩ := wf_insert wf4 hI hw (k := m + 1) (by omega)
            refine ⟨s.length, 0, 0, ⟨_, []⟩, ⟨hwf, rfl⟩, ?_, ?_⟩
            · intro w F bx hg hP
              exact msplit_of hg hP n k (fun F' bf h => (tsplit_in h n k x hx ht hch.2 hch.1 hk h40 j m y hp hy hm hno (by unfold lots; omega) hnj).mono fun e w2 h2 => h2.split)
            · rintro w F bd ⟨bn, cap, rn, rv, hD⟩
              have h := rsplit_in (s := s) hD n k x hx ht hch.1 hk h40 j m y hp hy hm hno (by unfold lots; omega) hnj
              rw [← split_state (x := x) (y := y) (a := ⟨true, x.cs.drop k, [], -1⟩) hn hjl hnj] at h
              exact h.mono fun e w' h => h
        · refine ⟨0, n, 7, ⟨s, []⟩, ⟨wf, rfl⟩, ?_, ?_⟩
          · intro w F bx hg hP
            exact msplit_no hg hP n k (errOf_P n 7 (by decide)) (fun F' bf h => tsplit_full h n k x hx ht hch.2 hch.1 hk (by omega))
          · intro w F bd hR
            have hR' := hR
            obtain ⟨bn, cap, rn, rv, hD⟩ := hR
            exact (rsplit_full (s := s) hD n k x hx ht hk (by omega)).mono fun e w' ⟨h1, h2⟩ => hR'.unchanged h2 h1

end Go.Proofs.YtabogkonklplcaaGreatDoor
