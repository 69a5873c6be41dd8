import Derived.Test.YtabogkonklplcaaGreatDoorV20
import Derived.Test.YtabogkonklplcaaGreatDoorV21
import Derived.Test.YtabogkonklplcaaGreatDoorV22
import Derived.Test.YtabogkonklplcaaGreatDoorV18
import Derived.Shelf.Abstract
import Derived.Deep.RegionHeld3

namespace Go.Proofs.YtabogkonklplcaaGreatDoor
open Go.RowKit Go.Lib
set_option linter.unusedSimpArgs false
set_option linter.unusedVariables false
theorem spRow_set {w : World} {g c n : Nat} {rs : List Sp} (hrow : w.ownsRow 0 79 4 (.slice (some ⟨g, 0, none⟩) n c) n (rs.flatMap Sp.cells)) {q : Nat} {r r' : Sp} (hr : rs[q]? = some r) (j : Nat) (hj : j < 4) (u : Value) (he : r'.cells = r.cells.set j u) :
    (w.setCell ⟨g, q * 4 + j, none⟩ u).ownsRow 0 79 4 (.slice (some ⟨g, 0, none⟩) n c) n ((rs.set q r').flatMap Sp.cells) := by
  have := (hrow.stored (q * 4 + j) u).1
  rw [spcells_set rs q r r' hr j hj u he] at this
  exact this
def FolInv (w : World) (g : Nat) (rv : Value) (rs : List Sp) (f : Mvf) (t : Value) (wr : World) : Prop :=
  ∃ q : Nat, q ≤ rs.length ∧ t = .int .i64 (q : Int) ∧ wr.ownsRow 0 79 4 rv rs.length (((rs.take q).map (mvSp f) ++ rs.drop q).flatMap Sp.cells) ∧ Keeps (fun b => b = g) w wr
set_option maxRecDepth 20000 in
set_option maxHeartbeats 2000000 in
theorem lfollow_some {w : World} {bl bf g c m : Nat} {mv : Value} {f : Mvf} {rs : List Sp} (h : w.heap[bl]? = some (.cells #[ptr bf, .slice (some ⟨g, 0, none⟩) rs.length c] 176 (0, 0))) (hr : w.ownsRow 0 79 4 (.slice (some ⟨g, 0, none⟩) rs.length c) rs.length (rs.flatMap Sp.cells)) (hgl : g ≠ bl) (hgm : g < m) (hm : MoveOk m w mv f) (hsm : Small rs) (h6 : rs.length ≤ 6) :
    Calls Tryz.prog 110 #[ptr bl, mv] w fun e w' => e = .returned (.tuple #[]) ∧ Keeps (fun b => b = g) w w' ∧ w'.ownsRow 0 79 4 (.slice (some ⟨g, 0, none⟩) rs.length c) rs.length ((rs.map (mvSp f)).flatMap Sp.cells) := by
  have c1 : w.cell? ⟨bl, 1, none⟩ = some (.slice (some ⟨g, 0, none⟩) rs.length c) := cell_of_heap h 1
  have hl := heap_lt h
  obtain ⟨gf, lb, rfl, eg, hrun⟩ := hm.runs
  have HRUN := hid hrun
  have HR := hid hr
  have HSM := hid hsm
  clear h hr hm hrun hsm
  go_enter Tryz.func110, Tryz.ntmps110
  go_wp2
  go_loopw [11] (FolInv w g (.slice (some ⟨g, 0, none⟩) rs.length c) rs f) (fun t _ => leftN rs.length t)
  case atStart => exact ⟨0, Nat.zero_le _, rfl, by simpa using HR.out, Keeps.refl _ _⟩
  case round =>
    obtain ⟨q, hq, rfl, hR, hK⟩ := hrel
    by_cases hlt : q < rs.length
    · have hlI : (q : Int) < (rs.length : Int) := by omega
      obtain ⟨z, hz⟩ : ∃ z, rs[q]? = some z := ⟨_, List.getElem?_eq_getElem hlt⟩
      obtain ⟨za, zb, zc, zd⟩ := z
      obtain ⟨hb0, hb1, hd0, hd1⟩ := HSM.out _ (List.mem_of_getElem? hz)
      simp only at hb0 hb1 hd0 hd1
      have hgz := get_mid (mvSp f) rs q _ hz
      have e0 : wr.cell? ⟨g, q * 4, none⟩ = some (.int .i64 za) := by have := hR.cellAt (q * 4 + 0) (by omega); rw [spcells_get _ q _ hgz 0 (by omega)] at this; simpa [Sp.cells] using this
      have e1 : wr.cell? ⟨g, q * 4 + 1, none⟩ = some (.int .i64 zb) := by have := hR.cellAt (q * 4 + 1) (by omega); rw [spcells_get _ q _ hgz 1 (by omega)] at this; simpa [Sp.cells] using this
      have e2 : wr.cell? ⟨g, q * 4 + 2, none⟩ = some (.int .i64 zc) := by have := hR.cellAt (q * 4 + 2) (by omega); rw [spcells_get _ q _ hgz 2 (by omega)] at this; simpa [Sp.cells] using this
      have e3 : wr.cell? ⟨g, q * 4 + 3, none⟩ = some (.int .i64 zd) := by have := hR.cellAt (q * 4 + 3) (by omega); rw [spcells_get _ q _ hgz 3 (by omega)] at this; simpa [Sp.cells] using this
      have hgl2 : g < wr.heap.size := World.block_lt_of_cell? wr _ e0
      have hz2 := hK.size
      have c1r : wr.cell? ⟨bl, 1, none⟩ = some (.slice (some ⟨g, 0, none⟩) rs.length c) := hK.cell c1 (fun e => hgl e.symm)
      have hll : bl < wr.heap.size := by omega
      have hbg : ¬ bl = g := fun e => hgl e.symm
      have hwg : ¬ wr.heap.size = g := by omega
      have hwb : ¬ wr.heap.size = bl := by omega
      have hkA : Keeps (fun b => b = g) w (wr.alloc (.cells #[.int .i64 za, .int .i64 zb, .int .i64 zc, .int .i64 zd] 79)).drew := (hK.alloc _).drew
      have hSp := heap_alloc_new wr (.cells #[.int .i64 za, .int .i64 zb, .int .i64 zc, .int .i64 zd] 79)
      obtain ⟨v0, v1, hv01⟩ : ∃ v0 v1, f za zb = (v0, v1) := ⟨_, _, rfl⟩
      obtain ⟨u0, u1, hu01⟩ : ∃ u0 u1, f zc zd = (u0, u1) := ⟨_, _, rfl⟩
      have CM1 := hid (HRUN.out (fun b => b = g) _ hkA (fun b hb e => by omega) za zb hb0 hb1)
      have CM2 := hid (fun W (hk : Keeps (fun b => b = g) w W) => HRUN.out (fun b => b = g) W hk (fun b hb e => by omega) zc zd hd0 hd1)
      rw [hv01] at CM1
      rw [hu01] at CM2
      have hmz : mvSp f ⟨za, zb, zc, zd⟩ = ⟨v0, v1, u0, u1⟩ := by
        unfold mvSp
        simp only [hv01, hu01]
      have HMZ := hid hmz
      have HKA := hid hkA
      have HSp := hid hSp
      have hrlen : ((rs.take q).map (mvSp f) ++ rs.drop q).length = rs.length := by simp; omega
      have HGZ := hid hgz
      have HZ := hid hz
      have HR2 := hid hR
      have HK := hid hK
      clear hgz hz hR hK hkA hSp hmz hv01 hu01
      go_wp2
      go_region_held3 (fun w' => w'.cell? ⟨bl, 1, none⟩ = some (.slice (some ⟨g, 0, none⟩) rs.length c) ∧ w'.cell? ⟨wr.heap.size, 0, none⟩ = some (.int .i64 za) ∧ w'.cell? ⟨wr.heap.size, 1, none⟩ = some (.int .i64 zb) ∧ w'.cell? ⟨wr.heap.size, 2, none⟩ = some (.int .i64 zc) ∧ w'.cell? ⟨wr.heap.size, 3, none⟩ = some (.int .i64 zd)) (first | exact KP3.out | exact KP2.out | exact KP1.out | go_keep) (first
        | (go_at_fn gf
           refine (CM2.out _ HKB.out).mono ?_
           rintro e w2 ⟨rfl, hb2⟩
           have hB2 : Below w1.heap.size w1 w2 := hb2
           obtain ⟨k0, k1, k2, k3, k4⟩ := KP1.out
           have hs2 := (hB2.block _ (heap_lt HS1.out)).trans HS1.out
           have t1 := (hB2.cell (p := ⟨bl, 1, none⟩) (World.block_lt_of_cell? w1 _ k0)).trans k0
           have KP2 := hid (And.intro t1 (And.intro ((hB2.cell (p := ⟨wr.heap.size, 0, none⟩) (heap_lt HS1.out)).trans k1) (And.intro ((hB2.cell (p := ⟨wr.heap.size, 1, none⟩) (heap_lt HS1.out)).trans k2) (And.intro ((hB2.cell (p := ⟨wr.heap.size, 2, none⟩) (heap_lt HS1.out)).trans k3) ((hB2.cell (p := ⟨wr.heap.size, 3, none⟩) (heap_lt HS1.out)).trans k4)))))
           have hkC : Keeps (fun b => b = g) wr w2 := (HKW.out.trans (Keeps.of_below hB2))
           have hrow2 := (Keeps.of_below (F := fun _ => False) hB2).row HROW1.out (fun _ _ e => e)
           have n0 : w2.cell? ⟨g, q * 4, none⟩ = some (.int .i64 za) := by have := hrow2.cellAt (q * 4 + 0) (by omega); rw [spcells_get _ q _ HGZ.out 0 (by omega)] at this; simpa [Sp.cells] using this
           have n1 : w2.cell? ⟨g, q * 4 + 1, none⟩ = some (.int .i64 zb) := by have := hrow2.cellAt (q * 4 + 1) (by omega); rw [spcells_get _ q _ HGZ.out 1 (by omega)] at this; simpa [Sp.cells] using this
           have n2 : w2.cell? ⟨g, q * 4 + 2, none⟩ = some (.int .i64 zc) := by have := hrow2.cellAt (q * 4 + 2) (by omega); rw [spcells_get _ q _ HGZ.out 2 (by omega)] at this; simpa [Sp.cells] using this
           have n3 : w2.cell? ⟨g, q * 4 + 3, none⟩ = some (.int .i64 zd) := by have := hrow2.cellAt (q * 4 + 3) (by omega); rw [spcells_get _ q _ HGZ.out 3 (by omega)] at this; simpa [Sp.cells] using this
           have f0 := hrow2.frozenAt (q * 4)
           have f1 := hrow2.frozenAt (q * 4 + 1)
           have f2 := hrow2.frozenAt (q * 4 + 2)
           have f3 := hrow2.frozenAt (q * 4 + 3)
           have hkS : ∀ (a0 a1 a2 a3 : Value), Keeps (fun b => b = g) w2 ((((w2.setCell ⟨g, q * 4, none⟩ a0).setCell ⟨g, q * 4 + 1, none⟩ a1).setCell ⟨g, q * 4 + 2, none⟩ a2).setCell ⟨g, q * 4 + 3, none⟩ a3) := fun a0 a1 a2 a3 => ((((Keeps.refl (fun b => b = g) w2).setCell (p := ⟨g, q * 4, none⟩) (.inl rfl) _).setCell (p := ⟨g, q * 4 + 1, none⟩) (.inl rfl) _).setCell (p := ⟨g, q * 4 + 2, none⟩) (.inl rfl) _).setCell (p := ⟨g, q * 4 + 3, none⟩) (.inl rfl) _
           have KP3 := hid (And.intro ((hkS (.int .i64 v0) (.int .i64 v1) (.int .i64 u0) (.int .i64 u1)).cell KP2.out.1 hbg) (And.intro ((hkS (.int .i64 v0) (.int .i64 v1) (.int .i64 u0) (.int .i64 u1)).cell KP2.out.2.1 hwg) (And.intro ((hkS (.int .i64 v0) (.int .i64 v1) (.int .i64 u0) (.int .i64 u1)).cell KP2.out.2.2.1 hwg) (And.intro ((hkS (.int .i64 v0) (.int .i64 v1) (.int .i64 u0) (.int .i64 u1)).cell KP2.out.2.2.2.1 hwg) ((hkS (.int .i64 v0) (.int .i64 v1) (.int .i64 u0) (.int .i64 u1)).cell KP2.out.2.2.2.2 hwg)))))
           have HROW2 := hid hrow2
           have HKC := hid (And.intro hB2 (hkS (.int .i64 v0) (.int .i64 v1) (.int .i64 u0) (.int .i64 u1)))
           clear hb2 hB2 k0 k1 k2 k3 k4 hs2 t1 hkC hrow2 hkS)
        | (go_at_fn gf
           refine CM1.out.mono ?_
           clear CM1
           rintro e w1 ⟨rfl, hb1⟩
           have hB1 : Below (wr.alloc (.cells #[.int .i64 za, .int .i64 zb, .int .i64 zc, .int .i64 zd] 79)).heap.size (wr.alloc (.cells #[.int .i64 za, .int .i64 zb, .int .i64 zc, .int .i64 zd] 79)) w1 := ⟨hb1.os, hb1.tape, hb1.output, hb1.size, hb1.block⟩
           have hs1 := (hB1.block wr.heap.size (by simp)).trans HSp.out
           have hKW : Keeps (fun b => b = g) wr w1 := ((Keeps.refl (fun b => b = g) wr).alloc _).trans (Keeps.of_below hB1)
           have KP1 := hid (And.intro (hKW.cell c1r hbg) (And.intro (show w1.cell? ⟨wr.heap.size, 0, none⟩ = some (.int .i64 za) from cell_of_heap hs1 0) (And.intro (show w1.cell? ⟨wr.heap.size, 1, none⟩ = some (.int .i64 zb) from cell_of_heap hs1 1) (And.intro (show w1.cell? ⟨wr.heap.size, 2, none⟩ = some (.int .i64 zc) from cell_of_heap hs1 2) (show w1.cell? ⟨wr.heap.size, 3, none⟩ = some (.int .i64 zd) from cell_of_heap hs1 3)))))
           have HKB := hid (HK.out.trans (hKW.mono (fun k _ e => .inl e)))
           have HKW := hid hKW
           have HS1 := hid hs1
           have HROW1 := hid ((Keeps.of_below (F := fun _ => False) (((Below.refl _ wr).alloc (Nat.le_refl _) _).trans (hB1.mono (by simp)))).row HR2.out (fun _ _ e => e))
           clear hb1 hB1 hs1 hKW))
      all_goals
        go_wp2
        go_roundw
        case rel =>
          have d0 := spRow_set HROW2.out HGZ.out (r' := ⟨v0, zb, zc, zd⟩) 0 (by omega) (.int .i64 v0) rfl
          have d1 := spRow_set d0 (List.getElem?_set_self (by rw [hrlen]; exact hlt)) (r' := ⟨v0, v1, zc, zd⟩) 1 (by omega) (.int .i64 v1) rfl
          rw [List.set_set] at d1
          have d2 := spRow_set d1 (List.getElem?_set_self (by rw [hrlen]; exact hlt)) (r' := ⟨v0, v1, u0, zd⟩) 2 (by omega) (.int .i64 u0) rfl
          rw [List.set_set] at d2
          have d3 := spRow_set d2 (List.getElem?_set_self (by rw [hrlen]; exact hlt)) (r' := ⟨v0, v1, u0, u1⟩) 3 (by omega) (.int .i64 u1) rfl
          rw [List.set_set] at d3
          have hs := set_mid (mvSp f) rs q _ HZ.out
          rw [HMZ.out] at hs
          rw [hs] at d3
          refine ⟨q + 1, by omega, by go_num, d3, ?_⟩
          exact ((HKB.out.trans (Keeps.of_below HKC.out.1)).trans (HKC.out.2.mono (fun k _ e => .inl e)))
        case measure =>
          show rs.length - ((q : Int) + 1).toNat < rs.length - ((q : Int)).toNat
          omega
    · obtain rfl : q = rs.length := by omega
      have hlI : ¬ (rs.length : Int) < (rs.length : Int) := by omega
      rw [List.take_of_length_le (Nat.le_refl _), List.drop_of_length_le (Nat.le_refl _), List.append_nil] at hR
      have HR2 := hid hR
      have HK := hid hK
      clear hR hK
      go_wp2
      go_end0
      exact ⟨rfl, HK.out, HR2.out⟩
end Go.Proofs.YtabogkonklplcaaGreatDoor
