import Derived.Test.YtabogkonklplcaaGreatDoorK46
import Derived.Test.YtabogkonklplcaaGreatDoorK44

namespace Go.Proofs.YtabogkonklplcaaGreatDoor
open Go.RowKit
set_option linter.unusedSimpArgs false
set_option linter.unusedVariables false
set_option maxRecDepth 20000 in
set_option maxHeartbeats 8000000 in
theorem ordered_A {w : World} (hg : GG w) (a : Option Addr) (g off c : Nat) (l : List StepR) (hS : ScrAt w a g off l) (p q r : StepR) (hp : StepOk p) (hq : StepOk q) (hr : StepOk r) (hl : l.length ≤ 40) :
    Calls Tryz.prog 9 #[.slice a l.length c, p.val, q.val, r.val] w fun e w' => e = .returned (.bool true) ∧ Below w.heap.size w w' := by
  obtain ⟨wP, hwP⟩ : ∃ W, w.alloc (.cells #[.int .i64 p.K, .int .i64 p.A, .int .i64 p.B, .int .i64 p.C] 56) = W := ⟨_, rfl⟩
  obtain ⟨wQ, hwQ⟩ : ∃ W, wP.alloc (.cells #[.int .i64 q.K, .int .i64 q.A, .int .i64 q.B, .int .i64 q.C] 56) = W := ⟨_, rfl⟩
  obtain ⟨W0, hwR⟩ : ∃ W, wQ.alloc (.cells #[.int .i64 r.K, .int .i64 r.A, .int .i64 r.B, .int .i64 r.C] 56) = W := ⟨_, rfl⟩
  have hW0 : ((w.alloc (.cells #[.int .i64 p.K, .int .i64 p.A, .int .i64 p.B, .int .i64 p.C] 56)).alloc (.cells #[.int .i64 q.K, .int .i64 q.A, .int .i64 q.B, .int .i64 q.C] 56)).alloc (.cells #[.int .i64 r.K, .int .i64 r.A, .int .i64 r.B, .int .i64 r.C] 56) = W0 := by rw [hwP, hwQ, hwR]
  have z1 : wP.heap.size = w.heap.size + 1 := by rw [← hwP]; simp
  have z2 : wQ.heap.size = w.heap.size + 1 + 1 := by rw [← hwQ, ← z1]; simp
  have b1 : Below w.heap.size w wP := by rw [← hwP]; exact (Below.refl _ w).alloc (Nat.le_refl _) _
  have b2 : Below wP.heap.size wP wQ := by rw [← hwQ]; exact (Below.refl _ wP).alloc (Nat.le_refl _) _
  have b3 : Below wQ.heap.size wQ W0 := by rw [← hwR]; exact (Below.refl _ wQ).alloc (Nat.le_refl _) _
  have b23 := b2.trans (b3.mono b2.size)
  have hB0 : Below w.heap.size w W0 := b1.trans (b23.mono b1.size)
  have hg0 : GG W0 := hg.below hB0
  have hP : W0.heap[w.heap.size]? = some (.cells #[.int .i64 p.K, .int .i64 p.A, .int .i64 p.B, .int .i64 p.C] 56 (0, 0)) := (b23.block _ (by omega)).trans (by rw [← hwP]; exact heap_alloc_new w _)
  have hQ : W0.heap[w.heap.size + 1]? = some (.cells #[.int .i64 q.K, .int .i64 q.A, .int .i64 q.B, .int .i64 q.C] 56 (0, 0)) := (b3.block _ (by omega)).trans (by rw [← z1, ← hwQ]; exact heap_alloc_new wP _)
  have hR : W0.heap[w.heap.size + 1 + 1]? = some (.cells #[.int .i64 r.K, .int .i64 r.A, .int .i64 r.B, .int .i64 r.C] 56 (0, 0)) := by rw [← z2, ← hwR]; exact heap_alloc_new wQ _
  have hScr := hS.below hB0
  have C0 := hid (laid_at hg0)
  have HH := hid (And.intro hScr (And.intro hg0 (And.intro hB0 (And.intro hP (And.intro hQ (And.intro hR (And.intro hp (And.intro hq hr))))))))
  have HW0 := hid hW0
  clear hS hScr hg hg0 hB0 hP hQ hR hp hq hr hW0 b1 b2 b3 b23 hwP hwQ hwR z1 z2
  unfold StepR.val
  go_enter Tryz.func9, Tryz.ntmps9
  go_wp2_with (
    go_at_call 23
    rw [HW0.out]
    refine C0.out.mono ?_
    rintro e w1 ⟨F1, bw, bx, rfl, hd1⟩
    have HD1 := hid hd1
    clear hd1)
  clear C0 HW0
  go_loopw [11] (fun t11 wr => ∃ (i : Nat) (s : List Nd) (rs : List Sp), t11 = .int .i64 (i : Int) ∧ i ≤ 40 ∧ Mid W0 wr bw bx s rs) (fun t _ => leftN 40 t)
  case atStart => exact ⟨0, ndS, rsS, rfl, by omega, mid_laid HD1.out⟩
  case round =>
    clear HD1
    obtain ⟨i, s, rs, rfl, hi40, hM⟩ := hrel
    obtain ⟨hScr, hg0, hB0, hP, hQ, hR, hp, hq, hr⟩ := HH.out
    have hlow := hM.desk.choose_spec.low
    have HM := hid (And.intro hM hlow)
    by_cases hgo : i < l.length ∧ i < 40
    · obtain ⟨h1, h2⟩ := hgo
      have h1' : (i : Int) < (l.length : Int) := by omega
      have h2' : (i : Int) < 40 := by omega
      obtain ⟨o, ho⟩ : ∃ o, l[i]? = some o := ⟨_, List.getElem?_eq_getElem h1⟩
      obtain ⟨rfl, e0, e1, e2, e3, hok⟩ := (hScr.below (hlow.mono (Nat.le_refl _))).step ho
      have C := hid (hM.does hg0 o hok false)
      clear hM hlow hScr hg0 hB0 hP hQ hR hp hq hr hok ho
      go_wp2_with (
        go_at_call 24
        refine C.out.mono ?_
        rintro e w2 ⟨rfl, s2, fs, _, hm2⟩
        have HM2 := hid hm2
        clear hm2)
      go_roundw
      case rel => exact ⟨i + 1, s2, _, by simp, by omega, HM2.out⟩
      case measure =>
        show 40 - ((i : Int) + 1).toNat < 40 - ((i : Int)).toNat
        omega
    · have h1' : ¬ (i : Int) < (l.length : Int) := by omega
      obtain ⟨wf, hlen, sp, F, hD⟩ := hM
      obtain ⟨hh, B, u⟩ := wf.up
      have hO : DeskO W0 F wr bw bx (s.length : Int) 2 ⟨s, rs⟩ [(w.heap.size, .cells #[.int .i64 p.K, .int .i64 p.A, .int .i64 p.B, .int .i64 p.C] 56 (0, 0)), (w.heap.size + 1, .cells #[.int .i64 q.K, .int .i64 q.A, .int .i64 q.B, .int .i64 q.C] 56 (0, 0)), (w.heap.size + 1 + 1, .cells #[.int .i64 r.K, .int .i64 r.A, .int .i64 r.B, .int .i64 r.C] 56 (0, 0))] := by
        refine ⟨hD, ?_⟩
        have key : ∀ (b : Nat) (o : Obj), W0.heap[b]? = some o → wr.heap[b]? = some o ∧ ¬ F b := fun b o h => ⟨(hD.low.block _ (heap_lt h)).trans h, fun e => Nat.not_le_of_lt (heap_lt h) (hD.ge b e)⟩
        intro x hx
        simp only [List.mem_cons, List.not_mem_nil, or_false] at hx
        rcases hx with rfl | rfl | rfl
        · exact key _ _ hP
        · exact key _ _ hQ
        · exact key _ _ hR
      have CPL := hid (fun (F' : Nat → Prop) (W : World) (h : Desk W0 F' W bw bx (s.length : Int) 2 ⟨s, rs⟩) (o : StepR) (ho : StepOk o) => place_at hg0 wf h o.A o.B ho.hA ho.hB)
      have CMP := hid (fun (n k n2 k2 : Nat) (hn : n < s.length) (hk : k ≤ sizeAt s n) (hn2 : n2 < s.length) (hk2 : k2 ≤ sizeAt s n2) => pcompare_any (rs := rs) wf u n k n2 k2 hn hk hn2 hk2)
      have HU := hid (And.intro wf (And.intro u hg0))
      have HO := hid hO
      have HPQR := hid (And.intro hp (And.intro hq hr))
      have HB0 := hid hB0
      have P1 := cell_of_heap (hO.own _ (.head _)).1 1
      have P2 := cell_of_heap (hO.own _ (.head _)).1 2
      clear hScr hg0 hB0 hP hQ hR hp hq hr hO hD hlow HM wf u sp hlen hgo hi40
      go_wp2_with (first
        | (go_at_call 25
           refine (CPL.out _ _ HO.out.desk p HPQR.out.1).mono ?_
           rintro e w2 ⟨n1, k1, hn1, hk1, rfl, hkp, hdp⟩
           have HO1 := hid ((HO.out.with hkp hdp).alloc #[.int .i64 (n1 : Int), .int .i64 (k1 : Int)] 37)
           have Q1 := cell_of_heap (HO1.out.own _ (.tail _ (.tail _ (.head _)))).1 1
           have Q2 := cell_of_heap (HO1.out.own _ (.tail _ (.tail _ (.head _)))).1 2
           have HN1 := hid (And.intro hn1 hk1)
           clear hkp hdp HO P1 P2 hn1 hk1)
        | (go_at_call 25
           refine (CPL.out _ _ HO1.out.desk q HPQR.out.2.1).mono ?_
           rintro e w3 ⟨n2, k2, hn2, hk2, rfl, hkp, hdp⟩
           have HO2 := hid ((HO1.out.with hkp hdp).alloc #[.int .i64 (n2 : Int), .int .i64 (k2 : Int)] 37)
           have R1 := cell_of_heap (HO2.out.own _ (.tail _ (.tail _ (.tail _ (.tail _ (.head _)))))).1 1
           have R2 := cell_of_heap (HO2.out.own _ (.tail _ (.tail _ (.tail _ (.tail _ (.head _)))))).1 2
           have HN2 := hid (And.intro hn2 hk2)
           clear hkp hdp HO1 Q1 Q2 hn2 hk2)
        | (go_at_call 25
           refine (CPL.out _ _ HO2.out.desk r HPQR.out.2.2).mono ?_
           rintro e w4 ⟨n3, k3, hn3, hk3, rfl, hkp, hdp⟩
           have HO3 := hid ((HO2.out.with hkp hdp).alloc #[.int .i64 (n3 : Int), .int .i64 (k3 : Int)] 37)
           have HN3 := hid (And.intro hn3 hk3)
           clear hkp hdp HO2 R1 R2 hn3 hk3))
      obtain ⟨W4, hW4⟩ : ∃ W, w4.alloc (.cells #[.int .i64 (n3 : Int), .int .i64 (k3 : Int)] 37) = W := ⟨_, rfl⟩
      rw [hW4] at HO3 ⊢
      clear hW4
      have PC : Hid (∀ (F' : Nat → Prop) (W : World), DeskO W0 F' W bw bx (s.length : Int) 2 ⟨s, rs⟩ [(w4.heap.size, .cells #[.int .i64 (n3 : Int), .int .i64 (k3 : Int)] 37 (0, 0)), (w3.heap.size, .cells #[.int .i64 (n2 : Int), .int .i64 (k2 : Int)] 37 (0, 0)), (w2.heap.size, .cells #[.int .i64 (n1 : Int), .int .i64 (k1 : Int)] 37 (0, 0)), (w.heap.size, .cells #[.int .i64 p.K, .int .i64 p.A, .int .i64 p.B, .int .i64 p.C] 56 (0, 0)), (w.heap.size + 1, .cells #[.int .i64 q.K, .int .i64 q.A, .int .i64 q.B, .int .i64 q.C] 56 (0, 0)), (w.heap.size + 1 + 1, .cells #[.int .i64 r.K, .int .i64 r.A, .int .i64 r.B, .int .i64 r.C] 56 (0, 0))] → W.cell? ⟨bw, 0, none⟩ = some (ptr bx) ∧ W.cell? ⟨w2.heap.size, 0, none⟩ = some (.int .i64 (n1 : Int)) ∧ W.cell? ⟨w2.heap.size, 1, none⟩ = some (.int .i64 (k1 : Int)) ∧ W.cell? ⟨w3.heap.size, 0, none⟩ = some (.int .i64 (n2 : Int)) ∧ W.cell? ⟨w3.heap.size, 1, none⟩ = some (.int .i64 (k2 : Int)) ∧ W.cell? ⟨w4.heap.size, 0, none⟩ = some (.int .i64 (n3 : Int)) ∧ W.cell? ⟨w4.heap.size, 1, none⟩ = some (.int .i64 (k3 : Int))) := fun F' W h =>
        have hr' := (h.own _ (.head _)).1
        have hq' := (h.own _ (.tail _ (.head _))).1
        have hp' := (h.own _ (.tail _ (.tail _ (.head _)))).1
        ⟨h.desk.cells.1, cell_of_heap hp' 0, cell_of_heap hp' 1, cell_of_heap hq' 0, cell_of_heap hq' 1, cell_of_heap hr' 0, cell_of_heap hr' 1⟩
      have HA := HO3
      have KP0 := hid (PC.out _ _ HA.out)
      obtain ⟨x, ex, c1, G1⟩ := CMP.out n1 k1 n2 k2 HN1.out.1 HN1.out.2 HN2.out.1 HN2.out.2
      obtain ⟨y, ey, c2, G2⟩ := CMP.out n2 k2 n1 k1 HN2.out.1 HN2.out.2 HN1.out.1 HN1.out.2
      obtain ⟨z, ez, c3, G3⟩ := CMP.out n2 k2 n3 k3 HN2.out.1 HN2.out.2 HN3.out.1 HN3.out.2
      obtain ⟨t, et, c4, G4⟩ := CMP.out n1 k1 n3 k3 HN1.out.1 HN1.out.2 HN3.out.1 HN3.out.2
      obtain ⟨v, ev, c5, G5⟩ := CMP.out n1 k1 n1 k1 HN1.out.1 HN1.out.2 HN1.out.1 HN1.out.2
      have T := hid (tri_of HU.out.1 HU.out.2.1 HN1.out.1 HN1.out.2 HN2.out.1 HN2.out.2 HN3.out.1 HN3.out.2 c1 c2 c3 c4 c5)
      have D1 := hid (fun (F' : Nat → Prop) (W : World) (h : Desk W0 F' W bw bx (s.length : Int) 2 ⟨s, rs⟩) => G1 W F' bx (h.gg HU.out.2.2) h.doc)
      have D2 := hid (fun (F' : Nat → Prop) (W : World) (h : Desk W0 F' W bw bx (s.length : Int) 2 ⟨s, rs⟩) => G2 W F' bx (h.gg HU.out.2.2) h.doc)
      have D3 := hid (fun (F' : Nat → Prop) (W : World) (h : Desk W0 F' W bw bx (s.length : Int) 2 ⟨s, rs⟩) => G3 W F' bx (h.gg HU.out.2.2) h.doc)
      have D4 := hid (fun (F' : Nat → Prop) (W : World) (h : Desk W0 F' W bw bx (s.length : Int) 2 ⟨s, rs⟩) => G4 W F' bx (h.gg HU.out.2.2) h.doc)
      have D5 := hid (fun (F' : Nat → Prop) (W : World) (h : Desk W0 F' W bw bx (s.length : Int) 2 ⟨s, rs⟩) => G5 W F' bx (h.gg HU.out.2.2) h.doc)
      clear c1 c2 c3 c4 c5 G1 G2 G3 G4 G5 CMP CPL HO3
      go_region_held3 (fun w' => w'.cell? ⟨bw, 0, none⟩ = some (ptr bx) ∧ w'.cell? ⟨w2.heap.size, 0, none⟩ = some (.int .i64 (n1 : Int)) ∧ w'.cell? ⟨w2.heap.size, 1, none⟩ = some (.int .i64 (k1 : Int)) ∧ w'.cell? ⟨w3.heap.size, 0, none⟩ = some (.int .i64 (n2 : Int)) ∧ w'.cell? ⟨w3.heap.size, 1, none⟩ = some (.int .i64 (k2 : Int)) ∧ w'.cell? ⟨w4.heap.size, 0, none⟩ = some (.int .i64 (n3 : Int)) ∧ w'.cell? ⟨w4.heap.size, 1, none⟩ = some (.int .i64 (k3 : Int))) (first | exact KP1.out | exact KP0.out | go_keep) ((
        go_at_call 26
        refine (D1.out _ _ HA.out.drew.desk).mono ?_
        rintro e v1 ⟨rfl, hk, hl⟩
        have HA1 := hid (HA.out.drew.next hk hl)
        have KP1 := hid (PC.out _ _ HA1.out)
        clear hk hl))
      go_wp2
      go_region_held3 (fun w' => w'.cell? ⟨bw, 0, none⟩ = some (ptr bx) ∧ w'.cell? ⟨w2.heap.size, 0, none⟩ = some (.int .i64 (n1 : Int)) ∧ w'.cell? ⟨w2.heap.size, 1, none⟩ = some (.int .i64 (k1 : Int)) ∧ w'.cell? ⟨w3.heap.size, 0, none⟩ = some (.int .i64 (n2 : Int)) ∧ w'.cell? ⟨w3.heap.size, 1, none⟩ = some (.int .i64 (k2 : Int)) ∧ w'.cell? ⟨w4.heap.size, 0, none⟩ = some (.int .i64 (n3 : Int)) ∧ w'.cell? ⟨w4.heap.size, 1, none⟩ = some (.int .i64 (k3 : Int))) (first | exact KP2.out | exact KP1.out | go_keep) ((
        go_at_call 26
        refine (D2.out _ _ HA1.out.drew.desk).mono ?_
        rintro e v2 ⟨rfl, hk, hl⟩
        have HA2 := hid (HA1.out.drew.next hk hl)
        have KP2 := hid (PC.out _ _ HA2.out)
        clear hk hl))
      go_wp2
      go_region_held3 (fun w' => w'.cell? ⟨bw, 0, none⟩ = some (ptr bx) ∧ w'.cell? ⟨w2.heap.size, 0, none⟩ = some (.int .i64 (n1 : Int)) ∧ w'.cell? ⟨w2.heap.size, 1, none⟩ = some (.int .i64 (k1 : Int)) ∧ w'.cell? ⟨w3.heap.size, 0, none⟩ = some (.int .i64 (n2 : Int)) ∧ w'.cell? ⟨w3.heap.size, 1, none⟩ = some (.int .i64 (k2 : Int)) ∧ w'.cell? ⟨w4.heap.size, 0, none⟩ = some (.int .i64 (n3 : Int)) ∧ w'.cell? ⟨w4.heap.size, 1, none⟩ = some (.int .i64 (k3 : Int))) (first | exact KP3.out | exact KP2.out | go_keep) ((
        go_at_call 26
        refine (D3.out _ _ HA2.out.drew.desk).mono ?_
        rintro e v3 ⟨rfl, hk, hl⟩
        have HA3 := hid (HA2.out.drew.next hk hl)
        have KP3 := hid (PC.out _ _ HA3.out)
        clear hk hl))
      go_wp2
      go_region_held3 (fun w' => w'.cell? ⟨bw, 0, none⟩ = some (ptr bx) ∧ w'.cell? ⟨w2.heap.size, 0, none⟩ = some (.int .i64 (n1 : Int)) ∧ w'.cell? ⟨w2.heap.size, 1, none⟩ = some (.int .i64 (k1 : Int)) ∧ w'.cell? ⟨w3.heap.size, 0, none⟩ = some (.int .i64 (n2 : Int)) ∧ w'.cell? ⟨w3.heap.size, 1, none⟩ = some (.int .i64 (k2 : Int)) ∧ w'.cell? ⟨w4.heap.size, 0, none⟩ = some (.int .i64 (n3 : Int)) ∧ w'.cell? ⟨w4.heap.size, 1, none⟩ = some (.int .i64 (k3 : Int))) (first | exact KP4.out | exact KP3.out | go_keep) ((
        go_at_call 26
        refine (D4.out _ _ HA3.out.drew.desk).mono ?_
        rintro e v4 ⟨rfl, hk, hl⟩
        have HA4 := hid (HA3.out.drew.next hk hl)
        have KP4 := hid (PC.out _ _ HA4.out)
        clear hk hl))
      go_wp2
      go_region_held3 (fun w' => w'.cell? ⟨bw, 0, none⟩ = some (ptr bx) ∧ w'.cell? ⟨w2.heap.size, 0, none⟩ = some (.int .i64 (n1 : Int)) ∧ w'.cell? ⟨w2.heap.size, 1, none⟩ = some (.int .i64 (k1 : Int)) ∧ w'.cell? ⟨w3.heap.size, 0, none⟩ = some (.int .i64 (n2 : Int)) ∧ w'.cell? ⟨w3.heap.size, 1, none⟩ = some (.int .i64 (k2 : Int)) ∧ w'.cell? ⟨w4.heap.size, 0, none⟩ = some (.int .i64 (n3 : Int)) ∧ w'.cell? ⟨w4.heap.size, 1, none⟩ = some (.int .i64 (k3 : Int))) (first | exact KP5.out | exact KP4.out | go_keep) ((
        go_at_call 26
        refine (D5.out _ _ HA4.out.drew.desk).mono ?_
        rintro e v5 ⟨rfl, hk, hl⟩
        have HA5 := hid (HA4.out.drew.next hk hl)
        have KP5 := hid (PC.out _ _ HA5.out)
        clear hk hl))
      go_wp2
      obtain ⟨m0, m1, m2, m3, m4, m5, m6⟩ := KP5.out
      have HE : Hid (Below w.heap.size w v5) := HB0.out.trans (HA5.out.desk.low.mono HB0.out.size)
      have T' := T.out
      clear T D1 D2 D3 D4 D5 KP0 KP1 KP2 KP3 KP4 KP5 HA HA1 HA2 HA3 HA4 HA5 HN1 HN2 HN3 HU HPQR HB0 PC
      have eqg := fun (x y : Operand) (w : World) => eqg_place x y (n1 : Int) (k1 : Int) (n2 : Int) (k2 : Int) w
      cases T' with
      | one hx hc =>
        obtain ⟨hx3, _, _, hc1, hc2⟩ := hc
        by_cases hP : n1 = n2 ∧ k1 = k2
        · obtain rfl := hx.2 hP
          have eqp : ∀ w : World, (binOp .eql 37 (.agg #[.int .i64 (n1 : Int), .int .i64 (k1 : Int)]) (.agg #[.int .i64 (n2 : Int), .int .i64 (k2 : Int)])).run Tryz.prog w = .ok (.bool true) w := fun w => by
            rw [hP.1, hP.2]
            exact eq_place_yes _ _ w
          clear hx hP hx3
          rcases (show (0 < z ∧ ¬ z < 0 ∧ 0 ≤ t) ∨ (¬ 0 < z ∧ z < 0 ∧ t ≤ 0) ∨ (¬ 0 < z ∧ ¬ z < 0 ∧ t ≤ 0 ∧ 0 ≤ t) by omega) with ⟨q1, q2, q3⟩ | ⟨q1, q2, q3⟩ | ⟨q1, q2, q3, q4⟩
          all_goals
            clear hc1 hc2
            go_quiet (fail)
            go_wp2
            go_ret
            first | exact ⟨rfl, below_qd HE.out _⟩ | exact ⟨rfl, below_qd (below_qd HE.out _) _⟩
        · have eqp := fun w => eq_place_no (a := (n1 : Int)) (b := (k1 : Int)) (c := (n2 : Int)) (d := (k2 : Int)) (by omega) w
          have hx0 : ¬ x = 0 := fun e => hP (hx.1 e)
          clear hx hP
          rcases (show (x = -1 ∧ 0 < z) ∨ (x = -1 ∧ ¬ 0 < z ∧ t ≤ 0) ∨ (x = 1 ∧ z < 0) ∨ (x = 1 ∧ ¬ z < 0 ∧ 0 ≤ t) by omega) with ⟨rfl, q1⟩ | ⟨rfl, q1, q2⟩ | ⟨rfl, q1⟩ | ⟨rfl, q1, q2⟩
          all_goals
            clear hc1 hc2 hx0 hx3
            go_quiet (fail)
            go_wp2
            go_ret
            first | exact ⟨rfl, below_qd HE.out _⟩ | exact ⟨rfl, below_qd (below_qd HE.out _) _⟩
      | left hx hx3 hg hh =>
        obtain ⟨a1, b1, rfl⟩ := hg
        obtain ⟨a2, b2, rfl⟩ := hh
        by_cases hP : n1 = n2 ∧ k1 = k2
        · obtain rfl := hx.2 hP
          have eqp : ∀ w : World, (binOp .eql 37 (.agg #[.int .i64 (n1 : Int), .int .i64 (k1 : Int)]) (.agg #[.int .i64 (n2 : Int), .int .i64 (k2 : Int)])).run Tryz.prog w = .ok (.bool true) w := fun w => by
            rw [hP.1, hP.2]
            exact eq_place_yes _ _ w
          clear hx hP hx3
          go_quiet (fail)
          go_wp2
          go_quiet (fail)
          go_wp2
          go_ret
          first | exact ⟨rfl, below_qd HE.out _⟩ | exact ⟨rfl, below_qd (below_qd HE.out _) _⟩
        · have eqp := fun w => eq_place_no (a := (n1 : Int)) (b := (k1 : Int)) (c := (n2 : Int)) (d := (k2 : Int)) (by omega) w
          have hx0 : ¬ x = 0 := fun e => hP (hx.1 e)
          clear hx hP
          rcases hx3 with rfl | rfl | rfl <;> first
            | (exfalso; omega)
            | (clear hx0
               go_quiet (fail)
               go_wp2
               go_quiet (fail)
               go_wp2
               go_ret
               first | exact ⟨rfl, below_qd HE.out _⟩ | exact ⟨rfl, below_qd (below_qd HE.out _) _⟩)
      | right hP he hf hh =>
        obtain ⟨a1, b1, rfl⟩ := he
        obtain ⟨a2, b2, rfl⟩ := hf
        obtain ⟨a3, b3, rfl⟩ := hh
        have eqp := fun w => eq_place_no (a := (n1 : Int)) (b := (k1 : Int)) (c := (n2 : Int)) (d := (k2 : Int)) (by omega) w
        clear hP
        go_quiet (fail)
        go_wp2
        go_quiet (fail)
        go_wp2
        go_ret
        first | exact ⟨rfl, below_qd HE.out _⟩ | exact ⟨rfl, below_qd (below_qd HE.out _) _⟩
      | none hP he hf hg hh =>
        obtain ⟨a1, b1, rfl⟩ := he
        obtain ⟨a2, b2, rfl⟩ := hf
        obtain ⟨a3, b3, rfl⟩ := hg
        have eqp := fun w => eq_place_no (a := (n1 : Int)) (b := (k1 : Int)) (c := (n2 : Int)) (d := (k2 : Int)) (by omega) w
        clear hP
        rcases hh with ⟨a4, b4, rfl⟩ | rfl
        all_goals
          go_quiet (fail)
          go_wp2
          go_quiet (fail)
          go_wp2
          go_ret
          first | exact ⟨rfl, below_qd HE.out _⟩ | exact ⟨rfl, below_qd (below_qd HE.out _) _⟩
end Go.Proofs.YtabogkonklplcaaGreatDoor
