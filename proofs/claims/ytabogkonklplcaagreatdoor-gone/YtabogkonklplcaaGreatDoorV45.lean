import Derived.Test.YtabogkonklplcaaGreatDoorV39
import Derived.Test.YtabogkonklplcaaGreatDoorV40
import Derived.Test.YtabogkonklplcaaGreatDoorV41
import Derived.Test.YtabogkonklplcaaGreatDoorV42
import Derived.Test.YtabogkonklplcaaGreatDoorV43
import Derived.Test.YtabogkonklplcaaGreatDoorV44
import Derived.Test.YtabogkonklplcaaGreatDoorCards
import Derived.Test.YtabogkonklplcaaGreatDoorTie
import Derived.ProofKit
import Derived.OpenShut
import Derived.Deep.DeepHandedRow
import Derived.Deep.Slices
import Derived.Lib.LaidTab
import Derived.LaidMore
import Derived.LaidHandle
import Derived.Deep.DeepWitnessRowRef
import Derived.Carry
import Derived.PinnedBridge
import Derived.Lib.LaidU8T

namespace Go.Proofs.YtabogkonklplcaaGreatDoor
open Go.RowKit
set_option linter.unusedSimpArgs false
set_option linter.unusedVariables false
section
variable {s : List Nd} {rs : List Sp}
set_option maxRecDepth 20000 in
set_option maxHeartbeats 4000000 in
theorem do4_any {w0 w : World} {F : Nat → Prop} {bw bx : Nat} {M : Int} (hg : GG w0) (wf : WF s) (h6 : rs.length ≤ 6) (hrs : ∀ z ∈ rs, SpIs s z) (hD : Desk w0 F w bw bx (s.length : Int) M ⟨s, rs⟩) (K A B C : Int) (hK : I64 K) (hA : I64 A) (hB : I64 B) (hC : I64 C) (keep : Bool) (n m : Nat) (hn : pickM A s.length = n) (hm : pickM C 7 = m) (hk : pickM K 9 = 4) :
    Calls Tryz.prog 24 #[ptr bw, .agg #[.int .i64 K, .int .i64 A, .int .i64 B, .int .i64 C], .bool keep] w (DoesPost w0 bw bx M s rs keep) := by
  have hcap := wf.cap
  have hpos := wf.pos
  have hnlt : n < s.length := hn ▸ pickM_lt A wf.pos
  have hm7 : m < 7 := hm ▸ pickM_lt C (by decide)
  have hm0 : (0 : Int) ≤ (m : Int) := by omega
  have hm7' : (m : Int) < 7 := by omega
  have CN : Hid (∀ (F' : Nat → Prop) (W : World), Desk w0 F' W bw bx (s.length : Int) M ⟨s, rs⟩ → Calls Tryz.prog 57 #[ptr bw, .int .i64 A] W fun e w' => e = .returned (.int .i64 (n : Int)) ∧ w' = W) := fun F' W h => by
    have := node_is wf h A hA
    rw [hn] at this
    exact this
  have CP7 : Hid (∀ W : World, Calls Tryz.prog 27 #[.int .i64 C, .int .i64 7] W fun e w' => e = .returned (.int .i64 (m : Int)) ∧ w' = W) := fun W => by
    have := pick_is C hC 7 (by decide) (by decide) W
    rw [hm] at this
    exact this
  have CP9 : Hid (∀ W : World, Calls Tryz.prog 27 #[.int .i64 K, .int .i64 9] W fun e w' => e = .returned (.int .i64 4) ∧ w' = W) := fun W => by
    have := pick_is K hK 9 (by decide) (by decide) W
    rw [hk] at this
    exact this
  have hs40 := size40 wf hnlt
  have hklt : pickM B s.length < s.length := pickM_lt B hpos
  obtain ⟨k, hkk⟩ : ∃ k, pickM B s.length = k := ⟨_, rfl⟩
  have CN2 : Hid (∀ (F' : Nat → Prop) (W : World), Desk w0 F' W bw bx (s.length : Int) M ⟨s, rs⟩ → Calls Tryz.prog 57 #[ptr bw, .int .i64 B] W fun e w' => e = .returned (.int .i64 (k : Int)) ∧ w' = W) := fun F' W h => by
    have := node_is wf h B hB
    rw [hkk] at this
    exact this
  obtain ⟨a2, y2, s2, f2, wf2, R2, L2, C2⟩ := pans_insert s wf rs h6 (fun z hz => (hrs z hz).ok) (n : Int) (k : Int) (pickM C (sizeAt s n + 1) : Int)
  have D2 : Did1 keep s s2 f2 := ⟨.inr (.inl ⟨_, _, _, a2, y2, R2⟩), wf2, L2⟩
  have hl2 : (s.length : Int) = (s2.length : Int) := by rw [R2.size]
  have POST : Hid (∀ (F' : Nat → Prop) (W : World), Desk w0 F' W bw bx (s.length : Int) M ⟨s2, rs.map (mvSp f2)⟩ → DoesPost w0 bw bx M s rs keep (.returned (.tuple #[])) W) := fun F' W h => by
    refine ⟨rfl, F', s2, [f2], .cons D2 .nil, ?_⟩
    rw [map_cons', map_nil']
    exact h.as hl2
  have CS : Hid (∀ (F' : Nat → Prop) (W : World), Desk w0 F' W bw bx ((s.length : Int)) M ⟨s, rs⟩ → Calls Tryz.prog 28 #[ptr bw, .int .i64 (n : Int)] W fun e w' => e = .returned (.int .i64 (sizeAt s n : Int)) ∧ Keeps F' W w' ∧ Desk w0 (grow F' W) w' bw bx ((s.length : Int)) M ⟨s, rs⟩) := fun F' W h => size_at hg wf h n hnlt
  have CPX : Hid (∀ W : World, Calls Tryz.prog 27 #[.int .i64 C, .int .i64 ((sizeAt s n : Int) + 1)] W fun e w' => e = .returned (.int .i64 (pickM C (sizeAt s n + 1) : Int)) ∧ w' = W) := fun W => pick_is C hC (sizeAt s n + 1) (by omega) (by omega) W
  have CI := hid (fun (F' : Nat → Prop) (W : World) (h : Desk w0 F' W bw bx (s.length : Int) M ⟨s, rs⟩) => C2 W F' bx (h.gg hg) h.doc)
  obtain ⟨sz, hsz⟩ : ∃ k, sizeAt s n = k := ⟨_, rfl⟩
  rw [hsz] at CS CPX CI hs40
  obtain ⟨pk, hpk⟩ : ∃ k, pickM C (sz + 1) = k := ⟨_, rfl⟩
  have hpkl : pk < sz + 1 := hpk ▸ pickM_lt C (by omega)
  rw [hpk] at CPX CI
  have hwr : IntKind.i64.wrap ((sz : Int) + 1) = (sz : Int) + 1 := IntWalk.i64_in _ (by omega)
  have HDW0 : Hid (Desk w0 (fun b => F b ∧ b < w.heap.size) (w.alloc (.cells #[.int .i64 K, .int .i64 A, .int .i64 B, .int .i64 C] 56)) bw bx (s.length : Int) M ⟨s, rs⟩) := hD.narrow.below ((Below.refl _ w).alloc (Nat.le_refl _) _)
  clear hD hg wf hrs hk hn hm hA hB hC hK D2 R2 L2 C2 wf2 hl2 hkk hklt hsz hpk
  go_enter Tryz.func24, Tryz.ntmps24
  go_wp2_with (
    go_at_call 57
    refine (CN.out _ _ HDW0.out).mono ?_
    rintro e w1 ⟨rfl, rfl⟩)
  obtain ⟨W, hW⟩ : ∃ W, w.alloc (.cells #[.int .i64 K, .int .i64 A, .int .i64 B, .int .i64 C] 56) = W := ⟨_, rfl⟩
  have hWs : W.heap[w.heap.size]? = some (.cells #[.int .i64 K, .int .i64 A, .int .i64 B, .int .i64 C] 56 (0, 0)) := by rw [← hW]; exact heap_alloc_new w _
  have HD1 : Hid (DeskS w0 (fun b => F b ∧ b < w.heap.size) W bw bx (s.length : Int) M ⟨s, rs⟩ w.heap.size K A B C) := ⟨hW ▸ HDW0.out, hWs, fun e => Nat.lt_irrefl _ e.2⟩
  rw [hW]
  clear hW HDW0
  have s3 := cell_of_heap hWs 3
  clear hWs
  go_region_with (first
    | (go_at_call 58
       refine (bits_at _).mono ?_
       rintro e w2 ⟨b, rfl, hb2, hc2⟩
       have hb2c : Below W.heap.size W w2 := ⟨hb2.os, hb2.tape, hb2.output, hb2.size, hb2.block⟩
       have HD2 := hid (HD1.out.below hb2c)
       have kp2 := HD2.out.cells.2.2.2.2
       have hcm := hc2 m hm7
       clear hb2 hb2c hc2)
    | (go_at_call 27
       refine (CP7.out _).mono ?_
       rintro e w' ⟨rfl, rfl⟩))
  all_goals
    obtain ⟨d0, t0, t1, t2, t3⟩ := HD2.out.cells
    clear hcm kp2 s3 HD1
    go_wp2_with (first
      | (go_at_call 27
         refine (CP9.out _).mono ?_
         rintro e w' ⟨rfl, rfl⟩)
      | (go_at_call 57
         refine (CN2.out _ _ HD2.out.desk).mono ?_
         rintro e w' ⟨rfl, rfl⟩))
    go_region_held3 (fun w' => w'.cell? ⟨bw, 0, none⟩ = some (ptr bx) ∧ w'.cell? ⟨w.heap.size, 3, none⟩ = some (.int .i64 C)) (first | exact KP6.out | exact KP5.out | go_keep) (first
      | (go_at_call 28
         refine (CS.out _ _ HD2.out.drew.desk).mono ?_
         rintro e w5 ⟨rfl, hk5, hd5⟩
         have HD5 := hid (HD2.out.drew.with hk5 hd5)
         have KP5 := hid (And.intro HD5.out.cells.1 HD5.out.cells.2.2.2.2)
         clear hk5 hd5)
      | (go_at_call 27
         refine (CPX.out _).mono ?_
         rintro e w' ⟨rfl, rfl⟩)
      | (go_at_call 54
         refine (CI.out _ _ HD5.out.desk).mono ?_
         rintro e w6 ⟨rfl, hk6, hl6⟩
         have HD6 := hid (HD5.out.next hk6 hl6)
         have KP6 := hid (And.intro HD6.out.cells.1 HD6.out.cells.2.2.2.2)
         clear hk6 hl6))
    all_goals
      go_wp2
      (try simp only [Exit.inBlock, Exit.then])
      refine bodyPost_end (results_none rfl _ _ _) rfl ?_
      exact POST.out _ _ HD6.out.desk
theorem does_k4 {w0 w : World} {F : Nat → Prop} {bw bx : Nat} {M : Int} (hg : GG w0) (wf : WF s) (h6 : rs.length ≤ 6) (hrs : ∀ z ∈ rs, SpIs s z) (hD : Desk w0 F w bw bx (s.length : Int) M ⟨s, rs⟩) (K A B C : Int) (hK : I64 K) (hA : I64 A) (hB : I64 B) (hC : I64 C) (keep : Bool) (hk : pickM K 9 = 4) : Calls Tryz.prog 24 #[ptr bw, .agg #[.int .i64 K, .int .i64 A, .int .i64 B, .int .i64 C], .bool keep] w (DoesPost w0 bw bx M s rs keep) := do4_any hg wf h6 hrs hD K A B C hK hA hB hC keep _ _ rfl rfl hk
end
end Go.Proofs.YtabogkonklplcaaGreatDoor

namespace Go.Proofs.YtabogkonklplcaaGreatDoor
open Go.RowKit
set_option linter.unusedSimpArgs false
set_option linter.unusedVariables false
section
variable {s : List Nd} {rs : List Sp}
theorem does_at {w0 w : World} {F : Nat → Prop} {bw bx : Nat} {M : Int} (hg : GG w0) (wf : WF s) (h6 : rs.length ≤ 6) (hrs : ∀ z ∈ rs, SpIs s z) (hD : Desk w0 F w bw bx (s.length : Int) M ⟨s, rs⟩) (K A B C : Int) (hK : I64 K) (hA : I64 A) (hB : I64 B) (hC : I64 C) (keep : Bool) :
    Calls Tryz.prog 24 #[ptr bw, .agg #[.int .i64 K, .int .i64 A, .int .i64 B, .int .i64 C], .bool keep] w (DoesPost w0 bw bx M s rs keep) := by
  have h9 : pickM K 9 < 9 := pickM_lt K (by decide)
  obtain ⟨q, hq⟩ : ∃ q, pickM K 9 = q := ⟨_, rfl⟩
  rw [hq] at h9
  match q, h9, hq with
  | 0, _, hq => exact does_k0 hg wf h6 hrs hD K A B C hK hA hB hC keep hq
  | 1, _, hq => exact does_k1 hg wf h6 hrs hD K A B C hK hA hB hC keep hq
  | 2, _, hq => exact does_k2 hg wf h6 hrs hD K A B C hK hA hB hC keep hq
  | 3, _, hq => exact does_k3 hg wf h6 hrs hD K A B C hK hA hB hC keep hq
  | 4, _, hq => exact does_k4 hg wf h6 hrs hD K A B C hK hA hB hC keep hq
  | 5, _, hq => exact does_k5 hg wf h6 hrs hD K A B C hK hA hB hC keep hq
  | 6, _, hq => exact does_k6 hg wf h6 hrs hD K A B C hK hA hB hC keep hq
  | 7, _, hq => exact does_k7 hg wf h6 hrs hD K A B C hK hA hB hC keep hq
  | 8, _, hq => exact does_k8 hg wf h6 hrs hD K A B C hK hA hB hC keep hq
  | _ + 9, h, _ => exact absurd h (by omega)
end
end Go.Proofs.YtabogkonklplcaaGreatDoor

namespace Go.Proofs.YtabogkonklplcaaGreatDoor
open Go.RowKit
set_option linter.unusedSimpArgs false
set_option linter.unusedVariables false
structure StepR where
  K : Int
  A : Int
  B : Int
  C : Int
def StepR.cells (o : StepR) : List Value := [.int .i64 o.K, .int .i64 o.A, .int .i64 o.B, .int .i64 o.C]
def StepR.val (o : StepR) : Value := .agg #[.int .i64 o.K, .int .i64 o.A, .int .i64 o.B, .int .i64 o.C]
structure StepOk (o : StepR) : Prop where
  hK : I64 o.K
  hA : I64 o.A
  hB : I64 o.B
  hC : I64 o.C
def StepsAt (w : World) (g off : Nat) (l : List StepR) : Prop := ∀ (i : Nat) (o : StepR), l[i]? = some o → ∀ (j : Nat) (u : Value), o.cells[j]? = some u → w.cell? ⟨g, off + i * 4 + j, none⟩ = some u
structure ScrAt (w : World) (a : Option Addr) (g off : Nat) (l : List StepR) : Prop where
  ha : 0 < l.length → a = some ⟨g, off, none⟩
  at_ : StepsAt w g off l
  ok : ∀ o ∈ l, StepOk o
  lt : 0 < l.length → g < w.heap.size
theorem ScrAt.below {w W : World} {a : Option Addr} {g off : Nat} {l : List StepR} (h : ScrAt w a g off l) (hb : Below w.heap.size w W) : ScrAt W a g off l :=
  ⟨h.ha, fun i o ho j u hu => by
    have h0 : 0 < l.length := by have := (List.getElem?_eq_some_iff.1 ho).1; omega
    exact (hb.cell (p := ⟨g, off + i * 4 + j, none⟩) (h.lt h0)).trans (h.at_ i o ho j u hu), h.ok, fun h0 => Nat.lt_of_lt_of_le (h.lt h0) hb.size⟩
theorem ScrAt.step {w : World} {a : Option Addr} {g off : Nat} {l : List StepR} (h : ScrAt w a g off l) {i : Nat} {o : StepR} (ho : l[i]? = some o) :
    a = some ⟨g, off, none⟩ ∧ w.cell? ⟨g, off + i * 4, none⟩ = some (.int .i64 o.K) ∧ w.cell? ⟨g, off + i * 4 + 1, none⟩ = some (.int .i64 o.A) ∧ w.cell? ⟨g, off + i * 4 + 2, none⟩ = some (.int .i64 o.B) ∧ w.cell? ⟨g, off + i * 4 + 3, none⟩ = some (.int .i64 o.C) ∧ StepOk o := by
  have h0 : 0 < l.length := by have := (List.getElem?_eq_some_iff.1 ho).1; omega
  refine ⟨h.ha h0, ?_, h.at_ i o ho 1 _ rfl, h.at_ i o ho 2 _ rfl, h.at_ i o ho 3 _ rfl, h.ok o (List.mem_of_getElem? ho)⟩
  have := h.at_ i o ho 0 _ rfl
  simpa using this
structure Mid (w0 w : World) (bw bx : Nat) (s : List Nd) (rs : List Sp) : Prop where
  wf : WF s
  len : rs.length = 2
  sp : ∀ z ∈ rs, SpIs s z
  desk : ∃ F, Desk w0 F w bw bx (s.length : Int) 2 ⟨s, rs⟩
theorem mid_laid {w0 w : World} {bw bx : Nat} {F : Nat → Prop} (h : Desk w0 F w bw bx 4 2 ⟨ndS, rsS⟩) : Mid w0 w bw bx ndS rsS := ⟨wfS, rfl, spS, F, h⟩
theorem Mid.does {w0 w : World} {bw bx : Nat} {s : List Nd} {rs : List Sp} (hg : GG w0) (h : Mid w0 w bw bx s rs) (o : StepR) (ho : StepOk o) (keep : Bool) :
    Calls Tryz.prog 24 #[ptr bw, .agg #[.int .i64 o.K, .int .i64 o.A, .int .i64 o.B, .int .i64 o.C], .bool keep] w fun e w' => e = .returned (.tuple #[]) ∧ ∃ s' fs, Dids keep s s' fs ∧ Mid w0 w' bw bx s' (rs.map (mvSp (compF fs))) := by
  obtain ⟨wf, hl, sp, F, hD⟩ := h
  refine (does_at hg wf (by omega) sp hD o.K o.A o.B o.C ho.hK ho.hA ho.hB ho.hC keep).mono ?_
  rintro e w' ⟨rfl, F', s', fs, hd, hD'⟩
  exact ⟨rfl, s', fs, hd, hd.wf wf, by simpa using hl, hd.all spIs_lives sp, F', hD'⟩
end Go.Proofs.YtabogkonklplcaaGreatDoor

namespace Go.Proofs.YtabogkonklplcaaGreatDoor
open Go.ChangeShapes Go.WideShapes Go.ChangeAt Go.RowKit Go.Deep
set_option linter.unusedSimpArgs false
set_option linter.unusedVariables false
theorem Tryz.cells56 : Tryz.prog.cellsOf 56 = 4 := by kernel_rfl
theorem Tryz.cells3k : Tryz.prog.cellsOf 3 = 1 := by kernel_rfl
theorem wf_i64k {n : Int} (h : (Lit.int .i64 n).wf = true) : I64 n := by
  have : -9223372036854775808 ≤ n ∧ n ≤ 9223372036854775807 := by simpa [Lit.wf, IntKind.min, IntKind.max, IntKind.signed, IntKind.bits] using h
  exact this
section
variable {H : Type} {enc : TypeId × Value → H} {w : World} {sp : Nat → Bool} {held : Bool}
set_option maxRecDepth 20000 in
theorem step_open {n : Nat} {cs : List Value} {x : DataW H × List MemPlace} (h : DataW.trod enc Tryz.prog w 0 sp held n 56 cs = some x) : ∃ o : StepR, cs = o.cells ∧ StepOk o := by
  obtain ⟨xs, m, rfl, rfl, hl, hxl, hf⟩ := DataW.trod_struct Tryz.underlying56 h
  rw [Tryz.cells56] at hl
  match cs, hl with
  | [c0, c1, c2, c3], _ =>
    match xs, hxl with
    | [y0, y1, y2, y3], _ =>
      have h0 := hf 0 _ rfl
      have h1 := hf 1 _ rfl
      have h2 := hf 2 _ rfl
      have h3 := hf 3 _ rfl
      simp [Tryz.cells3k] at h0 h1 h2 h3
      obtain ⟨k0, e0, _, w0⟩ := DataW.trod_int Tryz.underlying3 h0
      obtain ⟨k1, e1, _, w1⟩ := DataW.trod_int Tryz.underlying3 h1
      obtain ⟨k2, e2, _, w2⟩ := DataW.trod_int Tryz.underlying3 h2
      obtain ⟨k3, e3, _, w3⟩ := DataW.trod_int Tryz.underlying3 h3
      refine ⟨⟨k0, k1, k2, k3⟩, ?_, wf_i64k w0, wf_i64k w1, wf_i64k w2, wf_i64k w3⟩
      simp at e0 e1 e2 e3
      rw [e0, e1, e2, e3]
      rfl
theorem steps_open {n : Nat} {v : Value} {x : DataW H × List MemPlace} (h : DataW.trod enc Tryz.prog w 0 sp held n 54 [v] = some x) :
    ∃ (a : Option Addr) (g off c : Nat) (l : List StepR), v = .slice a l.length c ∧ ScrAt w a g off l := by
  rcases open_slice Tryz.underlying54 h with ⟨hcs, rfl⟩ | ⟨a, len, cap, m, k, D, Pl, hcs, _, hl, hm, hm2, rfl, hel⟩
  · obtain rfl : v = .slice none 0 0 := by simpa using hcs
    exact ⟨none, 0, 0, 0, [], rfl, ⟨by simp, fun i o ho => by simp at ho, by simp, by simp⟩⟩
  · obtain rfl : v = .slice (some a) len cap := by simpa using hcs
    have hlm : len ≤ m := by rw [hm2]; split <;> omega
    rw [Tryz.cells56] at hel
    have hex : ∀ i, i < len → ∃ o : StepR, w.cells? 0 (a.add (i * 4)) 4 = some o.cells ∧ StepOk o := by
      intro i hi
      obtain ⟨cs', h1, h2⟩ := hel i (by omega)
      obtain ⟨o, rfl, d1⟩ := step_open h2
      exact ⟨o, h1, d1⟩
    obtain ⟨f, hf⟩ := @choose_lt StepR ⟨⟨0, 0, 0, 0⟩⟩ len _ hex
    have hlen2 : ((List.range len).map f).length = len := by simp
    have get : ∀ (i : Nat) (o : StepR), ((List.range len).map f)[i]? = some o → i < len ∧ o = f i := by
      intro i o ho
      have hi : i < len := by have := (List.getElem?_eq_some_iff.1 ho).1; simpa using this
      rw [List.getElem?_map, List.getElem?_range hi] at ho
      exact ⟨hi, by simpa using ho.symm⟩
    have spot : 0 < len → a.spot = none ∧ a.block < w.heap.size := by
      intro h0
      obtain ⟨_, h1, h2⟩ := World.cells?_some (hf 0 h0).1
      have h3 := h2 0 (by simp)
      have h4 : ((f 0).cells)[0]? = some (.int .i64 (f 0).K) := rfl
      rw [h4] at h3
      have e : (a.add (0 * 4)).add 0 = a := by simp [Addr.add]
      rw [e] at h3
      unfold World.cell? at h3
      cases hh : w.heap[a.block]? with
      | none => simp [hh] at h3
      | some ob =>
        refine ⟨?_, (Array.getElem?_eq_some_iff.1 hh).1⟩
        cases ob with
        | cells c t fz =>
          simp only [hh] at h3
          cases hs : a.spot with
          | none => rfl
          | some k => simp [hs] at h3
        | _ => simp [hh] at h3
    have el : ∀ o ∈ (List.range len).map f, StepOk o := by
      intro o ho
      obtain ⟨i, hi, rfl⟩ := List.mem_map.1 ho
      exact (hf i (by simpa using hi)).2
    refine ⟨some a, a.block, a.off, cap, (List.range len).map f, by rw [hlen2], ⟨?_, ?_, el, ?_⟩⟩
    · rw [hlen2]
      intro h0
      have := (spot h0).1
      cases a
      simp_all
    · intro i o ho j u hj
      obtain ⟨hi, rfl⟩ := get i o ho
      obtain ⟨_, h1, h2⟩ := World.cells?_some (hf i hi).1
      have hj10 : j < 4 := (List.getElem?_eq_some_iff.1 hj).1
      have h3 := h2 j hj10
      rw [hj] at h3
      rw [← h3]
      have hsp := (spot (by omega)).1
      congr 1
      cases a with
      | mk b o sp =>
        simp only at hsp
        subst hsp
        simp only [Addr.add]
        split <;> split <;> simp_all <;> omega
    · rw [hlen2]
      exact fun h0 => (spot h0).2
theorem okWide_agg {P : Program} {W : World} {r : Reach} {base : Nat} {t : TypeId} {v : Value} {fs : Array Field} (ht : P.underlying t = some (.struct fs)) (h : Value.okWide P W r base t v) : ∃ cs, v = .agg cs := by
  simp only [Value.okWide, ht] at h
  obtain ⟨cs, h1, _⟩ := h
  exact ⟨cs, h1⟩
theorem agg_of_cells {cs : Array Value} {o : StepR} (h : cs.toList = o.cells) : Value.agg cs = o.val := by
  have : cs = #[.int .i64 o.K, .int .i64 o.A, .int .i64 o.B, .int .i64 o.C] := by
    rw [← Array.toList_inj]
    exact h
  rw [this]
  rfl
set_option maxRecDepth 20000 in
theorem step_arg {W : World} {base : Nat} {v : Value} {d : DataW H} {p : List MemPlace} (hv : Value.okWide Tryz.prog W .any base 56 v) (h : DataW.Trod enc Tryz.prog w 0 sp held 56 v d p) : ∃ o : StepR, v = o.val ∧ StepOk o := by
  obtain ⟨cs, rfl⟩ := okWide_agg Tryz.underlying56 hv
  obtain ⟨fuel, h⟩ := h
  obtain ⟨o, ho, hok⟩ := step_open h
  exact ⟨o, agg_of_cells ho, hok⟩
end
theorem Tryz.ownK : ownKnob Tryz.prog.godebug = none := by kernel_rfl
theorem Tryz.laidOutK : laidOutB Tryz.prog = true := by kernel_rfl
theorem Tryz.etK : Tryz.prog.globalNamed "errors.errorType" = some 0 := by kernel_rfl
theorem Tryz.rtK : (Tryz.prog.cutTypes.find? (·.1 == "internal/reflectlite.rtype")).map (·.2) = some 149 := by kernel_rfl
theorem Tryz.oneRowK : ((List.range Tryz.prog.types.size).filter fun t => Tryz.prog.rowNamed t [101, 114, 114, 111, 114]) = [29] := by kernel_rfl
theorem Tryz.hdlK : typeHandle Tryz.prog 29 = .pointer (some ⟨7, 29, none⟩) := by kernel_rfl
noncomputable def keepWorld (os : Os) : World :=
  let w0 := World.doorLaid Tryz.prog 60 os
  { w0 with heap := w0.heap.modify 1 fun
      | .cells _ t frozen => .cells (Go.Pinned.utf8FirstZ.map fun n : Nat => Value.int .u8 (Int.ofNat n)).toArray t frozen
      | o => o }
set_option maxRecDepth 100000 in
theorem keepWorld_met (os : Os) (args : Array Value) : laidMetH Tryz.prog Rows.orderedRow.laid ((keepWorld os).forCall (fun _ _ => 0) ⟨#[], args, []⟩).memory :=
  laidMetH_of_parts (laidMet_of_run' 8 (by kernel_rfl) (by kernel_rfl)) (by kernel_rfl)
theorem glob_keep {W : World} (h : laidMetH Tryz.prog Rows.orderedRow.laid W) : Glob W := by
  have h' := (laidMetH_iff.1 h).2
  obtain ⟨name, u, ty, e1, e2, e3, e4, e5⟩ := h' ("errors.errorType", Rows.laid_errors_errorType) (List.mem_filter.2 ⟨.tail _ (.tail _ (.tail _ (.tail _ (.head _)))), rfl⟩)
  have en : name = [101, 114, 114, 111, 114] := (Option.some.inj e1).symm
  subst en
  obtain rfl := Option.some.inj (Tryz.rtK.symm.trans e2)
  have hm : ty ∈ (List.range Tryz.prog.types.size).filter fun t => Tryz.prog.rowNamed t [101, 114, 114, 111, 114] := List.mem_filter.2 ⟨List.mem_range.2 e3, e4⟩
  rw [Tryz.oneRowK] at hm
  obtain rfl := List.mem_singleton.1 hm
  rw [Tryz.hdlK] at e5
  unfold Glob
  simpa using World.var?_cell Tryz.etK e5 0
theorem tabs_keep {W : World} (h : laidMetH Tryz.prog Rows.orderedRow.laid W) : Tabs W := by
  have h' := (laidMetH_iff.1 h).1
  have r3 := Lib.laidMet.reads h' (n := "unicode/utf8.first") (d := Rows.laid_unicode_utf8_first) (List.mem_filter.2 ⟨.tail _ (.tail _ (.tail _ (.tail _ (.tail _ (.head _))))), rfl⟩)
  have r4 := Lib.laidMet.reads h' (n := "unicode/utf8.acceptRanges") (d := Rows.laid_unicode_utf8_acceptRanges) (List.mem_filter.2 ⟨.tail _ (.tail _ (.tail _ (.head _))), rfl⟩)
  exact utf8Tabs_of_readsT (U8Types.of260 Tryz.lays260) ⟨by kernel_rfl, by kernel_rfl, by kernel_rfl, by kernel_rfl, by kernel_rfl, by kernel_rfl, by kernel_rfl⟩
    (by rw [show Lib.firstData = Rows.laid_unicode_utf8_first from Pinned.utf8First_eq.symm]; exact r3) (by rw [show Lib.acceptData = Rows.laid_unicode_utf8_acceptRanges from by kernel_rfl]; exact r4)
theorem gg_keep (W : World) (h : laidMetH Tryz.prog Rows.orderedRow.laid W) : GG W := ⟨glob_keep h, tabs_keep h⟩
end Go.Proofs.YtabogkonklplcaaGreatDoor
