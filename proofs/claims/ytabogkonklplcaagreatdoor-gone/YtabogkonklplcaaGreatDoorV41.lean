import Derived.Test.YtabogkonklplcaaGreatDoorV39

namespace Go.Proofs.YtabogkonklplcaaGreatDoor
open Go.RowKit
set_option linter.unusedSimpArgs false
set_option linter.unusedVariables false
section
variable {s : List Nd} {rs : List Sp}
set_option maxRecDepth 20000 in
set_option maxHeartbeats 4000000 in
theorem do2_any {w0 w : World} {F : Nat → Prop} {bw bx : Nat} {M : Int} (hg : GG w0) (wf : WF s) (h6 : rs.length ≤ 6) (hrs : ∀ z ∈ rs, SpIs s z) (hD : Desk w0 F w bw bx (s.length : Int) M ⟨s, rs⟩) (K A B C : Int) (hK : I64 K) (hA : I64 A) (hB : I64 B) (hC : I64 C) (keep : Bool) (n m : Nat) (hn : pickM A s.length = n) (hm : pickM C 7 = m) (hk : pickM K 9 = 2) :
    Calls Tryz.prog 24 #[ptr bw, .agg #[.int .i64 K, .int .i64 A, .int .i64 B, .int .i64 C], .bool keep] w (DoesPost w0 bw bx M s rs keep) := by
  have hcap := wf.cap
  have hpos := wf.pos
  have hnlt : n < s.length := hn ▸ pickM_lt A wf.pos
  have hm7 : m < 7 := hm ▸ pickM_lt C (by decide)
  have hm0 : (0 : Int) ≤ (m : Int) := by omega
  have hm7' : (m : Int) < 7 := by omega
  have CN : Hid (∀ (F' : Nat → Prop) (W : World), Desk w0 F' W bw bx (s.length : Int) M ⟨s, rs⟩ → Calls Tryz.prog 57 #[ptr bw, .int .i64 A] W fun e w' => e = .returned (.int .i64 (n : Int)) ∧ w' = W) := fun F' W h => by
    have := node_is wf h A hA
    rw [hn] at this
    exact this
  have CP7 : Hid (∀ W : World, Calls Tryz.prog 27 #[.int .i64 C, .int .i64 7] W fun e w' => e = .returned (.int .i64 (m : Int)) ∧ w' = W) := fun W => by
    have := pick_is C hC 7 (by decide) (by decide) W
    rw [hm] at this
    exact this
  have CP9 : Hid (∀ W : World, Calls Tryz.prog 27 #[.int .i64 K, .int .i64 9] W fun e w' => e = .returned (.int .i64 2) ∧ w' = W) := fun W => by
    have := pick_is K hK 9 (by decide) (by decide) W
    rw [hk] at this
    exact this
  have hs40 := size40 wf hnlt
  obtain ⟨h, H, u⟩ := wf.up
  have CH : Hid (∀ (F' : Nat → Prop) (W : World), Desk w0 F' W bw bx (s.length : Int) M ⟨s, rs⟩ → Calls Tryz.prog 59 #[ptr bw, .int .i64 (n : Int)] W fun e w' => e = .returned (.bool (decide (0 < cntS (shownF s (h n + 1) n)))) ∧ Keeps F' W w' ∧ Desk w0 (grow F' W) w' bw bx (s.length : Int) M ⟨s, rs⟩) := fun F' W hh => holds_at hg wf u hh n hnlt
  obtain ⟨hb, hhb⟩ : ∃ q, decide (0 < cntS (shownF s (h n + 1) n)) = q := ⟨_, rfl⟩
  obtain ⟨a2, y2, s2, f2, wf2, R2, L2, C2⟩ := pans_remove s wf rs h6 (fun z hz => (hrs z hz).ok) (n : Int)
  have hl2 : (s.length : Int) = (s2.length : Int) := by rw [R2.size]
  have POST : Hid ((keep = true → hb = false) → ∀ (F' : Nat → Prop) (W : World), Desk w0 F' W bw bx (s.length : Int) M ⟨s2, rs.map (mvSp f2)⟩ → DoesPost w0 bw bx M s rs keep (.returned (.tuple #[])) W) := fun hgu F' W h => by
    refine ⟨rfl, F', s2, [f2], .cons ⟨.inr (.inr (.inl ⟨n, a2, y2, _, H, hnlt, u, fun e => ?_, R2⟩)), wf2, L2⟩ .nil, ?_⟩
    · have := hgu e
      rw [this] at hhb
      have := of_decide_eq_false hhb
      omega
    · rw [map_cons', map_nil']
      exact h.as hl2
  have POST0 : Hid (∀ (F' : Nat → Prop) (W : World), Desk w0 F' W bw bx (s.length : Int) M ⟨s, rs⟩ → DoesPost w0 bw bx M s rs keep (.returned (.tuple #[])) W) := fun F' W h => by
    refine ⟨rfl, F', s, [], .nil, ?_⟩
    rw [map_nil']
    exact h
  rw [hhb] at CH
  have CI := hid (fun (F' : Nat → Prop) (W : World) (h : Desk w0 F' W bw bx (s.length : Int) M ⟨s, rs⟩) => C2 W F' bx (h.gg hg) h.doc)
  have HDW0 : Hid (Desk w0 (fun b => F b ∧ b < w.heap.size) (w.alloc (.cells #[.int .i64 K, .int .i64 A, .int .i64 B, .int .i64 C] 56)) bw bx (s.length : Int) M ⟨s, rs⟩) := hD.narrow.below ((Below.refl _ w).alloc (Nat.le_refl _) _)
  clear hD hg wf hrs hk hn hm hA hB hC hK hhb R2 L2 C2 wf2 hl2 u
  go_enter Tryz.func24, Tryz.ntmps24
  go_wp2_with (
    go_at_call 57
    refine (CN.out _ _ HDW0.out).mono ?_
    rintro e w1 ⟨rfl, rfl⟩)
  obtain ⟨W, hW⟩ : ∃ W, w.alloc (.cells #[.int .i64 K, .int .i64 A, .int .i64 B, .int .i64 C] 56) = W := ⟨_, rfl⟩
  have hWs : W.heap[w.heap.size]? = some (.cells #[.int .i64 K, .int .i64 A, .int .i64 B, .int .i64 C] 56 (0, 0)) := by rw [← hW]; exact heap_alloc_new w _
  have HD1 : Hid (DeskS w0 (fun b => F b ∧ b < w.heap.size) W bw bx (s.length : Int) M ⟨s, rs⟩ w.heap.size K A B C) := ⟨hW ▸ HDW0.out, hWs, fun e => Nat.lt_irrefl _ e.2⟩
  rw [hW]
  clear hW HDW0
  have s3 := cell_of_heap hWs 3
  clear hWs
  go_region_with (first
    | (go_at_call 58
       refine (bits_at _).mono ?_
       rintro e w2 ⟨b, rfl, hb2, hc2⟩
       have hb2c : Below W.heap.size W w2 := ⟨hb2.os, hb2.tape, hb2.output, hb2.size, hb2.block⟩
       have HD2 := hid (HD1.out.below hb2c)
       have kp2 := HD2.out.cells.2.2.2.2
       have hcm := hc2 m hm7
       clear hb2 hb2c hc2)
    | (go_at_call 27
       refine (CP7.out _).mono ?_
       rintro e w' ⟨rfl, rfl⟩))
  all_goals
    obtain ⟨d0, t0, t1, t2, t3⟩ := HD2.out.cells
    clear hcm kp2 s3 HD1
    cases keep <;> cases hb <;>
    (go_wp2_with (first
      | (go_at_call 27
         refine (CP9.out _).mono ?_
         rintro e w' ⟨rfl, rfl⟩)
      | (go_at_call 59
         refine (CH.out _ _ HD2.out.desk).mono ?_
         rintro e w3 ⟨rfl, hk3, hd3⟩
         have HD3 := hid (HD2.out.with hk3 hd3)
         have z0 := HD3.out.desk.cells.1
         clear hk3 hd3)
      | (go_at_call 60
         refine (CI.out _ _ HD3.out.desk).mono ?_
         rintro e w6 ⟨rfl, hk6, hl6⟩
         have HD6 := hid (HD3.out.next hk6 hl6)
         clear hk6 hl6))
     (try simp only [Exit.inBlock, Exit.then])
     refine bodyPost_end (results_none rfl _ _ _) rfl ?_
     first
       | exact POST.out (fun e => absurd e Bool.false_ne_true) _ _ HD6.out.desk
       | exact POST.out (fun _ => rfl) _ _ HD6.out.desk
       | exact POST.out (fun _ => trivial) _ _ HD6.out.desk
       | exact POST0.out _ _ HD3.out.desk)
theorem does_k2 {w0 w : World} {F : Nat → Prop} {bw bx : Nat} {M : Int} (hg : GG w0) (wf : WF s) (h6 : rs.length ≤ 6) (hrs : ∀ z ∈ rs, SpIs s z) (hD : Desk w0 F w bw bx (s.length : Int) M ⟨s, rs⟩) (K A B C : Int) (hK : I64 K) (hA : I64 A) (hB : I64 B) (hC : I64 C) (keep : Bool) (hk : pickM K 9 = 2) : Calls Tryz.prog 24 #[ptr bw, .agg #[.int .i64 K, .int .i64 A, .int .i64 B, .int .i64 C], .bool keep] w (DoesPost w0 bw bx M s rs keep) := do2_any hg wf h6 hrs hD K A B C hK hA hB hC keep _ _ rfl rfl hk
end
end Go.Proofs.YtabogkonklplcaaGreatDoor

namespace Go.Proofs.YtabogkonklplcaaGreatDoor
open Go.RowKit
set_option linter.unusedSimpArgs false
set_option linter.unusedVariables false
section
variable {s : List Nd} {rs : List Sp}
set_option maxRecDepth 20000 in
set_option maxHeartbeats 4000000 in
theorem do3_any {w0 w : World} {F : Nat → Prop} {bw bx : Nat} {M : Int} (hg : GG w0) (wf : WF s) (h6 : rs.length ≤ 6) (hrs : ∀ z ∈ rs, SpIs s z) (hD : Desk w0 F w bw bx (s.length : Int) M ⟨s, rs⟩) (K A B C : Int) (hK : I64 K) (hA : I64 A) (hB : I64 B) (hC : I64 C) (keep : Bool) (n m : Nat) (hn : pickM A s.length = n) (hm : pickM C 7 = m) (hk : pickM K 9 = 3) :
    Calls Tryz.prog 24 #[ptr bw, .agg #[.int .i64 K, .int .i64 A, .int .i64 B, .int .i64 C], .bool keep] w (DoesPost w0 bw bx M s rs keep) := by
  have hcap := wf.cap
  have hpos := wf.pos
  have hnlt : n < s.length := hn ▸ pickM_lt A wf.pos
  have hm7 : m < 7 := hm ▸ pickM_lt C (by decide)
  have hm0 : (0 : Int) ≤ (m : Int) := by omega
  have hm7' : (m : Int) < 7 := by omega
  have CN : Hid (∀ (F' : Nat → Prop) (W : World), Desk w0 F' W bw bx (s.length : Int) M ⟨s, rs⟩ → Calls Tryz.prog 57 #[ptr bw, .int .i64 A] W fun e w' => e = .returned (.int .i64 (n : Int)) ∧ w' = W) := fun F' W h => by
    have := node_is wf h A hA
    rw [hn] at this
    exact this
  have CP7 : Hid (∀ W : World, Calls Tryz.prog 27 #[.int .i64 C, .int .i64 7] W fun e w' => e = .returned (.int .i64 (m : Int)) ∧ w' = W) := fun W => by
    have := pick_is C hC 7 (by decide) (by decide) W
    rw [hm] at this
    exact this
  have CP9 : Hid (∀ W : World, Calls Tryz.prog 27 #[.int .i64 K, .int .i64 9] W fun e w' => e = .returned (.int .i64 3) ∧ w' = W) := fun W => by
    have := pick_is K hK 9 (by decide) (by decide) W
    rw [hk] at this
    exact this
  have hs40 := size40 wf hnlt
  obtain ⟨h, H, u⟩ := wf.up
  have CH : Hid (∀ (F' : Nat → Prop) (W : World), Desk w0 F' W bw bx (s.length : Int) M ⟨s, rs⟩ → Calls Tryz.prog 59 #[ptr bw, .int .i64 (n : Int)] W fun e w' => e = .returned (.bool (decide (0 < cntS (shownF s (h n + 1) n)))) ∧ Keeps F' W w' ∧ Desk w0 (grow F' W) w' bw bx (s.length : Int) M ⟨s, rs⟩) := fun F' W hh => holds_at hg wf u hh n hnlt
  obtain ⟨hb, hhb⟩ : ∃ q, decide (0 < cntS (shownF s (h n + 1) n)) = q := ⟨_, rfl⟩
  obtain ⟨a2, y2, s2, f2, wf2, R2, L2, C2⟩ := pans_remove s wf rs h6 (fun z hz => (hrs z hz).ok) (n : Int)
  have hl2 : (s.length : Int) = (s2.length : Int) := by rw [R2.size]
  have POST : Hid ((keep = true → hb = false) → ∀ (F' : Nat → Prop) (W : World), Desk w0 F' W bw bx (s.length : Int) M ⟨s2, rs.map (mvSp f2)⟩ → DoesPost w0 bw bx M s rs keep (.returned (.tuple #[])) W) := fun hgu F' W h => by
    refine ⟨rfl, F', s2, [f2], .cons ⟨.inr (.inr (.inl ⟨n, a2, y2, _, H, hnlt, u, fun e => ?_, R2⟩)), wf2, L2⟩ .nil, ?_⟩
    · have := hgu e
      rw [this] at hhb
      have := of_decide_eq_false hhb
      omega
    · rw [map_cons', map_nil']
      exact h.as hl2
  have POST0 : Hid (∀ (F' : Nat → Prop) (W : World), Desk w0 F' W bw bx (s.length : Int) M ⟨s, rs⟩ → DoesPost w0 bw bx M s rs keep (.returned (.tuple #[])) W) := fun F' W h => by
    refine ⟨rfl, F', s, [], .nil, ?_⟩
    rw [map_nil']
    exact h
  rw [hhb] at CH
  have CI := hid (fun (F' : Nat → Prop) (W : World) (h : Desk w0 F' W bw bx (s.length : Int) M ⟨s, rs⟩) => C2 W F' bx (h.gg hg) h.doc)
  have HDW0 : Hid (Desk w0 (fun b => F b ∧ b < w.heap.size) (w.alloc (.cells #[.int .i64 K, .int .i64 A, .int .i64 B, .int .i64 C] 56)) bw bx (s.length : Int) M ⟨s, rs⟩) := hD.narrow.below ((Below.refl _ w).alloc (Nat.le_refl _) _)
  clear hD hg wf hrs hk hn hm hA hB hC hK hhb R2 L2 C2 wf2 hl2 u
  go_enter Tryz.func24, Tryz.ntmps24
  go_wp2_with (
    go_at_call 57
    refine (CN.out _ _ HDW0.out).mono ?_
    rintro e w1 ⟨rfl, rfl⟩)
  obtain ⟨W, hW⟩ : ∃ W, w.alloc (.cells #[.int .i64 K, .int .i64 A, .int .i64 B, .int .i64 C] 56) = W := ⟨_, rfl⟩
  have hWs : W.heap[w.heap.size]? = some (.cells #[.int .i64 K, .int .i64 A, .int .i64 B, .int .i64 C] 56 (0, 0)) := by rw [← hW]; exact heap_alloc_new w _
  have HD1 : Hid (DeskS w0 (fun b => F b ∧ b < w.heap.size) W bw bx (s.length : Int) M ⟨s, rs⟩ w.heap.size K A B C) := ⟨hW ▸ HDW0.out, hWs, fun e => Nat.lt_irrefl _ e.2⟩
  rw [hW]
  clear hW HDW0
  have s3 := cell_of_heap hWs 3
  clear hWs
  go_region_with (first
    | (go_at_call 58
       refine (bits_at _).mono ?_
       rintro e w2 ⟨b, rfl, hb2, hc2⟩
       have hb2c : Below W.heap.size W w2 := ⟨hb2.os, hb2.tape, hb2.output, hb2.size, hb2.block⟩
       have HD2 := hid (HD1.out.below hb2c)
       have kp2 := HD2.out.cells.2.2.2.2
       have hcm := hc2 m hm7
       clear hb2 hb2c hc2)
    | (go_at_call 27
       refine (CP7.out _).mono ?_
       rintro e w' ⟨rfl, rfl⟩))
  all_goals
    obtain ⟨d0, t0, t1, t2, t3⟩ := HD2.out.cells
    clear hcm kp2 s3 HD1
    cases keep <;> cases hb <;>
    (go_wp2_with (first
      | (go_at_call 27
         refine (CP9.out _).mono ?_
         rintro e w' ⟨rfl, rfl⟩)
      | (go_at_call 59
         refine (CH.out _ _ HD2.out.desk).mono ?_
         rintro e w3 ⟨rfl, hk3, hd3⟩
         have HD3 := hid (HD2.out.with hk3 hd3)
         have z0 := HD3.out.desk.cells.1
         clear hk3 hd3)
      | (go_at_call 60
         refine (CI.out _ _ HD3.out.desk).mono ?_
         rintro e w6 ⟨rfl, hk6, hl6⟩
         have HD6 := hid (HD3.out.next hk6 hl6)
         clear hk6 hl6))
     (try simp only [Exit.inBlock, Exit.then])
     refine bodyPost_end (results_none rfl _ _ _) rfl ?_
     first
       | exact POST.out (fun e => absurd e Bool.false_ne_true) _ _ HD6.out.desk
       | exact POST.out (fun _ => rfl) _ _ HD6.out.desk
       | exact POST.out (fun _ => trivial) _ _ HD6.out.desk
       | exact POST0.out _ _ HD3.out.desk)
theorem does_k3 {w0 w : World} {F : Nat → Prop} {bw bx : Nat} {M : Int} (hg : GG w0) (wf : WF s) (h6 : rs.length ≤ 6) (hrs : ∀ z ∈ rs, SpIs s z) (hD : Desk w0 F w bw bx (s.length : Int) M ⟨s, rs⟩) (K A B C : Int) (hK : I64 K) (hA : I64 A) (hB : I64 B) (hC : I64 C) (keep : Bool) (hk : pickM K 9 = 3) : Calls Tryz.prog 24 #[ptr bw, .agg #[.int .i64 K, .int .i64 A, .int .i64 B, .int .i64 C], .bool keep] w (DoesPost w0 bw bx M s rs keep) := do3_any hg wf h6 hrs hD K A B C hK hA hB hC keep _ _ rfl rfl hk
end
end Go.Proofs.YtabogkonklplcaaGreatDoor

namespace Go.Proofs.YtabogkonklplcaaGreatDoor
open Go.RowKit
set_option linter.unusedSimpArgs false
set_option linter.unusedVariables false
structure DeskO (w0 : World) (F : Nat → Prop) (w : World) (bw bx : Nat) (n mine : Int) (st : St) (l : List (Nat × Obj)) : Prop where
  desk : Desk w0 F w bw bx n mine st
  own : ∀ p ∈ l, w.heap[p.1]? = some p.2 ∧ ¬ F p.1
section
variable {w0 w w' : World} {F : Nat → Prop} {bw bx : Nat} {n n' mine : Int} {st st' : St} {l : List (Nat × Obj)}
theorem Desk.o (h : Desk w0 F w bw bx n mine st) : DeskO w0 F w bw bx n mine st [] := ⟨h, fun p hp => by cases hp⟩
theorem DeskO.below (h : DeskO w0 F w bw bx n mine st l) (hb : Below w.heap.size w w') : DeskO w0 F w' bw bx n mine st l :=
  ⟨h.desk.below hb, fun p hp => ⟨(hb.block _ (heap_lt (h.own p hp).1)).trans (h.own p hp).1, (h.own p hp).2⟩⟩
theorem DeskO.drew (h : DeskO w0 F w bw bx n mine st l) : DeskO w0 F w.drew bw bx n mine st l := h.below (Below.refl _ _).drew
theorem DeskO.with (h : DeskO w0 F w bw bx n mine st l) (hk : Keeps F w w') (hd : Desk w0 (grow F w) w' bw bx n' mine st') : DeskO w0 (grow F w) w' bw bx n' mine st' l :=
  ⟨hd, fun p hp => ⟨(hk.block _ (heap_lt (h.own p hp).1) (h.own p hp).2).trans (h.own p hp).1, fun e => e.elim (h.own p hp).2 (fun e => Nat.not_le_of_lt (heap_lt (h.own p hp).1) e)⟩⟩
theorem DeskO.next (h : DeskO w0 F w bw bx n mine st l) (hk : Keeps F w w') (hl : PLies w' (grow F w) bx st') : DeskO w0 (grow F w) w' bw bx n mine st' l :=
  h.with hk (h.desk.next hk hl)
theorem DeskO.narrow (h : DeskO w0 F w bw bx n mine st l) : DeskO w0 (fun b => F b ∧ b < w.heap.size) w bw bx n mine st l :=
  ⟨h.desk.narrow, fun p hp => ⟨(h.own p hp).1, fun e => (h.own p hp).2 e.1⟩⟩
theorem DeskO.alloc (h : DeskO w0 F w bw bx n mine st l) (c : Array Value) (t : TypeId) : DeskO w0 (fun b => F b ∧ b < w.heap.size) (w.alloc (.cells c t)) bw bx n mine st ((w.heap.size, .cells c t (0, 0)) :: l) := by
  have hB : Below w.heap.size w (w.alloc (.cells c t)) := (Below.refl _ w).alloc (Nat.le_refl _) _
  have h2 := h.narrow.below hB
  refine ⟨h2.desk, fun p hp => ?_⟩
  rcases List.mem_cons.1 hp with rfl | hp
  · exact ⟨heap_alloc_new w _, fun e => Nat.lt_irrefl _ e.2⟩
  · exact h2.own p hp
end
def CmpIs (s : List Nd) (B : Nat) (n k n2 k2 : Nat) (v : Int) (ev : Value) : Prop :=
  (∃ t, IsTop s n t ∧ IsTop s n2 t ∧ ev = .nilIface ∧ v = cmpB (decide (wh (plF s (B + 1) t) (n, k) < wh (plF s (B + 1) t) (n2, k2))) (decide (wh (plF s (B + 1) t) (n2, k2) < wh (plF s (B + 1) t) (n, k)))) ∨
  ((∃ t t2, IsTop s n t ∧ IsTop s n2 t2 ∧ t ≠ t2) ∧ v = 0 ∧ ∃ a y : Int, ev = .iface 32 (.agg #[.int .i64 a, .int .i64 y]))
theorem pcompare_any {s : List Nd} {rs : List Sp} (wf : WF s) {h : Nat → Nat} {B : Nat} (u : Up s h B) (n k n2 k2 : Nat) (hn : n < s.length) (hk : k ≤ sizeAt s n) (hn2 : n2 < s.length) (hk2 : k2 ≤ sizeAt s n2) :
    ∃ (v : Int) (ev : Value), CmpIs s B n k n2 k2 v ev ∧ ∀ (w : World) (F : Nat → Prop) (bx : Nat), GG w → PLies w F bx ⟨s, rs⟩ →
      Calls Tryz.prog 26 #[ptr bx, .agg #[.int .i64 (n : Int), .int .i64 (k : Int)], .agg #[.int .i64 (n2 : Int), .int .i64 (k2 : Int)]] w (PLPost F w bx ⟨s, rs⟩ (.tuple #[.int .i64 v, ev])) := by
  obtain ⟨t, ta⟩ := top_there wf n hn
  obtain ⟨t2, tb⟩ := top_there wf n2 hn2
  by_cases he : t = t2
  · subst he
    refine ⟨_, .nilIface, .inl ⟨t, ta, tb, rfl, rfl⟩, fun w F bx hg hP => ?_⟩
    have := pcompare_one (rs := rs) wf u n k n2 k2 t hn hk hn2 hk2 ta tb w F bx hg hP
    rw [show errV 0 0 = .nilIface from by simp [errV]] at this
    exact this
  · refine ⟨0, .iface 32 (.agg #[.int .i64 (n2 : Int), .int .i64 9]), .inr ⟨⟨t, t2, ta, tb, he⟩, rfl, _, _, rfl⟩, fun w F bx hg hP => ?_⟩
    have := pcompare_roots (rs := rs) wf n k n2 k2 t t2 hn hk hn2 hk2 ta tb he w F bx hg hP
    rw [show errV (n2 : Int) 9 = .iface 32 (.agg #[.int .i64 (n2 : Int), .int .i64 9]) from by simp [errV]] at this
    exact this
def Flt (ev : Value) : Prop := ∃ a y : Int, ev = .iface 32 (.agg #[.int .i64 a, .int .i64 y])
theorem cmpB_is (a b : Int) : cmpB (decide (a < b)) (decide (b < a)) = if a < b then -1 else if b < a then 1 else 0 := by
  by_cases h1 : a < b
  · rw [decide_eq_true h1, if_pos h1]; rfl
  · by_cases h2 : b < a
    · rw [decide_eq_false h1, decide_eq_true h2, if_neg h1, if_pos h2]; rfl
    · rw [decide_eq_false h1, decide_eq_false h2, if_neg h1, if_neg h2]; rfl
theorem CmpIs.same {s : List Nd} {B n k n2 k2 t : Nat} {v : Int} {ev : Value} (c : CmpIs s B n k n2 k2 v ev) (ha : IsTop s n t) (hb : IsTop s n2 t) :
    ev = .nilIface ∧ v = if wh (plF s (B + 1) t) (n, k) < wh (plF s (B + 1) t) (n2, k2) then -1 else if wh (plF s (B + 1) t) (n2, k2) < wh (plF s (B + 1) t) (n, k) then 1 else 0 := by
  rcases c with ⟨t', a, b, h1, h2⟩ | ⟨⟨t', t2, a, b, ne⟩, _⟩
  · obtain rfl := a.one ha
    exact ⟨h1, by rw [h2, cmpB_is]⟩
  · exact absurd ((a.one ha).trans (b.one hb).symm) ne
theorem CmpIs.other {s : List Nd} {B n k n2 k2 t t2 : Nat} {v : Int} {ev : Value} (c : CmpIs s B n k n2 k2 v ev) (ha : IsTop s n t) (hb : IsTop s n2 t2) (hne : t ≠ t2) : v = 0 ∧ Flt ev := by
  rcases c with ⟨t', a, b, h1, h2⟩ | ⟨_, h1, h2⟩
  · exact absurd ((ha.one a).trans (b.one hb)) hne
  · exact ⟨h1, h2⟩
theorem wh_inj {s : List Nd} (wf : WF s) {h : Nat → Nat} {B : Nat} (u : Up s h B) {n k n2 k2 t : Nat} (hn : n < s.length) (hk : k ≤ sizeAt s n) (hn2 : n2 < s.length) (hk2 : k2 ≤ sizeAt s n2) (ha : IsTop s n t) (hb : IsTop s n2 t)
    (he : wh (plF s (B + 1) t) (n, k) = wh (plF s (B + 1) t) (n2, k2)) : n = n2 ∧ k = k2 := by
  obtain ⟨l, wl⟩ := way_there wf ha hn
  obtain ⟨l2, wl2⟩ := way_there wf hb hn2
  obtain ⟨i, ei, hi⟩ := wh_mem (way_pl wf u wl hk)
  obtain ⟨j, ej, hj⟩ := wh_mem (way_pl wf u wl2 hk2)
  have : i = j := by omega
  subst this
  rw [hi] at hj
  simpa using hj
end Go.Proofs.YtabogkonklplcaaGreatDoor

namespace Go.Proofs.YtabogkonklplcaaGreatDoor
open Go.RowKit Go.Lib
set_option linter.unusedSimpArgs false
set_option linter.unusedVariables false
def bl (b : ByteArray) : List UInt8 := b.data.toList
def isS (c : ByteArray) : Bool := bl c == [194, 167]
end Go.Proofs.YtabogkonklplcaaGreatDoor

namespace Go.Proofs.YtabogkonklplcaaGreatDoor
open Go.RowKit Go.Lib
set_option linter.unusedSimpArgs false
set_option linter.unusedVariables false
end Go.Proofs.YtabogkonklplcaaGreatDoor

namespace Go.Proofs.YtabogkonklplcaaGreatDoor
open Go.RowKit Go.Lib
set_option linter.unusedSimpArgs false
set_option linter.unusedVariables false
structure SecAt (s : List Nd) (n k : Nat) : Prop where
  ex : ∃ (x : Nd) (c : ByteArray), s[n]? = some x ∧ x.t = true ∧ 0 ≤ x.p ∧ x.cs[k]? = some c ∧ isS c = true
  one : ∀ (m j : Nat) (x : Nd) (c : ByteArray), s[m]? = some x → x.cs[j]? = some c → isS c = true → m = n ∧ j = k
section
variable {s : List Nd}
theorem spIs_in (wf : WF s) {n k k2 : Nat} (hn : n < s.length) (h : k ≤ k2) (hk : k2 ≤ sizeAt s n) : SpIs s ⟨n, k, n, k2⟩ := by
  obtain ⟨t, ta⟩ := top_there wf n hn
  obtain ⟨l, wl⟩ := way_there wf ta hn
  refine spIs_lives.two wf ⟨n, k, rfl, rfl, hn, by omega⟩ ⟨n, k2, rfl, rfl, hn, hk⟩ ta wl wl ?_
  have key : ∀ l : List Nat, lexC (l ++ [k]) (l ++ [k2]) ≤ 0 := by
    intro l
    induction l with
    | nil =>
      show (if k < k2 then -1 else if k2 < k then 1 else lexC [] []) ≤ 0
      split
      · decide
      · rw [if_neg (by omega)]; decide
    | cons a l ih =>
      show (if a < a then -1 else if a < a then 1 else lexC (l ++ [k]) (l ++ [k2])) ≤ 0
      rw [if_neg (Nat.lt_irrefl _), if_neg (Nat.lt_irrefl _)]
      exact ih
  exact key l
end
theorem SecAt.same {s s' : List Nd} {n k : Nat} (h : SecAt s n k) (hn : ∀ x, s[n]? = some x → ∃ y, s'[n]? = some y ∧ y.t = x.t ∧ y.cs = x.cs ∧ y.p = x.p)
    (hm : ∀ (m j : Nat) (y : Nd) (c : ByteArray), s'[m]? = some y → y.cs[j]? = some c → isS c = true → ∃ (j2 : Nat) (m2 : Nat) (x : Nd), s[m2]? = some x ∧ x.cs[j2]? = some c ∧ (m2 = n → j2 = k → m = n ∧ j = k)) : SecAt s' n k := by
  obtain ⟨x, c, hx, ht, hp, hc, hs⟩ := h.ex
  obtain ⟨y, hy, e1, e2, e3⟩ := hn x hx
  refine ⟨⟨y, c, hy, by rw [e1]; exact ht, by rw [e3]; exact hp, by rw [e2]; exact hc, hs⟩, ?_⟩
  intro m j y2 c2 hy2 hc2 hs2
  obtain ⟨j2, m2, x2, hx2, hcx, hh⟩ := hm m j y2 c2 hy2 hc2 hs2
  obtain ⟨q1, q2⟩ := h.one m2 j2 x2 c2 hx2 hcx hs2
  exact hh q1 q2
section
variable {s s' : List Nd} {f : Mvf} {n k : Nat} {z : Sp}
end
end Go.Proofs.YtabogkonklplcaaGreatDoor
