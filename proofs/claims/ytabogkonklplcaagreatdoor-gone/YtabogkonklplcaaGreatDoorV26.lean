import Derived.Test.YtabogkonklplcaaGreatDoorV23
import Derived.Test.YtabogkonklplcaaGreatDoorV24
import Derived.Test.YtabogkonklplcaaGreatDoorV25

namespace Go.Proofs.YtabogkonklplcaaGreatDoor
open Go.RowKit
set_option linter.unusedSimpArgs false
set_option linter.unusedVariables false
section
variable {w : World} {F : Nat → Prop} {bx bf bl : Nat} {sv : Value} {s : List Nd} {rs : List Sp}
theorem PDocAt.moved {w' : World} {rs' : List Sp} (h : PDocAt w F bx bf bl sv ⟨s, rs⟩) (hk : Keeps (fun b => sv.ownBlock = some b) w w') (ho : w'.ownsRow 0 79 4 sv rs'.length (rs'.flatMap Sp.cells)) : PDocAt w' F bx bf bl sv ⟨s, rs'⟩ :=
  ⟨h.Fx, h.Hx, by rw [hk.block bx (heap_lt h.doc) (fun e => (h.apart bx e).2.2.1 rfl)]; exact h.doc, h.Fl, h.Hl, h.ne, by rw [hk.block bl (heap_lt h.list) (fun e => (h.apart bl e).2.2.2 rfl)]; exact h.list, ho, h.apart, h.nodes.keeps hk (fun b hb e => hb.2.2.2.1 e)⟩
theorem lfollow_go (hD : PDocAt w F bx bf bl sv ⟨s, rs⟩) {m : Nat} {mv : Value} {f : Mvf} (hgm : ∀ b, sv.ownBlock = some b → b < m) (hm : MoveOk m w mv f) (hsm : Small rs) (h6 : rs.length ≤ 6) :
    Calls Tryz.prog 110 #[ptr bl, mv] w fun e w' => e = .returned (.tuple #[]) ∧ Keeps (fun b => sv.ownBlock = some b) w w' ∧ PDocAt w' F bx bf bl sv ⟨s, rs.map (mvSp f)⟩ := by
  rcases row_cases hD.spans with ⟨h1, h2⟩ | ⟨g, c, h1⟩
  · have hr0 : rs = [] := List.length_eq_zero_iff.1 h2
    subst hr0
    refine (lfollow_nil hD.list hD.spans mv).mono ?_
    rintro e w' ⟨rfl, hb⟩
    exact ⟨rfl, Keeps.of_below hb, hD.below hb⟩
  · simp only at h1
    have hl := hD.list
    have hr := hD.spans
    simp only at hr
    rw [h1] at hl hr
    have ha := hD.apart g (by rw [h1]; rfl)
    refine (lfollow_some hl hr ha.2.2.2 (hgm g (by rw [h1]; rfl)) hm hsm h6).mono ?_
    rintro e w' ⟨rfl, hk, ho⟩
    have hk' : Keeps (fun b => sv.ownBlock = some b) w w' := hk.mono (fun b _ e => by rw [e, h1]; rfl)
    refine ⟨rfl, hk', hD.moved hk' ?_⟩
    rw [h1, List.length_map]
    exact ho
set_option maxHeartbeats 400000 in
theorem mfollow_go (hD : PDocAt w F bx bf bl sv ⟨s, rs⟩) {m : Nat} {mv : Value} {f : Mvf} (hgm : ∀ b, sv.ownBlock = some b → b < m) (hm : MoveOk m w mv f) (hsm : Small rs) (h6 : rs.length ≤ 6) :
    Calls Tryz.prog 64 #[ptr bx, mv, .nilIface] w fun e w' => e = .returned .nilIface ∧ Keeps (fun b => sv.ownBlock = some b) w w' ∧ PDocAt w' F bx bf bl sv ⟨s, rs.map (mvSp f)⟩ := by
  have C := hid (lfollow_go hD hgm hm hsm h6)
  have c1 : w.cell? ⟨bx, 1, none⟩ = some (ptr bl) := cell_of_heap hD.doc 1
  clear hD hm hsm
  go_enter Tryz.func64, Tryz.ntmps64
  go_wp2_with (go_at_call 110; refine C.out.mono ?_; rintro e w1 ⟨rfl, hk1, hd1⟩; have H1 := hid (And.intro hk1 hd1); clear hk1 hd1)
  go_ret
  exact ⟨rfl, H1.out.1, H1.out.2⟩
end
theorem after_go {w w1 w2 : World} {F : Nat → Prop} {bx bf bl : Nat} {sv : Value} {s s' : List Nd} {rs rs' : List Sp} (hD : PDocAt w F bx bf bl sv ⟨s, rs⟩) (hk1 : Keeps F w w1) (hk2 : Keeps (fun b => sv.ownBlock = some b) w1 w2) (hd2 : PDocAt w2 (grow F w) bx bf bl sv ⟨s', rs'⟩) : Keeps F w w2 ∧ PLies w2 (grow F w) bx ⟨s', rs'⟩ :=
  ⟨hk1.trans (hk2.mono (fun b _ e => .inl (hD.apart b e).1)), _, _, _, hd2⟩
theorem before_go {w w1 : World} {F : Nat → Prop} {bx bf bl m : Nat} {sv : Value} {s s' : List Nd} {rs : List Sp} (hg : GG w) (hD : PDocAt w F bx bf bl sv ⟨s, rs⟩) (hk : Keeps (inner F bx bl sv) w w1) (hm1 : w.heap.size ≤ m) (hf : PFor w1 (fun b => inner F bx bl sv b ∨ (w.heap.size ≤ b ∧ b < m)) bf s') :
    (Keeps F w w1 ∧ PDocAt w1 (grow F w) bx bf bl sv ⟨s', rs⟩) ∧ ∀ b, sv.ownBlock = some b → b < m :=
  ⟨pdoc_after hg hD hk (hf.wider (fun b h => h.imp id And.left)) (Below.refl _ _), fun b e => by have := (hD.spans.lt b e).2; omega⟩
set_option maxHeartbeats 400000 in
theorem minsert_go {w : World} {F : Nat → Prop} {bx : Nat} {s s' : List Nd} {rs : List Sp} {f : Mvf} (hg : GG w) (hP : PLies w F bx ⟨s, rs⟩) (hsm : Small rs) (h6 : rs.length ≤ 6) (A B C : Int)
    (hT : ∀ (F' : Nat → Prop) (bf : Nat), PFor w F' bf s → Calls Tryz.prog 94 #[ptr bf, .int .i64 A, .int .i64 B, .int .i64 C] w (TMv f F' w bf s')) :
    Calls Tryz.prog 54 #[ptr bx, .int .i64 A, .int .i64 B, .int .i64 C] w (PLPost F w bx ⟨s', rs.map (mvSp f)⟩ (errV 0 0)) := by
  obtain ⟨bf, bl, sv, hD⟩ := hP
  have C := hid (hT _ _ hD.nodes)
  have c0 : w.cell? ⟨bx, 0, none⟩ = some (ptr bf) := cell_of_heap hD.doc 0
  have BG := hid (fun w1 m => before_go (w1 := w1) (m := m) (s' := s') hg hD)
  have AG := hid (fun w1 w2 => after_go (w1 := w1) (w2 := w2) (s' := s') (rs' := rs.map (mvSp f)) hD)
  have HSM := hid hsm
  clear hD hT hg hsm
  go_enter Tryz.func54, Tryz.ntmps54
  go_wp2_with first
    | (go_at_call 94; refine C.out.mono ?_; rintro e w1 ⟨mv, m, rfl, hk, h1, h2, hf, hm⟩
       have A1 := hid (BG.out w1 m hk h1 hf)
       have E1 := hid (mfollow_go A1.out.1.2 A1.out.2 hm HSM.out h6)
       clear hk h1 h2 hf hm)
    | (go_at_call 64; refine E1.out.mono ?_; rintro e w2 ⟨rfl, hk2, hd2⟩
       have A2 := hid (AG.out w1 w2 A1.out.1.1 hk2 hd2)
       clear hk2 hd2)
  go_ret
  exact ⟨by simp [errV], A2.out.1, A2.out.2⟩
set_option maxHeartbeats 400000 in
theorem mremove_go {w : World} {F : Nat → Prop} {bx : Nat} {s s' : List Nd} {rs : List Sp} {f : Mvf} (hg : GG w) (hP : PLies w F bx ⟨s, rs⟩) (hsm : Small rs) (h6 : rs.length ≤ 6) (A : Int)
    (hT : ∀ (F' : Nat → Prop) (bf : Nat), PFor w F' bf s → Calls Tryz.prog 97 #[ptr bf, .int .i64 A] w (TMv f F' w bf s')) :
    Calls Tryz.prog 60 #[ptr bx, .int .i64 A] w (PLPost F w bx ⟨s', rs.map (mvSp f)⟩ (errV 0 0)) := by
  obtain ⟨bf, bl, sv, hD⟩ := hP
  have C := hid (hT _ _ hD.nodes)
  have c0 : w.cell? ⟨bx, 0, none⟩ = some (ptr bf) := cell_of_heap hD.doc 0
  have BG := hid (fun w1 m => before_go (w1 := w1) (m := m) (s' := s') hg hD)
  have AG := hid (fun w1 w2 => after_go (w1 := w1) (w2 := w2) (s' := s') (rs' := rs.map (mvSp f)) hD)
  have HSM := hid hsm
  clear hD hT hg hsm
  go_enter Tryz.func60, Tryz.ntmps60
  go_wp2_with first
    | (go_at_call 97; refine C.out.mono ?_; rintro e w1 ⟨mv, m, rfl, hk, h1, h2, hf, hm⟩
       have A1 := hid (BG.out w1 m hk h1 hf)
       have E1 := hid (mfollow_go A1.out.1.2 A1.out.2 hm HSM.out h6)
       clear hk h1 h2 hf hm)
    | (go_at_call 64; refine E1.out.mono ?_; rintro e w2 ⟨rfl, hk2, hd2⟩
       have A2 := hid (AG.out w1 w2 A1.out.1.1 hk2 hd2)
       clear hk2 hd2)
  go_ret
  exact ⟨by simp [errV], A2.out.1, A2.out.2⟩
set_option maxHeartbeats 400000 in
theorem mreplace_go {w : World} {F : Nat → Prop} {bx : Nat} {s s' : List Nd} {rs : List Sp} {f : Mvf} (hg : GG w) (hP : PLies w F bx ⟨s, rs⟩) (hsm : Small rs) (h6 : rs.length ≤ 6) (A B C : Int) (t : ByteArray)
    (hT : ∀ (F' : Nat → Prop) (bf : Nat), PFor w F' bf s → Calls Tryz.prog 68 #[ptr bf, .int .i64 A, .int .i64 B, .int .i64 C, .string t] w (TMv f F' w bf s')) :
    Calls Tryz.prog 34 #[ptr bx, .int .i64 A, .int .i64 B, .int .i64 C, .string t] w (PLPost F w bx ⟨s', rs.map (mvSp f)⟩ (errV 0 0)) := by
  obtain ⟨bf, bl, sv, hD⟩ := hP
  have C := hid (hT _ _ hD.nodes)
  have c0 : w.cell? ⟨bx, 0, none⟩ = some (ptr bf) := cell_of_heap hD.doc 0
  have BG := hid (fun w1 m => before_go (w1 := w1) (m := m) (s' := s') hg hD)
  have AG := hid (fun w1 w2 => after_go (w1 := w1) (w2 := w2) (s' := s') (rs' := rs.map (mvSp f)) hD)
  have HSM := hid hsm
  clear hD hT hg hsm
  go_enter Tryz.func34, Tryz.ntmps34
  go_wp2_with first
    | (go_at_call 68; refine C.out.mono ?_; rintro e w1 ⟨mv, m, rfl, hk, h1, h2, hf, hm⟩
       have A1 := hid (BG.out w1 m hk h1 hf)
       have E1 := hid (mfollow_go A1.out.1.2 A1.out.2 hm HSM.out h6)
       clear hk h1 h2 hf hm)
    | (go_at_call 64; refine E1.out.mono ?_; rintro e w2 ⟨rfl, hk2, hd2⟩
       have A2 := hid (AG.out w1 w2 A1.out.1.1 hk2 hd2)
       clear hk2 hd2)
  go_ret
  exact ⟨by simp [errV], A2.out.1, A2.out.2⟩
set_option maxHeartbeats 400000 in
theorem msplit_go {w : World} {F : Nat → Prop} {bx : Nat} {s s' : List Nd} {rs : List Sp} {f : Mvf} (hg : GG w) (hP : PLies w F bx ⟨s, rs⟩) (hsm : Small rs) (h6 : rs.length ≤ 6) {n : Int} (A B : Int)
    (hT : ∀ (F' : Nat → Prop) (bf : Nat), PFor w F' bf s → Calls Tryz.prog 63 #[ptr bf, .int .i64 A, .int .i64 B] w (TSv f F' w bf s' n)) :
    Calls Tryz.prog 30 #[ptr bx, .int .i64 A, .int .i64 B] w (PLPost F w bx ⟨s', rs.map (mvSp f)⟩ (.tuple #[.int .i64 n, errV 0 0])) := by
  obtain ⟨bf, bl, sv, hD⟩ := hP
  have C := hid (hT _ _ hD.nodes)
  have c0 : w.cell? ⟨bx, 0, none⟩ = some (ptr bf) := cell_of_heap hD.doc 0
  have BG := hid (fun w1 m => before_go (w1 := w1) (m := m) (s' := s') hg hD)
  have AG := hid (fun w1 w2 => after_go (w1 := w1) (w2 := w2) (s' := s') (rs' := rs.map (mvSp f)) hD)
  have HSM := hid hsm
  clear hD hT hg hsm
  go_enter Tryz.func30, Tryz.ntmps30
  go_wp2_with first
    | (go_at_call 63; refine C.out.mono ?_; rintro e w1 ⟨mv, m, rfl, hk, h1, h2, hf, hm⟩
       have A1 := hid (BG.out w1 m hk h1 hf)
       have E1 := hid (mfollow_go A1.out.1.2 A1.out.2 hm HSM.out h6)
       clear hk h1 h2 hf hm)
    | (go_at_call 64; refine E1.out.mono ?_; rintro e w2 ⟨rfl, hk2, hd2⟩
       have A2 := hid (AG.out w1 w2 A1.out.1.1 hk2 hd2)
       clear hk2 hd2)
  go_ret2
  exact ⟨by simp [errV], A2.out.1, A2.out.2⟩
end Go.Proofs.YtabogkonklplcaaGreatDoor
