import Derived.Test.YtgojdlbidjnmmaaGreatWeakI1
namespace Go.Proofs.YtgojdlbidjnmmaaGreat
open Go.ChangeShapes Go.WideShapes Go.ChangeAt Go.RowKit
set_option linter.unusedSimpArgs false

theorem Ruling.drewN {w wr : World} {B g n cp f : Nat} {m z : Nat → Int} (h : Ruling w wr B g n cp f m z) (k : Nat) : Ruling w (wr.drewN k) B g n cp f m z := by
  obtain ⟨L, a, b, c, d⟩ := h
  exact ⟨L, a.drewN k, b, ⟨c.os, c.tape, c.output, c.size, c.block⟩, d⟩

set_option maxHeartbeats 1000000 in
theorem implR6 (R g n cp B : Nat) (b : Int) (l : List Int) (w : World) (hw : WT w R g n cp b) (hn : Hid (l.length = n)) (hv : OwnI w B (.slice (some ⟨g, 0, none⟩) n cp) l) (hl : n ≤ 80) :
    Calls Tryz.prog 105 #[.pointer (some ⟨R, 0, none⟩)] w fun e w' => e = .returned (.tuple #[]) ∧ Ruled w w' B g n cp (r6 l) := by
  have HR : Hid (r6 l = mkL n (m6 (fn l))) := by show _ = _; unfold r6; rw [hn.out]
  rw [HR.out]
  have HS : Hid (Ruling w w B g n cp 0 (m6 (fn l)) (fn l)) := Ruling.start hv
  have HW : Hid _ := hw
  obtain ⟨q0, q1, q2, q3⟩ := hw
  go_enter Tryz.func105, Tryz.ntmps105
  go_wp2
  clear q0 q1
  go_loopw [9] (fun i wr => ∃ f : Nat, f ≤ n ∧ i = .int .i64 f ∧ Hid (Ruling w wr B g n cp f (m6 (fn l)) (fn l))) (fun i _ => n - (intOf i).toNat)
  case atStart => exact ⟨0, Nat.zero_le _, rfl, HS⟩
  case round =>
    obtain ⟨f, hf, rfl, hr⟩ := hrel
    by_cases hlt : f < n
    · have c := hr.out.cell (Nat.le_refl _) hlt
      have fz := hr.out.free f
      obtain ⟨q0, q1, _, _⟩ := hr.out.wt HW.out
      by_cases e3 : fn l f = 5 ∨ fn l f = 6 ∨ fn l f = 8
      · have E3 : Hid (m6 (fn l) f = 13) := by show _ = _; unfold m6; rw [if_pos e3]
        rcases e3 with e3 | e3 | e3
        all_goals
          rw [e3] at c
          clear e3
          go_wp2
          go_roundw
          case rel => exact ⟨f + 1, by omega, by go_num, hr.out.set hlt E3.out⟩
          case measure => simp only [intOf]; omega
      · have E3 : Hid (m6 (fn l) f = fn l f) := by show _ = _; unfold m6; rw [if_neg e3]
        have g5 : (fn l f == 5) = false := by simp; omega
        have g6 : (fn l f == 6) = false := by simp; omega
        have g8 : (fn l f == 8) = false := by simp; omega
        clear e3
        go_wp2
        go_roundw
        case rel => exact ⟨f + 1, by omega, by go_num, hr.out.keep hlt E3.out⟩
        case measure => simp only [intOf]; omega
    · have e : f = n := by omega
      subst e
      go_wp2
      go_end0
      exact ⟨rfl, hr.out.fin⟩

def ahM (z : Nat → Int) (b : Int) : Nat → Int
  | 0 => b
  | k + 1 => m1 z b k
theorem m1_step {z : Nat → Int} {b : Int} (hb : b = 1 ∨ b = 2) {f : Nat} (h : z f = 9) : m1 z b f = if opensB (ahM z b f) = true ∨ ahM z b f = 22 then 13 else ahM z b f := by
  cases f with
  | zero =>
    rcases hb with rfl | rfl <;> simp [m1, ahM, h, opensB]
  | succ k => show (if z (k + 1) = 9 then _ else _) = _; rw [if_pos h]; rfl

set_option maxHeartbeats 1000000 in
theorem implR1 (R g n cp B : Nat) (b : Int) (hb : Hid (b = 1 ∨ b = 2)) (l : List Int) (w : World) (hw : WT w R g n cp b) (hn : Hid (l.length = n)) (hv : OwnI w B (.slice (some ⟨g, 0, none⟩) n cp) l) (hl : n ≤ 80) :
    Calls Tryz.prog 100 #[.pointer (some ⟨R, 0, none⟩)] w fun e w' => e = .returned (.tuple #[]) ∧ Ruled w w' B g n cp (r1 l b) := by
  have HR : Hid (r1 l b = mkL n (m1 (fn l) b)) := by show _ = _; unfold r1; rw [hn.out]
  rw [HR.out]
  have HS : Hid (Ruling w w B g n cp 0 (m1 (fn l) b) (fn l)) := Ruling.start hv
  have HW : Hid _ := hw
  obtain ⟨q0, q1, q2, q3⟩ := hw
  go_enter Tryz.func100, Tryz.ntmps100
  go_wp2
  clear q0 q1
  go_loopw [2, 14] (fun q i wr => ∃ f : Nat, f ≤ n ∧ i = .int .i64 f ∧ q = .int .i64 (ahM (fn l) b f) ∧ Hid (Ruling w wr B g n cp f (m1 (fn l) b) (fn l))) (fun _ i _ => n - (intOf i).toNat)
  case atStart => exact ⟨0, Nat.zero_le _, rfl, rfl, HS⟩
  case round =>
    obtain ⟨f, hf, rfl, rfl, hr⟩ := hrel
    by_cases hlt : f < n
    · have c := hr.out.cell (Nat.le_refl _) hlt
      have fz := hr.out.free f
      obtain ⟨q0, q1, _, _⟩ := hr.out.wt HW.out
      obtain ⟨A, hA⟩ : ∃ A, ahM (fn l) b f = A := ⟨_, rfl⟩
      obtain ⟨A2, hA2⟩ : ∃ A, m1 (fn l) b f = A := ⟨_, rfl⟩
      have HA2 : Hid (ahM (fn l) b (f + 1) = A2) := hA2
      by_cases e9 : fn l f = 9
      · have hst := m1_step hb.out e9
        rw [hA, hA2] at hst
        have H2 : Hid _ := hA2
        rw [hA]
        rw [e9] at c
        clear e9 hA hA2
        by_cases ho : opensB A = true
        · rw [if_pos (.inl ho)] at hst
          subst hst
          have HO : Hid _ := ho
          clear ho
          go_wp2_with (go_at_call 91; refine (implOpens _ _).mono ?_; rintro e w' ⟨rfl, rfl⟩; rw [HO.out])
          go_roundw
          case rel => exact ⟨f + 1, by omega, by go_num, by rw [HA2.out], hr.out.set hlt H2.out⟩
          case measure => simp only [intOf]; omega
        · have ho' : opensB A = false := by simpa using ho
          by_cases h22 : A = 22
          · rw [if_pos (.inr h22)] at hst
            subst hst
            have HO : Hid _ := ho'
            subst h22
            clear ho ho'
            go_wp2_with (go_at_call 91; refine (implOpens _ _).mono ?_; rintro e w' ⟨rfl, rfl⟩; rw [HO.out])
            go_roundw
            case rel => exact ⟨f + 1, by omega, by go_num, by rw [HA2.out], hr.out.set hlt H2.out⟩
            case measure => simp only [intOf]; omega
          · rw [if_neg (by simp [ho', h22])] at hst
            subst hst
            have HO : Hid _ := ho'
            have g22 : (A2 == 22) = false := by simpa using h22
            clear ho ho' h22
            go_wp2_with (go_at_call 91; refine (implOpens _ _).mono ?_; rintro e w' ⟨rfl, rfl⟩; rw [HO.out])
            go_roundw
            case rel => exact ⟨f + 1, by omega, by go_num, by rw [HA2.out], hr.out.set hlt H2.out⟩
            case measure => simp only [intOf]; omega
      · have g9 : (fn l f == 9) = false := by simpa using e9
        have hk := m1_keep (b := b) e9
        have HK : Hid _ := hk
        rw [hA]
        clear e9 hk hA hA2
        go_wp2
        go_roundw
        case rel => exact ⟨f + 1, by omega, by go_num, by show _ = Value.int .i64 (m1 (fn l) b f); rw [HK.out], hr.out.keep hlt HK.out⟩
        case measure => simp only [intOf]; omega
    · have e : f = n := by omega
      subst e
      go_wp2
      go_end0
      exact ⟨rfl, hr.out.fin⟩

set_option maxHeartbeats 1000000 in
theorem implR2 (R g n cp B : Nat) (b : Int) (l : List Int) (w : World) (hw : WT w R g n cp b) (hn : Hid (l.length = n)) (hv : OwnI w B (.slice (some ⟨g, 0, none⟩) n cp) l) (hl : n ≤ 80) :
    Calls Tryz.prog 101 #[.pointer (some ⟨R, 0, none⟩)] w fun e w' => e = .returned (.tuple #[]) ∧ Ruled w w' B g n cp (r2 l b) := by
  have HR : Hid (r2 l b = mkL n (m2 (fn l) b)) := by show _ = _; unfold r2; rw [hn.out]
  rw [HR.out]
  have HS : Hid (Ruling w w B g n cp 0 (m2 (fn l) b) (fn l)) := Ruling.start hv
  have HW : Hid _ := hw
  obtain ⟨q0, q1, q2, q3⟩ := hw
  go_enter Tryz.func101, Tryz.ntmps101
  go_wp2
  clear q0 q1
  go_loopw [2, 14] (fun q i wr => ∃ f : Nat, f ≤ n ∧ i = .int .i64 f ∧ q = .int .i64 (strong (fn l) b f) ∧ Hid (Ruling w wr B g n cp f (m2 (fn l) b) (fn l))) (fun _ i _ => n - (intOf i).toNat)
  case atStart => exact ⟨0, Nat.zero_le _, rfl, rfl, HS⟩
  case round =>
    obtain ⟨f, hf, rfl, rfl, hr⟩ := hrel
    by_cases hlt : f < n
    · have c := hr.out.cell (Nat.le_refl _) hlt
      have fz := hr.out.free f
      obtain ⟨q0, q1, _, _⟩ := hr.out.wt HW.out
      obtain ⟨s, hs⟩ : ∃ s, strong (fn l) b f = s := ⟨_, rfl⟩
      obtain ⟨s2, hs2⟩ : ∃ s, strong (fn l) b (f + 1) = s := ⟨_, rfl⟩
      have HS2 : Hid _ := hs2
      have h2 : s2 = if fn l f = 1 ∨ fn l f = 2 ∨ fn l f = 3 then fn l f else s := by rw [← hs2, ← hs]; rfl
      have h3 : m2 (fn l) b f = if fn l f = 4 ∧ s = 3 then 7 else fn l f := by rw [← hs]; rfl
      rw [hs]
      clear hs hs2
      by_cases e12 : fn l f = 1 ∨ fn l f = 2
      · rw [if_pos (by omega)] at h2
        rw [if_neg (by omega)] at h3
        have HB : Hid (sideB (fn l f) = true) := by show _ = _; simpa [sideB] using e12
        have H3 : Hid _ := h3
        subst h2
        clear e12 h3
        go_wp2_with (go_at_call 99; refine (implSide? _ _).mono ?_; rintro e w' ⟨rfl, rfl⟩; rw [HB.out])
        go_roundw
        case rel => exact ⟨f + 1, by omega, by go_num, by rw [HS2.out], hr.out.keep hlt H3.out⟩
        case measure => simp only [intOf]; omega
      · have HB : Hid (sideB (fn l f) = false) := by show _ = _; simp only [sideB, decide_eq_false_iff_not]; exact e12
        by_cases e3 : fn l f = 3
        · rw [if_pos (by omega)] at h2
          rw [if_neg (by omega)] at h3
          have H3 : Hid _ := h3
          have g3 : (fn l f == 3) = true := by simpa using e3
          subst h2
          clear e12 e3 h3
          go_wp2_with (go_at_call 99; refine (implSide? _ _).mono ?_; rintro e w' ⟨rfl, rfl⟩; rw [HB.out])
          go_roundw
          case rel => exact ⟨f + 1, by omega, by go_num, by rw [HS2.out], hr.out.keep hlt H3.out⟩
          case measure => simp only [intOf]; omega
        · rw [if_neg (by omega)] at h2
          have g3 : (fn l f == 3) = false := by simpa using e3
          by_cases e4 : fn l f = 4
          · have g4 : (fn l f == 4) = true := by simpa using e4
            by_cases es : s = 3
            · rw [if_pos ⟨e4, es⟩] at h3
              have H3 : Hid _ := h3
              have gs : (s == 3) = true := by simpa using es
              subst h2
              clear e12 e3 h3 e4 es
              go_wp2_with (go_at_call 99; refine (implSide? _ _).mono ?_; rintro e w' ⟨rfl, rfl⟩; rw [HB.out])
              go_roundw
              case rel => exact ⟨f + 1, by omega, by go_num, by rw [HS2.out], hr.out.set hlt H3.out⟩
              case measure => simp only [intOf]; omega
            · rw [if_neg (fun h => es h.2)] at h3
              have H3 : Hid _ := h3
              have gs : (s == 3) = false := by simpa using es
              subst h2
              clear e12 e3 h3 e4 es
              go_wp2_with (go_at_call 99; refine (implSide? _ _).mono ?_; rintro e w' ⟨rfl, rfl⟩; rw [HB.out])
              go_roundw
              case rel => exact ⟨f + 1, by omega, by go_num, by rw [HS2.out], hr.out.keep hlt H3.out⟩
              case measure => simp only [intOf]; omega
          · rw [if_neg (fun h => e4 h.1)] at h3
            have g4 : (fn l f == 4) = false := by simpa using e4
            have H3 : Hid _ := h3
            subst h2
            clear e12 e3 h3 e4
            go_wp2_with (go_at_call 99; refine (implSide? _ _).mono ?_; rintro e w' ⟨rfl, rfl⟩; rw [HB.out])
            go_roundw
            case rel => exact ⟨f + 1, by omega, by go_num, by rw [HS2.out], hr.out.keep hlt H3.out⟩
            case measure => simp only [intOf]; omega
    · have e : f = n := by omega
      subst e
      go_wp2
      go_end0
      exact ⟨rfl, hr.out.fin⟩

set_option maxHeartbeats 1000000 in
theorem implR7 (R g n cp B : Nat) (b : Int) (l : List Int) (w : World) (hw : WT w R g n cp b) (hn : Hid (l.length = n)) (hv : OwnI w B (.slice (some ⟨g, 0, none⟩) n cp) l) (hl : n ≤ 80) (hno : Hid (∀ j, j < n → fn l j ≠ 3)) :
    Calls Tryz.prog 106 #[.pointer (some ⟨R, 0, none⟩)] w fun e w' => e = .returned (.tuple #[]) ∧ Ruled w w' B g n cp (r7 l b) := by
  have HR : Hid (r7 l b = mkL n (m7 (fn l) b)) := by show _ = _; unfold r7; rw [hn.out]
  rw [HR.out]
  have HS : Hid (Ruling w w B g n cp 0 (m7 (fn l) b) (fn l)) := Ruling.start hv
  have HW : Hid _ := hw
  obtain ⟨q0, q1, q2, q3⟩ := hw
  go_enter Tryz.func106, Tryz.ntmps106
  go_wp2
  clear q0 q1
  go_loopw [2, 14] (fun q i wr => ∃ f : Nat, f ≤ n ∧ i = .int .i64 f ∧ q = .int .i64 (strong (fn l) b f) ∧ Hid (Ruling w wr B g n cp f (m7 (fn l) b) (fn l))) (fun _ i _ => n - (intOf i).toNat)
  case atStart => exact ⟨0, Nat.zero_le _, rfl, rfl, HS⟩
  case round =>
    obtain ⟨f, hf, rfl, rfl, hr⟩ := hrel
    by_cases hlt : f < n
    · have c := hr.out.cell (Nat.le_refl _) hlt
      have fz := hr.out.free f
      obtain ⟨q0, q1, _, _⟩ := hr.out.wt HW.out
      obtain ⟨s, hs⟩ : ∃ s, strong (fn l) b f = s := ⟨_, rfl⟩
      obtain ⟨s2, hs2⟩ : ∃ s, strong (fn l) b (f + 1) = s := ⟨_, rfl⟩
      have HS2 : Hid _ := hs2
      have h2 : s2 = if fn l f = 1 ∨ fn l f = 2 ∨ fn l f = 3 then fn l f else s := by rw [← hs2, ← hs]; rfl
      have h3 : m7 (fn l) b f = if fn l f = 4 ∧ s = 1 then 1 else fn l f := by rw [← hs]; rfl
      rw [hs]
      clear hs hs2
      have e3 := hno.out f hlt
      by_cases e12 : fn l f = 1 ∨ fn l f = 2
      · rw [if_pos (by omega)] at h2
        rw [if_neg (by omega)] at h3
        have HB : Hid (sideB (fn l f) = true) := by show _ = _; simpa [sideB] using e12
        have H3 : Hid _ := h3
        subst h2
        clear e12 h3 e3
        go_wp2_with (go_at_call 99; refine (implSide? _ _).mono ?_; rintro e w' ⟨rfl, rfl⟩; rw [HB.out])
        go_roundw
        case rel => exact ⟨f + 1, by omega, by go_num, by rw [HS2.out], hr.out.keep hlt H3.out⟩
        case measure => simp only [intOf]; omega
      · have HB : Hid (sideB (fn l f) = false) := by show _ = _; simp only [sideB, decide_eq_false_iff_not]; exact e12
        rw [if_neg (by omega)] at h2
        by_cases e4 : fn l f = 4
        · have g4 : (fn l f == 4) = true := by simpa using e4
          by_cases es : s = 1
          · rw [if_pos ⟨e4, es⟩] at h3
            have H3 : Hid _ := h3
            have gs : (s == 1) = true := by simpa using es
            subst h2
            clear e12 e3 h3 e4 es
            go_wp2_with (go_at_call 99; refine (implSide? _ _).mono ?_; rintro e w' ⟨rfl, rfl⟩; rw [HB.out])
            go_roundw
            case rel => exact ⟨f + 1, by omega, by go_num, by rw [HS2.out], hr.out.set hlt H3.out⟩
            case measure => simp only [intOf]; omega
          · rw [if_neg (fun h => es h.2)] at h3
            have H3 : Hid _ := h3
            have gs : (s == 1) = false := by simpa using es
            subst h2
            clear e12 e3 h3 e4 es
            go_wp2_with (go_at_call 99; refine (implSide? _ _).mono ?_; rintro e w' ⟨rfl, rfl⟩; rw [HB.out])
            go_roundw
            case rel => exact ⟨f + 1, by omega, by go_num, by rw [HS2.out], hr.out.keep hlt H3.out⟩
            case measure => simp only [intOf]; omega
        · rw [if_neg (fun h => e4 h.1)] at h3
          have g4 : (fn l f == 4) = false := by simpa using e4
          have H3 : Hid _ := h3
          subst h2
          clear e12 e3 h3 e4
          go_wp2_with (go_at_call 99; refine (implSide? _ _).mono ?_; rintro e w' ⟨rfl, rfl⟩; rw [HB.out])
          go_roundw
          case rel => exact ⟨f + 1, by omega, by go_num, by rw [HS2.out], hr.out.keep hlt H3.out⟩
          case measure => simp only [intOf]; omega
    · have e : f = n := by omega
      subst e
      go_wp2
      go_end0
      exact ⟨rfl, hr.out.fin⟩
end Go.Proofs.YtgojdlbidjnmmaaGreat
