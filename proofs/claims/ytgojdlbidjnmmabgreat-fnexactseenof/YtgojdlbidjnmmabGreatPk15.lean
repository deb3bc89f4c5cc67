import Derived.Test.YtgojdlbidjnmmabGreatPk14
import Derived.Test.YtgojdlbidjnmmabGreatPk1
namespace Go.Proofs.YtgojdlbidjnmmabGreat
open Go.ChangeShapes Go.WideShapes Go.ChangeAt Go.RowKit
set_option linter.unusedSimpArgs false

theorem Ruling.drewN {w wr : World} {B g n cp f : Nat} {m z : Nat → Int} (h : Ruling w wr B g n cp f m z) (k : Nat) : Ruling w (wr.drewN k) B g n cp f m z := by
  obtain ⟨L, a, b, c, d⟩ := h
  exact ⟨L, a.drewN k, b, ⟨c.os, c.tape, c.output, c.size, c.block⟩, d⟩

set_option maxHeartbeats 1000000 in
theorem implR6 (R g n cp B : Nat) (b : Int) (l : List Int) (w : World) (hw : WT w R g n cp b) (hn : Hid (l.length = n)) (hv : OwnI w B (.slice (some ⟨g, 0, none⟩) n cp) l) (hl : n ≤ 80) :
    Calls Tryz.prog 107 #[.pointer (some ⟨R, 0, none⟩)] w fun e w' => e = .returned (.tuple #[]) ∧ Ruled w w' B g n cp (r6 l) := by
  have HR : Hid (r6 l = mkL n (m6 (fn l))) := by show _ = _; unfold r6; rw [hn.out]
  rw [HR.out]
  have HS : Hid (Ruling w w B g n cp 0 (m6 (fn l)) (fn l)) := Ruling.start hv
  have HW : Hid _ := hw
  obtain ⟨q0, q1, q2, q3⟩ := hw
  go_enter Tryz.func107, Tryz.ntmps107
  go_wp2
  clear q0 q1
  go_loopw [9] (fun i wr => ∃ f : Nat, f ≤ n ∧ i = .int .i64 f ∧ Hid (Ruling w wr B g n cp f (m6 (fn l)) (fn l))) (fun i _ => n - (intOf i).toNat)
  case atStart => exact ⟨0, Nat.zero_le _, rfl, HS⟩
  case round =>
    obtain ⟨f, hf, rfl, hr⟩ := hrel
    by_cases hlt : f < n
    · have c := hr.out.cell (Nat.le_refl _) hlt
      have fz := hr.out.free f
      obtain ⟨q0, q1, _, _⟩ := hr.out.wt HW.out
      by_cases e3 : fn l f = 5 ∨ fn l f = 6 ∨ fn l f = 8
      · have E3 : Hid (m6 (fn l) f = 13) := by show _ = _; unfold m6; rw [if_pos e3]
        rcases e3 with e3 | e3 | e3
        all_goals
          rw [e3] at c
          clear e3
          go_wp2
          go_roundw
          case rel => exact ⟨f + 1, by omega, by go_num, hr.out.set hlt E3.out⟩
          case measure => simp only [intOf]; omega
      · have E3 : Hid (m6 (fn l) f = fn l f) := by show _ = _; unfold m6; rw [if_neg e3]
        have g5 : (fn l f == 5) = false := by simp; omega
        have g6 : (fn l f == 6) = false := by simp; omega
        have g8 : (fn l f == 8) = false := by simp; omega
        clear e3
        go_wp2
        go_roundw
        case rel => exact ⟨f + 1, by omega, by go_num, hr.out.keep hlt E3.out⟩
        case measure => simp only [intOf]; omega
    · have e : f = n := by omega
      subst e
      go_wp2
      go_end0
      exact ⟨rfl, hr.out.fin⟩

def ahM (z : Nat → Int) (b : Int) : Nat → Int
  | 0 => b
  | k + 1 => m1 z b k
theorem m1_step {z : Nat → Int} {b : Int} (hb : b = 1 ∨ b = 2) {f : Nat} (h : z f = 9) : m1 z b f = if opensB (ahM z b f) = true ∨ ahM z b f = 22 then 13 else ahM z b f := by
  cases f with
  | zero =>
    rcases hb with rfl | rfl <;> simp [m1, ahM, h, opensB]
  | succ k => show (if z (k + 1) = 9 then _ else _) = _; rw [if_pos h]; rfl

set_option maxHeartbeats 1000000 in
theorem implR1 (R g n cp B : Nat) (b : Int) (hb : Hid (b = 1 ∨ b = 2)) (l : List Int) (w : World) (hw : WT w R g n cp b) (hn : Hid (l.length = n)) (hv : OwnI w B (.slice (some ⟨g, 0, none⟩) n cp) l) (hl : n ≤ 80) :
    Calls Tryz.prog 102 #[.pointer (some ⟨R, 0, none⟩)] w fun e w' => e = .returned (.tuple #[]) ∧ Ruled w w' B g n cp (r1 l b) := by
  have HR : Hid (r1 l b = mkL n (m1 (fn l) b)) := by show _ = _; unfold r1; rw [hn.out]
  rw [HR.out]
  have HS : Hid (Ruling w w B g n cp 0 (m1 (fn l) b) (fn l)) := Ruling.start hv
  have HW : Hid _ := hw
  obtain ⟨q0, q1, q2, q3⟩ := hw
  go_enter Tryz.func102, Tryz.ntmps102
  go_wp2
  clear q0 q1
  go_loopw [2, 14] (fun q i wr => ∃ f : Nat, f ≤ n ∧ i = .int .i64 f ∧ q = .int .i64 (ahM (fn l) b f) ∧ Hid (Ruling w wr B g n cp f (m1 (fn l) b) (fn l))) (fun _ i _ => n - (intOf i).toNat)
  case atStart => exact ⟨0, Nat.zero_le _, rfl, rfl, HS⟩
  case round =>
    obtain ⟨f, hf, rfl, rfl, hr⟩ := hrel
    by_cases hlt : f < n
    · have c := hr.out.cell (Nat.le_refl _) hlt
      have fz := hr.out.free f
      obtain ⟨q0, q1, _, _⟩ := hr.out.wt HW.out
      obtain ⟨A, hA⟩ : ∃ A, ahM (fn l) b f = A := ⟨_, rfl⟩
      obtain ⟨A2, hA2⟩ : ∃ A, m1 (fn l) b f = A := ⟨_, rfl⟩
      have HA2 : Hid (ahM (fn l) b (f + 1) = A2) := hA2
      by_cases e9 : fn l f = 9
      · have hst := m1_step hb.out e9
        rw [hA, hA2] at hst
        have H2 : Hid _ := hA2
        rw [hA]
        rw [e9] at c
        clear e9 hA hA2
        by_cases ho : opensB A = true
        · rw [if_pos (.inl ho)] at hst
          subst hst
          have HO : Hid _ := ho
          clear ho
          go_wp2_with (go_at_call 93; refine (implOpens _ _).mono ?_; rintro e w' ⟨rfl, rfl⟩; rw [HO.out])
          go_roundw
          case rel => exact ⟨f + 1, by omega, by go_num, by rw [HA2.out], hr.out.set hlt H2.out⟩
          case measure => simp only [intOf]; omega
        · have ho' : opensB A = false := by simpa using ho
          by_cases h22 : A = 22
          · rw [if_pos (.inr h22)] at hst
            subst hst
            have HO : Hid _ := ho'
            subst h22
            clear ho ho'
            go_wp2_with (go_at_call 93; refine (implOpens _ _).mono ?_; rintro e w' ⟨rfl, rfl⟩; rw [HO.out])
            go_roundw
            case rel => exact ⟨f + 1, by omega, by go_num, by rw [HA2.out], hr.out.set hlt H2.out⟩
            case measure => simp only [intOf]; omega
          · rw [if_neg (by simp [ho', h22])] at hst
            subst hst
            have HO : Hid _ := ho'
            have g22 : (A2 == 22) = false := by simpa using h22
            clear ho ho' h22
            go_wp2_with (go_at_call 93; refine (implOpens _ _).mono ?_; rintro e w' ⟨rfl, rfl⟩; rw [HO.out])
            go_roundw
            case rel => exact ⟨f + 1, by omega, by go_num, by rw [HA2.out], hr.out.set hlt H2.out⟩
            case measure => simp only [intOf]; omega
      · have g9 : (fn l f == 9) = false := by simpa using e9
        have hk := m1_keep (b := b) e9
        have HK : Hid _ := hk
        rw [hA]
        clear e9 hk hA hA2
        go_wp2
        go_roundw
        case rel => exact ⟨f + 1, by omega, by go_num, by show _ = Value.int .i64 (m1 (fn l) b f); rw [HK.out], hr.out.keep hlt HK.out⟩
        case measure => simp only [intOf]; omega
    · have e : f = n := by omega
      subst e
      go_wp2
      go_end0
      exact ⟨rfl, hr.out.fin⟩

set_option maxHeartbeats 1000000 in
theorem implR2 (R g n cp B : Nat) (b : Int) (l : List Int) (w : World) (hw : WT w R g n cp b) (hn : Hid (l.length = n)) (hv : OwnI w B (.slice (some ⟨g, 0, none⟩) n cp) l) (hl : n ≤ 80) :
    Calls Tryz.prog 103 #[.pointer (some ⟨R, 0, none⟩)] w fun e w' => e = .returned (.tuple #[]) ∧ Ruled w w' B g n cp (r2 l b) := by
  have HR : Hid (r2 l b = mkL n (m2 (fn l) b)) := by show _ = _; unfold r2; rw [hn.out]
  rw [HR.out]
  have HS : Hid (Ruling w w B g n cp 0 (m2 (fn l) b) (fn l)) := Ruling.start hv
  have HW : Hid _ := hw
  obtain ⟨q0, q1, q2, q3⟩ := hw
  go_enter Tryz.func103, Tryz.ntmps103
  go_wp2
  clear q0 q1
  go_loopw [2, 14] (fun q i wr => ∃ f : Nat, f ≤ n ∧ i = .int .i64 f ∧ q = .int .i64 (strong (fn l) b f) ∧ Hid (Ruling w wr B g n cp f (m2 (fn l) b) (fn l))) (fun _ i _ => n - (intOf i).toNat)
  case atStart => exact ⟨0, Nat.zero_le _, rfl, rfl, HS⟩
  case round =>
    obtain ⟨f, hf, rfl, rfl, hr⟩ := hrel
    by_cases hlt : f < n
    · have c := hr.out.cell (Nat.le_refl _) hlt
      have fz := hr.out.free f
      obtain ⟨q0, q1, _, _⟩ := hr.out.wt HW.out
      obtain ⟨s, hs⟩ : ∃ s, strong (fn l) b f = s := ⟨_, rfl⟩
      obtain ⟨s2, hs2⟩ : ∃ s, strong (fn l) b (f + 1) = s := ⟨_, rfl⟩
      have HS2 : Hid _ := hs2
      have h2 : s2 = if fn l f = 1 ∨ fn l f = 2 ∨ fn l f = 3 then fn l f else s := by rw [← hs2, ← hs]; rfl
      have h3 : m2 (fn l) b f = if fn l f = 4 ∧ s = 3 then 7 else fn l f := by rw [← hs]; rfl
      rw [hs]
      clear hs hs2
      by_cases e12 : fn l f = 1 ∨ fn l f = 2
      · rw [if_pos (by omega)] at h2
        rw [if_neg (by omega)] at h3
        have HB : Hid (sideB (fn l f) = true) := by show _ = _; simpa [sideB] using e12
        have H3 : Hid _ := h3
        subst h2
        clear e12 h3
        go_wp2_with (go_at_call 101; refine (implSide? _ _).mono ?_; rintro e w' ⟨rfl, rfl⟩; rw [HB.out])
        go_roundw
        case rel => exact ⟨f + 1, by omega, by go_num, by rw [HS2.out], hr.out.keep hlt H3.out⟩
        case measure => simp only [intOf]; omega
      · have HB : Hid (sideB (fn l f) = false) := by show _ = _; simp only [sideB, decide_eq_false_iff_not]; exact e12
        by_cases e3 : fn l f = 3
        · rw [if_pos (by omega)] at h2
          rw [if_neg (by omega)] at h3
          have H3 : Hid _ := h3
          have g3 : (fn l f == 3) = true := by simpa using e3
          subst h2
          clear e12 e3 h3
          go_wp2_with (go_at_call 101; refine (implSide? _ _).mono ?_; rintro e w' ⟨rfl, rfl⟩; rw [HB.out])
          go_roundw
          case rel => exact ⟨f + 1, by omega, by go_num, by rw [HS2.out], hr.out.keep hlt H3.out⟩
          case measure => simp only [intOf]; omega
        · rw [if_neg (by omega)] at h2
          have g3 : (fn l f == 3) = false := by simpa using e3
          by_cases e4 : fn l f = 4
          · have g4 : (fn l f == 4) = true := by simpa using e4
            by_cases es : s = 3
            · rw [if_pos ⟨e4, es⟩] at h3
              have H3 : Hid _ := h3
              have gs : (s == 3) = true := by simpa using es
              subst h2
              clear e12 e3 h3 e4 es
              go_wp2_with (go_at_call 101; refine (implSide? _ _).mono ?_; rintro e w' ⟨rfl, rfl⟩; rw [HB.out])
              go_roundw
              case rel => exact ⟨f + 1, by omega, by go_num, by rw [HS2.out], hr.out.set hlt H3.out⟩
              case measure => simp only [intOf]; omega
            · rw [if_neg (fun h => es h.2)] at h3
              have H3 : Hid _ := h3
              have gs : (s == 3) = false := by simpa using es
              subst h2
              clear e12 e3 h3 e4 es
              go_wp2_with (go_at_call 101; refine (implSide? _ _).mono ?_; rintro e w' ⟨rfl, rfl⟩; rw [HB.out])
              go_roundw
              case rel => exact ⟨f + 1, by omega, by go_num, by rw [HS2.out], hr.out.keep hlt H3.out⟩
              case measure => simp only [intOf]; omega
          · rw [if_neg (fun h => e4 h.1)] at h3
            have g4 : (fn l f == 4) = false := by simpa using e4
            have H3 : Hid _ := h3
            subst h2
            clear e12 e3 h3 e4
            go_wp2_with (go_at_call 101; refine (implSide? _ _).mono ?_; rintro e w' ⟨rfl, rfl⟩; rw [HB.out])
            go_roundw
            case rel => exact ⟨f + 1, by omega, by go_num, by rw [HS2.out], hr.out.keep hlt H3.out⟩
            case measure => simp only [intOf]; omega
    · have e : f = n := by omega
      subst e
      go_wp2
      go_end0
      exact ⟨rfl, hr.out.fin⟩

set_option maxHeartbeats 1000000 in
theorem implR7 (R g n cp B : Nat) (b : Int) (l : List Int) (w : World) (hw : WT w R g n cp b) (hn : Hid (l.length = n)) (hv : OwnI w B (.slice (some ⟨g, 0, none⟩) n cp) l) (hl : n ≤ 80) (hno : Hid (∀ j, j < n → fn l j ≠ 3)) :
    Calls Tryz.prog 108 #[.pointer (some ⟨R, 0, none⟩)] w fun e w' => e = .returned (.tuple #[]) ∧ Ruled w w' B g n cp (r7 l b) := by
  have HR : Hid (r7 l b = mkL n (m7 (fn l) b)) := by show _ = _; unfold r7; rw [hn.out]
  rw [HR.out]
  have HS : Hid (Ruling w w B g n cp 0 (m7 (fn l) b) (fn l)) := Ruling.start hv
  have HW : Hid _ := hw
  obtain ⟨q0, q1, q2, q3⟩ := hw
  go_enter Tryz.func108, Tryz.ntmps108
  go_wp2
  clear q0 q1
  go_loopw [2, 14] (fun q i wr => ∃ f : Nat, f ≤ n ∧ i = .int .i64 f ∧ q = .int .i64 (strong (fn l) b f) ∧ Hid (Ruling w wr B g n cp f (m7 (fn l) b) (fn l))) (fun _ i _ => n - (intOf i).toNat)
  case atStart => exact ⟨0, Nat.zero_le _, rfl, rfl, HS⟩
  case round =>
    obtain ⟨f, hf, rfl, rfl, hr⟩ := hrel
    by_cases hlt : f < n
    · have c := hr.out.cell (Nat.le_refl _) hlt
      have fz := hr.out.free f
      obtain ⟨q0, q1, _, _⟩ := hr.out.wt HW.out
      obtain ⟨s, hs⟩ : ∃ s, strong (fn l) b f = s := ⟨_, rfl⟩
      obtain ⟨s2, hs2⟩ : ∃ s, strong (fn l) b (f + 1) = s := ⟨_, rfl⟩
      have HS2 : Hid _ := hs2
      have h2 : s2 = if fn l f = 1 ∨ fn l f = 2 ∨ fn l f = 3 then fn l f else s := by rw [← hs2, ← hs]; rfl
      have h3 : m7 (fn l) b f = if fn l f = 4 ∧ s = 1 then 1 else fn l f := by rw [← hs]; rfl
      rw [hs]
      clear hs hs2
      have e3 := hno.out f hlt
      by_cases e12 : fn l f = 1 ∨ fn l f = 2
      · rw [if_pos (by omega)] at h2
        rw [if_neg (by omega)] at h3
        have HB : Hid (sideB (fn l f) = true) := by show _ = _; simpa [sideB] using e12
        have H3 : Hid _ := h3
        subst h2
        clear e12 h3 e3
        go_wp2_with (go_at_call 101; refine (implSide? _ _).mono ?_; rintro e w' ⟨rfl, rfl⟩; rw [HB.out])
        go_roundw
        case rel => exact ⟨f + 1, by omega, by go_num, by rw [HS2.out], hr.out.keep hlt H3.out⟩
        case measure => simp only [intOf]; omega
      · have HB : Hid (sideB (fn l f) = false) := by show _ = _; simp only [sideB, decide_eq_false_iff_not]; exact e12
        rw [if_neg (by omega)] at h2
        by_cases e4 : fn l f = 4
        · have g4 : (fn l f == 4) = true := by simpa using e4
          by_cases es : s = 1
          · rw [if_pos ⟨e4, es⟩] at h3
            have H3 : Hid _ := h3
            have gs : (s == 1) = true := by simpa using es
            subst h2
            clear e12 e3 h3 e4 es
            go_wp2_with (go_at_call 101; refine (implSide? _ _).mono ?_; rintro e w' ⟨rfl, rfl⟩; rw [HB.out])
            go_roundw
            case rel => exact ⟨f + 1, by omega, by go_num, by rw [HS2.out], hr.out.set hlt H3.out⟩
            case measure => simp only [intOf]; omega
          · rw [if_neg (fun h => es h.2)] at h3
            have H3 : Hid _ := h3
            have gs : (s == 1) = false := by simpa using es
            subst h2
            clear e12 e3 h3 e4 es
            go_wp2_with (go_at_call 101; refine (implSide? _ _).mono ?_; rintro e w' ⟨rfl, rfl⟩; rw [HB.out])
            go_roundw
            case rel => exact ⟨f + 1, by omega, by go_num, by rw [HS2.out], hr.out.keep hlt H3.out⟩
            case measure => simp only [intOf]; omega
        · rw [if_neg (fun h => e4 h.1)] at h3
          have g4 : (fn l f == 4) = false := by simpa using e4
          have H3 : Hid _ := h3
          subst h2
          clear e12 e3 h3 e4
          go_wp2_with (go_at_call 101; refine (implSide? _ _).mono ?_; rintro e w' ⟨rfl, rfl⟩; rw [HB.out])
          go_roundw
          case rel => exact ⟨f + 1, by omega, by go_num, by rw [HS2.out], hr.out.keep hlt H3.out⟩
          case measure => simp only [intOf]; omega
    · have e : f = n := by omega
      subst e
      go_wp2
      go_end0
      exact ⟨rfl, hr.out.fin⟩
end Go.Proofs.YtgojdlbidjnmmabGreat
namespace Go.Proofs.YtgojdlbidjnmmabGreat
open Go.ChangeShapes Go.WideShapes Go.ChangeAt Go.RowKit
set_option linter.unusedSimpArgs false

set_option maxHeartbeats 2000000 in
theorem fill_at (g i m cq n cap : Nat) (l : List Int) (B : Nat) (x : Int) (w : World) (hv : OwnI w B (.slice (some ⟨g, 0, none⟩) n cap) l) (him : i + m ≤ n) (hl : n ≤ 1048576) :
    Calls Tryz.prog 115 #[.slice (some ⟨g, i, none⟩) m cq, .int .i64 x] w fun e w' => e = .returned (.tuple #[]) ∧ (∃ l', OwnI w' B (.slice (some ⟨g, 0, none⟩) n cap) l' ∧ Hid (∀ j, j < n → fn l' j = if i ≤ j ∧ j < i + m then x else fn l j)) ∧ w.grownBy w' (some g) ∧ w'.heap.size = w.heap.size := by
  go_enter Tryz.func115, Tryz.ntmps115
  go_wp2
  go_loopw [7] (fun q wr => ∃ (k : Nat) (l' : List Int), k ≤ m ∧ q = .int .i64 k ∧ OwnI wr B (.slice (some ⟨g, 0, none⟩) n cap) l' ∧ Hid (∀ j, j < n → fn l' j = if i ≤ j ∧ j < i + k then x else fn l j) ∧ w.grownBy wr (some g) ∧ Hid (wr.heap.size = w.heap.size)) (fun q _ => m - (intOf q).toNat)
  case atStart => exact ⟨0, l, Nat.zero_le _, rfl, hv, fun j hj => by rw [if_neg (by omega)], ⟨rfl, rfl, rfl, Nat.le_refl _, fun _ _ _ => rfl⟩, rfl⟩
  case round =>
    obtain ⟨k, l', hm, rfl, hown, hsame, hgr, hsz⟩ := hrel
    by_cases hlt : k < m
    · have hf : wr.frozen? ⟨g, i + k, none⟩ = false := hown.frozenN _
      have hc2 : wr.cell? ⟨g, i + k, none⟩ = some (.int .i64 (fn l' (i + k))) := hown.cellN _ (by omega)
      go_wp2
      go_roundw
      case rel =>
        refine ⟨k + 1, l'.set (i + k) x, by omega, by go_num, hown.storedN _ _, fun j hj => ?_, ?_, ?_⟩
        · have e := hown.len
          by_cases ej : j = i + k
          · subst ej; rw [fn_set_same (by omega), if_pos (by omega)]
          · rw [fn_set_other (by omega), hsame.out j hj]
            by_cases e2 : i ≤ j ∧ j < i + k
            · rw [if_pos e2, if_pos (by omega)]
            · rw [if_neg e2, if_neg (by omega)]
        · exact ⟨hgr.os, hgr.tape, hgr.output, by simpa using hgr.size, fun y hy hne => (heap_setCell_other wr ⟨g, i + k, none⟩ y _ (fun e => hne (by rw [e]))).trans (hgr.block y hy hne)⟩
        · show (wr.setCell _ _).heap.size = w.heap.size
          rw [World.size_setCell]; exact hsz.out
      case measure => simp only [intOf]; omega
    · have e : k = m := by omega
      subst e
      go_wp2
      go_end0
      exact ⟨rfl, ⟨l', hown, hsame⟩, hgr, hsz.out⟩
end Go.Proofs.YtgojdlbidjnmmabGreat
namespace Go.Proofs.YtgojdlbidjnmmabGreat
open Go.ChangeShapes Go.WideShapes Go.ChangeAt Go.RowKit
set_option linter.unusedSimpArgs false

theorem m4_keep {z : Nat → Int} {n k : Nat} (h : btw (m4 z n k) (z (k + 1)) (z (k + 2)) = false) : m4 z n (k + 1) = z (k + 1) := by
  show (if _ then _ else _) = _
  rw [if_neg (by simp [h])]
theorem m4_end {z : Nat → Int} {n k : Nat} (h : ¬ k + 2 < n) : m4 z n (k + 1) = z (k + 1) := by
  show (if _ then _ else _) = _
  rw [if_neg (by simp [h])]
theorem m4_take {z : Nat → Int} {n k : Nat} (hn : k + 2 < n) (h : btw (m4 z n k) (z (k + 1)) (z (k + 2)) = true) : m4 z n (k + 1) = m4 z n k := by
  show (if _ then _ else _) = _
  rw [if_pos ⟨hn, h⟩]

set_option maxHeartbeats 2000000 in
theorem implR4 (R g n cp B : Nat) (b : Int) (l : List Int) (w : World) (hw : WT w R g n cp b) (hn : Hid (l.length = n)) (hv : OwnI w B (.slice (some ⟨g, 0, none⟩) n cp) l) (hn0 : 0 < n) (hl : n ≤ 80) :
    Calls Tryz.prog 105 #[.pointer (some ⟨R, 0, none⟩)] w fun e w' => e = .returned (.tuple #[]) ∧ Ruled w w' B g n cp (r4 l) := by
  have HR : Hid (r4 l = mkL n (m4 (fn l) n)) := by show _ = _; unfold r4; rw [hn.out]
  rw [HR.out]
  have HS : Hid (Ruling w w B g n cp 1 (m4 (fn l) n) (fn l)) := Ruling.keep (Ruling.start hv) hn0 rfl
  have HW : Hid _ := hw
  obtain ⟨q0, q1, q2, q3⟩ := hw
  go_enter Tryz.func105, Tryz.ntmps105
  go_wp2
  clear q0 q1
  go_loopw [2] (fun i wr => ∃ k : Nat, k + 1 ≤ n ∧ i = .int .i64 ((k : Int) + 1) ∧ Hid (Ruling w wr B g n cp (k + 1) (m4 (fn l) n) (fn l))) (fun i _ => n - (intOf i).toNat)
  case atStart => exact ⟨0, by omega, rfl, HS⟩
  case round =>
    obtain ⟨k, hk, rfl, hr⟩ := hrel
    obtain ⟨q0, q1, _, _⟩ := hr.out.wt HW.out
    by_cases hlt : k + 2 < n
    · have cA := hr.out.done (j := k) (by omega) (by omega)
      have cC := hr.out.cell (j := k + 1) (by omega) (by omega)
      have cD := hr.out.cell (j := k + 2) (by omega) (by omega)
      have fz := hr.out.free (k + 1)
      have HT := fun h => m4_take (z := fn l) (n := n) (k := k) hlt h
      have HK := fun h => m4_keep (z := fn l) (n := n) (k := k) h
      obtain ⟨A, hA⟩ : ∃ A, m4 (fn l) n k = A := ⟨_, rfl⟩
      obtain ⟨C, hC⟩ : ∃ A, fn l (k + 1) = A := ⟨_, rfl⟩
      obtain ⟨D, hD⟩ : ∃ A, fn l (k + 2) = A := ⟨_, rfl⟩
      rw [hA] at cA
      rw [hC] at cC
      rw [hD] at cD
      rw [hA, hC, hD] at HT HK
      have HC : Hid _ := hC
      have HT2 : Hid _ := HT
      have HK2 : Hid _ := HK
      clear hA hC hD HT HK
      have hi1 : ((k : Int) + 1 + 1 < (n : Int)) := by omega
      have hi2 : ((k : Int) + 1 < (n : Int)) := by omega
      have hi3 : ((k : Int) < (n : Int)) := by omega
      by_cases hAD : A = D
      · subst hAD
        have gAD : (A != A) = false := by simp
        by_cases hb : btw A C A = true
        · have hm := HT2.out hb
          have HM : Hid _ := hm
          unfold btw at hb
          rw [decide_eq_true_eq] at hb
          clear HT2 HK2 hm gAD
          rcases hb.2 with ⟨rfl, rfl | rfl⟩ | ⟨rfl, rfl⟩
          all_goals
            clear hb
            go_wp2
            go_quiet (fail)
            go_wp2
            go_roundw
            case rel => exact ⟨k + 1, by omega, by go_num, (hr.out.drewN _).set (by omega) HM.out⟩
            case measure => simp only [intOf]; omega
        · have hb' : btw A C A = false := by simpa using hb
          have hm := HK2.out hb'
          have HM : Hid (m4 (fn l) n (k + 1) = fn l (k + 1)) := by show _ = _; rw [hm, HC.out]
          unfold btw at hb'
          rw [decide_eq_false_iff_not] at hb'
          clear HT2 HK2 hm hb
          by_cases e4 : A = 4
          · subst e4
            have g5 : (C == 5) = false := by simp; omega
            have g8 : (C == 8) = false := by simp; omega
            clear hb'
            go_wp2
            go_quiet (fail)
            go_wp2
            go_roundw
            case rel => exact ⟨k + 1, by omega, by go_num, (hr.out.drewN _).keep (by omega) HM.out⟩
            case measure => simp only [intOf]; omega
          · have g4 : (A == 4) = false := by simpa using e4
            by_cases e7 : A = 7
            · subst e7
              have g8 : (C == 8) = false := by simp; omega
              clear hb' e4
              go_wp2
              go_quiet (fail)
              go_wp2
              go_roundw
              case rel => exact ⟨k + 1, by omega, by go_num, (hr.out.drewN _).keep (by omega) HM.out⟩
              case measure => simp only [intOf]; omega
            · have g7 : (A == 7) = false := by simpa using e7
              clear hb' e4 e7
              go_wp2
              go_quiet (fail)
              go_wp2
              go_roundw
              case rel => exact ⟨k + 1, by omega, by go_num, (hr.out.drewN _).keep (by omega) HM.out⟩
              case measure => simp only [intOf]; omega
      · have gAD : (A != D) = true := by simpa using hAD
        have hm := HK2.out (by unfold btw; rw [decide_eq_false_iff_not]; exact fun h => hAD h.1)
        have HM : Hid (m4 (fn l) n (k + 1) = fn l (k + 1)) := by show _ = _; rw [hm, HC.out]
        clear HT2 HK2 hm hAD
        go_wp2
        go_quiet (fail)
        go_wp2
        go_roundw
        case rel => exact ⟨k + 1, by omega, by go_num, (hr.out.drewN _).keep (by omega) HM.out⟩
        case measure => simp only [intOf]; omega
    · have hi1 : ¬ ((k : Int) + 1 + 1 < (n : Int)) := by omega
      have hfin : Ruling w wr B g n cp n (m4 (fn l) n) (fn l) := by
        by_cases e : k + 1 = n
        · rw [← e]; rw [← e] at hr; exact hr.out
        · have := hr.out.keep (by omega) (m4_end (z := fn l) hlt)
          rwa [show k + 1 + 1 = n by omega] at this
      have HF : Hid _ := hfin
      clear hfin
      go_wp2
      go_end0
      exact ⟨rfl, Ruling.fin (m := m4 (fn l) n) (z := fn l) HF.out⟩
end Go.Proofs.YtgojdlbidjnmmabGreat
namespace Go.Proofs.YtgojdlbidjnmmabGreat
open Go.ChangeShapes Go.WideShapes Go.ChangeAt Go.RowKit
set_option linter.unusedSimpArgs false

theorem m5_six {z : Nat → Int} {n f : Nat} (h : z f = 6) : m5 z n f = if ah6 z f = 4 ∨ bh6 z n (n - f) = 4 then 4 else 6 := by
  unfold m5; rw [h]; simp
theorem m5_not {z : Nat → Int} {n f : Nat} (h : z f ≠ 6) : m5 z n f = z f := by
  unfold m5; rw [if_neg (fun a => h a.1)]
theorem m5_cond {z : Nat → Int} {n f t : Nat} (hft : f < t) (htn : t ≤ n) (hrun : ∀ j, f ≤ j → j < t → z j = 6) (hend : t = n ∨ z t ≠ 6) :
    (0 < f ∧ m5 z n (f - 1) = 4) ∨ (t < n ∧ z t = 4) ↔ m5 z n f = 4 := by
  have hb : bh6 z n (n - f) = 4 ↔ (t < n ∧ z t = 4) := by
    rw [bh6_run (by omega) htn hrun]
    rcases hend with rfl | h
    · simp [bh6]
    · by_cases e : t < n
      · rw [bh6_hit e h]; simp [e]
      · rw [show n - t = 0 by omega]; simp [bh6, e]
  have hf : m5 z n f = 4 ↔ (ah6 z f = 4 ∨ (t < n ∧ z t = 4)) := by
    rw [m5_six (hrun f (Nat.le_refl _) hft), ← hb]
    split <;> simp_all
  rw [hf]
  cases f with
  | zero => simp [ah6]
  | succ k =>
    simp only [ah6, Nat.add_sub_cancel, Nat.succ_pos, true_and]
    by_cases e : z k = 6
    · rw [if_pos e]
      have hk : m5 z n k = 4 ↔ (ah6 z k = 4 ∨ (t < n ∧ z t = 4)) := by
        rw [m5_six e, bh6_step (by omega) e, ← hb]
        split <;> simp_all
      rw [hk, or_assoc, or_self]
    · rw [if_neg e, m5_not e]
theorem m5_same {z : Nat → Int} {n f t : Nat} (htn : t ≤ n) (hrun : ∀ j, f ≤ j → j < t → z j = 6) {j : Nat} (h1 : f ≤ j) (h2 : j < t) : m5 z n j = m5 z n f := by
  rw [m5_run htn hrun h1 h2, m5_run htn hrun (Nat.le_refl _) (by omega)]
theorem m5_46 {z : Nat → Int} {n f : Nat} (h : z f = 6) : m5 z n f = 4 ∨ m5 z n f = 6 := by
  rw [m5_six h]; split <;> simp
theorem Ruling.run {w wr : World} {B g n cp f t : Nat} {m z : Nat → Int} (h : Ruling w wr B g n cp f m z) (hft : f ≤ t) (htn : t ≤ n) (hm : ∀ j, f ≤ j → j < t → m j = z j) : Ruling w wr B g n cp t m z := by
  obtain ⟨L, a, b, c, d⟩ := h
  refine ⟨L, a, ⟨fun j hj => ?_, fun j h1 h2 => b.2 j (by omega) h2⟩, c, d⟩
  by_cases e : j < f
  · exact b.1 j e
  · rw [b.2 j (by omega) (by omega), hm j (by omega) hj]
theorem ruling_fill {w wr w7 : World} {B g n cp f t : Nat} {m z : Nat → Int} {L L7 : List Int} {x : Int} (hup : upTo m z n f L) (hgr : w.grownBy wr (some g)) (hsz : wr.heap.size = w.heap.size)
    (hown7 : OwnI w7 B (.slice (some ⟨g, 0, none⟩) n cp) L7) (h7 : ∀ j, j < n → fn L7 j = if f ≤ j ∧ j < f + (t - f) then x else fn L j) (hgr7 : wr.grownBy w7 (some g)) (hsz7 : w7.heap.size = wr.heap.size)
    (hft : f ≤ t) (htn : t ≤ n) (hm : ∀ j, f ≤ j → j < t → m j = x) : Ruling w w7 B g n cp t m z := by
  refine ⟨L7, hown7, ⟨fun j hj => ?_, fun j h1 h2 => ?_⟩, grown_trans' hgr hgr7, by omega⟩
  · rw [h7 j (by omega)]
    by_cases e : f ≤ j
    · rw [if_pos (by omega), hm j e hj]
    · rw [if_neg (by omega)]; exact hup.1 j (by omega)
  · rw [h7 j h2, if_neg (by omega)]; exact hup.2 j (by omega) h2

set_option maxRecDepth 10000 in
set_option maxHeartbeats 4000000 in
theorem implR5 (R g n cp B : Nat) (b : Int) (l : List Int) (w : World) (hw : WT w R g n cp b) (hn : Hid (l.length = n)) (hv : OwnI w B (.slice (some ⟨g, 0, none⟩) n cp) l) (hl : n ≤ 80) (hcp : n ≤ cp) :
    Calls Tryz.prog 106 #[.pointer (some ⟨R, 0, none⟩)] w fun e w' => e = .returned (.tuple #[]) ∧ Ruled w w' B g n cp (r5 l) := by
  have HR : Hid (r5 l = mkL n (m5 (fn l) n)) := by show _ = _; unfold r5; rw [hn.out]
  rw [HR.out]
  have HS : Hid (Ruling w w B g n cp 0 (m5 (fn l) n) (fn l)) := Ruling.start hv
  have HW : Hid _ := hw
  obtain ⟨q0, q1, q2, q3⟩ := hw
  go_enter Tryz.func106, Tryz.ntmps106
  go_wp2
  clear q0 q1
  go_loopw [2] (fun i wr => ∃ f : Nat, f ≤ n ∧ i = .int .i64 f ∧ Hid (Ruling w wr B g n cp f (m5 (fn l) n) (fn l))) (fun i _ => n - (intOf i).toNat)
  case atStart => exact ⟨0, Nat.zero_le _, rfl, HS⟩
  case round =>
    obtain ⟨f, hf, rfl, hr⟩ := hrel
    obtain ⟨wo, rfl⟩ : ∃ wo : World, wo = wr := ⟨_, rfl⟩
    obtain ⟨q0, q1, _, _⟩ := hr.out.wt HW.out
    by_cases hlt : f < n
    · have c := hr.out.cell (Nat.le_refl _) hlt
      have hfi : (f : Int) < (n : Int) := by omega
      by_cases e6 : fn l f = 6
      · rw [e6] at c
        have H6 : Hid _ := e6
        clear e6
        go_wp2
        go_loop [3] (fun t => ∃ (t' : Nat), f < t' ∧ t' ≤ n ∧ t = .int .i64 t' ∧ Hid (∀ j, f ≤ j → j < t' → fn l j = 6)) (fun t => n - (intOf t).toNat)
        case atStart => exact ⟨f + 1, by omega, by omega, by go_num, fun j h1 h2 => by
          have : j = f := by omega
          subst this; exact H6.out⟩
        case round =>
          obtain ⟨t, hft, htn, rfl, hrun⟩ := hrel
          have g1 : (f : Int) ≤ (t : Int) := by omega
          have g2 : (t : Int) ≤ (cp : Int) := by omega
          have g3 : (f : Int) < (cp : Int) := by omega
          by_cases hmore : t < n ∧ fn l t = 6
          · obtain ⟨htl, e6⟩ := hmore
            have ct := hr.out.cell (j := t) (by omega) htl
            rw [e6] at ct
            have hti : (t : Int) < (n : Int) := by omega
            have H6t : Hid _ := e6
            clear e6
            go_wp2
            refine ⟨⟨t + 1, by omega, by omega, by go_num, fun j h1 h2 => ?_⟩, by simp only [intOf]; omega⟩
            by_cases e : j = t
            · subst e; exact H6t.out
            · exact hrun.out j h1 (by omega)
          · have hend : t = n ∨ fn l t ≠ 6 := by omega
            have hc := m5_cond (z := fn l) (n := n) hft htn hrun.out hend
            have HC : Hid _ := hc
            have HRUN : Hid (Ruling w wo B g n cp f (m5 (fn l) n) (fn l)) := hr
            by_cases hcnd : (0 < f ∧ m5 (fn l) n (f - 1) = 4) ∨ (t < n ∧ fn l t = 4)
            · have h4 : Hid (∀ j, f ≤ j → j < t → m5 (fn l) n j = 4) := fun j h1 h2 => by rw [m5_same htn hrun.out h1 h2]; exact hc.1 hcnd
              obtain ⟨L, hown, hup, hgr, hsz⟩ := hr.out
              have HUP : Hid _ := hup
              have HSZ : Hid _ := hsz
              clear hc hup hsz
              by_cases hA : 0 < f ∧ m5 (fn l) n (f - 1) = 4
              · obtain ⟨hf0, hA4⟩ := hA
                have cp1 := HRUN.out.done (j := f - 1) (by omega) (by omega)
                rw [hA4] at cp1
                obtain ⟨k, rfl⟩ : ∃ k, f = k + 1 := ⟨f - 1, by omega⟩
                simp only [Nat.add_sub_cancel] at cp1
                have hk0 : (0 : Int) < (k : Int) + 1 := by omega
                clear hcnd hA4
                by_cases htl : t < n
                · have ct := HRUN.out.cell (j := t) (by omega) htl
                  have hti : (t : Int) < (n : Int) := by omega
                  have g6 : (fn l t == 6) = false := by simp; omega
                  clear hmore hend
                  go_wp2_with (go_at_call 115; refine (fill_at g (k + 1) (t - (k + 1)) _ n cp L _ 4 _ hown (by omega) (by omega)).mono ?_; rintro e w7 ⟨rfl, ⟨L7, hown7, hL7⟩, hgr7, hsz7⟩)
                  refine ⟨⟨t, by omega, by go_num, ruling_fill HUP.out hgr HSZ.out hown7 hL7.out hgr7 hsz7 (by omega) htn h4.out⟩, by simp only [intOf]; omega⟩
                · have hti : ¬ (t : Int) < (n : Int) := by omega
                  clear hmore hend
                  go_wp2_with (go_at_call 115; refine (fill_at g (k + 1) (t - (k + 1)) _ n cp L _ 4 _ hown (by omega) (by omega)).mono ?_; rintro e w7 ⟨rfl, ⟨L7, hown7, hL7⟩, hgr7, hsz7⟩)
                  refine ⟨⟨t, by omega, by go_num, ruling_fill HUP.out hgr HSZ.out hown7 hL7.out hgr7 hsz7 (by omega) htn h4.out⟩, by simp only [intOf]; omega⟩
              · obtain ⟨htl, e4⟩ : t < n ∧ fn l t = 4 := by
                  rcases hcnd with h | h
                  · exact absurd h hA
                  · exact h
                have ct := HRUN.out.cell (j := t) (by omega) htl
                rw [e4] at ct
                have hti : (t : Int) < (n : Int) := by omega
                clear hmore hend hcnd e4
                by_cases hf0 : f = 0
                · subst hf0
                  clear hA
                  go_wp2_with (go_at_call 115; refine (fill_at g 0 (t - 0) _ n cp L _ 4 _ hown (by omega) (by omega)).mono ?_; rintro e w7 ⟨rfl, ⟨L7, hown7, hL7⟩, hgr7, hsz7⟩)
                  refine ⟨⟨t, by omega, by go_num, ruling_fill HUP.out hgr HSZ.out hown7 hL7.out hgr7 hsz7 (by omega) htn h4.out⟩, by simp only [intOf]; omega⟩
                · have cp1 := HRUN.out.done (j := f - 1) (by omega) (by omega)
                  obtain ⟨P, hP⟩ : ∃ P, m5 (fn l) n (f - 1) = P := ⟨_, rfl⟩
                  have gP : (P == 4) = false := by simp; rw [← hP]; intro h; exact hA ⟨by omega, h⟩
                  rw [hP] at cp1
                  clear hA hP
                  obtain ⟨k, rfl⟩ : ∃ k, f = k + 1 := ⟨f - 1, by omega⟩
                  simp only [Nat.add_sub_cancel] at cp1
                  have hk0 : (0 : Int) < (k : Int) + 1 := by omega
                  go_wp2_with (go_at_call 115; refine (fill_at g (k + 1) (t - (k + 1)) _ n cp L _ 4 _ hown (by omega) (by omega)).mono ?_; rintro e w7 ⟨rfl, ⟨L7, hown7, hL7⟩, hgr7, hsz7⟩)
                  refine ⟨⟨t, by omega, by go_num, ruling_fill HUP.out hgr HSZ.out hown7 hL7.out hgr7 hsz7 (by omega) htn h4.out⟩, by simp only [intOf]; omega⟩
            · have h6 : Hid (Ruling w wo B g n cp t (m5 (fn l) n) (fn l)) := hr.out.run (by omega) htn (fun j h1 h2 => by
                rw [m5_same htn hrun.out h1 h2, hrun.out j h1 h2]
                rcases m5_46 (z := fn l) (n := n) (hrun.out f (Nat.le_refl _) hft) with h | h
                · exact absurd (hc.2 h) hcnd
                · exact h)
              clear hc
              by_cases htl : t < n
              · have ct := HRUN.out.cell (j := t) (by omega) htl
                have hti : (t : Int) < (n : Int) := by omega
                have g6 : (fn l t == 6) = false := by simp; omega
                have g4 : (fn l t == 4) = false := by simp; intro h; exact hcnd (.inr ⟨htl, h⟩)
                by_cases hf0 : f = 0
                · subst hf0
                  clear hmore hend hcnd
                  go_wp2
                  refine ⟨⟨t, by omega, by go_num, h6⟩, by simp only [intOf]; omega⟩
                · have cp1 := HRUN.out.done (j := f - 1) (by omega) (by omega)
                  obtain ⟨P, hP⟩ : ∃ P, m5 (fn l) n (f - 1) = P := ⟨_, rfl⟩
                  have gP : (P == 4) = false := by simp; rw [← hP]; intro h; exact hcnd (.inl ⟨by omega, h⟩)
                  rw [hP] at cp1
                  clear hP hmore hend hcnd
                  obtain ⟨k, rfl⟩ : ∃ k, f = k + 1 := ⟨f - 1, by omega⟩
                  simp only [Nat.add_sub_cancel] at cp1
                  have hk0 : (0 : Int) < (k : Int) + 1 := by omega
                  go_wp2
                  refine ⟨⟨t, by omega, by go_num, h6⟩, by simp only [intOf]; omega⟩
              · have hti : ¬ (t : Int) < (n : Int) := by omega
                by_cases hf0 : f = 0
                · subst hf0
                  clear hmore hend hcnd
                  go_wp2
                  refine ⟨⟨t, by omega, by go_num, h6⟩, by simp only [intOf]; omega⟩
                · have cp1 := HRUN.out.done (j := f - 1) (by omega) (by omega)
                  obtain ⟨P, hP⟩ : ∃ P, m5 (fn l) n (f - 1) = P := ⟨_, rfl⟩
                  have gP : (P == 4) = false := by simp; rw [← hP]; intro h; exact hcnd (.inl ⟨by omega, h⟩)
                  rw [hP] at cp1
                  clear hP hmore hend hcnd
                  obtain ⟨k, rfl⟩ : ∃ k, f = k + 1 := ⟨f - 1, by omega⟩
                  simp only [Nat.add_sub_cancel] at cp1
                  have hk0 : (0 : Int) < (k : Int) + 1 := by omega
                  go_wp2
                  refine ⟨⟨t, by omega, by go_num, h6⟩, by simp only [intOf]; omega⟩
      · have g6 : (fn l f != 6) = true := by simpa using e6
        have HK : Hid _ := m5_not (z := fn l) (n := n) e6
        clear e6
        go_wp2
        go_roundw
        case rel => exact ⟨f + 1, by omega, by go_num, hr.out.keep hlt HK.out⟩
        case measure => simp only [intOf]; omega
    · have e : f = n := by omega
      subst e
      go_wp2
      go_end0
      exact ⟨rfl, hr.out.fin⟩
end Go.Proofs.YtgojdlbidjnmmabGreat
