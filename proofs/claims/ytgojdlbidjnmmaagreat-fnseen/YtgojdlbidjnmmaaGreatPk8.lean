import Derived.Lib.SliceRun
import Derived.Deep.RegionWith
import Derived.Deep.DrawnRows
import Derived.Test.YtgojdlbidjnmmaaGreatPk7
namespace Go.Proofs.YtgojdlbidjnmmaaGreat
open Go.ChangeShapes Go.WideShapes Go.ChangeAt Go.RowKit
set_option linter.unusedSimpArgs false

theorem Ruling.drewN {w wr : World} {B g n cp f : Nat} {m z : Nat → Int} (h : Ruling w wr B g n cp f m z) (k : Nat) : Ruling w (wr.drewN k) B g n cp f m z := by
  obtain ⟨L, a, b, c, d⟩ := h
  exact ⟨L, a.drewN k, b, ⟨c.os, c.tape, c.output, c.size, c.block⟩, d⟩

set_option maxHeartbeats 1000000 in
theorem implR6 (R g n cp B : Nat) (b : Int) (l : List Int) (w : World) (hw : WT w R g n cp b) (hn : Hid (l.length = n)) (hv : OwnI w B (.slice (some ⟨g, 0, none⟩) n cp) l) (hl : n ≤ 80) :
    Calls Tryz.prog 105 #[.pointer (some ⟨R, 0, none⟩)] w fun e w' => e = .returned (.tuple #[]) ∧ Ruled w w' B g n cp (r6 l) := by
  have HR : Hid (r6 l = mkL n (m6 (fn l))) := by show _ = _; unfold r6; rw [hn.out]
  rw [HR.out]
  have HS : Hid (Ruling w w B g n cp 0 (m6 (fn l)) (fn l)) := Ruling.start hv
  have HW : Hid _ := hw
  obtain ⟨q0, q1, q2, q3⟩ := hw
  go_enter Tryz.func105, Tryz.ntmps105
  go_wp2
  clear q0 q1
  go_loopw [9] (fun i wr => ∃ f : Nat, f ≤ n ∧ i = .int .i64 f ∧ Hid (Ruling w wr B g n cp f (m6 (fn l)) (fn l))) (fun i _ => n - (intOf i).toNat)
  case atStart => exact ⟨0, Nat.zero_le _, rfl, HS⟩
  case round =>
    obtain ⟨f, hf, rfl, hr⟩ := hrel
    by_cases hlt : f < n
    · have c := hr.out.cell (Nat.le_refl _) hlt
      have fz := hr.out.free f
      obtain ⟨q0, q1, _, _⟩ := hr.out.wt HW.out
      by_cases e3 : fn l f = 5 ∨ fn l f = 6 ∨ fn l f = 8
      · have E3 : Hid (m6 (fn l) f = 13) := by show _ = _; unfold m6; rw [if_pos e3]
        rcases e3 with e3 | e3 | e3
        all_goals
          rw [e3] at c
          clear e3
          go_wp2
          go_roundw
          case rel => exact ⟨f + 1, by omega, by go_num, hr.out.set hlt E3.out⟩
          case measure => simp only [intOf]; omega
      · have E3 : Hid (m6 (fn l) f = fn l f) := by show _ = _; unfold m6; rw [if_neg e3]
        have g5 : (fn l f == 5) = false := by simp; omega
        have g6 : (fn l f == 6) = false := by simp; omega
        have g8 : (fn l f == 8) = false := by simp; omega
        clear e3
        go_wp2
        go_roundw
        case rel => exact ⟨f + 1, by omega, by go_num, hr.out.keep hlt E3.out⟩
        case measure => simp only [intOf]; omega
    · have e : f = n := by omega
      subst e
      go_wp2
      go_end0
      exact ⟨rfl, hr.out.fin⟩

def ahM (z : Nat → Int) (b : Int) : Nat → Int
  | 0 => b
  | k + 1 => m1 z b k
theorem m1_step {z : Nat → Int} {b : Int} (hb : b = 1 ∨ b = 2) {f : Nat} (h : z f = 9) : m1 z b f = if opensB (ahM z b f) = true ∨ ahM z b f = 22 then 13 else ahM z b f := by
  cases f with
  | zero =>
    rcases hb with rfl | rfl <;> simp [m1, ahM, h, opensB]
  | succ k => show (if z (k + 1) = 9 then _ else _) = _; rw [if_pos h]; rfl

set_option maxHeartbeats 1000000 in
theorem implR1 (R g n cp B : Nat) (b : Int) (hb : Hid (b = 1 ∨ b = 2)) (l : List Int) (w : World) (hw : WT w R g n cp b) (hn : Hid (l.length = n)) (hv : OwnI w B (.slice (some ⟨g, 0, none⟩) n cp) l) (hl : n ≤ 80) :
    Calls Tryz.prog 100 #[.pointer (some ⟨R, 0, none⟩)] w fun e w' => e = .returned (.tuple #[]) ∧ Ruled w w' B g n cp (r1 l b) := by
  have HR : Hid (r1 l b = mkL n (m1 (fn l) b)) := by show _ = _; unfold r1; rw [hn.out]
  rw [HR.out]
  have HS : Hid (Ruling w w B g n cp 0 (m1 (fn l) b) (fn l)) := Ruling.start hv
  have HW : Hid _ := hw
  obtain ⟨q0, q1, q2, q3⟩ := hw
  go_enter Tryz.func100, Tryz.ntmps100
  go_wp2
  clear q0 q1
  go_loopw [2, 14] (fun q i wr => ∃ f : Nat, f ≤ n ∧ i = .int .i64 f ∧ q = .int .i64 (ahM (fn l) b f) ∧ Hid (Ruling w wr B g n cp f (m1 (fn l) b) (fn l))) (fun _ i _ => n - (intOf i).toNat)
  case atStart => exact ⟨0, Nat.zero_le _, rfl, rfl, HS⟩
  case round =>
    obtain ⟨f, hf, rfl, rfl, hr⟩ := hrel
    by_cases hlt : f < n
    · have c := hr.out.cell (Nat.le_refl _) hlt
      have fz := hr.out.free f
      obtain ⟨q0, q1, _, _⟩ := hr.out.wt HW.out
      obtain ⟨A, hA⟩ : ∃ A, ahM (fn l) b f = A := ⟨_, rfl⟩
      obtain ⟨A2, hA2⟩ : ∃ A, m1 (fn l) b f = A := ⟨_, rfl⟩
      have HA2 : Hid (ahM (fn l) b (f + 1) = A2) := hA2
      by_cases e9 : fn l f = 9
      · have hst := m1_step hb.out e9
        rw [hA, hA2] at hst
        have H2 : Hid _ := hA2
        rw [hA]
        rw [e9] at c
        clear e9 hA hA2
        by_cases ho : opensB A = true
        · rw [if_pos (.inl ho)] at hst
          subst hst
          have HO : Hid _ := ho
          clear ho
          go_wp2_with (go_at_call 91; refine (implOpens _ _).mono ?_; rintro e w' ⟨rfl, rfl⟩; rw [HO.out])
          go_roundw
          case rel => exact ⟨f + 1, by omega, by go_num, by rw [HA2.out], hr.out.set hlt H2.out⟩
          case measure => simp only [intOf]; omega
        · have ho' : opensB A = false := by simpa using ho
          by_cases h22 : A = 22
          · rw [if_pos (.inr h22)] at hst
            subst hst
            have HO : Hid _ := ho'
            subst h22
            clear ho ho'
            go_wp2_with (go_at_call 91; refine (implOpens _ _).mono ?_; rintro e w' ⟨rfl, rfl⟩; rw [HO.out])
            go_roundw
            case rel => exact ⟨f + 1, by omega, by go_num, by rw [HA2.out], hr.out.set hlt H2.out⟩
            case measure => simp only [intOf]; omega
          · rw [if_neg (by simp [ho', h22])] at hst
            subst hst
            have HO : Hid _ := ho'
            have g22 : (A2 == 22) = false := by simpa using h22
            clear ho ho' h22
            go_wp2_with (go_at_call 91; refine (implOpens _ _).mono ?_; rintro e w' ⟨rfl, rfl⟩; rw [HO.out])
            go_roundw
            case rel => exact ⟨f + 1, by omega, by go_num, by rw [HA2.out], hr.out.set hlt H2.out⟩
            case measure => simp only [intOf]; omega
      · have g9 : (fn l f == 9) = false := by simpa using e9
        have hk := m1_keep (b := b) e9
        have HK : Hid _ := hk
        rw [hA]
        clear e9 hk hA hA2
        go_wp2
        go_roundw
        case rel => exact ⟨f + 1, by omega, by go_num, by show _ = Value.int .i64 (m1 (fn l) b f); rw [HK.out], hr.out.keep hlt HK.out⟩
        case measure => simp only [intOf]; omega
    · have e : f = n := by omega
      subst e
      go_wp2
      go_end0
      exact ⟨rfl, hr.out.fin⟩

set_option maxHeartbeats 1000000 in
theorem implR2 (R g n cp B : Nat) (b : Int) (l : List Int) (w : World) (hw : WT w R g n cp b) (hn : Hid (l.length = n)) (hv : OwnI w B (.slice (some ⟨g, 0, none⟩) n cp) l) (hl : n ≤ 80) :
    Calls Tryz.prog 101 #[.pointer (some ⟨R, 0, none⟩)] w fun e w' => e = .returned (.tuple #[]) ∧ Ruled w w' B g n cp (r2 l b) := by
  have HR : Hid (r2 l b = mkL n (m2 (fn l) b)) := by show _ = _; unfold r2; rw [hn.out]
  rw [HR.out]
  have HS : Hid (Ruling w w B g n cp 0 (m2 (fn l) b) (fn l)) := Ruling.start hv
  have HW : Hid _ := hw
  obtain ⟨q0, q1, q2, q3⟩ := hw
  go_enter Tryz.func101, Tryz.ntmps101
  go_wp2
  clear q0 q1
  go_loopw [2, 14] (fun q i wr => ∃ f : Nat, f ≤ n ∧ i = .int .i64 f ∧ q = .int .i64 (strong (fn l) b f) ∧ Hid (Ruling w wr B g n cp f (m2 (fn l) b) (fn l))) (fun _ i _ => n - (intOf i).toNat)
  case atStart => exact ⟨0, Nat.zero_le _, rfl, rfl, HS⟩
  case round =>
    obtain ⟨f, hf, rfl, rfl, hr⟩ := hrel
    by_cases hlt : f < n
    · have c := hr.out.cell (Nat.le_refl _) hlt
      have fz := hr.out.free f
      obtain ⟨q0, q1, _, _⟩ := hr.out.wt HW.out
      obtain ⟨s, hs⟩ : ∃ s, strong (fn l) b f = s := ⟨_, rfl⟩
      obtain ⟨s2, hs2⟩ : ∃ s, strong (fn l) b (f + 1) = s := ⟨_, rfl⟩
      have HS2 : Hid _ := hs2
      have h2 : s2 = if fn l f = 1 ∨ fn l f = 2 ∨ fn l f = 3 then fn l f else s := by rw [← hs2, ← hs]; rfl
      have h3 : m2 (fn l) b f = if fn l f = 4 ∧ s = 3 then 7 else fn l f := by rw [← hs]; rfl
      rw [hs]
      clear hs hs2
      by_cases e12 : fn l f = 1 ∨ fn l f = 2
      · rw [if_pos (by omega)] at h2
        rw [if_neg (by omega)] at h3
        have HB : Hid (sideB (fn l f) = true) := by show _ = _; simpa [sideB] using e12
        have H3 : Hid _ := h3
        subst h2
        clear e12 h3
        go_wp2_with (go_at_call 99; refine (implSide? _ _).mono ?_; rintro e w' ⟨rfl, rfl⟩; rw [HB.out])
        go_roundw
        case rel => exact ⟨f + 1, by omega, by go_num, by rw [HS2.out], hr.out.keep hlt H3.out⟩
        case measure => simp only [intOf]; omega
      · have HB : Hid (sideB (fn l f) = false) := by show _ = _; simp only [sideB, decide_eq_false_iff_not]; exact e12
        by_cases e3 : fn l f = 3
        · rw [if_pos (by omega)] at h2
          rw [if_neg (by omega)] at h3
          have H3 : Hid _ := h3
          have g3 : (fn l f == 3) = true := by simpa using e3
          subst h2
          clear e12 e3 h3
          go_wp2_with (go_at_call 99; refine (implSide? _ _).mono ?_; rintro e w' ⟨rfl, rfl⟩; rw [HB.out])
          go_roundw
          case rel => exact ⟨f + 1, by omega, by go_num, by rw [HS2.out], hr.out.keep hlt H3.out⟩
          case measure => simp only [intOf]; omega
        · rw [if_neg (by omega)] at h2
          have g3 : (fn l f == 3) = false := by simpa using e3
          by_cases e4 : fn l f = 4
          · have g4 : (fn l f == 4) = true := by simpa using e4
            by_cases es : s = 3
            · rw [if_pos ⟨e4, es⟩] at h3
              have H3 : Hid _ := h3
              have gs : (s == 3) = true := by simpa using es
              subst h2
              clear e12 e3 h3 e4 es
              go_wp2_with (go_at_call 99; refine (implSide? _ _).mono ?_; rintro e w' ⟨rfl, rfl⟩; rw [HB.out])
              go_roundw
              case rel => exact ⟨f + 1, by omega, by go_num, by rw [HS2.out], hr.out.set hlt H3.out⟩
              case measure => simp only [intOf]; omega
            · rw [if_neg (fun h => es h.2)] at h3
              have H3 : Hid _ := h3
              have gs : (s == 3) = false := by simpa using es
              subst h2
              clear e12 e3 h3 e4 es
              go_wp2_with (go_at_call 99; refine (implSide? _ _).mono ?_; rintro e w' ⟨rfl, rfl⟩; rw [HB.out])
              go_roundw
              case rel => exact ⟨f + 1, by omega, by go_num, by rw [HS2.out], hr.out.keep hlt H3.out⟩
              case measure => simp only [intOf]; omega
          · rw [if_neg (fun h => e4 h.1)] at h3
            have g4 : (fn l f == 4) = false := by simpa using e4
            have H3 : Hid _ := h3
            subst h2
            clear e12 e3 h3 e4
            go_wp2_with (go_at_call 99; refine (implSide? _ _).mono ?_; rintro e w' ⟨rfl, rfl⟩; rw [HB.out])
            go_roundw
            case rel => exact ⟨f + 1, by omega, by go_num, by rw [HS2.out], hr.out.keep hlt H3.out⟩
            case measure => simp only [intOf]; omega
    · have e : f = n := by omega
      subst e
      go_wp2
      go_end0
      exact ⟨rfl, hr.out.fin⟩

set_option maxHeartbeats 1000000 in
theorem implR7 (R g n cp B : Nat) (b : Int) (l : List Int) (w : World) (hw : WT w R g n cp b) (hn : Hid (l.length = n)) (hv : OwnI w B (.slice (some ⟨g, 0, none⟩) n cp) l) (hl : n ≤ 80) (hno : Hid (∀ j, j < n → fn l j ≠ 3)) :
    Calls Tryz.prog 106 #[.pointer (some ⟨R, 0, none⟩)] w fun e w' => e = .returned (.tuple #[]) ∧ Ruled w w' B g n cp (r7 l b) := by
  have HR : Hid (r7 l b = mkL n (m7 (fn l) b)) := by show _ = _; unfold r7; rw [hn.out]
  rw [HR.out]
  have HS : Hid (Ruling w w B g n cp 0 (m7 (fn l) b) (fn l)) := Ruling.start hv
  have HW : Hid _ := hw
  obtain ⟨q0, q1, q2, q3⟩ := hw
  go_enter Tryz.func106, Tryz.ntmps106
  go_wp2
  clear q0 q1
  go_loopw [2, 14] (fun q i wr => ∃ f : Nat, f ≤ n ∧ i = .int .i64 f ∧ q = .int .i64 (strong (fn l) b f) ∧ Hid (Ruling w wr B g n cp f (m7 (fn l) b) (fn l))) (fun _ i _ => n - (intOf i).toNat)
  case atStart => exact ⟨0, Nat.zero_le _, rfl, rfl, HS⟩
  case round =>
    obtain ⟨f, hf, rfl, rfl, hr⟩ := hrel
    by_cases hlt : f < n
    · have c := hr.out.cell (Nat.le_refl _) hlt
      have fz := hr.out.free f
      obtain ⟨q0, q1, _, _⟩ := hr.out.wt HW.out
      obtain ⟨s, hs⟩ : ∃ s, strong (fn l) b f = s := ⟨_, rfl⟩
      obtain ⟨s2, hs2⟩ : ∃ s, strong (fn l) b (f + 1) = s := ⟨_, rfl⟩
      have HS2 : Hid _ := hs2
      have h2 : s2 = if fn l f = 1 ∨ fn l f = 2 ∨ fn l f = 3 then fn l f else s := by rw [← hs2, ← hs]; rfl
      have h3 : m7 (fn l) b f = if fn l f = 4 ∧ s = 1 then 1 else fn l f := by rw [← hs]; rfl
      rw [hs]
      clear hs hs2
      have e3 := hno.out f hlt
      by_cases e12 : fn l f = 1 ∨ fn l f = 2
      · rw [if_pos (by omega)] at h2
        rw [if_neg (by omega)] at h3
        have HB : Hid (sideB (fn l f) = true) := by show _ = _; simpa [sideB] using e12
        have H3 : Hid _ := h3
        subst h2
        clear e12 h3 e3
        go_wp2_with (go_at_call 99; refine (implSide? _ _).mono ?_; rintro e w' ⟨rfl, rfl⟩; rw [HB.out])
        go_roundw
        case rel => exact ⟨f + 1, by omega, by go_num, by rw [HS2.out], hr.out.keep hlt H3.out⟩
        case measure => simp only [intOf]; omega
      · have HB : Hid (sideB (fn l f) = false) := by show _ = _; simp only [sideB, decide_eq_false_iff_not]; exact e12
        rw [if_neg (by omega)] at h2
        by_cases e4 : fn l f = 4
        · have g4 : (fn l f == 4) = true := by simpa using e4
          by_cases es : s = 1
          · rw [if_pos ⟨e4, es⟩] at h3
            have H3 : Hid _ := h3
            have gs : (s == 1) = true := by simpa using es
            subst h2
            clear e12 e3 h3 e4 es
            go_wp2_with (go_at_call 99; refine (implSide? _ _).mono ?_; rintro e w' ⟨rfl, rfl⟩; rw [HB.out])
            go_roundw
            case rel => exact ⟨f + 1, by omega, by go_num, by rw [HS2.out], hr.out.set hlt H3.out⟩
            case measure => simp only [intOf]; omega
          · rw [if_neg (fun h => es h.2)] at h3
            have H3 : Hid _ := h3
            have gs : (s == 1) = false := by simpa using es
            subst h2
            clear e12 e3 h3 e4 es
            go_wp2_with (go_at_call 99; refine (implSide? _ _).mono ?_; rintro e w' ⟨rfl, rfl⟩; rw [HB.out])
            go_roundw
            case rel => exact ⟨f + 1, by omega, by go_num, by rw [HS2.out], hr.out.keep hlt H3.out⟩
            case measure => simp only [intOf]; omega
        · rw [if_neg (fun h => e4 h.1)] at h3
          have g4 : (fn l f == 4) = false := by simpa using e4
          have H3 : Hid _ := h3
          subst h2
          clear e12 e3 h3 e4
          go_wp2_with (go_at_call 99; refine (implSide? _ _).mono ?_; rintro e w' ⟨rfl, rfl⟩; rw [HB.out])
          go_roundw
          case rel => exact ⟨f + 1, by omega, by go_num, by rw [HS2.out], hr.out.keep hlt H3.out⟩
          case measure => simp only [intOf]; omega
    · have e : f = n := by omega
      subst e
      go_wp2
      go_end0
      exact ⟨rfl, hr.out.fin⟩
end Go.Proofs.YtgojdlbidjnmmaaGreat
namespace Go.Proofs.YtgojdlbidjnmmaaGreat
open Go.ChangeShapes Go.WideShapes Go.ChangeAt Go.RowKit
set_option linter.unusedSimpArgs false

set_option maxHeartbeats 2000000 in
theorem fill_at (g i m cq n cap : Nat) (l : List Int) (B : Nat) (x : Int) (w : World) (hv : OwnI w B (.slice (some ⟨g, 0, none⟩) n cap) l) (him : i + m ≤ n) (hl : n ≤ 1048576) :
    Calls Tryz.prog 53 #[.slice (some ⟨g, i, none⟩) m cq, .int .i64 x] w fun e w' => e = .returned (.tuple #[]) ∧ (∃ l', OwnI w' B (.slice (some ⟨g, 0, none⟩) n cap) l' ∧ Hid (∀ j, j < n → fn l' j = if i ≤ j ∧ j < i + m then x else fn l j)) ∧ w.grownBy w' (some g) ∧ w'.heap.size = w.heap.size := by
  go_enter Tryz.func53, Tryz.ntmps53
  go_wp2
  go_loopw [7] (fun q wr => ∃ (k : Nat) (l' : List Int), k ≤ m ∧ q = .int .i64 k ∧ OwnI wr B (.slice (some ⟨g, 0, none⟩) n cap) l' ∧ Hid (∀ j, j < n → fn l' j = if i ≤ j ∧ j < i + k then x else fn l j) ∧ w.grownBy wr (some g) ∧ Hid (wr.heap.size = w.heap.size)) (fun q _ => m - (intOf q).toNat)
  case atStart => exact ⟨0, l, Nat.zero_le _, rfl, hv, fun j hj => by rw [if_neg (by omega)], ⟨rfl, rfl, rfl, Nat.le_refl _, fun _ _ _ => rfl⟩, rfl⟩
  case round =>
    obtain ⟨k, l', hm, rfl, hown, hsame, hgr, hsz⟩ := hrel
    by_cases hlt : k < m
    · have hf : wr.frozen? ⟨g, i + k, none⟩ = false := hown.frozenN _
      have hc2 : wr.cell? ⟨g, i + k, none⟩ = some (.int .i64 (fn l' (i + k))) := hown.cellN _ (by omega)
      go_wp2
      go_roundw
      case rel =>
        refine ⟨k + 1, l'.set (i + k) x, by omega, by go_num, hown.storedN _ _, fun j hj => ?_, ?_, ?_⟩
        · have e := hown.len
          by_cases ej : j = i + k
          · subst ej; rw [fn_set_same (by omega), if_pos (by omega)]
          · rw [fn_set_other (by omega), hsame.out j hj]
            by_cases e2 : i ≤ j ∧ j < i + k
            · rw [if_pos e2, if_pos (by omega)]
            · rw [if_neg e2, if_neg (by omega)]
        · exact ⟨hgr.os, hgr.tape, hgr.output, by simpa using hgr.size, fun y hy hne => (heap_setCell_other wr ⟨g, i + k, none⟩ y _ (fun e => hne (by rw [e]))).trans (hgr.block y hy hne)⟩
        · show (wr.setCell _ _).heap.size = w.heap.size
          rw [World.size_setCell]; exact hsz.out
      case measure => simp only [intOf]; omega
    · have e : k = m := by omega
      subst e
      go_wp2
      go_end0
      exact ⟨rfl, ⟨l', hown, hsame⟩, hgr, hsz.out⟩
end Go.Proofs.YtgojdlbidjnmmaaGreat
namespace Go.Proofs.YtgojdlbidjnmmaaGreat
open Go.ChangeShapes Go.WideShapes Go.ChangeAt Go.RowKit
set_option linter.unusedSimpArgs false

theorem m4_keep {z : Nat → Int} {n k : Nat} (h : btw (m4 z n k) (z (k + 1)) (z (k + 2)) = false) : m4 z n (k + 1) = z (k + 1) := by
  show (if _ then _ else _) = _
  rw [if_neg (by simp [h])]
theorem m4_end {z : Nat → Int} {n k : Nat} (h : ¬ k + 2 < n) : m4 z n (k + 1) = z (k + 1) := by
  show (if _ then _ else _) = _
  rw [if_neg (by simp [h])]
theorem m4_take {z : Nat → Int} {n k : Nat} (hn : k + 2 < n) (h : btw (m4 z n k) (z (k + 1)) (z (k + 2)) = true) : m4 z n (k + 1) = m4 z n k := by
  show (if _ then _ else _) = _
  rw [if_pos ⟨hn, h⟩]

set_option maxHeartbeats 2000000 in
theorem implR4 (R g n cp B : Nat) (b : Int) (l : List Int) (w : World) (hw : WT w R g n cp b) (hn : Hid (l.length = n)) (hv : OwnI w B (.slice (some ⟨g, 0, none⟩) n cp) l) (hn0 : 0 < n) (hl : n ≤ 80) :
    Calls Tryz.prog 103 #[.pointer (some ⟨R, 0, none⟩)] w fun e w' => e = .returned (.tuple #[]) ∧ Ruled w w' B g n cp (r4 l) := by
  have HR : Hid (r4 l = mkL n (m4 (fn l) n)) := by show _ = _; unfold r4; rw [hn.out]
  rw [HR.out]
  have HS : Hid (Ruling w w B g n cp 1 (m4 (fn l) n) (fn l)) := Ruling.keep (Ruling.start hv) hn0 rfl
  have HW : Hid _ := hw
  obtain ⟨q0, q1, q2, q3⟩ := hw
  go_enter Tryz.func103, Tryz.ntmps103
  go_wp2
  clear q0 q1
  go_loopw [2] (fun i wr => ∃ k : Nat, k + 1 ≤ n ∧ i = .int .i64 ((k : Int) + 1) ∧ Hid (Ruling w wr B g n cp (k + 1) (m4 (fn l) n) (fn l))) (fun i _ => n - (intOf i).toNat)
  case atStart => exact ⟨0, by omega, rfl, HS⟩
  case round =>
    obtain ⟨k, hk, rfl, hr⟩ := hrel
    obtain ⟨q0, q1, _, _⟩ := hr.out.wt HW.out
    by_cases hlt : k + 2 < n
    · have cA := hr.out.done (j := k) (by omega) (by omega)
      have cC := hr.out.cell (j := k + 1) (by omega) (by omega)
      have cD := hr.out.cell (j := k + 2) (by omega) (by omega)
      have fz := hr.out.free (k + 1)
      have HT := fun h => m4_take (z := fn l) (n := n) (k := k) hlt h
      have HK := fun h => m4_keep (z := fn l) (n := n) (k := k) h
      obtain ⟨A, hA⟩ : ∃ A, m4 (fn l) n k = A := ⟨_, rfl⟩
      obtain ⟨C, hC⟩ : ∃ A, fn l (k + 1) = A := ⟨_, rfl⟩
      obtain ⟨D, hD⟩ : ∃ A, fn l (k + 2) = A := ⟨_, rfl⟩
      rw [hA] at cA
      rw [hC] at cC
      rw [hD] at cD
      rw [hA, hC, hD] at HT HK
      have HC : Hid _ := hC
      have HT2 : Hid _ := HT
      have HK2 : Hid _ := HK
      clear hA hC hD HT HK
      have hi1 : ((k : Int) + 1 + 1 < (n : Int)) := by omega
      have hi2 : ((k : Int) + 1 < (n : Int)) := by omega
      have hi3 : ((k : Int) < (n : Int)) := by omega
      by_cases hAD : A = D
      · subst hAD
        have gAD : (A != A) = false := by simp
        by_cases hb : btw A C A = true
        · have hm := HT2.out hb
          have HM : Hid _ := hm
          unfold btw at hb
          rw [decide_eq_true_eq] at hb
          clear HT2 HK2 hm gAD
          rcases hb.2 with ⟨rfl, rfl | rfl⟩ | ⟨rfl, rfl⟩
          all_goals
            clear hb
            go_wp2
            go_quiet (fail)
            go_wp2
            go_roundw
            case rel => exact ⟨k + 1, by omega, by go_num, (hr.out.drewN _).set (by omega) HM.out⟩
            case measure => simp only [intOf]; omega
        · have hb' : btw A C A = false := by simpa using hb
          have hm := HK2.out hb'
          have HM : Hid (m4 (fn l) n (k + 1) = fn l (k + 1)) := by show _ = _; rw [hm, HC.out]
          unfold btw at hb'
          rw [decide_eq_false_iff_not] at hb'
          clear HT2 HK2 hm hb
          by_cases e4 : A = 4
          · subst e4
            have g5 : (C == 5) = false := by simp; omega
            have g8 : (C == 8) = false := by simp; omega
            clear hb'
            go_wp2
            go_quiet (fail)
            go_wp2
            go_roundw
            case rel => exact ⟨k + 1, by omega, by go_num, (hr.out.drewN _).keep (by omega) HM.out⟩
            case measure => simp only [intOf]; omega
          · have g4 : (A == 4) = false := by simpa using e4
            by_cases e7 : A = 7
            · subst e7
              have g8 : (C == 8) = false := by simp; omega
              clear hb' e4
              go_wp2
              go_quiet (fail)
              go_wp2
              go_roundw
              case rel => exact ⟨k + 1, by omega, by go_num, (hr.out.drewN _).keep (by omega) HM.out⟩
              case measure => simp only [intOf]; omega
            · have g7 : (A == 7) = false := by simpa using e7
              clear hb' e4 e7
              go_wp2
              go_quiet (fail)
              go_wp2
              go_roundw
              case rel => exact ⟨k + 1, by omega, by go_num, (hr.out.drewN _).keep (by omega) HM.out⟩
              case measure => simp only [intOf]; omega
      · have gAD : (A != D) = true := by simpa using hAD
        have hm := HK2.out (by unfold btw; rw [decide_eq_false_iff_not]; exact fun h => hAD h.1)
        have HM : Hid (m4 (fn l) n (k + 1) = fn l (k + 1)) := by show _ = _; rw [hm, HC.out]
        clear HT2 HK2 hm hAD
        go_wp2
        go_quiet (fail)
        go_wp2
        go_roundw
        case rel => exact ⟨k + 1, by omega, by go_num, (hr.out.drewN _).keep (by omega) HM.out⟩
        case measure => simp only [intOf]; omega
    · have hi1 : ¬ ((k : Int) + 1 + 1 < (n : Int)) := by omega
      have hfin : Ruling w wr B g n cp n (m4 (fn l) n) (fn l) := by
        by_cases e : k + 1 = n
        · rw [← e]; rw [← e] at hr; exact hr.out
        · have := hr.out.keep (by omega) (m4_end (z := fn l) hlt)
          rwa [show k + 1 + 1 = n by omega] at this
      have HF : Hid _ := hfin
      clear hfin
      go_wp2
      go_end0
      exact ⟨rfl, Ruling.fin (m := m4 (fn l) n) (z := fn l) HF.out⟩
end Go.Proofs.YtgojdlbidjnmmaaGreat
namespace Go.Proofs.YtgojdlbidjnmmaaGreat
open Go.ChangeShapes Go.WideShapes Go.ChangeAt Go.RowKit
set_option linter.unusedSimpArgs false

theorem m5_six {z : Nat → Int} {n f : Nat} (h : z f = 6) : m5 z n f = if ah6 z f = 4 ∨ bh6 z n (n - f) = 4 then 4 else 6 := by
  unfold m5; rw [h]; simp
theorem m5_not {z : Nat → Int} {n f : Nat} (h : z f ≠ 6) : m5 z n f = z f := by
  unfold m5; rw [if_neg (fun a => h a.1)]
theorem m5_cond {z : Nat → Int} {n f t : Nat} (hft : f < t) (htn : t ≤ n) (hrun : ∀ j, f ≤ j → j < t → z j = 6) (hend : t = n ∨ z t ≠ 6) :
    (0 < f ∧ m5 z n (f - 1) = 4) ∨ (t < n ∧ z t = 4) ↔ m5 z n f = 4 := by
  have hb : bh6 z n (n - f) = 4 ↔ (t < n ∧ z t = 4) := by
    rw [bh6_run (by omega) htn hrun]
    rcases hend with rfl | h
    · simp [bh6]
    · by_cases e : t < n
      · rw [bh6_hit e h]; simp [e]
      · rw [show n - t = 0 by omega]; simp [bh6, e]
  have hf : m5 z n f = 4 ↔ (ah6 z f = 4 ∨ (t < n ∧ z t = 4)) := by
    rw [m5_six (hrun f (Nat.le_refl _) hft), ← hb]
    split <;> simp_all
  rw [hf]
  cases f with
  | zero => simp [ah6]
  | succ k =>
    simp only [ah6, Nat.add_sub_cancel, Nat.succ_pos, true_and]
    by_cases e : z k = 6
    · rw [if_pos e]
      have hk : m5 z n k = 4 ↔ (ah6 z k = 4 ∨ (t < n ∧ z t = 4)) := by
        rw [m5_six e, bh6_step (by omega) e, ← hb]
        split <;> simp_all
      rw [hk, or_assoc, or_self]
    · rw [if_neg e, m5_not e]
theorem m5_same {z : Nat → Int} {n f t : Nat} (htn : t ≤ n) (hrun : ∀ j, f ≤ j → j < t → z j = 6) {j : Nat} (h1 : f ≤ j) (h2 : j < t) : m5 z n j = m5 z n f := by
  rw [m5_run htn hrun h1 h2, m5_run htn hrun (Nat.le_refl _) (by omega)]
theorem m5_46 {z : Nat → Int} {n f : Nat} (h : z f = 6) : m5 z n f = 4 ∨ m5 z n f = 6 := by
  rw [m5_six h]; split <;> simp
theorem Ruling.run {w wr : World} {B g n cp f t : Nat} {m z : Nat → Int} (h : Ruling w wr B g n cp f m z) (hft : f ≤ t) (htn : t ≤ n) (hm : ∀ j, f ≤ j → j < t → m j = z j) : Ruling w wr B g n cp t m z := by
  obtain ⟨L, a, b, c, d⟩ := h
  refine ⟨L, a, ⟨fun j hj => ?_, fun j h1 h2 => b.2 j (by omega) h2⟩, c, d⟩
  by_cases e : j < f
  · exact b.1 j e
  · rw [b.2 j (by omega) (by omega), hm j (by omega) hj]
theorem ruling_fill {w wr w7 : World} {B g n cp f t : Nat} {m z : Nat → Int} {L L7 : List Int} {x : Int} (hup : upTo m z n f L) (hgr : w.grownBy wr (some g)) (hsz : wr.heap.size = w.heap.size)
    (hown7 : OwnI w7 B (.slice (some ⟨g, 0, none⟩) n cp) L7) (h7 : ∀ j, j < n → fn L7 j = if f ≤ j ∧ j < f + (t - f) then x else fn L j) (hgr7 : wr.grownBy w7 (some g)) (hsz7 : w7.heap.size = wr.heap.size)
    (hft : f ≤ t) (htn : t ≤ n) (hm : ∀ j, f ≤ j → j < t → m j = x) : Ruling w w7 B g n cp t m z := by
  refine ⟨L7, hown7, ⟨fun j hj => ?_, fun j h1 h2 => ?_⟩, grown_trans' hgr hgr7, by omega⟩
  · rw [h7 j (by omega)]
    by_cases e : f ≤ j
    · rw [if_pos (by omega), hm j e hj]
    · rw [if_neg (by omega)]; exact hup.1 j (by omega)
  · rw [h7 j h2, if_neg (by omega)]; exact hup.2 j (by omega) h2

set_option maxRecDepth 10000 in
set_option maxHeartbeats 4000000 in
theorem implR5 (R g n cp B : Nat) (b : Int) (l : List Int) (w : World) (hw : WT w R g n cp b) (hn : Hid (l.length = n)) (hv : OwnI w B (.slice (some ⟨g, 0, none⟩) n cp) l) (hl : n ≤ 80) (hcp : n ≤ cp) :
    Calls Tryz.prog 104 #[.pointer (some ⟨R, 0, none⟩)] w fun e w' => e = .returned (.tuple #[]) ∧ Ruled w w' B g n cp (r5 l) := by
  have HR : Hid (r5 l = mkL n (m5 (fn l) n)) := by show _ = _; unfold r5; rw [hn.out]
  rw [HR.out]
  have HS : Hid (Ruling w w B g n cp 0 (m5 (fn l) n) (fn l)) := Ruling.start hv
  have HW : Hid _ := hw
  obtain ⟨q0, q1, q2, q3⟩ := hw
  go_enter Tryz.func104, Tryz.ntmps104
  go_wp2
  clear q0 q1
  go_loopw [2] (fun i wr => ∃ f : Nat, f ≤ n ∧ i = .int .i64 f ∧ Hid (Ruling w wr B g n cp f (m5 (fn l) n) (fn l))) (fun i _ => n - (intOf i).toNat)
  case atStart => exact ⟨0, Nat.zero_le _, rfl, HS⟩
  case round =>
    obtain ⟨f, hf, rfl, hr⟩ := hrel
    obtain ⟨wo, rfl⟩ : ∃ wo : World, wo = wr := ⟨_, rfl⟩
    obtain ⟨q0, q1, _, _⟩ := hr.out.wt HW.out
    by_cases hlt : f < n
    · have c := hr.out.cell (Nat.le_refl _) hlt
      have hfi : (f : Int) < (n : Int) := by omega
      by_cases e6 : fn l f = 6
      · rw [e6] at c
        have H6 : Hid _ := e6
        clear e6
        go_wp2
        go_loop [3] (fun t => ∃ (t' : Nat), f < t' ∧ t' ≤ n ∧ t = .int .i64 t' ∧ Hid (∀ j, f ≤ j → j < t' → fn l j = 6)) (fun t => n - (intOf t).toNat)
        case atStart => exact ⟨f + 1, by omega, by omega, by go_num, fun j h1 h2 => by
          have : j = f := by omega
          subst this; exact H6.out⟩
        case round =>
          obtain ⟨t, hft, htn, rfl, hrun⟩ := hrel
          have g1 : (f : Int) ≤ (t : Int) := by omega
          have g2 : (t : Int) ≤ (cp : Int) := by omega
          have g3 : (f : Int) < (cp : Int) := by omega
          by_cases hmore : t < n ∧ fn l t = 6
          · obtain ⟨htl, e6⟩ := hmore
            have ct := hr.out.cell (j := t) (by omega) htl
            rw [e6] at ct
            have hti : (t : Int) < (n : Int) := by omega
            have H6t : Hid _ := e6
            clear e6
            go_wp2
            refine ⟨⟨t + 1, by omega, by omega, by go_num, fun j h1 h2 => ?_⟩, by simp only [intOf]; omega⟩
            by_cases e : j = t
            · subst e; exact H6t.out
            · exact hrun.out j h1 (by omega)
          · have hend : t = n ∨ fn l t ≠ 6 := by omega
            have hc := m5_cond (z := fn l) (n := n) hft htn hrun.out hend
            have HC : Hid _ := hc
            have HRUN : Hid (Ruling w wo B g n cp f (m5 (fn l) n) (fn l)) := hr
            by_cases hcnd : (0 < f ∧ m5 (fn l) n (f - 1) = 4) ∨ (t < n ∧ fn l t = 4)
            · have h4 : Hid (∀ j, f ≤ j → j < t → m5 (fn l) n j = 4) := fun j h1 h2 => by rw [m5_same htn hrun.out h1 h2]; exact hc.1 hcnd
              obtain ⟨L, hown, hup, hgr, hsz⟩ := hr.out
              have HUP : Hid _ := hup
              have HSZ : Hid _ := hsz
              clear hc hup hsz
              by_cases hA : 0 < f ∧ m5 (fn l) n (f - 1) = 4
              · obtain ⟨hf0, hA4⟩ := hA
                have cp1 := HRUN.out.done (j := f - 1) (by omega) (by omega)
                rw [hA4] at cp1
                obtain ⟨k, rfl⟩ : ∃ k, f = k + 1 := ⟨f - 1, by omega⟩
                simp only [Nat.add_sub_cancel] at cp1
                have hk0 : (0 : Int) < (k : Int) + 1 := by omega
                clear hcnd hA4
                by_cases htl : t < n
                · have ct := HRUN.out.cell (j := t) (by omega) htl
                  have hti : (t : Int) < (n : Int) := by omega
                  have g6 : (fn l t == 6) = false := by simp; omega
                  clear hmore hend
                  go_wp2_with (go_at_call 53; refine (fill_at g (k + 1) (t - (k + 1)) _ n cp L _ 4 _ hown (by omega) (by omega)).mono ?_; rintro e w7 ⟨rfl, ⟨L7, hown7, hL7⟩, hgr7, hsz7⟩)
                  refine ⟨⟨t, by omega, by go_num, ruling_fill HUP.out hgr HSZ.out hown7 hL7.out hgr7 hsz7 (by omega) htn h4.out⟩, by simp only [intOf]; omega⟩
                · have hti : ¬ (t : Int) < (n : Int) := by omega
                  clear hmore hend
                  go_wp2_with (go_at_call 53; refine (fill_at g (k + 1) (t - (k + 1)) _ n cp L _ 4 _ hown (by omega) (by omega)).mono ?_; rintro e w7 ⟨rfl, ⟨L7, hown7, hL7⟩, hgr7, hsz7⟩)
                  refine ⟨⟨t, by omega, by go_num, ruling_fill HUP.out hgr HSZ.out hown7 hL7.out hgr7 hsz7 (by omega) htn h4.out⟩, by simp only [intOf]; omega⟩
              · obtain ⟨htl, e4⟩ : t < n ∧ fn l t = 4 := by
                  rcases hcnd with h | h
                  · exact absurd h hA
                  · exact h
                have ct := HRUN.out.cell (j := t) (by omega) htl
                rw [e4] at ct
                have hti : (t : Int) < (n : Int) := by omega
                clear hmore hend hcnd e4
                by_cases hf0 : f = 0
                · subst hf0
                  clear hA
                  go_wp2_with (go_at_call 53; refine (fill_at g 0 (t - 0) _ n cp L _ 4 _ hown (by omega) (by omega)).mono ?_; rintro e w7 ⟨rfl, ⟨L7, hown7, hL7⟩, hgr7, hsz7⟩)
                  refine ⟨⟨t, by omega, by go_num, ruling_fill HUP.out hgr HSZ.out hown7 hL7.out hgr7 hsz7 (by omega) htn h4.out⟩, by simp only [intOf]; omega⟩
                · have cp1 := HRUN.out.done (j := f - 1) (by omega) (by omega)
                  obtain ⟨P, hP⟩ : ∃ P, m5 (fn l) n (f - 1) = P := ⟨_, rfl⟩
                  have gP : (P == 4) = false := by simp; rw [← hP]; intro h; exact hA ⟨by omega, h⟩
                  rw [hP] at cp1
                  clear hA hP
                  obtain ⟨k, rfl⟩ : ∃ k, f = k + 1 := ⟨f - 1, by omega⟩
                  simp only [Nat.add_sub_cancel] at cp1
                  have hk0 : (0 : Int) < (k : Int) + 1 := by omega
                  go_wp2_with (go_at_call 53; refine (fill_at g (k + 1) (t - (k + 1)) _ n cp L _ 4 _ hown (by omega) (by omega)).mono ?_; rintro e w7 ⟨rfl, ⟨L7, hown7, hL7⟩, hgr7, hsz7⟩)
                  refine ⟨⟨t, by omega, by go_num, ruling_fill HUP.out hgr HSZ.out hown7 hL7.out hgr7 hsz7 (by omega) htn h4.out⟩, by simp only [intOf]; omega⟩
            · have h6 : Hid (Ruling w wo B g n cp t (m5 (fn l) n) (fn l)) := hr.out.run (by omega) htn (fun j h1 h2 => by
                rw [m5_same htn hrun.out h1 h2, hrun.out j h1 h2]
                rcases m5_46 (z := fn l) (n := n) (hrun.out f (Nat.le_refl _) hft) with h | h
                · exact absurd (hc.2 h) hcnd
                · exact h)
              clear hc
              by_cases htl : t < n
              · have ct := HRUN.out.cell (j := t) (by omega) htl
                have hti : (t : Int) < (n : Int) := by omega
                have g6 : (fn l t == 6) = false := by simp; omega
                have g4 : (fn l t == 4) = false := by simp; intro h; exact hcnd (.inr ⟨htl, h⟩)
                by_cases hf0 : f = 0
                · subst hf0
                  clear hmore hend hcnd
                  go_wp2
                  refine ⟨⟨t, by omega, by go_num, h6⟩, by simp only [intOf]; omega⟩
                · have cp1 := HRUN.out.done (j := f - 1) (by omega) (by omega)
                  obtain ⟨P, hP⟩ : ∃ P, m5 (fn l) n (f - 1) = P := ⟨_, rfl⟩
                  have gP : (P == 4) = false := by simp; rw [← hP]; intro h; exact hcnd (.inl ⟨by omega, h⟩)
                  rw [hP] at cp1
                  clear hP hmore hend hcnd
                  obtain ⟨k, rfl⟩ : ∃ k, f = k + 1 := ⟨f - 1, by omega⟩
                  simp only [Nat.add_sub_cancel] at cp1
                  have hk0 : (0 : Int) < (k : Int) + 1 := by omega
                  go_wp2
                  refine ⟨⟨t, by omega, by go_num, h6⟩, by simp only [intOf]; omega⟩
              · have hti : ¬ (t : Int) < (n : Int) := by omega
                by_cases hf0 : f = 0
                · subst hf0
                  clear hmore hend hcnd
                  go_wp2
                  refine ⟨⟨t, by omega, by go_num, h6⟩, by simp only [intOf]; omega⟩
                · have cp1 := HRUN.out.done (j := f - 1) (by omega) (by omega)
                  obtain ⟨P, hP⟩ : ∃ P, m5 (fn l) n (f - 1) = P := ⟨_, rfl⟩
                  have gP : (P == 4) = false := by simp; rw [← hP]; intro h; exact hcnd (.inl ⟨by omega, h⟩)
                  rw [hP] at cp1
                  clear hP hmore hend hcnd
                  obtain ⟨k, rfl⟩ : ∃ k, f = k + 1 := ⟨f - 1, by omega⟩
                  simp only [Nat.add_sub_cancel] at cp1
                  have hk0 : (0 : Int) < (k : Int) + 1 := by omega
                  go_wp2
                  refine ⟨⟨t, by omega, by go_num, h6⟩, by simp only [intOf]; omega⟩
      · have g6 : (fn l f != 6) = true := by simpa using e6
        have HK : Hid _ := m5_not (z := fn l) (n := n) e6
        clear e6
        go_wp2
        go_roundw
        case rel => exact ⟨f + 1, by omega, by go_num, hr.out.keep hlt HK.out⟩
        case measure => simp only [intOf]; omega
    · have e : f = n := by omega
      subst e
      go_wp2
      go_end0
      exact ⟨rfl, hr.out.fin⟩
end Go.Proofs.YtgojdlbidjnmmaaGreat
namespace Go.Proofs.YtgojdlbidjnmmaaGreat
open Go.ChangeShapes Go.WideShapes Go.ChangeAt Go.RowKit
set_option linter.unusedSimpArgs false

set_option maxHeartbeats 1000000 in
theorem clone_row (b off n cap : Nat) (l : List Int) (w : World) (hn : l.length = n) (hl : n ≤ 1048576) (hat : At w b off l) (hb : b < w.heap.size) :
    Calls Tryz.prog 32 #[.slice (some ⟨b, off, none⟩) n cap] w fun e w' => (∃ v', e = .returned v' ∧ OwnI w' w.heap.size v' l) ∧ Below w.heap.size w w' := by
  have HN : Hid _ := hn
  clear hn
  have hnil := fun (w : World) (a : Option Addr) (n c : Nat) => Lib.run_eql_slice_nil (P := Tryz.prog) w 23 3 a n c 0 0 Tryz.underlying23
  go_enter Tryz.func32, Tryz.ntmps32
  have ho := own_empty w w.heap.size 3 (Nat.le_refl _) rfl
  have hat2 : At (w.alloc (.cells #[] 3)) b off l := hat.below (B := w.heap.size) ((Below.refl _ _).alloc (Nat.le_refl _) _) hb
  go_wp2_with (at_builtin; refine own_appendAll (.tmp 5) (.tmp 6) ho HN.out (by simp; omega) (by simp) hat2 rfl rfl rfl rfl ?_; intro v5 w5 hown5 hgr5)
  go_ret
  refine ⟨⟨_, rfl, by simpa using hown5⟩, ?_⟩
  refine ((Below.refl _ _).alloc (Nat.le_refl _) _).grown hgr5 (by simp) (fun k hk => ?_)
  simp [Value.ownBlock] at hk
  omega

set_option maxHeartbeats 1000000 in
theorem clone_any (v : Value) (l : List Int) (w : World) (hv : Arg w v l) (hl : l.length ≤ 1048576) :
    Calls Tryz.prog 32 #[v] w fun e w' => (∃ v', e = .returned v' ∧ OwnI w' w.heap.size v' l) ∧ Below w.heap.size w w' := by
  rcases hv with ⟨a, cap, rfl, rfl⟩ | ⟨b, off, cap, rfl, hb, hlc, hcm, hat⟩
  · cases a with
    | none =>
      have hnil := fun (w : World) (a : Option Addr) (n c : Nat) => Lib.run_eql_slice_nil (P := Tryz.prog) w 23 3 a n c 0 0 Tryz.underlying23
      go_enter Tryz.func32, Tryz.ntmps32
      go_wp2
      go_ret
      exact ⟨⟨_, rfl, OwnI.nil _ _⟩, Below.refl _ _⟩
    | some ad =>
      have hnil := fun (w : World) (a : Option Addr) (n c : Nat) => Lib.run_eql_slice_nil (P := Tryz.prog) w 23 3 a n c 0 0 Tryz.underlying23
      go_enter Tryz.func32, Tryz.ntmps32
      have ho := own_empty w w.heap.size 3 (Nat.le_refl _) rfl
      go_wp2
      go_ret
      exact ⟨⟨_, rfl, ho⟩, by go_grown⟩
  · exact clone_row b off l.length cap l w rfl hl hat hb
end Go.Proofs.YtgojdlbidjnmmaaGreat
namespace Go.Proofs.YtgojdlbidjnmmaaGreat
open Go.ChangeShapes Go.WideShapes Go.ChangeAt Go.RowKit
set_option linter.unusedSimpArgs false

def stg (l : List Int) (b : Int) : Nat → List Int
  | 0 => l
  | 1 => r1 l b
  | 2 => r2 (r1 l b) b
  | 3 => r3 (r2 (r1 l b) b)
  | 4 => r4 (r3 (r2 (r1 l b) b))
  | 5 => r5 (r4 (r3 (r2 (r1 l b) b)))
  | 6 => r6 (r5 (r4 (r3 (r2 (r1 l b) b))))
  | _ => weakL l b
theorem stg_len (l : List Int) (b : Int) (k : Nat) : (stg l b k).length = l.length := by
  unfold stg; split <;> simp [weakL_len, r6_len, r5_len, r4_len, r3_len, r2_len, r1_len]
theorem no3 (x : List Int) (j : Nat) (hj : j < x.length) : fn (r6 (r5 (r4 (r3 x)))) j ≠ 3 := by
  have e3 : fn (r3 x) j = m3 (fn x) j := fn_mkL hj
  have e4 : fn (r4 (r3 x)) j = m4 (fn (r3 x)) _ j := fn_mkL (by rw [r3_len]; exact hj)
  have e5 : fn (r5 (r4 (r3 x))) j = m5 (fn (r4 (r3 x))) _ j := fn_mkL (by rw [r4_len, r3_len]; exact hj)
  have e6 : fn (r6 (r5 (r4 (r3 x)))) j = m6 (fn (r5 (r4 (r3 x)))) j := fn_mkL (by rw [r5_len, r4_len, r3_len]; exact hj)
  have a4 := m4_is (z := fn (r3 x)) (n := (r3 x).length) (k := j)
  have h3 : fn (r3 x) j ≠ 3 := by rw [e3]; unfold m3; split <;> omega
  rw [← e4] at a4
  have h4 : fn (r4 (r3 x)) j ≠ 3 := by omega
  have h5 : fn (r5 (r4 (r3 x))) j ≠ 3 := by rw [e5]; unfold m5; split <;> omega
  rw [e6]; unfold m6; split <;> omega

/-! No class at all: no rule has a round. -/
structure WT0 (w : World) (R cp : Nat) (a : Option Addr) (b : Int) : Prop where
  c0 : w.cell? ⟨R, 0, none⟩ = some (.slice a 0 cp)
  c1 : w.cell? ⟨R, 1, none⟩ = some (.int .i64 b)
set_option maxHeartbeats 1000000 in
theorem implR1z (R cp : Nat) (a : Option Addr) (b : Int) (w : World) (h : WT0 w R cp a b) : Calls Tryz.prog 100 #[.pointer (some ⟨R, 0, none⟩)] w fun e w' => e = .returned (.tuple #[]) ∧ w' = w := by
  obtain ⟨q0, q1⟩ := h
  go_enter Tryz.func100, Tryz.ntmps100
  go_wp2
  go_rounds 1
  go_end0
  exact ⟨rfl, rfl⟩
set_option maxHeartbeats 1000000 in
theorem implR2z (R cp : Nat) (a : Option Addr) (b : Int) (w : World) (h : WT0 w R cp a b) : Calls Tryz.prog 101 #[.pointer (some ⟨R, 0, none⟩)] w fun e w' => e = .returned (.tuple #[]) ∧ w' = w := by
  obtain ⟨q0, q1⟩ := h
  go_enter Tryz.func101, Tryz.ntmps101
  go_wp2
  go_rounds 1
  go_end0
  exact ⟨rfl, rfl⟩
set_option maxHeartbeats 1000000 in
theorem implR3z (R cp : Nat) (a : Option Addr) (b : Int) (w : World) (h : WT0 w R cp a b) : Calls Tryz.prog 102 #[.pointer (some ⟨R, 0, none⟩)] w fun e w' => e = .returned (.tuple #[]) ∧ w' = w := by
  obtain ⟨q0, q1⟩ := h
  go_enter Tryz.func102, Tryz.ntmps102
  go_wp2
  go_rounds 1
  go_end0
  exact ⟨rfl, rfl⟩
set_option maxHeartbeats 1000000 in
theorem implR4z (R cp : Nat) (a : Option Addr) (b : Int) (w : World) (h : WT0 w R cp a b) : Calls Tryz.prog 103 #[.pointer (some ⟨R, 0, none⟩)] w fun e w' => e = .returned (.tuple #[]) ∧ w' = w := by
  obtain ⟨q0, q1⟩ := h
  go_enter Tryz.func103, Tryz.ntmps103
  go_wp2
  go_rounds 1
  go_end0
  exact ⟨rfl, rfl⟩
set_option maxHeartbeats 1000000 in
theorem implR5z (R cp : Nat) (a : Option Addr) (b : Int) (w : World) (h : WT0 w R cp a b) : Calls Tryz.prog 104 #[.pointer (some ⟨R, 0, none⟩)] w fun e w' => e = .returned (.tuple #[]) ∧ w' = w := by
  obtain ⟨q0, q1⟩ := h
  go_enter Tryz.func104, Tryz.ntmps104
  go_wp2
  go_rounds 1
  go_end0
  exact ⟨rfl, rfl⟩
set_option maxHeartbeats 1000000 in
theorem implR6z (R cp : Nat) (a : Option Addr) (b : Int) (w : World) (h : WT0 w R cp a b) : Calls Tryz.prog 105 #[.pointer (some ⟨R, 0, none⟩)] w fun e w' => e = .returned (.tuple #[]) ∧ w' = w := by
  obtain ⟨q0, q1⟩ := h
  go_enter Tryz.func105, Tryz.ntmps105
  go_wp2
  go_rounds 1
  go_end0
  exact ⟨rfl, rfl⟩
set_option maxHeartbeats 1000000 in
theorem implR7z (R cp : Nat) (a : Option Addr) (b : Int) (w : World) (h : WT0 w R cp a b) : Calls Tryz.prog 106 #[.pointer (some ⟨R, 0, none⟩)] w fun e w' => e = .returned (.tuple #[]) ∧ w' = w := by
  obtain ⟨q0, q1⟩ := h
  go_enter Tryz.func106, Tryz.ntmps106
  go_wp2
  go_rounds 1
  go_end0
  exact ⟨rfl, rfl⟩


theorem store_func {P : Program} {w : World} {a : Addr} {m : Mode} (fn : Fn) (first captured : Array Value) : (store a (.func fn first captured) m).run P w = stored P w a (.func fn first captured) m := run_store P w a _ m rfl
attribute [local go_sem] store_func

theorem index7_0 (w : World) (a0 a1 a2 a3 a4 a5 a6 : Value) : (Instr.index 100 (.agg #[a0, a1, a2, a3, a4, a5, a6]) (.int .i64 0)).run Tryz.prog w = .ok a0 w := by
  simp [Instr.index, run_underlying Tryz.underlying100, asIntOf, part, go_sem]
theorem index7_1 (w : World) (a0 a1 a2 a3 a4 a5 a6 : Value) : (Instr.index 100 (.agg #[a0, a1, a2, a3, a4, a5, a6]) (.int .i64 1)).run Tryz.prog w = .ok a1 w := by
  simp [Instr.index, run_underlying Tryz.underlying100, asIntOf, part, go_sem]
theorem index7_2 (w : World) (a0 a1 a2 a3 a4 a5 a6 : Value) : (Instr.index 100 (.agg #[a0, a1, a2, a3, a4, a5, a6]) (.int .i64 2)).run Tryz.prog w = .ok a2 w := by
  simp [Instr.index, run_underlying Tryz.underlying100, asIntOf, part, go_sem]
theorem index7_3 (w : World) (a0 a1 a2 a3 a4 a5 a6 : Value) : (Instr.index 100 (.agg #[a0, a1, a2, a3, a4, a5, a6]) (.int .i64 3)).run Tryz.prog w = .ok a3 w := by
  simp [Instr.index, run_underlying Tryz.underlying100, asIntOf, part, go_sem]
theorem index7_4 (w : World) (a0 a1 a2 a3 a4 a5 a6 : Value) : (Instr.index 100 (.agg #[a0, a1, a2, a3, a4, a5, a6]) (.int .i64 4)).run Tryz.prog w = .ok a4 w := by
  simp [Instr.index, run_underlying Tryz.underlying100, asIntOf, part, go_sem]
theorem index7_5 (w : World) (a0 a1 a2 a3 a4 a5 a6 : Value) : (Instr.index 100 (.agg #[a0, a1, a2, a3, a4, a5, a6]) (.int .i64 5)).run Tryz.prog w = .ok a5 w := by
  simp [Instr.index, run_underlying Tryz.underlying100, asIntOf, part, go_sem]
theorem index7_6 (w : World) (a0 a1 a2 a3 a4 a5 a6 : Value) : (Instr.index 100 (.agg #[a0, a1, a2, a3, a4, a5, a6]) (.int .i64 6)).run Tryz.prog w = .ok a6 w := by
  simp [Instr.index, run_underlying Tryz.underlying100, asIntOf, part, go_sem]
attribute [local go_sem] index7_0 index7_1 index7_2 index7_3 index7_4 index7_5 index7_6
theorem Ruled.step {w wr w' : World} {B g n cp R : Nat} {b : Int} {L : List Int} (h : Ruled wr w' B g n cp L) (hw : WT wr R g n cp b) (hb : Below w.heap.size w wr) (hg : w.heap.size ≤ g) :
    OwnI w' B (.slice (some ⟨g, 0, none⟩) n cp) L ∧ WT w' R g n cp b ∧ Below w.heap.size w w' :=
  ⟨h.1, hw.kept h.2.1, hb.grown h.2.1 hb.size (fun k hk => by cases hk; exact hg)⟩

set_option maxRecDepth 10000 in
set_option maxHeartbeats 4000000 in
theorem implWeak_row (ba off cap n : Nat) (l : List Int) (b : Int) (w : World) (hn : Hid (l.length = n)) (hn0 : 0 < n) (hl : n ≤ 80) (hlc : n ≤ cap) (hcm : cap ≤ maxLen) (hb : ba < w.heap.size) (hat : At w ba off l) (hok : Hid (clsOk (fn l) n = true)) (h1 : Hid (sideB b = true)) :
    Calls Tryz.prog 65 #[.slice (some ⟨ba, off, none⟩) n cap, .int .i64 b] w fun e w' => (∃ v', e = .returned v' ∧ OwnI w' w.heap.size v' (weakL l b)) ∧ Below w.heap.size w w' := by
  have HA : Arg w (.slice (some ⟨ba, off, none⟩) n cap) l := .inr ⟨ba, off, cap, by rw [hn.out], hb, by rw [hn.out]; exact hlc, hcm, hat⟩
  have HB12 : Hid (b = 1 ∨ b = 2) := by
    show b = 1 ∨ b = 2
    have := h1.out
    unfold sideB at this
    exact of_decide_eq_true this
  go_enter Tryz.func65, Tryz.ntmps65
  go_wp2_with fail
  refine (implCls _ l n w hn.out HA (by omega)).mono ?_
  rintro e w1 ⟨rfl, rfl⟩
  rw [hok.out]
  go_wp2_with fail
  refine (implSide? _ _).mono ?_
  rintro e w2 ⟨rfl, rfl⟩
  rw [h1.out]
  go_wp2_with fail
  refine (clone_row ba off n cap l _ hn.out (by omega) hat hb).mono ?_
  rintro e w4 ⟨⟨v4, rfl, o4⟩, b4⟩
  obtain ⟨g, cp, rfl, hg, hgw, hncp⟩ : ∃ g cp, v4 = .slice (some ⟨g, 0, none⟩) n cp ∧ w2.heap.size ≤ g ∧ g < w4.heap.size ∧ n ≤ cp := by
    rcases o4.forms with ⟨_, e⟩ | ⟨g, cp, e, e1, e2, e3, _⟩
    · exfalso; have := hn.out; rw [e] at this; simp at this; omega
    · rw [hn.out] at e e3; exact ⟨g, cp, e, e1, e2, e3⟩
  have HLEN : Hid (∀ k, (stg l b k).length = n) := fun k => by rw [stg_len, hn.out]
  have HNO : Hid (∀ j, j < n → fn (stg l b 6) j ≠ 3) := fun j hj => no3 _ j (by rw [r2_len, r1_len, hn.out]; exact hj)
  have hs4 := b4.size
  go_wp2_with fail
  go_loopw [38] (fun i wr => ∃ k : Nat, k ≤ 7 ∧ i = .int .i64 k ∧ OwnI wr w2.heap.size (.slice (some ⟨g, 0, none⟩) n cp) (stg l b k) ∧ WT wr w4.heap.size g n cp b ∧ Below w2.heap.size w2 wr) (fun i _ => 7 - (intOf i).toNat)
  case atStart =>
    refine ⟨0, by omega, rfl, ?_, ⟨by simp, by simp, by simp; omega, by omega⟩, ?_⟩
    · exact World.ownsRow.alloc (World.ownsRow.alloc o4 _) _
    · exact (b4.alloc hs4 _).alloc (by simp; omega) _
  case round =>
    obtain ⟨k, hk, rfl, ho, hw, hbel⟩ := hrel
    have HO : Hid _ := ho
    have HW : Hid _ := hw
    have HBEL : Hid _ := hbel
    obtain ⟨q0, q1, q2, q3⟩ := hw
    clear ho hbel o4 b4
    rcases (by omega : k = 0 ∨ k = 1 ∨ k = 2 ∨ k = 3 ∨ k = 4 ∨ k = 5 ∨ k = 6 ∨ k = 7) with rfl | rfl | rfl | rfl | rfl | rfl | rfl | rfl
    · go_wp2_with fail
      refine (implR1 _ g n cp _ b HB12 _ _ HW.out (HLEN.out 0) HO.out hl).mono ?_
      rintro e w' ⟨rfl, hru⟩
      go_wp2_with fail
      obtain ⟨a1, a2, a3⟩ := hru.step HW.out HBEL.out hg
      exact ⟨⟨1, by omega, by go_num, a1, a2, a3⟩, by simp [intOf]⟩
    · go_wp2_with fail
      refine (implR2 _ g n cp _ b _ _ HW.out (HLEN.out 1) HO.out hl).mono ?_
      rintro e w' ⟨rfl, hru⟩
      go_wp2_with fail
      obtain ⟨a1, a2, a3⟩ := hru.step HW.out HBEL.out hg
      exact ⟨⟨2, by omega, by go_num, a1, a2, a3⟩, by simp [intOf]⟩
    · go_wp2_with fail
      refine (implR3 _ g n cp _ b _ _ HW.out (HLEN.out 2) HO.out hl).mono ?_
      rintro e w' ⟨rfl, hru⟩
      go_wp2_with fail
      obtain ⟨a1, a2, a3⟩ := hru.step HW.out HBEL.out hg
      exact ⟨⟨3, by omega, by go_num, a1, a2, a3⟩, by simp [intOf]⟩
    · go_wp2_with fail
      refine (implR4 _ g n cp _ b _ _ HW.out (HLEN.out 3) HO.out hn0 hl).mono ?_
      rintro e w' ⟨rfl, hru⟩
      go_wp2_with fail
      obtain ⟨a1, a2, a3⟩ := hru.step HW.out HBEL.out hg
      exact ⟨⟨4, by omega, by go_num, a1, a2, a3⟩, by simp [intOf]⟩
    · go_wp2_with fail
      refine (implR5 _ g n cp _ b _ _ HW.out (HLEN.out 4) HO.out hl hncp).mono ?_
      rintro e w' ⟨rfl, hru⟩
      go_wp2_with fail
      obtain ⟨a1, a2, a3⟩ := hru.step HW.out HBEL.out hg
      exact ⟨⟨5, by omega, by go_num, a1, a2, a3⟩, by simp [intOf]⟩
    · go_wp2_with fail
      refine (implR6 _ g n cp _ b _ _ HW.out (HLEN.out 5) HO.out hl).mono ?_
      rintro e w' ⟨rfl, hru⟩
      go_wp2_with fail
      obtain ⟨a1, a2, a3⟩ := hru.step HW.out HBEL.out hg
      exact ⟨⟨6, by omega, by go_num, a1, a2, a3⟩, by simp [intOf]⟩
    · go_wp2_with fail
      refine (implR7 _ g n cp _ b _ _ HW.out (HLEN.out 6) HO.out hl HNO).mono ?_
      rintro e w' ⟨rfl, hru⟩
      go_wp2_with fail
      obtain ⟨a1, a2, a3⟩ := hru.step HW.out HBEL.out hg
      exact ⟨⟨7, by omega, by go_num, a1, a2, a3⟩, by simp [intOf]⟩
    · go_wp2_with fail
      go_ret
      exact ⟨⟨_, rfl, HO.out⟩, HBEL.out⟩
end Go.Proofs.YtgojdlbidjnmmaaGreat
namespace Go.Proofs.YtgojdlbidjnmmaaGreat
open Go.ChangeShapes Go.WideShapes Go.ChangeAt Go.RowKit
set_option linter.unusedSimpArgs false
attribute [local go_sem ↓] Go.wp_at_zero Go.wp_at_succ

/-- How far the row has been done: ahead of f as it shall be, from f on as it was. -/
def doneTo (z : Nat → Int) (n : Nat) (before after lv : Int) (f : Nat) (L : List Int) : Prop :=
  (∀ j, j < f → fn L j = plainAt z n before after lv j) ∧ ∀ j, f ≤ j → j < n → fn L j = z j

theorem done_step {z : Nat → Int} {n : Nat} {before after lv r : Int} {f t : Nat} {L L7 : List Int} (h : doneTo z n before after lv f L) (hft : f ≤ t) (htn : t ≤ n) (hrun : ∀ j, f ≤ j → j < t → noP (z j) = true)
    (hr : among (ahP z before f) (bhP z n after (n - t)) lv = r) (h7 : ∀ j, j < n → fn L7 j = if f ≤ j ∧ j < f + (t - f) then r else fn L j) : doneTo z n before after lv t L7 := by
  refine ⟨fun j hj => ?_, fun j h1 h2 => ?_⟩
  · rw [h7 j (by omega)]
    by_cases e : f ≤ j
    · rw [if_pos (by omega), plain_run htn hrun e hj]; exact hr.symm
    · rw [if_neg (by omega)]; exact h.1 j (by omega)
  · rw [h7 j h2, if_neg (by omega)]; exact h.2 j (by omega) h2

set_option maxHeartbeats 8000000 in
theorem implPlain_row (b off cap n : Nat) (l : List Int) (before after lv : Int) (w : World) (hn : Hid (l.length = n)) (hn0 : 0 < n) (hl : n ≤ 80) (hlc : n ≤ cap) (hcm : cap ≤ maxLen) (hb : b < w.heap.size) (hat : At w b off l) (hok : Hid (clsOk (fn l) n = true)) (h1 : Hid (sideB before = true)) (h2 : Hid (sideB after = true)) (h3 : 0 ≤ lv) (h4 : lv ≤ 22) :
    Calls Tryz.prog 69 #[.slice (some ⟨b, off, none⟩) n cap, .int .i64 before, .int .i64 after, .int .i64 lv] w fun e w' => (∃ v', e = .returned v' ∧ OwnI w' w.heap.size v' (plainL l before after lv)) ∧ Below w.heap.size w w' := by
  have HA : Arg w (.slice (some ⟨b, off, none⟩) n cap) l := .inr ⟨b, off, cap, by rw [hn.out], hb, by rw [hn.out]; exact hlc, hcm, hat⟩
  go_enter Tryz.func69, Tryz.ntmps69
  go_wp2_with fail
  refine (implCls _ l n w hn.out HA (by omega)).mono ?_
  rintro e w1 ⟨rfl, rfl⟩
  rw [hok.out]
  go_wp2_with fail
  refine (implSide? _ _).mono ?_
  rintro e w2 ⟨rfl, rfl⟩
  rw [h1.out]
  go_wp2_with fail
  refine (implSide? _ _).mono ?_
  rintro e w3 ⟨rfl, rfl⟩
  rw [h2.out]
  go_wp2_with fail
  refine (clone_row b off n cap l _ hn.out (by omega) hat hb).mono ?_
  rintro e w4 ⟨⟨v4, rfl, o4⟩, b4⟩
  obtain ⟨g, cp, rfl, hg, hgw, hncp⟩ : ∃ g cp, v4 = .slice (some ⟨g, 0, none⟩) n cp ∧ w3.heap.size ≤ g ∧ g < w4.heap.size ∧ n ≤ cp := by
    rcases o4.forms with ⟨_, e⟩ | ⟨g, cp, e, e1, e2, e3, _⟩
    · exfalso; have := hn.out; rw [e] at this; simp at this; omega
    · rw [hn.out] at e e3; exact ⟨g, cp, e, e1, e2, e3⟩
  go_wp2_with fail
  go_loopw [10, 11] (fun q i wr => ∃ (f : Nat) (L : List Int), f ≤ n ∧ i = .int .i64 f ∧ q = .int .i64 (ahP (fn l) before f) ∧ OwnI wr w3.heap.size (.slice (some ⟨g, 0, none⟩) n cp) L ∧ Hid (doneTo (fn l) n before after lv f L) ∧ Below w3.heap.size w3 wr) (fun _ i _ => n - (intOf i).toNat)
  case atStart => exact ⟨0, l, Nat.zero_le _, rfl, rfl, o4, ⟨fun j hj => by omega, fun j _ _ => rfl⟩, b4⟩
  case round =>
    obtain ⟨f, L, hf, rfl, rfl, hown, hinv, hbel⟩ := hrel
    by_cases hlt : f < n
    · have hcell : ∀ j, f ≤ j → j < n → wr.cell? ⟨g, j, none⟩ = some (.int .i64 (fn l j)) := fun j h1 h2 => by rw [hown.cellN j h2, hinv.out.2 j h1 h2]
      have HC : Hid _ := hcell
      clear hcell
      have c0 := HC.out f (Nat.le_refl _) hlt
      by_cases hq : noP (fn l f) = true
      · have HQ : Hid _ := hq
        clear hq
        go_wp2_with (go_at_call 112; refine (implPlain? _ _).mono ?_; rintro e w5 ⟨rfl, rfl⟩; rw [HQ.out])
        go_loop [12] (fun t => ∃ (t' : Nat), f < t' ∧ t' ≤ n ∧ t = .int .i64 t' ∧ Hid (∀ j, f ≤ j → j < t' → noP (fn l j) = true)) (fun t => n - (intOf t).toNat)
        case atStart => exact ⟨f + 1, by omega, by omega, by go_num, fun j h1 h2 => by
          have : j = f := by omega
          subst this; exact HQ.out⟩
        case round =>
          obtain ⟨t, hft, htn, rfl, hrun⟩ := hrel
          by_cases htl : t < n
          · have ct := HC.out t (by omega) htl
            have hti : (t : Int) < (n : Int) := by omega
            by_cases hqt : noP (fn l t) = true
            · have HT : Hid _ := hqt
              clear hqt
              go_wp2_with (go_at_call 112; refine (implPlain? _ _).mono ?_; rintro e w5 ⟨rfl, rfl⟩; rw [HT.out])
              refine ⟨⟨t + 1, by omega, by omega, by go_num, fun j h1 h2 => ?_⟩, by simp only [intOf]; omega⟩
              by_cases e : j = t
              · subst e; exact HT.out
              · exact hrun.out j h1 (by omega)
            · have hqt' : noP (fn l t) = false := by simpa using hqt
              have HT : Hid _ := hqt'
              clear hqt hqt'
              have g1 : (f : Int) ≤ (t : Int) := by omega
              have g2 : (t : Int) ≤ (cp : Int) := by omega
              have g3 : (f : Int) < (cp : Int) := by omega
              obtain ⟨r, hr⟩ : ∃ r, among (ahP (fn l) before f) (fn l t) lv = r := ⟨_, rfl⟩
              have HR : Hid _ := hr
              clear hr
              go_wp2_with (go_at_call 112; refine (implPlain? _ _).mono ?_; rintro e w5 ⟨rfl, rfl⟩; rw [HT.out])
              go_region_with (first | (go_at_call 113; refine (implAmong _ _ _ _ h3 r HR).mono ?_; rintro e w6 ⟨rfl, rfl⟩) | (go_at_call 53; refine (fill_at g f (t - f) _ n cp L _ r _ (by exact hown.drewN 1) (by omega) (by omega)).mono ?_; rintro e w7 ⟨rfl, ⟨L7, hown7, hL7⟩, hgr7, hsz7⟩))
              all_goals (go_wp2_with fail)
              all_goals (refine ⟨⟨t, L7, by omega, by go_num, by rw [ahP_run (f := f) (t := t) (by omega) hrun.out], hown7, ?_, (hbel.drew).grown hgr7 hbel.size (fun k hk => by cases hk; exact hg)⟩, by simp only [intOf]; omega⟩)
              all_goals (refine done_step hinv.out (by omega) (by omega) hrun.out ?_ hL7.out; rw [bhP_hit htl HT.out]; exact HR.out)
          · have e : t = n := by omega
            have hti : ((t : Int) < (n : Int)) = False := by simp; omega
            have g1 : (f : Int) ≤ (t : Int) := by omega
            have g2 : (t : Int) ≤ (cp : Int) := by omega
            have g3 : (f : Int) < (cp : Int) := by omega
            obtain ⟨r, hr⟩ : ∃ r, among (ahP (fn l) before f) after lv = r := ⟨_, rfl⟩
            have HR : Hid _ := hr
            have HE : Hid _ := e
            clear hr e
            go_wp2_with fail
            go_region_with (first | (go_at_call 113; refine (implAmong _ _ _ _ h3 r HR).mono ?_; rintro e w6 ⟨rfl, rfl⟩) | (go_at_call 53; refine (fill_at g f (t - f) _ n cp L _ r _ (by exact hown.drewN 1) (by omega) (by omega)).mono ?_; rintro e w7 ⟨rfl, ⟨L7, hown7, hL7⟩, hgr7, hsz7⟩))
            all_goals (go_wp2_with fail)
            all_goals (refine ⟨⟨t, L7, by omega, by go_num, by rw [ahP_run (f := f) (t := t) (by omega) hrun.out], hown7, ?_, (hbel.drew).grown hgr7 hbel.size (fun k hk => by cases hk; exact hg)⟩, by simp only [intOf]; omega⟩)
            all_goals (refine done_step hinv.out (by omega) (by omega) hrun.out ?_ hL7.out; rw [show n - t = 0 by omega]; exact HR.out)
      · have hq' : noP (fn l f) = false := by simpa using hq
        have HQ : Hid _ := hq'
        clear hq hq'
        go_wp2_with (go_at_call 112; refine (implPlain? _ _).mono ?_; rintro e w5 ⟨rfl, rfl⟩; rw [HQ.out])
        refine ⟨⟨f + 1, L, by omega, by go_num, by rw [ahP_hit HQ.out], hown, ⟨fun j hj => ?_, fun j a c => hinv.out.2 j (by omega) c⟩, hbel⟩, by simp only [intOf]; omega⟩
        by_cases e : j = f
        · subst e; rw [plain_other HQ.out]; exact hinv.out.2 j (Nat.le_refl _) hlt
        · exact hinv.out.1 j (by omega)
    · have e : f = n := by omega
      subst e
      go_wp2_with fail
      go_ret
      have el : L = plainL l before after lv := by
        refine ext_fn (by rw [plainL_len, hn.out]; exact hown.len) (fun j hj => ?_)
        have hjn : j < f := by rw [← hown.len]; exact hj
        rw [fn_plainL (by rw [hn.out]; exact hjn), hn.out]; exact hinv.out.1 j hjn
      rw [el] at hown
      exact ⟨⟨_, rfl, hown⟩, hbel⟩
end Go.Proofs.YtgojdlbidjnmmaaGreat
namespace Go.Proofs.YtgojdlbidjnmmaaGreat
open Go.ChangeShapes Go.WideShapes Go.ChangeAt Go.RowKit
set_option linter.unusedSimpArgs false

theorem plainR_len (l : List Int) (b a lv : Int) : (plainR l b a lv).length ≤ l.length := by
  unfold plainR; split
  · rw [plainL_len]; exact Nat.le_refl _
  · simp
theorem plainR_no {l : List Int} {b a lv : Int} (h : ¬ (clsOk (fn l) l.length = true ∧ sideB b = true ∧ sideB a = true ∧ lvB lv = true)) : plainR l b a lv = [] := by
  unfold plainR; rw [if_neg h]
theorem plainR_yes {l : List Int} {b a lv : Int} (h : clsOk (fn l) l.length = true ∧ sideB b = true ∧ sideB a = true ∧ lvB lv = true) : plainR l b a lv = plainL l b a lv := by
  unfold plainR; rw [if_pos h]
theorem lvB_out {lv : Int} (h : lvB lv = true) : 0 ≤ lv ∧ lv ≤ 22 := by simpa [lvB] using h

set_option maxHeartbeats 4000000 in
theorem implPlain (v : Value) (l : List Int) (before after lv : Int) (w : World) (a0 : Option Addr) (cap0 : Nat) (hva : v = .slice a0 l.length cap0) (hv : Arg w v l) (hl : l.length ≤ 1048576) :
    Calls Tryz.prog 69 #[v, .int .i64 before, .int .i64 after, .int .i64 lv] w fun e w' => (∃ v', e = .returned v' ∧ OwnI w' w.heap.size v' (plainR l before after lv)) ∧ Below w.heap.size w w' := by
  subst hva
  by_cases hc : clsOk (fn l) l.length = true
  · by_cases h1 : sideB before = true
    · by_cases h2 : sideB after = true
      · by_cases h3 : lvB lv = true
        · rw [plainR_yes ⟨hc, h1, h2, h3⟩]
          obtain ⟨h4, h5⟩ := lvB_out h3
          by_cases h0 : l = []
          · subst h0
            have HC : Hid _ := hc
            have H1 : Hid _ := h1
            have H2 : Hid _ := h2
            clear hc h1 h2 h3
            go_enter Tryz.func69, Tryz.ntmps69
            go_wp2_with fail
            refine (implCls _ [] 0 w rfl hv (by omega)).mono ?_
            rintro e w1 ⟨rfl, rfl⟩
            go_wp2_with fail
            refine (implSide? _ _).mono ?_
            rintro e w2 ⟨rfl, rfl⟩
            rw [H1.out]
            go_wp2_with fail
            refine (implSide? _ _).mono ?_
            rintro e w3 ⟨rfl, rfl⟩
            rw [H2.out]
            go_wp2_with fail
            refine (clone_any _ [] _ hv (by simp)).mono ?_
            rintro e w4 ⟨⟨v4, rfl, o4⟩, b4⟩
            rcases o4.forms with ⟨rfl, _⟩ | ⟨g, cp, rfl, _⟩
            · go_wp2_with fail
              go_rounds 1
              go_ret
              exact ⟨⟨_, rfl, OwnI.nil _ _⟩, b4⟩
            · go_wp2_with fail
              go_rounds 1
              go_ret
              exact ⟨⟨_, rfl, o4⟩, b4⟩
          · rcases hv with ⟨_, _, _, e⟩ | ⟨b, off, cap, e, hb, hlc, hcm, hat⟩
            · exact absurd e h0
            · cases e
              exact implPlain_row b off cap0 l.length l before after lv w rfl (by cases l with | nil => exact absurd rfl h0 | cons => simp) (clsOk_out hc).1 hlc hcm hb hat hc h1 h2 h4 h5
        · have h3' : lvB lv = false := by simpa using h3
          rw [plainR_no (fun h => h3 h.2.2.2)]
          have HC : Hid _ := hc
          have H1 : Hid _ := h1
          have H2 : Hid _ := h2
          have hlv : lv < 0 ∨ 22 < lv := by
            unfold lvB at h3'; rw [decide_eq_false_iff_not] at h3'; omega
          clear hc h1 h2 h3 h3'
          rcases hlv with hlv | hlv
          · go_enter Tryz.func69, Tryz.ntmps69
            go_wp2_with fail
            refine (implCls _ l l.length w rfl hv (by omega)).mono ?_
            rintro e w1 ⟨rfl, rfl⟩
            rw [HC.out]
            go_wp2_with fail
            refine (implSide? _ _).mono ?_
            rintro e w2 ⟨rfl, rfl⟩
            rw [H1.out]
            go_wp2_with fail
            refine (implSide? _ _).mono ?_
            rintro e w3 ⟨rfl, rfl⟩
            rw [H2.out]
            go_wp2_with fail
            go_ret
            exact ⟨⟨_, rfl, OwnI.nil _ _⟩, Below.refl _ _⟩
          · have hlv0 : 0 ≤ lv := by omega
            go_enter Tryz.func69, Tryz.ntmps69
            go_wp2_with fail
            refine (implCls _ l l.length w rfl hv (by omega)).mono ?_
            rintro e w1 ⟨rfl, rfl⟩
            rw [HC.out]
            go_wp2_with fail
            refine (implSide? _ _).mono ?_
            rintro e w2 ⟨rfl, rfl⟩
            rw [H1.out]
            go_wp2_with fail
            refine (implSide? _ _).mono ?_
            rintro e w3 ⟨rfl, rfl⟩
            rw [H2.out]
            go_wp2_with fail
            go_ret
            exact ⟨⟨_, rfl, OwnI.nil _ _⟩, Below.refl _ _⟩
      · have h2' : sideB after = false := by simpa using h2
        rw [plainR_no (fun h => h2 h.2.2.1)]
        have HC : Hid _ := hc
        have H1 : Hid _ := h1
        have H2 : Hid _ := h2'
        clear hc h1 h2 h2'
        go_enter Tryz.func69, Tryz.ntmps69
        go_wp2_with fail
        refine (implCls _ l l.length w rfl hv (by omega)).mono ?_
        rintro e w1 ⟨rfl, rfl⟩
        rw [HC.out]
        go_wp2_with fail
        refine (implSide? _ _).mono ?_
        rintro e w2 ⟨rfl, rfl⟩
        rw [H1.out]
        go_wp2_with fail
        refine (implSide? _ _).mono ?_
        rintro e w3 ⟨rfl, rfl⟩
        rw [H2.out]
        go_wp2_with fail
        go_ret
        exact ⟨⟨_, rfl, OwnI.nil _ _⟩, Below.refl _ _⟩
    · have h1' : sideB before = false := by simpa using h1
      rw [plainR_no (fun h => h1 h.2.1)]
      have HC : Hid _ := hc
      have H1 : Hid _ := h1'
      clear hc h1 h1'
      go_enter Tryz.func69, Tryz.ntmps69
      go_wp2_with fail
      refine (implCls _ l l.length w rfl hv (by omega)).mono ?_
      rintro e w1 ⟨rfl, rfl⟩
      rw [HC.out]
      go_wp2_with fail
      refine (implSide? _ _).mono ?_
      rintro e w2 ⟨rfl, rfl⟩
      rw [H1.out]
      go_wp2_with fail
      go_ret
      exact ⟨⟨_, rfl, OwnI.nil _ _⟩, Below.refl _ _⟩
  · have hc' : clsOk (fn l) l.length = false := by simpa using hc
    rw [plainR_no (fun h => hc h.1)]
    have HC : Hid _ := hc'
    clear hc hc'
    go_enter Tryz.func69, Tryz.ntmps69
    go_wp2_with fail
    refine (implCls _ l l.length w rfl hv (by omega)).mono ?_
    rintro e w1 ⟨rfl, rfl⟩
    rw [HC.out]
    go_wp2_with fail
    go_ret
    exact ⟨⟨_, rfl, OwnI.nil _ _⟩, Below.refl _ _⟩

end Go.Proofs.YtgojdlbidjnmmaaGreat
