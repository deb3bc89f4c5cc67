import Derived.Test.YtbjcdogbhnadkacImplTurn
namespace Go.Proofs.Ytbjcdogbhnadkac
open Go.ChangeShapes Go.WideShapes Go.ChangeAt Go.RowKit
set_option linter.unusedSimpArgs false

theorem boxed (w : World) (v : Value) (T : TypeId) : ∃ W, w.alloc (.cells #[v] T) = W ∧ W.heap.size = w.heap.size + 1 ∧ Below w.heap.size w W ∧ W.cell? ⟨w.heap.size, 0, none⟩ = some v ∧ W.frozen? ⟨w.heap.size, 0, none⟩ = false :=
  ⟨_, rfl, by simp, (Below.refl _ _).alloc (Nat.le_refl _) _, by simp, by simp⟩
def ptrInt (w : World) : Value → Nat
  | .pointer (some a) => match w.cell? a with | some (.int _ n) => n.toNat | _ => 0
  | _ => 0
theorem ptrInt_of {w : World} {a : Addr} {k : IntKind} {n : Int} (h : w.cell? a = some (.int k n)) : ptrInt w (.pointer (some a)) = n.toNat := by simp [ptrInt, h]
theorem ord0_some (z : Nat → Int) (n : Nat) (h : 1 ≤ mostF z n) : 0 < (ord0 z n).length := by
  induction n with
  | zero => simp [mostF] at h
  | succ n ih =>
    simp only [mostF] at h
    simp only [ord0]
    split
    · simp
    · rename_i h0
      split at h
      · omega
      · exact ih h

set_option maxHeartbeats 8000000 in
theorem implOrder_row (b off cap n : Nat) (lv : List Int) (w : World) (hn : lv.length = n) (hl : n ≤ 80) (hlc : n ≤ cap) (hcm : cap ≤ maxLen) (hb : b < w.heap.size) (hat : At w b off lv) (hok : lvF (fn lv) n = true) :
    Calls Try.prog 20 #[.slice (some ⟨b, off, none⟩) n cap] w fun e w' => (∃ v', e = .returned v' ∧ OwnI w' w.heap.size v' (orderL lv)) ∧ Below w.heap.size w w' := by
  obtain ⟨W1, hW, hs1, hB1, hX, _⟩ := boxed w (.slice (some ⟨b, off, none⟩) n cap) 23
  have hat1 : At W1 b off lv := hat.below hB1 hb
  have HO := implLv (.slice (some ⟨b, off, none⟩) n cap) lv W1 (.inr ⟨b, off, cap, by rw [hn], by omega, by omega, hcm, hat1⟩) (by omega)
  rw [hn, hok] at HO
  have h22 : ∀ j, j < n → fn lv j ≤ 22 := fun j hj => by have := lvF_get hok hj; simp [lvl] at this; omega
  have HF : Hid (orderL lv = ordN lv (mostF (fn lv) n).toNat (ord0 (fn lv) n)) := by show orderL lv = _; unfold orderL; rw [hn]
  have H22 : Hid _ := h22
  have HWW : Hid _ := hW
  clear h22 hok hW
  obtain ⟨X, hXe⟩ : ∃ X, w.heap.size = X := ⟨_, rfl⟩
  have HXE : Hid _ := hXe
  go_enter Try.func20, Try.ntmps20
  go_wp2_with fail
  rw [hXe] at hX hs1 hB1 hb
  try rw [hXe]
  rw [HWW.out]
  clear hXe
  refine HO.mono ?_
  rintro e w1 ⟨rfl, rfl⟩
  go_wp2_with fail
  go_loopw [3, 4, 13] (fun q ms i wr => ∃ (k : Nat) (mm : Int), k ≤ n ∧ i = .int .i64 k ∧ ms = .int .i64 mm ∧ Hid (mm = mostF (fn lv) k) ∧ OwnI wr (X + 1) q (ord0 (fn lv) k) ∧ Below (X + 1) w1 wr) (fun _ _ i _ => n - (intOf i).toNat)
  case atStart => exact ⟨0, 0, Nat.zero_le _, rfl, rfl, rfl, OwnI.nil _ _, Below.refl _ _⟩
  case round =>
    obtain ⟨k, mm, hk, rfl, rfl, hmm, hown, hbel⟩ := hrel
    have hsz : X + 1 ≤ wr.heap.size := by have := hbel.size; omega
    by_cases hlt : k < n
    · have hcell : wr.cell? ⟨b, off + k, none⟩ = some (.int .i64 (fn lv k)) := (hat1.below hbel (by omega)) k (by omega)
      have hle := ord0_len (fn lv) k
      have hmb := mostF_bounds H22.out k (by omega)
      rw [← hmm.out] at hmb
      by_cases h0 : 0 ≤ fn lv k
      · have HOO : Hid (ord0 (fn lv) (k + 1) = ord0 (fn lv) k ++ [(k : Int)]) := by show ord0 _ _ = _; simp [ord0, h0]
        by_cases hg : mm < fn lv k
        · have HM : Hid (mostF (fn lv) (k + 1) = fn lv k) := by show mostF _ _ = _; have := hmm.out; simp only [mostF]; rw [if_pos (by omega)]
          go_wp2_with (at_builtin; refine own_append (.tmp 20) (.tmp 22) hown (by omega) hsz rfl rfl rfl rfl ?_; intro v' w5 hown5 hgr5)
          go_roundw
          case rel => exact ⟨k + 1, fn lv k, by omega, by go_num, by first | rfl | go_num, HM.out.symm, by rw [HOO.out]; exact hown5, grown_below hbel hgr5 hown (Nat.le_refl _) hsz⟩
          case measure => simp only [intOf]; omega
        · have HM : Hid (mostF (fn lv) (k + 1) = mm) := by show mostF _ _ = _; have := hmm.out; simp only [mostF]; rw [if_neg (by omega)]; omega
          go_wp2_with (at_builtin; refine own_append (.tmp 20) (.tmp 22) hown (by omega) hsz rfl rfl rfl rfl ?_; intro v' w5 hown5 hgr5)
          go_roundw
          case rel => exact ⟨k + 1, mm, by omega, by go_num, by first | rfl | go_num, HM.out.symm, by rw [HOO.out]; exact hown5, grown_below hbel hgr5 hown (Nat.le_refl _) hsz⟩
          case measure => simp only [intOf]; omega
      · have HOO : Hid (ord0 (fn lv) (k + 1) = ord0 (fn lv) k) := by show ord0 _ _ = _; simp [ord0, h0]
        have HM : Hid (mostF (fn lv) (k + 1) = mm) := by show mostF _ _ = _; have := hmm.out; simp only [mostF]; rw [if_neg (by omega)]; omega
        go_wp2_with fail
        go_roundw
        case rel => exact ⟨k + 1, mm, by omega, by go_num, rfl, HM.out.symm, by rw [HOO.out]; exact hown, hbel⟩
        case measure => simp only [intOf]; omega
    · have e : k = n := by omega
      subst e
      have hmb := mostF_bounds H22.out k (Nat.le_refl _)
      have hsome := ord0_some (fn lv) k
      rw [← hmm.out] at hmb HF hsome
      obtain ⟨Mx, hMx⟩ : ∃ Mx : Nat, mm = (Mx : Int) := ⟨mm.toNat, by omega⟩
      subst hMx
      rw [Int.toNat_natCast] at HF
      have hoin := ord0_inn (fn lv) k k (Nat.le_refl _)
      have hole := ord0_len (fn lv) k
      obtain ⟨L0, hL0⟩ : ∃ L0, (ord0 (fn lv) k).length = L0 := ⟨_, rfl⟩
      rw [hL0] at hsome hole
      have HOI : Hid _ := hoin
      have HSO : Hid _ := hsome
      clear hoin hsome
      obtain ⟨W2, hW2, hs2, hB2, hY2, hYf2⟩ := boxed wr (.int .i64 (Mx : Int)) 3
      have HW2 : Hid _ := hW2
      clear hW2
      go_wp2_with fail
      rw [HW2.out]
      go_loopw [7] (fun p wr2 => ∃ (m Y : Nat) (O : List Int), m ≤ Mx ∧ p = .pointer (some ⟨Y, 0, none⟩) ∧ wr2.cell? ⟨Y, 0, none⟩ = some (.int .i64 (m : Int)) ∧ wr2.frozen? ⟨Y, 0, none⟩ = false ∧ X + 1 ≤ Y ∧ Hid (∀ g, Value.ownBlock u3 = some g → Y ≠ g) ∧ OwnI wr2 (X + 1) u3 O ∧ O.length = L0 ∧ Hid (Inn k O ∧ ordN lv m O = orderL lv) ∧ Below (X + 1) w1 wr2) (fun p wr2 => ptrInt wr2 p)
      case atStart =>
        refine ⟨Mx, wr.heap.size, _, Nat.le_refl _, rfl, hY2, hYf2, hsz, fun g hg e => ?_, hown.below hB2, hL0, ⟨HOI.out, HF.out.symm⟩, hbel.trans (hB2.mono hsz)⟩
        have := (hown.lt g hg).2; omega
      case round =>
        obtain ⟨m, Y, O, hm, rfl, hY, hYf, hXY, hYg, hownO, hOl, hinv, hbelO⟩ := hrel
        have hX2 : wr.cell? ⟨X, 0, none⟩ = some (.slice (some ⟨b, off, none⟩) k cap) := (hbelO.cell (p := ⟨X, 0, none⟩) (by show X < X + 1; omega)).trans hX
        by_cases hm1 : 1 ≤ m
        · have hL : 0 < L0 := HSO.out (by omega)
          rcases hownO.forms with ⟨_, hO0⟩ | ⟨g, cp, rfl, hg, hgw, hlc2, hcm2, _⟩
          · exfalso; rw [hO0] at hOl; simp at hOl; omega
          · have hYg2 := hYg.out g rfl
            rw [hOl] at hownO hlc2 ⊢
            have hat2 := hat1.below hbelO (by omega)
            have hmi : (1 : Int) ≤ (m : Int) := by omega
            have HIN : Hid (Inn k O) := hinv.out.1
            have HNX : Hid (ordN lv (m - 1) (turned (atLeast lv O (m : Int)) O) = orderL lv) := by
              show ordN lv (m - 1) (turned (atLeast lv O (m : Int)) O) = orderL lv
              rw [← hinv.out.2]
              obtain ⟨j, rfl⟩ : ∃ j, m = j + 1 := ⟨m - 1, by omega⟩
              rfl
            go_wp2_with fail
            refine (implTurn_row g L0 cp (X + 1) X Y b off cap k O lv _ _ hownO hX2 hY (by omega) hYg2 (by omega) hat2 hn (by omega) HIN).mono ?_
            rintro e w6 ⟨rfl, o6, gr6, sz6⟩
            have hY6 := grown_cell gr6 hY hYg2
            have hs6 : X + 1 ≤ w6.heap.size := by have := hbelO.size; have := gr6.size; omega
            have hbel6 : Below (X + 1) w1 w6 := hbelO.grown gr6 (by have := hbelO.size; omega) (fun kk hkk => by simp at hkk; omega)
            have HS6 : Hid _ := sz6
            clear sz6
            go_wp2_with fail
            obtain ⟨W7, hW7, hs7, hB7, hY7, hYf7⟩ := boxed w6 (.int .i64 ((m : Int) - 1)) 3
            rw [hW7]
            have hm2 : (m : Int) - 1 = ((m - 1 : Nat) : Int) := by omega
            rw [hm2] at hY7
            refine ⟨⟨m - 1, w6.heap.size, _, by omega, rfl, hY7, hYf7, by omega, fun gg hgg e => ?_, o6.below hB7, by rw [turned_len]; exact hOl, ⟨inn_turned HIN.out _, HNX.out⟩, hbel6.trans (hB7.mono (by omega))⟩, ?_⟩
            · simp [Value.ownBlock] at hgg
              have := gr6.size; omega
            · rw [ptrInt_of hY7, ptrInt_of hY]; omega
        · have hm0 : m = 0 := by omega
          subst hm0
          go_wp2_with fail
          go_ret
          refine ⟨⟨_, rfl, ?_⟩, ?_⟩
          · rw [← hinv.out.2, HXE.out]; exact hownO.mono (by omega)
          · rw [HXE.out]; exact hB1.trans (hbelO.mono (by omega))
end Go.Proofs.Ytbjcdogbhnadkac
