import Derived.Test.YtgojdlbidjnmmabGreatPk27
namespace Go.Proofs.YtgojdlbidjnmmabGreat
open Go.ChangeShapes Go.WideShapes Go.ChangeAt Go.RowKit
set_option linter.unusedSimpArgs false

theorem grown_cell {w w' : World} {g : Nat} (h : w.grownBy w' (some g)) {a : Addr} {v : Value} (hc : w.cell? a = some v) (hne : a.block ≠ g) : w'.cell? a = some v :=
  h.cell hc (by simpa using hne)
theorem At.grown {w w' : World} {g b off : Nat} {l : List Int} (h : At w b off l) (hg : w.grownBy w' (some g)) (hne : b ≠ g) : At w' b off l :=
  fun j hj => grown_cell hg (h j hj) hne
theorem grown_both {a b c : World} {row : Option Nat} (h : a.grownBy b row) (k : b.grownBy c row) : a.grownBy c row :=
  ⟨k.os.trans h.os, k.tape.trans h.tape, k.output.trans h.output, Nat.le_trans h.size k.size, fun i hi hne => (k.block i (Nat.lt_of_lt_of_le hi h.size) hne).trans (h.block i hi hne)⟩

set_option maxHeartbeats 1000000 in
theorem closure_any (X Y b off cap nl y : Nat) (x m : Int) (w : World) (hX : w.cell? ⟨X, 0, none⟩ = some (.slice (some ⟨b, off, none⟩) nl cap)) (hY : w.cell? ⟨Y, 0, none⟩ = some (.int .i64 m)) (hc : w.cell? ⟨b, off + y, none⟩ = some (.int .i64 x)) (hy : (y : Int) < (nl : Int)) :
    Calls Tryz.prog 29 #[.int .i64 (y : Int), .pointer (some ⟨X, 0, none⟩), .pointer (some ⟨Y, 0, none⟩)] w fun e w' => e = .returned (.bool (decide (m ≤ x))) ∧ ∃ n, w' = w.drewN n := by
  go_enter Tryz.func29, Tryz.ntmps29
  go_wp2
  go_quiet (fail)
  go_wp2
  go_ret
  exact ⟨rfl, _, rfl⟩

set_option maxHeartbeats 3000000 in
theorem implTurn_row (g n cp B X Y b off cap nl : Nat) (o lv : List Int) (m : Int) (w : World) (ho : OwnI w B (.slice (some ⟨g, 0, none⟩) n cp) o) (hX : w.cell? ⟨X, 0, none⟩ = some (.slice (some ⟨b, off, none⟩) nl cap)) (hY : w.cell? ⟨Y, 0, none⟩ = some (.int .i64 m)) (hXg : X ≠ g) (hYg : Y ≠ g) (hbg : b ≠ g) (hat : At w b off lv) (hnl : lv.length = nl) (hn : n ≤ 1048576) (hin : Hid (InnO nl o)) :
    Calls Tryz.prog 28 #[.slice (some ⟨g, 0, none⟩) n cp, .func (Fn.func 29) #[] #[.pointer (some ⟨X, 0, none⟩), .pointer (some ⟨Y, 0, none⟩)]] w fun e w' => e = .returned (.tuple #[]) ∧ OwnI w' B (.slice (some ⟨g, 0, none⟩) n cp) (turned (atLeast lv o m) o) ∧ w.grownBy w' (some g) ∧ w'.heap.size = w.heap.size := by
  obtain ⟨q, hq⟩ : ∃ q, atLeast lv o m = q := ⟨_, rfl⟩
  have HQ : Hid _ := hq
  clear hq
  have hol := ho.len
  have hncp : n ≤ cp := by
    rcases ho.forms with ⟨h, _⟩ | ⟨g', c', h, _, _, h2, _⟩
    · cases h
    · simp only [Value.slice.injEq] at h; omega
  have HOL : Hid _ := hol
  clear hol
  go_enter Tryz.func28, Tryz.ntmps28
  go_wp2_with fail
  go_loopw [4, 9] (fun fr i wr => ∃ (f k : Nat) (M : List Int), f ≤ k ∧ k ≤ n ∧ fr = .int .i64 f ∧ i = .int .i64 k ∧ OwnI wr B (.slice (some ⟨g, 0, none⟩) n cp) M ∧ Hid ((∀ x, x < f → fn M x = turnAt q o x) ∧ (∀ x, f ≤ x → x < n → fn M x = fn o x) ∧ (∀ y, f ≤ y → y < k → q y = true) ∧ (f = 0 ∨ q (f - 1) = false)) ∧ w.grownBy wr (some g) ∧ Hid (wr.heap.size = w.heap.size)) (fun _ i _ => n - (intOf i).toNat)
  case atStart => exact ⟨0, 0, o, Nat.le_refl _, Nat.zero_le _, rfl, rfl, ho, ⟨fun x hx => by omega, fun x _ _ => rfl, fun y _ _ => by omega, .inl rfl⟩, ⟨rfl, rfl, rfl, Nat.le_refl _, fun _ _ _ => rfl⟩, rfl⟩
  case round =>
    obtain ⟨f, k, M, hfk, hkn, rfl, rfl, hown, hinv, hgr, hsz⟩ := hrel
    by_cases hlt : k < n
    · have hko := hinv.out.2.1 k hfk hlt
      obtain ⟨y, hy⟩ : ∃ y : Nat, fn o k = (y : Int) := ⟨(fn o k).toNat, by have := (hin.out k (by rw [HOL.out]; exact hlt)).1; omega⟩
      have hyn : y < nl := by have := (hin.out k (by rw [HOL.out]; exact hlt)).2; omega
      have hc1 : wr.cell? ⟨g, k, none⟩ = some (.int .i64 (y : Int)) := by rw [hown.cellN k hlt, hko, hy]
      have hX2 := grown_cell hgr hX hXg
      have hY2 := grown_cell hgr hY hYg
      have hc2 : wr.cell? ⟨b, off + y, none⟩ = some (.int .i64 (fn lv y)) := (hat.grown hgr hbg) y (by omega)
      have hyi : (y : Int) < (nl : Int) := by omega
      have HL : Hid (q k = decide (m ≤ fn lv y)) := by
        show q k = decide (m ≤ fn lv y)
        rw [← HQ.out]; unfold atLeast; rw [hy]; simp
      clear hy hko
      by_cases hle : m ≤ fn lv y
      · have HK : Hid (q k = true) := by show q k = true; rw [HL.out]; simpa using hle
        have hdec : decide (m ≤ fn lv y) = true := by simpa using hle
        go_wp2_with (go_at_call 29; refine (closure_any X Y b off cap nl y _ m _ hX2 hY2 hc2 hyi).mono ?_; rintro e w5 ⟨rfl, nd, rfl⟩)
        go_roundw
        case rel =>
          refine ⟨f, k + 1, M, by omega, by omega, rfl, by go_num, hown.drewN _, ⟨hinv.out.1, hinv.out.2.1, fun z a c => ?_, hinv.out.2.2.2⟩, ⟨hgr.os, hgr.tape, hgr.output, hgr.size, hgr.block⟩, hsz⟩
          by_cases e : z = k
          · subst e; exact HK.out
          · exact hinv.out.2.2.1 z a (by omega)
        case measure => simp only [intOf]; omega
      · have HK : Hid (q k = false) := by show q k = false; rw [HL.out]; simpa using hle
        have hdec : decide (m ≤ fn lv y) = false := by simpa using hle
        have hfcp : (f : Int) < (cp : Int) := by omega
        have hfc : (f : Int) ≤ (k : Int) := by omega
        have hkc : (k : Int) ≤ (cp : Int) := by omega
        go_wp2_with (go_at_call 29; refine (closure_any X Y b off cap nl y _ m _ hX2 hY2 hc2 hyi).mono ?_; rintro e w5 ⟨rfl, nd, rfl⟩)
        refine (reverse_any g f (k - f) n cp _ B M _ (hown.drewN _) (by omega) hn).mono ?_
        rintro e w6 ⟨rfl, ⟨M2, hown2, hM2⟩, hgr2, hsz2⟩
        have hgr0 : w.grownBy (wr.drewN nd) (some g) := ⟨hgr.os, hgr.tape, hgr.output, hgr.size, hgr.block⟩
        have hgr3 : w.grownBy w6 (some g) := grown_both hgr0 hgr2
        have HS2 : Hid (w6.heap.size = w.heap.size) := by show w6.heap.size = w.heap.size; rw [hsz2]; exact hsz.out
        clear hsz2 hgr2
        go_wp2_with fail
        go_roundw
        case rel =>
          refine ⟨k + 1, k + 1, M2, Nat.le_refl _, by omega, by go_num, by go_num, hown2, ⟨fun x hx => ?_, fun x a c => ?_, fun z a c => by omega, .inr (by rw [Nat.add_sub_cancel]; exact HK.out)⟩, hgr3, HS2⟩
          · rw [hM2.out x (by omega)]
            by_cases e : x = k
            · subst e
              rw [if_neg (by omega), hinv.out.2.1 x hfk hlt, turn_out HK.out]
            · by_cases e2 : f ≤ x
              · rw [if_pos (by omega), hinv.out.2.1 _ (by omega) (by omega), turn_in (s := f) (e := k) e2 (by omega) (by rw [HOL.out]; omega) hinv.out.2.2.1 hinv.out.2.2.2 (.inr HK.out)]
                congr 1; omega
              · rw [if_neg (by omega)]; exact hinv.out.1 x (by omega)
          · rw [hM2.out x c, if_neg (by omega)]; exact hinv.out.2.1 x (by omega) c
        case measure => simp only [intOf]; omega
    · have e : k = n := by omega
      subst e
      have hfc : (f : Int) ≤ (k : Int) := by omega
      have hend : ∀ (M2 : List Int) (i0 m0 : Nat), M2.length = k → (∀ x, x < k → fn M2 x = if f ≤ x ∧ x < k then fn M (f + k - 1 - x) else fn M x) → M2 = turned q o := by
        intro M2 i0 m0 hl2 hM2
        refine ext_fn (by rw [turned_len, HOL.out]; exact hl2) (fun x hx => ?_)
        rw [hl2] at hx
        rw [fn_turned (by rw [HOL.out]; exact hx), hM2 x hx]
        by_cases e2 : f ≤ x
        · rw [if_pos (by omega), hinv.out.2.1 _ (by omega) (by omega), turn_in (s := f) (e := k) e2 hx (by rw [HOL.out]; omega) hinv.out.2.2.1 hinv.out.2.2.2 (.inl HOL.out.symm)]
        · rw [if_neg (by omega)]; exact hinv.out.1 x (by omega)
      have HE : Hid _ := hend
      clear hend
      by_cases hfe : f < cp
      · have hfcp : (f : Int) < (cp : Int) := by omega
        go_wp2_with fail
        refine (reverse_any g f (k - f) k cp _ B M _ hown (by omega) hn).mono ?_
        rintro e w6 ⟨rfl, ⟨M2, hown2, hM2⟩, hgr2, hsz2⟩
        have hgr3 : w.grownBy w6 (some g) := grown_both hgr hgr2
        have HS2 : Hid (w6.heap.size = w.heap.size) := by show w6.heap.size = w.heap.size; rw [hsz2]; exact hsz.out
        clear hsz2 hgr2
        go_wp2_with fail
        go_end0
        have el : M2 = turned q o := HE.out M2 0 0 hown2.len (fun x hx => by
          rw [hM2.out x hx, show f + (k - f) = k by omega, show 2 * f + (k - f) - 1 - x = f + k - 1 - x by omega])
        rw [el, ← HQ.out] at hown2
        exact ⟨rfl, hown2, hgr3, HS2.out⟩
      · have ef : f = cp := by omega
        subst ef
        have ek : k = f := by omega
        subst ek
        go_wp2_with fail
        refine (reverse_any g 0 0 k k _ B M _ hown (by omega) hn).mono ?_
        rintro e w6 ⟨rfl, ⟨M2, hown2, hM2⟩, hgr2, hsz2⟩
        have hgr3 : w.grownBy w6 (some g) := grown_both hgr hgr2
        have HS2 : Hid (w6.heap.size = w.heap.size) := by show w6.heap.size = w.heap.size; rw [hsz2]; exact hsz.out
        clear hsz2 hgr2
        go_wp2_with fail
        go_end0
        have el : M2 = turned q o := HE.out M2 0 0 hown2.len (fun x hx => by
          rw [hM2.out x hx, if_neg (by omega), if_neg (by omega)])
        rw [el, ← HQ.out] at hown2
        exact ⟨rfl, hown2, hgr3, HS2.out⟩
end Go.Proofs.YtgojdlbidjnmmabGreat
namespace Go.Proofs.YtgojdlbidjnmmabGreat
open Go.ChangeShapes Go.WideShapes Go.ChangeAt Go.RowKit
set_option linter.unusedSimpArgs false

theorem boxed (w : World) (v : Value) (T : TypeId) : ∃ W, w.alloc (.cells #[v] T) = W ∧ W.heap.size = w.heap.size + 1 ∧ Below w.heap.size w W ∧ W.cell? ⟨w.heap.size, 0, none⟩ = some v ∧ W.frozen? ⟨w.heap.size, 0, none⟩ = false :=
  ⟨_, rfl, by simp, (Below.refl _ _).alloc (Nat.le_refl _) _, by simp, by simp⟩
def ptrInt (w : World) : Value → Nat
  | .pointer (some a) => match w.cell? a with | some (.int _ n) => n.toNat | _ => 0
  | _ => 0
theorem ptrInt_of {w : World} {a : Addr} {k : IntKind} {n : Int} (h : w.cell? a = some (.int k n)) : ptrInt w (.pointer (some a)) = n.toNat := by simp [ptrInt, h]
theorem ord0_some (z : Nat → Int) (n : Nat) (h : 1 ≤ mostF z n) : 0 < (ord0 z n).length := by
  induction n with
  | zero => simp [mostF] at h
  | succ n ih =>
    simp only [mostF] at h
    simp only [ord0]
    split
    · simp
    · rename_i h0
      split at h
      · omega
      · exact ih h

set_option maxHeartbeats 8000000 in
theorem implOrder_row (b off cap n : Nat) (lv : List Int) (w : World) (hn : lv.length = n) (hl : n ≤ 80) (hlc : n ≤ cap) (hcm : cap ≤ maxLen) (hb : b < w.heap.size) (hat : At w b off lv) (hok : lvF (fn lv) n = true) :
    Calls Tryz.prog 14 #[.slice (some ⟨b, off, none⟩) n cap] w fun e w' => (∃ v', e = .returned v' ∧ OwnI w' w.heap.size v' (orderL lv)) ∧ Below w.heap.size w w' := by
  obtain ⟨W1, hW, hs1, hB1, hX, _⟩ := boxed w (.slice (some ⟨b, off, none⟩) n cap) 22
  have hat1 : At W1 b off lv := hat.below hB1 hb
  have HO := implLv (.slice (some ⟨b, off, none⟩) n cap) lv W1 (.inr ⟨b, off, cap, by rw [hn], by omega, by omega, hcm, hat1⟩) (by omega)
  rw [hn, hok] at HO
  have h22 : ∀ j, j < n → fn lv j ≤ 22 := fun j hj => by have := lvF_get hok hj; simp [lvl] at this; omega
  have HF : Hid (orderL lv = ordN lv (mostF (fn lv) n).toNat (ord0 (fn lv) n)) := by show orderL lv = _; unfold orderL; rw [hn]
  have H22 : Hid _ := h22
  have HWW : Hid _ := hW
  clear h22 hok hW
  obtain ⟨X, hXe⟩ : ∃ X, w.heap.size = X := ⟨_, rfl⟩
  have HXE : Hid _ := hXe
  go_enter Tryz.func14, Tryz.ntmps14
  go_wp2_with fail
  rw [hXe] at hX hs1 hB1 hb
  try rw [hXe]
  rw [HWW.out]
  clear hXe
  refine HO.mono ?_
  rintro e w1 ⟨rfl, rfl⟩
  go_wp2_with fail
  go_loopw [3, 4, 13] (fun q ms i wr => ∃ (k : Nat) (mm : Int), k ≤ n ∧ i = .int .i64 k ∧ ms = .int .i64 mm ∧ Hid (mm = mostF (fn lv) k) ∧ OwnI wr (X + 1) q (ord0 (fn lv) k) ∧ Below (X + 1) w1 wr) (fun _ _ i _ => n - (intOf i).toNat)
  case atStart => exact ⟨0, 0, Nat.zero_le _, rfl, rfl, rfl, OwnI.nil _ _, Below.refl _ _⟩
  case round =>
    obtain ⟨k, mm, hk, rfl, rfl, hmm, hown, hbel⟩ := hrel
    have hsz : X + 1 ≤ wr.heap.size := by have := hbel.size; omega
    by_cases hlt : k < n
    · have hcell : wr.cell? ⟨b, off + k, none⟩ = some (.int .i64 (fn lv k)) := (hat1.below hbel (by omega)) k (by omega)
      have hle := ord0_len (fn lv) k
      have hmb := mostF_bounds H22.out k (by omega)
      rw [← hmm.out] at hmb
      by_cases h0 : 0 ≤ fn lv k
      · have HOO : Hid (ord0 (fn lv) (k + 1) = ord0 (fn lv) k ++ [(k : Int)]) := by show ord0 _ _ = _; simp [ord0, h0]
        by_cases hg : mm < fn lv k
        · have HM : Hid (mostF (fn lv) (k + 1) = fn lv k) := by show mostF _ _ = _; have := hmm.out; simp only [mostF]; rw [if_pos (by omega)]
          go_wp2_with (at_builtin; refine own_append (.tmp 20) (.tmp 22) hown (by omega) hsz rfl rfl rfl rfl ?_; intro v' w5 hown5 hgr5)
          go_roundw
          case rel => exact ⟨k + 1, fn lv k, by omega, by go_num, by first | rfl | go_num, HM.out.symm, by rw [HOO.out]; exact hown5, grown_below hbel hgr5 hown (Nat.le_refl _) hsz⟩
          case measure => simp only [intOf]; omega
        · have HM : Hid (mostF (fn lv) (k + 1) = mm) := by show mostF _ _ = _; have := hmm.out; simp only [mostF]; rw [if_neg (by omega)]; omega
          go_wp2_with (at_builtin; refine own_append (.tmp 20) (.tmp 22) hown (by omega) hsz rfl rfl rfl rfl ?_; intro v' w5 hown5 hgr5)
          go_roundw
          case rel => exact ⟨k + 1, mm, by omega, by go_num, by first | rfl | go_num, HM.out.symm, by rw [HOO.out]; exact hown5, grown_below hbel hgr5 hown (Nat.le_refl _) hsz⟩
          case measure => simp only [intOf]; omega
      · have HOO : Hid (ord0 (fn lv) (k + 1) = ord0 (fn lv) k) := by show ord0 _ _ = _; simp [ord0, h0]
        have HM : Hid (mostF (fn lv) (k + 1) = mm) := by show mostF _ _ = _; have := hmm.out; simp only [mostF]; rw [if_neg (by omega)]; omega
        go_wp2_with fail
        go_roundw
        case rel => exact ⟨k + 1, mm, by omega, by go_num, rfl, HM.out.symm, by rw [HOO.out]; exact hown, hbel⟩
        case measure => simp only [intOf]; omega
    · have e : k = n := by omega
      subst e
      have hmb := mostF_bounds H22.out k (Nat.le_refl _)
      have hsome := ord0_some (fn lv) k
      rw [← hmm.out] at hmb HF hsome
      obtain ⟨Mx, hMx⟩ : ∃ Mx : Nat, mm = (Mx : Int) := ⟨mm.toNat, by omega⟩
      subst hMx
      rw [Int.toNat_natCast] at HF
      have hoin := ord0_inn (fn lv) k k (Nat.le_refl _)
      have hole := ord0_len (fn lv) k
      obtain ⟨L0, hL0⟩ : ∃ L0, (ord0 (fn lv) k).length = L0 := ⟨_, rfl⟩
      rw [hL0] at hsome hole
      have HOI : Hid _ := hoin
      have HSO : Hid _ := hsome
      clear hoin hsome
      obtain ⟨W2, hW2, hs2, hB2, hY2, hYf2⟩ := boxed wr (.int .i64 (Mx : Int)) 3
      have HW2 : Hid _ := hW2
      clear hW2
      go_wp2_with fail
      rw [HW2.out]
      go_loopw [7] (fun p wr2 => ∃ (m Y : Nat) (O : List Int), m ≤ Mx ∧ p = .pointer (some ⟨Y, 0, none⟩) ∧ wr2.cell? ⟨Y, 0, none⟩ = some (.int .i64 (m : Int)) ∧ wr2.frozen? ⟨Y, 0, none⟩ = false ∧ X + 1 ≤ Y ∧ Hid (∀ g, Value.ownBlock u3 = some g → Y ≠ g) ∧ OwnI wr2 (X + 1) u3 O ∧ O.length = L0 ∧ Hid (InnO k O ∧ ordN lv m O = orderL lv) ∧ Below (X + 1) w1 wr2) (fun p wr2 => ptrInt wr2 p)
      case atStart =>
        refine ⟨Mx, wr.heap.size, _, Nat.le_refl _, rfl, hY2, hYf2, hsz, fun g hg e => ?_, hown.below hB2, hL0, ⟨HOI.out, HF.out.symm⟩, hbel.trans (hB2.mono hsz)⟩
        have := (hown.lt g hg).2; omega
      case round =>
        obtain ⟨m, Y, O, hm, rfl, hY, hYf, hXY, hYg, hownO, hOl, hinv, hbelO⟩ := hrel
        have hX2 : wr.cell? ⟨X, 0, none⟩ = some (.slice (some ⟨b, off, none⟩) k cap) := (hbelO.cell (p := ⟨X, 0, none⟩) (by show X < X + 1; omega)).trans hX
        by_cases hm1 : 1 ≤ m
        · have hL : 0 < L0 := HSO.out (by omega)
          rcases hownO.forms with ⟨_, hO0⟩ | ⟨g, cp, rfl, hg, hgw, hlc2, hcm2, _⟩
          · exfalso; rw [hO0] at hOl; simp at hOl; omega
          · have hYg2 := hYg.out g rfl
            rw [hOl] at hownO hlc2 ⊢
            have hat2 := hat1.below hbelO (by omega)
            have hmi : (1 : Int) ≤ (m : Int) := by omega
            have HIN : Hid (InnO k O) := hinv.out.1
            have HNX : Hid (ordN lv (m - 1) (turned (atLeast lv O (m : Int)) O) = orderL lv) := by
              show ordN lv (m - 1) (turned (atLeast lv O (m : Int)) O) = orderL lv
              rw [← hinv.out.2]
              obtain ⟨j, rfl⟩ : ∃ j, m = j + 1 := ⟨m - 1, by omega⟩
              rfl
            go_wp2_with fail
            refine (implTurn_row g L0 cp (X + 1) X Y b off cap k O lv _ _ hownO hX2 hY (by omega) hYg2 (by omega) hat2 hn (by omega) HIN).mono ?_
            rintro e w6 ⟨rfl, o6, gr6, sz6⟩
            have hY6 := grown_cell gr6 hY hYg2
            have hs6 : X + 1 ≤ w6.heap.size := by have := hbelO.size; have := gr6.size; omega
            have hbel6 : Below (X + 1) w1 w6 := hbelO.grown gr6 (by have := hbelO.size; omega) (fun kk hkk => by simp at hkk; omega)
            have HS6 : Hid _ := sz6
            clear sz6
            go_wp2_with fail
            obtain ⟨W7, hW7, hs7, hB7, hY7, hYf7⟩ := boxed w6 (.int .i64 ((m : Int) - 1)) 3
            rw [hW7]
            have hm2 : (m : Int) - 1 = ((m - 1 : Nat) : Int) := by omega
            rw [hm2] at hY7
            refine ⟨⟨m - 1, w6.heap.size, _, by omega, rfl, hY7, hYf7, by omega, fun gg hgg e => ?_, o6.below hB7, by rw [turned_len]; exact hOl, ⟨inn_turned HIN.out _, HNX.out⟩, hbel6.trans (hB7.mono (by omega))⟩, ?_⟩
            · simp [Value.ownBlock] at hgg
              have := gr6.size; omega
            · rw [ptrInt_of hY7, ptrInt_of hY]; omega
        · have hm0 : m = 0 := by omega
          subst hm0
          go_wp2_with fail
          go_ret
          refine ⟨⟨_, rfl, ?_⟩, ?_⟩
          · rw [← hinv.out.2, HXE.out]; exact hownO.mono (by omega)
          · rw [HXE.out]; exact hB1.trans (hbelO.mono (by omega))
end Go.Proofs.YtgojdlbidjnmmabGreat
namespace Go.Proofs.YtgojdlbidjnmmabGreat
open Go.ChangeShapes Go.WideShapes Go.ChangeAt Go.RowKit
set_option linter.unusedSimpArgs false

def ordR (lv : List Int) : List Int := if lvF (fn lv) lv.length = true then orderL lv else []
theorem ordR_len (lv : List Int) : (ordR lv).length ≤ 80 := by
  unfold ordR
  split
  · rename_i h
    unfold orderL
    rw [ordN_len]
    have := ord0_len (fn lv) lv.length; have := lvF_len h; omega
  · simp

set_option maxHeartbeats 1000000 in
theorem implOrd (v : Value) (l : List Int) (w : World) (hv : Arg w v l) (hl : l.length ≤ 4194304) :
    Calls Tryz.prog 14 #[v] w fun e w' => (∃ v', e = .returned v' ∧ OwnI w' w.heap.size v' (ordR l)) ∧ Below w.heap.size w w' := by
  cases hok : lvF (fn l) l.length
  · have HC : Hid (ordR l = []) := show ordR l = [] by simp [ordR, hok]
    have hv1 := hv.below (w' := w.alloc (.cells #[v] 22)) ((Below.refl _ _).alloc (Nat.le_refl _) _)
    have HO := implLv v l _ hv1 hl
    rw [hok] at HO
    rcases hv with ⟨a0, c0, rfl, rfl⟩ | ⟨b, off, cap, rfl, hb, hlc, hcm, hat⟩
    all_goals
      go_enter Tryz.func14, Tryz.ntmps14
      go_wp2_with (go_at_call 27; refine HO.mono ?_; rintro e w' ⟨rfl, rfl⟩)
      go_ret
      exact ⟨⟨_, rfl, by rw [HC.out]; exact OwnI.nil _ _⟩, by go_grown⟩
  · have HC : Hid (ordR l = orderL l) := show ordR l = _ by simp [ordR, hok]
    have h80 := lvF_len hok
    rcases hv with ⟨a0, c0, rfl, rfl⟩ | ⟨b, off, cap, rfl, hb, hlc, hcm, hat⟩
    · have HO := implLv (.slice a0 0 c0) [] (w.alloc (.cells #[.slice a0 0 c0] 22)) (.inl ⟨_, _, rfl, rfl⟩) hl
      rw [hok] at HO
      go_enter Tryz.func14, Tryz.ntmps14
      go_wp2_with (go_at_call 27; refine HO.mono ?_; rintro e w' ⟨rfl, rfl⟩)
      go_rounds 1
      go_rounds 1
      go_ret
      exact ⟨⟨_, rfl, OwnI.nil _ _⟩, by go_grown⟩
    · have HR := implOrder_row b off cap l.length l w rfl h80 hlc hcm hb hat hok
      rw [HC.out]
      exact HR
end Go.Proofs.YtgojdlbidjnmmabGreat
namespace Go.Proofs.YtgojdlbidjnmmabGreat
open Go.ChangeShapes Go.WideShapes Go.ChangeAt Go.RowKit
set_option linter.unusedSimpArgs false

def backF (n : Nat) (o : List Int) : Nat → List Int
  | 0 => List.replicate n (-1)
  | k + 1 => (backF n o k).set (fn o k).toNat (k : Int)
theorem backF_len (n : Nat) (o : List Int) (k : Nat) : (backF n o k).length = n := by
  induction k with
  | zero => simp [backF]
  | succ k ih => simp [backF, ih]
def backR (lv : List Int) : List Int := if lvF (fn lv) lv.length = true then backF lv.length (orderL lv) (orderL lv).length else []
theorem backR_len (lv : List Int) : (backR lv).length ≤ 80 := by
  unfold backR
  split
  · rename_i h; rw [backF_len]; exact lvF_len h
  · simp
theorem ordN_inn {n : Nat} (lv : List Int) (m : Nat) (o : List Int) (h : InnO n o) : InnO n (ordN lv m o) := by
  induction m generalizing o with
  | zero => exact h
  | succ m ih => simp only [ordN]; exact ih _ (inn_turned h _)
theorem orderL_inn (lv : List Int) : InnO lv.length (orderL lv) := by
  unfold orderL; exact ordN_inn _ _ _ (ord0_inn _ _ _ (Nat.le_refl _))
theorem rep_snoc (k : Nat) (x : Int) : List.replicate (k + 1) x = List.replicate k x ++ [x] := by
  rw [List.replicate_succ']
end Go.Proofs.YtgojdlbidjnmmabGreat
