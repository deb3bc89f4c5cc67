import Derived.Test.YtgojdlbidjnmmaaGreatChainM2
import Derived.Test.YtgojdlbidjnmmaaGreatRRow
import Derived.Test.YtgojdlbidjnmmaaGreatSides2
import Derived.Test.YtgojdlbidjnmmaaGreatOwnApp
import Derived.Deep.LoopGhost
namespace Go.Proofs.YtgojdlbidjnmmaaGreat
open Go.ChangeShapes Go.WideShapes Go.ChangeAt Go.RowKit
set_option linter.unusedSimpArgs false
set_option linter.unusedVariables false

set_option maxHeartbeats 2000000 in
theorem specLeft (b off cap n : Nat) (L : List Int) (p : Nat) (a : Int) (w : World) (hn : L.length = n) (hat : At w b off L) (hl : n ≤ 1048576) (hp : p ≤ n) (ha : a = (p : Int)) :
    Calls Tryz.prog 115 #[.slice (some ⟨b, off, none⟩) n cap, .int .i64 a] w fun e w' => (∃ k : Nat, e = .returned (.int .i64 k) ∧ p ≤ k ∧ k ≤ n ∧ (∀ x, p ≤ x → x < k → fn L x < 0) ∧ (k < n → 0 ≤ fn L k)) ∧ w' = w := by
  subst ha
  have HN : Hid _ := hn
  clear hn
  go_enter Tryz.func115, Tryz.ntmps115
  go_wp2
  go_loop [1] (fun q => ∃ k : Nat, p ≤ k ∧ k ≤ n ∧ q = .int .i64 k ∧ Hid (∀ x, p ≤ x → x < k → fn L x < 0)) (fun q => n - (intOf q).toNat)
  case atStart => exact ⟨p, Nat.le_refl _, hp, rfl, fun x h1 h2 => by omega⟩
  case round =>
    obtain ⟨k, hpk, hkn, rfl, hall⟩ := hrel
    by_cases hlt : k < n
    · have hki : (k : Int) < (n : Int) := by omega
      have hc : w.cell? ⟨b, off + k, none⟩ = some (.int .i64 (fn L k)) := hat k (by have := HN.out; omega)
      by_cases hq : fn L k < 0
      · have hq2 : decide (fn L k < 0) = true := by simpa using hq
        have HQ : Hid _ := hq
        clear hq
        go_wp2
        go_round
        case rel => exact ⟨k + 1, by omega, by omega, by go_num, fun x h1 h2 => by
          by_cases e : x = k
          · subst e; exact HQ.out
          · exact hall.out x h1 (by omega)⟩
        case measure => simp only [intOf]; omega
      · have hq2 : decide (fn L k < 0) = false := by simpa using hq
        have HQ : Hid (0 ≤ fn L k) := by show _ ≤ _; omega
        clear hq
        go_wp2
        go_ret
        exact ⟨⟨k, rfl, hpk, hkn, hall.out, fun _ => by have := HQ.out; omega⟩, rfl⟩
    · have e : k = n := by omega
      subst e
      go_wp2
      go_ret
      exact ⟨⟨k, rfl, hpk, hkn, hall.out, fun h => by omega⟩, rfl⟩

set_option maxHeartbeats 4000000 in
theorem specRun (b off cap n : Nat) (L : List Int) (p : Nat) (a : Int) (w : World) (hn : L.length = n) (hb : b < w.heap.size) (hat : At w b off L) (hl : n ≤ 1000) (hp : p < n) (ha : a = (p : Int)) (hbeg : begB (fn L) p = true) :
    Calls Tryz.prog 116 #[.slice (some ⟨b, off, none⟩) n cap, .int .i64 a] w fun e w' => (∃ v, e = .returned v ∧ OwnI w' w.heap.size v (natL (pieceN (fn L) p n))) ∧ Below w.heap.size w w' := by
  subst ha
  have HN : Hid _ := hn
  have ho := own_empty w w.heap.size 3 (Nat.le_refl _) rfl
  have hb0 : Below w.heap.size w (w.alloc (.cells #[] 3)) := (Below.refl _ _).alloc (Nat.le_refl _) _
  have HO : Hid (OwnI (w.alloc (.cells #[] 3)) w.heap.size (.slice (some ⟨w.heap.size, 0, none⟩) 0 0) []) := ho
  have HBB : Hid _ := hb0
  have HBG : Hid _ := hbeg
  have hpi : (p : Int) < (n : Int) := by omega
  clear hn ho hb0 hbeg
  go_enter Tryz.func116, Tryz.ntmps116
  go_wp2_with fail
  go_loopw [5, 6] (fun v i wr => ∃ k : Nat, p ≤ k ∧ k ≤ n ∧ i = .int .i64 k ∧ Hid (OwnI wr w.heap.size v (natL (pieceN (fn L) p k))) ∧ Hid (∀ x, p ≤ x → x < k → 0 ≤ fn L x → fn L x = fn L p) ∧ Hid (Below w.heap.size w wr)) (fun _ i _ => n - (intOf i).toNat)
  case atStart => exact ⟨p, Nat.le_refl _, by omega, rfl, by rw [piece_at _ HBG.out]; exact HO.out, fun x h1 h2 => by omega, HBB.out⟩
  case round =>
    obtain ⟨k, hpk, hkn, rfl, hv, hall, hbel⟩ := hrel
    -- all seen so far are of the piece
    have hof : ∀ x, p ≤ x → x < k → 0 ≤ fn L x → ofB (fn L) p x = true := by
      have hbg : ∀ d, p + 1 + d ≤ k → bgL (fn L) (p + 1 + d) = p ∧ pvL (fn L) (p + 1 + d) = fn L p := by
        intro d
        induction d with
        | zero => intro _; exact ⟨bg_beg HBG.out, by show pvL (fn L) (p + 1) = _; simp only [pvL]; rw [if_pos (beg_seen HBG.out)]⟩
        | succ d ih =>
          intro hd
          obtain ⟨i1, i2⟩ := ih (by omega)
          by_cases hs : 0 ≤ fn L (p + 1 + d)
          · have e := hall.out (p + 1 + d) (by omega) (by omega) hs
            have hnb : begB (fn L) (p + 1 + d) = false := by simp [begB, hs, i2, e]
            exact ⟨by show bgL (fn L) (p + 1 + d + 1) = p; rw [bg_stay hnb]; exact i1, by show pvL (fn L) (p + 1 + d + 1) = _; simp only [pvL]; rw [if_pos hs, e]⟩
          · exact ⟨by show bgL (fn L) (p + 1 + d + 1) = p; rw [bg_stay (bg_unseen (by omega))]; exact i1, by show pvL (fn L) (p + 1 + d + 1) = _; simp only [pvL]; rw [if_neg hs]; exact i2⟩
      intro x h1 h2 hs
      have := (hbg (x - p) (by omega)).1
      rw [show p + 1 + (x - p) = x + 1 by omega] at this
      exact of_mk hs this
    have HOF : Hid _ := hof
    clear hof
    by_cases hlt : k < n
    · have hki : (k : Int) < (n : Int) := by omega
      have hck : wr.cell? ⟨b, off + k, none⟩ = some (.int .i64 (fn L k)) := (hbel.out.cell (p := ⟨b, off + k, none⟩) hb).trans (hat k (by have := HN.out; omega))
      have hcp : wr.cell? ⟨b, off + p, none⟩ = some (.int .i64 (fn L p)) := (hbel.out.cell (p := ⟨b, off + p, none⟩) hb).trans (hat p (by have := HN.out; omega))
      by_cases hneg : fn L k < 0
      · have hq2 : decide (fn L k < 0) = true := by simpa using hneg
        have hq3 : decide (fn L k ≥ 0) = false := by simp; omega
        have HQ : Hid _ := hneg
        clear hneg
        go_wp2_with fail
        go_quiet (fail)
        go_wp2_with fail
        go_roundw
        case rel => exact ⟨k + 1, by omega, by omega, by go_num, by rw [piece_succ, if_neg (by rw [show ofB (fn L) p k = false by simp [ofB, HQ.out]; have := HQ.out; omega]; simp), List.append_nil]; exact hv.out.drewN _, fun x h1 h2 h3 => by
          by_cases e : x = k
          · subst e; have := HQ.out; omega
          · exact hall.out x h1 (by omega) h3, hbel.out.trans ((below_draws _ _).mono hbel.out.size)⟩
        case measure => simp only [intOf]; omega
      · have hq2 : decide (fn L k < 0) = false := by simpa using hneg
        have hq3 : decide (fn L k ≥ 0) = true := by simp; omega
        by_cases heq : fn L k = fn L p
        · have he2 : (fn L k == fn L p) = true := by simpa using heq
          have HE : Hid _ := heq
          have HQ : Hid (0 ≤ fn L k) := by show _ ≤ _; omega
          have hln : (natL (pieceN (fn L) p k)).length ≤ 1073741824 := by
            rw [natL_len]; unfold pieceN; have := List.length_filter_le (ofB (fn L) p) (List.range k); rw [List.length_range] at this; omega
          clear heq hneg
          go_wp2_with fail
          go_quiet (fail)
          go_wp2_with (at_builtin; refine own_append (.tmp 38) (.tmp 40) (hv.out.drewN _) hln hbel.out.size rfl rfl rfl rfl ?_; intro v5 w5 hown5 hgr5)
          go_roundw
          case rel =>
            refine ⟨k + 1, by omega, by omega, by go_num, ?_, fun x h1 h2 h3 => ?_, ?_⟩
            · have hofk : ofB (fn L) p k = true := by
                by_cases e : k = p
                · subst e; exact of_b HBG.out
                · have h1 := HOF.out
                  -- the letter at k goes on with the piece
                  have hpv : ∀ d, p + 1 + d ≤ k → bgL (fn L) (p + 1 + d) = p ∧ pvL (fn L) (p + 1 + d) = fn L p := by
                    intro d
                    induction d with
                    | zero => intro _; exact ⟨bg_beg HBG.out, by show pvL (fn L) (p + 1) = _; simp only [pvL]; rw [if_pos (beg_seen HBG.out)]⟩
                    | succ d ih =>
                      intro hd
                      obtain ⟨i1, i2⟩ := ih (by omega)
                      by_cases hs : 0 ≤ fn L (p + 1 + d)
                      · have e2 := hall.out (p + 1 + d) (by omega) (by omega) hs
                        have hnb : begB (fn L) (p + 1 + d) = false := by simp [begB, hs, i2, e2]
                        exact ⟨by show bgL (fn L) (p + 1 + d + 1) = p; rw [bg_stay hnb]; exact i1, by show pvL (fn L) (p + 1 + d + 1) = _; simp only [pvL]; rw [if_pos hs, e2]⟩
                      · exact ⟨by show bgL (fn L) (p + 1 + d + 1) = p; rw [bg_stay (bg_unseen (by omega))]; exact i1, by show pvL (fn L) (p + 1 + d + 1) = _; simp only [pvL]; rw [if_neg hs]; exact i2⟩
                  obtain ⟨i1, i2⟩ := hpv (k - (p + 1)) (by omega)
                  rw [show p + 1 + (k - (p + 1)) = k by omega] at i1 i2
                  have hs : 0 ≤ fn L k := by have := HQ.out; omega
                  have hnb : begB (fn L) k = false := by simp [begB, hs, i2, HE.out]
                  exact of_mk hs (by rw [bg_stay hnb]; exact i1)
              rw [piece_succ, if_pos hofk, natL_app]; exact hown5
            · by_cases e : x = k
              · subst e; exact HE.out
              · exact hall.out x h1 (by omega) h3
            · exact grown_below (hbel.out.trans ((below_draws _ _).mono hbel.out.size)) hgr5 (hv.out.drewN _) (Nat.le_refl _) hbel.out.size
          case measure => simp only [intOf]; omega
        · have he2 : (fn L k == fn L p) = false := by simpa using heq
          have HE : Hid _ := heq
          have HQ : Hid (0 ≤ fn L k) := by show _ ≤ _; omega
          clear heq hneg
          go_wp2_with fail
          go_quiet (fail)
          go_wp2_with fail
          go_ret
          refine ⟨⟨_, rfl, ?_⟩, hbel.out.trans ((below_draws _ _).mono hbel.out.size)⟩
          have : pieceN (fn L) p n = pieceN (fn L) p k := by
            refine piece_more (by omega) (fun x h1 h2 => ?_)
            cases hc : ofB (fn L) p x with
            | false => rfl
            | true =>
              exfalso
              have hkp : p < k := by
                rcases Nat.lt_or_ge p k with q | q
                · exact q
                · have : k = p := by omega
                  subst this; exact absurd rfl HE.out
              -- at k something else begins
              have hs : 0 ≤ fn L k := by have := HQ.out; omega
              have m1 := bg_mono (lv := fn L) (show p + 1 ≤ k + 1 by omega)
              have m2 := bg_mono (lv := fn L) (show k + 1 ≤ x + 1 by omega)
              rw [bg_beg HBG.out] at m1
              rw [(of_seen hc).2] at m2
              have := of_beg (of_mk hs (show bgL (fn L) (k + 1) = p by omega))
              exact HE.out this.2
          rw [this]; exact hv.out.drewN _
    · have e : k = n := by omega
      subst e
      go_wp2_with fail
      go_quiet (fail)
      go_wp2_with fail
      go_ret
      exact ⟨⟨_, rfl, hv.out.drewN _⟩, hbel.out.trans ((below_draws _ _).mono hbel.out.size)⟩
end Go.Proofs.YtgojdlbidjnmmaaGreat
