import Derived.Test.YtbjcdogbhnadkacTurnMath
import Derived.Test.YtbjcdogbhnadkacAppend
namespace Go.Proofs.Ytbjcdogbhnadkac
open Go.ChangeShapes Go.WideShapes Go.ChangeAt Go.RowKit
set_option linter.unusedSimpArgs false

/-- Whether what stands at a place of the order is of such a level. -/
def atLeast (lv o : List Int) (least : Int) (x : Nat) : Bool := decide (least ≤ fn lv (fn o x).toNat)
theorem atLeast_yes {lv o : List Int} {least : Int} {x : Nat} (h : atLeast lv o least x = true) : least ≤ fn lv (fn o x).toNat := by simpa [atLeast] using h
theorem atLeast_no {lv o : List Int} {least : Int} {x : Nat} (h : atLeast lv o least x = false) : ¬ least ≤ fn lv (fn o x).toNat := by simpa [atLeast] using h

set_option maxHeartbeats 8000000 in
theorem specTurn_row (b off cap n bl ofl cpl nl : Nat) (o lv : List Int) (least : Int) (w : World) (hn : o.length = n) (hnl : lv.length = nl) (hl : n ≤ 1048576) (hb : b < w.heap.size) (hat : At w b off o) (hbl : bl < w.heap.size) (hatl : At w bl ofl lv) (hin : Hid (∀ x, x < n → 0 ≤ fn o x ∧ fn o x < (nl : Int))) :
    Calls Try.prog 66 #[.slice (some ⟨b, off, none⟩) n cap, .slice (some ⟨bl, ofl, none⟩) nl cpl, .int .i64 least] w fun e w' => (∃ v, e = .returned v ∧ OwnI w' w.heap.size v (turned (atLeast lv o least) o)) ∧ Below w.heap.size w w' := by
  obtain ⟨q, hq⟩ : ∃ q, atLeast lv o least = q := ⟨_, rfl⟩
  have HQ : Hid _ := hq
  clear hq
  go_enter Try.func66, Try.ntmps66
  go_wp2
  go_loopw [7, 8] (fun v i wr => ∃ (k : Nat) (O : List Int), k ≤ n ∧ i = .int .i64 k ∧ OwnI wr w.heap.size v O ∧ O.length = k ∧ Hid ((∀ x, x < k → fn O x = turnAt q o x) ∧ (k = 0 ∨ q (k - 1) = false ∨ k = n ∨ q k = false)) ∧ Below w.heap.size w wr) (fun _ i _ => n - (intOf i).toNat)
  case atStart => exact ⟨0, [], Nat.zero_le _, rfl, own_empty _ _ _ (Nat.le_refl _) rfl, rfl, ⟨fun x hx => by omega, .inl rfl⟩, by go_grown⟩
  case round =>
    obtain ⟨i, O, hi, rfl, hown, hOl, hinv, hbel⟩ := hrel
    by_cases hlt : i < n
    · go_wp2
      go_loop [9] (fun a => ∃ k : Nat, i ≤ k ∧ k ≤ n ∧ a = .int .i64 k ∧ Hid (∀ y, i ≤ y → y < k → q y = true)) (fun a => n - (intOf a).toNat)
      case atStart => exact ⟨i, Nat.le_refl _, by omega, rfl, fun y a b => by omega⟩
      case round =>
        obtain ⟨k, hk1, hk2, rfl, hkq⟩ := hrel
        by_cases hkn : k < n
        · have hc1 : wr.cell? ⟨b, off + k, none⟩ = some (.int .i64 (fn o k)) := (hat.below hbel hb) k (by omega)
          obtain ⟨y, hy⟩ : ∃ y : Nat, fn o k = (y : Int) := ⟨(fn o k).toNat, by have := (hin.out k hkn).1; omega⟩
          have hyn : y < nl := by have := (hin.out k hkn).2; omega
          have hc2 : wr.cell? ⟨bl, ofl + y, none⟩ = some (.int .i64 (fn lv y)) := (hatl.below hbel hbl) y (by omega)
          have HL : Hid (q k = decide (least ≤ fn lv y)) := by
            show q k = decide (least ≤ fn lv y)
            rw [← HQ.out]; unfold atLeast; rw [hy]; simp
          rw [hy] at hc1
          have hyi : (y : Int) < (nl : Int) := by omega
          clear hy
          by_cases hle : least ≤ fn lv y
          · go_wp2_with fail
            go_round
            case rel =>
              refine ⟨k + 1, by omega, by omega, by go_num, fun z a c => ?_⟩
              by_cases e : z = k
              · subst e; rw [HL.out]; simpa using hle
              · exact hkq.out z a (by omega)
            case measure => simp only [intOf]; omega
          · have HN : Hid (q k = false) := by show q k = false; rw [HL.out]; simpa using hle
            have hbk : Hid (k = n ∨ q k = false) := .inr HN.out
            go_wp2_with fail
            go_loopw [7, 10] (fun v a wr2 => ∃ (c : Nat) (O2 : List Int), c ≤ k - i ∧ a = .int .i64 ((k : Int) - 1 - (c : Int)) ∧ OwnI wr2 w.heap.size v O2 ∧ O2.length = i + c ∧ Hid (∀ x, x < i + c → fn O2 x = turnAt q o x) ∧ Below w.heap.size w wr2) (fun _ a _ => (intOf a - i + 1).toNat)
            case atStart => exact ⟨0, O, Nat.zero_le _, by go_num, hown, by omega, fun x hx => hinv.out.1 x (by omega), hbel⟩
            case round =>
              obtain ⟨c, O2, hc, rfl, hown2, hO2, hinv2, hbel2⟩ := hrel
              have hsz2 := hbel2.size
              by_cases hck : c < k - i
              · obtain ⟨y, hy⟩ : ∃ y, y = k - 1 - c := ⟨_, rfl⟩
                have hyi : (k : Int) - 1 - (c : Int) = (y : Int) := by omega
                rw [hyi]
                have hcy : wr.cell? ⟨b, off + y, none⟩ = some (.int .i64 (fn o y)) := (hat.below hbel2 hb) y (by omega)
                have hyn : (y : Int) < (n : Int) := by omega
                have hiy : (i : Int) ≤ (y : Int) := by omega
                have HT : Hid (turnAt q o (i + c) = fn o y) := by
                  show turnAt q o (i + c) = fn o y
                  have hst : i = 0 ∨ q (i - 1) = false := by
                    rcases hinv.out.2 with h | h | h | h
                    · exact .inl h
                    · exact .inr h
                    · omega
                    · have := hkq.out i (Nat.le_refl _) (by omega); rw [h] at this; cases this
                  rw [turn_in (s := i) (e := k) (by omega) (by omega) (by omega) hkq.out hst (by rw [hn]; exact hbk.out)]
                  congr 1; omega
                have HY : Hid _ := hy
                clear hy hyi
                go_wp2_with (at_builtin; refine own_append (.tmp 41) (.tmp 46) hown2 (by omega) hsz2 rfl rfl rfl rfl ?_; intro v' w5 hown5 hgr5)
                go_roundw
                case rel =>
                  refine ⟨c + 1, O2 ++ [fn o y], by omega, by have := HY.out; go_num, hown5, by simp; omega, fun x hx => ?_, grown_below hbel2 hgr5 hown2 (Nat.le_refl _) hsz2⟩
                  by_cases e : x = i + c
                  · subst e; rw [← hO2]; rw [show fn (O2 ++ [fn o y]) O2.length = fn o y by simp [fn]]; rw [hO2]; exact HT.out.symm
                  · rw [fn_append_left (by omega)]; exact hinv2.out x (by omega)
                case measure => have := HY.out; simp only [intOf]; omega
              · have ec : c = k - i := by omega
                have hge : ¬ (i : Int) ≤ (k : Int) - 1 - (c : Int) := by omega
                by_cases hki : k = i
                · subst hki
                  have hci : wr.cell? ⟨b, off + k, none⟩ = some (.int .i64 (fn o k)) := (hat.below hbel2 hb) k (by omega)
                  have hki2 : (k : Int) < (n : Int) := by omega
                  have HT : Hid (turnAt q o k = fn o k) := turn_out (hbk.out.resolve_left (by omega))
                  go_wp2_with (at_builtin; refine own_append (.tmp 51) (.tmp 56) hown2 (by omega) hsz2 rfl rfl rfl rfl ?_; intro v' w5 hown5 hgr5)
                  go_roundw
                  case rel =>
                    refine ⟨k + 1, O2 ++ [fn o k], by omega, by go_num, hown5, by simp; omega, ⟨fun x hx => ?_, ?_⟩, grown_below hbel2 hgr5 hown2 (Nat.le_refl _) hsz2⟩
                    · by_cases e : x = k
                      · subst e
                        have hO3 : O2.length = x := by omega
                        rw [← hO3]; rw [show fn (O2 ++ [fn o O2.length]) O2.length = fn o O2.length by simp [fn]]; rw [hO3]; exact HT.out.symm
                      · rw [fn_append_left (by omega)]; exact hinv2.out x (by omega)
                    · right; left; rw [Nat.add_sub_cancel]; rcases hbk.out with h | h
                      · omega
                      · exact h
                  case measure => simp only [intOf]; omega
                · have hkb : ((k : Int) == (i : Int)) = false := by simp; omega
                  go_wp2_with fail
                  go_roundw
                  case rel =>
                    refine ⟨k, O2, by omega, rfl, hown2, by omega, ⟨fun x hx => hinv2.out x (by omega), ?_⟩, hbel2⟩
                    right; right; exact hbk.out
                  case measure => simp only [intOf]; omega
        · have hbk : Hid (k = n ∨ q k = false) := .inl (by omega)
          go_wp2_with fail
          go_loopw [7, 10] (fun v a wr2 => ∃ (c : Nat) (O2 : List Int), c ≤ k - i ∧ a = .int .i64 ((k : Int) - 1 - (c : Int)) ∧ OwnI wr2 w.heap.size v O2 ∧ O2.length = i + c ∧ Hid (∀ x, x < i + c → fn O2 x = turnAt q o x) ∧ Below w.heap.size w wr2) (fun _ a _ => (intOf a - i + 1).toNat)
          case atStart => exact ⟨0, O, Nat.zero_le _, by go_num, hown, by omega, fun x hx => hinv.out.1 x (by omega), hbel⟩
          case round =>
            obtain ⟨c, O2, hc, rfl, hown2, hO2, hinv2, hbel2⟩ := hrel
            have hsz2 := hbel2.size
            by_cases hck : c < k - i
            · obtain ⟨y, hy⟩ : ∃ y, y = k - 1 - c := ⟨_, rfl⟩
              have hyi : (k : Int) - 1 - (c : Int) = (y : Int) := by omega
              rw [hyi]
              have hcy : wr.cell? ⟨b, off + y, none⟩ = some (.int .i64 (fn o y)) := (hat.below hbel2 hb) y (by omega)
              have hyn : (y : Int) < (n : Int) := by omega
              have hiy : (i : Int) ≤ (y : Int) := by omega
              have HT : Hid (turnAt q o (i + c) = fn o y) := by
                show turnAt q o (i + c) = fn o y
                have hst : i = 0 ∨ q (i - 1) = false := by
                  rcases hinv.out.2 with h | h | h | h
                  · exact .inl h
                  · exact .inr h
                  · omega
                  · have := hkq.out i (Nat.le_refl _) (by omega); rw [h] at this; cases this
                rw [turn_in (s := i) (e := k) (by omega) (by omega) (by omega) hkq.out hst (by rw [hn]; exact hbk.out)]
                congr 1; omega
              have HY : Hid _ := hy
              clear hy hyi
              go_wp2_with (at_builtin; refine own_append (.tmp 41) (.tmp 46) hown2 (by omega) hsz2 rfl rfl rfl rfl ?_; intro v' w5 hown5 hgr5)
              go_roundw
              case rel =>
                refine ⟨c + 1, O2 ++ [fn o y], by omega, by have := HY.out; go_num, hown5, by simp; omega, fun x hx => ?_, grown_below hbel2 hgr5 hown2 (Nat.le_refl _) hsz2⟩
                by_cases e : x = i + c
                · subst e; rw [← hO2]; rw [show fn (O2 ++ [fn o y]) O2.length = fn o y by simp [fn]]; rw [hO2]; exact HT.out.symm
                · rw [fn_append_left (by omega)]; exact hinv2.out x (by omega)
              case measure => have := HY.out; simp only [intOf]; omega
            · have ec : c = k - i := by omega
              have hge : ¬ (i : Int) ≤ (k : Int) - 1 - (c : Int) := by omega
              by_cases hki : k = i
              · exfalso; omega
              · have hkb : ((k : Int) == (i : Int)) = false := by simp; omega
                go_wp2_with fail
                go_roundw
                case rel =>
                  refine ⟨k, O2, by omega, rfl, hown2, by omega, ⟨fun x hx => hinv2.out x (by omega), ?_⟩, hbel2⟩
                  right; right; exact hbk.out
                case measure => simp only [intOf]; omega
    · have e : i = n := by omega
      subst e
      go_wp2_with fail
      go_ret
      have el : O = turned q o := ext_fn (by rw [turned_len]; omega) (fun x hx => by rw [fn_turned (by omega)]; exact hinv.out.1 x (by omega))
      rw [el, ← HQ.out] at hown
      exact ⟨⟨_, rfl, hown⟩, hbel⟩
end Go.Proofs.Ytbjcdogbhnadkac
