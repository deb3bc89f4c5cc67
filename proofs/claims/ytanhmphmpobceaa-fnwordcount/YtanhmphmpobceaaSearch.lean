import Derived.Test.YtanhmphmpobceaaClusMath2
namespace Go.Proofs.Ytanhmphmpobceaa
open Go.ChangeShapes Go.WideShapes Go.ChangeAt Go.RowKit
set_option linter.unusedSimpArgs false

set_option maxHeartbeats 1000000 in
theorem less_any (x y : Int) (w : World) : Calls Try.prog 46 #[.int .i64 x, .int .i64 y] w fun e w' => e = .returned (.bool (decide (x < y))) ∧ w' = w := by
  go_enter Try.func46, Try.ntmps46
  go_wp2
  all_goals (go_ret; refine ⟨retBool ?_, rfl⟩)
  all_goals (simp_all)

theorem isNaN_any (x : Int) (w : World) : Calls Try.prog 47 #[.int .i64 x] w fun e w' => e = .returned (.bool false) ∧ w' = w := by
  go_enter Try.func47, Try.ntmps47
  go_wp2
  all_goals (go_ret; refine ⟨retBool ?_, rfl⟩)
  all_goals (simp_all)

def hitB (s : List Int) (t : Int) (k : Nat) : Bool := decide (k < s.length ∧ fn s k = t)

set_option maxHeartbeats 1000000 in
theorem search_row (b off cap n : Nat) (s : List Int) (t : Int) (w : World) (hn : s.length = n) (hl : n ≤ 1000000) (hat : At w b off s) (hup : Hid (∀ i j, i < j → j < n → fn s i < fn s j)) :
    Calls Try.prog 34 #[.slice (some ⟨b, off, none⟩) n cap, .int .i64 t] w fun e w' => (∃ k : Nat, e = .returned (.tuple #[.int .i64 k, .bool (hitB s t k)]) ∧ Found s t k) ∧ w' = w := by
  go_enter Try.func34, Try.ntmps34
  go_wp2
  go_loop [7, 8] (fun lo hi => ∃ l h : Nat, l ≤ h ∧ h ≤ n ∧ lo = .int .i64 l ∧ hi = .int .i64 h ∧ Hid ((∀ j, j < l → fn s j < t) ∧ (h < n → t ≤ fn s h))) (fun lo hi => (intOf hi).toNat - (intOf lo).toNat)
  case atStart => exact ⟨0, n, Nat.zero_le _, Nat.le_refl _, rfl, rfl, ⟨by omega, by omega⟩⟩
  case round =>
    obtain ⟨l, h, hlh, hh, rfl, rfl, hb⟩ := hrel
    by_cases hlt : l < h
    · have hcell : w.cell? ⟨b, off + (l + h) / 2, none⟩ = some (.int .i64 (fn s ((l + h) / 2))) := hat _ (by omega)
      by_cases hq : fn s ((l + h) / 2) < t
      · go_wp2_with (go_at_call 46; refine (less_any _ _ _).mono ?_; rintro e w' ⟨rfl, rfl⟩)
        go_round
        case rel =>
          refine ⟨(l + h) / 2 + 1, h, by omega, hh, by go_num, rfl, ?_⟩
          refine ⟨fun j hj => ?_, hb.out.2⟩
          by_cases ej : j = (l + h) / 2
          · subst ej; exact hq
          · have := hup.out j ((l + h) / 2) (by omega) (by omega); omega
        case measure => simp only [intOf]; omega
      · go_wp2_with (go_at_call 46; refine (less_any _ _ _).mono ?_; rintro e w' ⟨rfl, rfl⟩)
        go_round
        case rel =>
          refine ⟨l, (l + h) / 2, by omega, by omega, rfl, by go_num, ?_⟩
          exact ⟨hb.out.1, fun _ => by omega⟩
        case measure => simp only [intOf]; omega
    · have e : l = h := by omega
      subst e
      have HF : Hid (Found s t l) := ⟨by omega, hb.out.1, fun h2 => hb.out.2 (by omega)⟩
      by_cases hln : l < n
      · have hcell : w.cell? ⟨b, off + l, none⟩ = some (.int .i64 (fn s l)) := hat _ (by omega)
        have hli : (l : Int) < (n : Int) := by omega
        by_cases hq : fn s l = t
        · have hq2 : (fn s l == t) = true := by simpa using hq
          have HH : Hid (hitB s t l = true) := show hitB s t l = true by simp [hitB, hq, hn, hln]
          clear hq
          go_wp2_with (go_at_call 47; refine (isNaN_any _ _).mono ?_; rintro e w' ⟨rfl, rfl⟩)
          go_ret2
          exact ⟨⟨l, by rw [HH.out]; rfl, HF.out⟩, rfl⟩
        · have hq2 : (fn s l == t) = false := by simpa using hq
          have HH : Hid (hitB s t l = false) := show hitB s t l = false by simp [hitB, hq]
          go_wp2_with (go_at_call 47; refine (isNaN_any _ _).mono ?_; rintro e w' ⟨rfl, rfl⟩)
          go_ret2
          exact ⟨⟨l, by rw [HH.out]; rfl, HF.out⟩, rfl⟩
      · have HH : Hid (hitB s t l = false) := show hitB s t l = false by simp [hitB]; omega
        go_wp2_with (go_at_call 47; refine (isNaN_any _ _).mono ?_; rintro e w' ⟨rfl, rfl⟩)
        go_ret2
        exact ⟨⟨l, by rw [HH.out]; rfl, HF.out⟩, rfl⟩

set_option maxHeartbeats 1000000 in
theorem search_any (v : Value) (s : List Int) (t : Int) (w : World) (hv : Arg w v s) (hl : s.length ≤ 1000000) (hup : ∀ i j, i < j → j < s.length → fn s i < fn s j) :
    Calls Try.prog 34 #[v, .int .i64 t] w fun e w' => (∃ k : Nat, e = .returned (.tuple #[.int .i64 k, .bool (hitB s t k)]) ∧ Found s t k) ∧ w' = w := by
  rcases hv with ⟨a0, c0, rfl, rfl⟩ | ⟨b, off, cap, rfl, hb, hlc, hcm, hat⟩
  · go_enter Try.func34, Try.ntmps34
    go_wp2
    go_rounds 1
    go_ret2
    exact ⟨⟨0, rfl, ⟨Nat.le_refl _, fun j hj => by omega, fun h => by simp at h⟩⟩, rfl⟩
  · exact search_row b off cap s.length s t w rfl hl hat hup
end Go.Proofs.Ytanhmphmpobceaa
