import Derived.Test.YtgjhhfmhaalcnaaLOk
import Derived.Deep.RegionWith
import Derived.Deep.DrawnRows
namespace Go.Proofs.Ytgjhhfmhaalcnaa
open Go.ChangeShapes Go.WideShapes Go.ChangeAt Go.RowKit
set_option linter.unusedSimpArgs false
attribute [local go_sem ↓] Go.wp_at_zero Go.wp_at_succ

def restF (d wide : Int) : Int := if wide - d < 0 then 0 else wide - d
def roomF (base align rest : Int) : Int := if align = 2 then rest / 2 else if (align = 1 ↔ base = 0) then rest else 0
def sumG (z : Nat → Int) : Nat → Int
  | 0 => 0
  | k + 1 => sumG z k + z (k * 5 + 3)
def byF (base wide align d : Int) (z : Nat → Int) (n : Nat) : Int := if base = 1 then roomF base align (restF d wide) - sumG z n + d else roomF base align (restF d wide)
def mvF (z : Nat → Int) (by0 : Int) (j : Nat) : Int := if j % 5 = 2 then z j + by0 else z j
def mvL (l : List Int) (n : Nat) (by0 : Int) : List Int := (List.range (n * 5)).map (mvF (fn l) by0)
theorem mvL_len (l : List Int) (n : Nat) (b : Int) : (mvL l n b).length = n * 5 := by simp [mvL]
theorem fn_mvL {l : List Int} {n : Nat} {b : Int} {j : Nat} (h : j < n * 5) : fn (mvL l n b) j = mvF (fn l) b j := by simp [fn, mvL, h]
/-- What is seen of a line may be wide and far only so much. -/
def glyBd (z : Nat → Int) (n : Nat) : Prop := ∀ k, k < n → 0 ≤ z (k * 5 + 3) ∧ z (k * 5 + 3) ≤ 20000 ∧ -20000 ≤ z (k * 5 + 2) ∧ z (k * 5 + 2) ≤ 40000
theorem glyBd_of {l : List Int} {f t d : Int} {n : Nat} {z : Nat → Int} (h : lineOk l f t d n z = true) : glyBd z n := fun k hk => by
  have := (lineOk_out h).2.2.2.2 k hk
  simp only [glyGd, decide_eq_true_eq] at this; omega
theorem sumG_bd {z : Nat → Int} {n : Nat} (h : glyBd z n) : ∀ k, k ≤ n → 0 ≤ sumG z k ∧ sumG z k ≤ 20000 * (k : Int) := by
  intro k
  induction k with
  | zero => intro _; simp [sumG]
  | succ k ih =>
    intro hk
    have := ih (by omega)
    have := h k (by omega)
    simp only [sumG]; omega
theorem restF_bd {d wide : Int} (h0 : 0 ≤ d) (h2 : 0 ≤ wide) (h3 : wide ≤ 20000) : 0 ≤ restF d wide ∧ restF d wide ≤ 20000 := by
  unfold restF; split <;> omega
theorem roomF_bd {base align rest : Int} (h0 : 0 ≤ rest) (h2 : rest ≤ 20000) : 0 ≤ roomF base align rest ∧ roomF base align rest ≤ 20000 := by
  unfold roomF; split
  · omega
  · split <;> omega

set_option maxHeartbeats 1000000 in
theorem specLeft (f t d : Int) (u : Value) (base wide align : Int) (w : World) (h0 : 0 ≤ d) (h1 : d ≤ 20000) (h2 : 0 ≤ wide) (h3 : wide ≤ 20000) (h4 : base = 0 ∨ base = 1) :
    Calls Try.prog 72 #[.agg #[.int .i64 f, .int .i64 t, .int .i64 d, u], .int .i64 base, .int .i64 wide, .int .i64 align] w fun e w' => e = .returned (.int .i64 (roomF base align (restF d wide))) ∧ Below w.heap.size w w' := by
  by_cases hneg : wide - d < 0
  · have hr : restF d wide = 0 := by unfold restF; rw [if_pos hneg]
    have HR : Hid _ := hr
    clear hr
    by_cases a2 : align = 2
    · subst a2
      go_enter Try.func72, Try.ntmps72
      go_wp2
      go_ret
      exact ⟨retInt (by rw [HR.out]; simp [roomF]), by go_grown⟩
    · have g2 : (align == 2) = false := by simpa using a2
      by_cases a1 : align = 1
      · subst a1
        rcases h4 with rfl | rfl
        all_goals
          go_enter Try.func72, Try.ntmps72
          go_wp2
          go_ret
          exact ⟨retInt (by rw [HR.out]; simp [roomF]), by go_grown⟩
      · have g1 : (align == 1) = false := by simpa using a1
        rcases h4 with rfl | rfl
        all_goals
          go_enter Try.func72, Try.ntmps72
          go_wp2
          go_ret
          exact ⟨retInt (by rw [HR.out]; simp [roomF]), by go_grown⟩
  · have hr : restF d wide = wide - d := by unfold restF; rw [if_neg hneg]
    have HR : Hid _ := hr
    clear hr
    by_cases a2 : align = 2
    · subst a2
      go_enter Try.func72, Try.ntmps72
      go_wp2
      go_ret
      exact ⟨retInt (by rw [HR.out]; simp [roomF]), by go_grown⟩
    · have g2 : (align == 2) = false := by simpa using a2
      have A2 : Hid _ := a2
      by_cases a1 : align = 1
      · subst a1
        rcases h4 with rfl | rfl
        all_goals
          go_enter Try.func72, Try.ntmps72
          go_wp2
          go_ret
          exact ⟨retInt (by rw [HR.out]; simp [roomF]), by go_grown⟩
      · have g1 : (align == 1) = false := by simpa using a1
        have A1 : Hid _ := a1
        rcases h4 with rfl | rfl
        all_goals
          go_enter Try.func72, Try.ntmps72
          go_wp2
          go_ret
          exact ⟨retInt (by rw [HR.out]; simp [roomF, a1, a2]), by go_grown⟩

set_option maxHeartbeats 1000000 in
theorem specFull (f t d : Int) (u : Value) (n : Nat) (z : List Int) (w : World) (hu : ArgG w u n z) (hn : n ≤ 80) (hbd : Hid (glyBd (fn z) n)) :
    Calls Try.prog 73 #[.agg #[.int .i64 f, .int .i64 t, .int .i64 d, u]] w fun e w' => e = .returned (.int .i64 (sumG (fn z) n)) ∧ Below w.heap.size w w' := by
  rcases hu with ⟨a, c, rfl, rfl⟩ | ⟨g, c, rfl, hg, _, _, hat⟩
  · go_enter Try.func73, Try.ntmps73
    go_wp2
    go_rounds 1
    go_ret
    exact ⟨rfl, by go_grown⟩
  · have HA : Hid _ := hat
    clear hat
    go_enter Try.func73, Try.ntmps73
    go_wp2
    go_loop [3, 4] (fun q i => ∃ k : Nat, k ≤ n ∧ i = .int .i64 k ∧ q = .int .i64 (sumG (fn z) k)) (fun _ i => n - (intOf i).toNat)
    case atStart => exact ⟨0, Nat.zero_le _, rfl, rfl⟩
    case round =>
      obtain ⟨k, hk, rfl, rfl⟩ := hrel
      have hs := sumG_bd hbd.out k hk
      by_cases hlt : k < n
      · have c3 : w.cell? ⟨g, k * 5 + 3, none⟩ = some (.int .i64 (fn z (k * 5 + 3))) := HA.out _ (by omega)
        have hb := hbd.out k hlt
        have hne : g ≠ w.heap.size := by omega
        go_wp2
        go_round
        case rel => exact ⟨k + 1, by omega, by go_num, rfl⟩
        case measure => simp only [intOf]; omega
      · have e : k = n := by omega
        subst e
        go_wp2
        go_ret
        exact ⟨rfl, by go_grown⟩
end Go.Proofs.Ytgjhhfmhaalcnaa
