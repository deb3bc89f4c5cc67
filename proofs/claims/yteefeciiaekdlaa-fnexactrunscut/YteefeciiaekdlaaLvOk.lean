import Derived.Test.YteefeciiaekdlaaMem
namespace Go.Proofs.Yteefeciiaekdlaa
open Go.ChangeShapes Go.WideShapes Go.ChangeAt Go.RowKit
set_option linter.unusedSimpArgs false

def lvl (r : Int) : Bool := decide (-1 ≤ r ∧ r ≤ 22)
def allV (p : Nat → Bool) : Nat → Bool
  | 0 => true
  | k + 1 => allV p k && p k
theorem allV_iff (p : Nat → Bool) (n : Nat) : allV p n = true ↔ ∀ j, j < n → p j = true := by
  induction n with
  | zero => simp [allV]
  | succ n ih =>
    simp only [allV, Bool.and_eq_true, ih]
    constructor
    · intro h j hj
      by_cases e : j = n
      · subst e; exact h.2
      · exact h.1 j (by omega)
    · intro h; exact ⟨fun j hj => h j (by omega), h n (by omega)⟩
theorem allV_false {p : Nat → Bool} {n k : Nat} (hk : k < n) (h : p k = false) : allV p n = false := by
  rw [Bool.eq_false_iff]; intro a; rw [allV_iff] at a; have := a k hk; rw [h] at this; cases this

def lvF (z : Nat → Int) (len : Nat) : Bool := decide (len ≤ 80) && allV (fun j => lvl (z j)) len
def inV (n lo hi : Int) : Bool := decide (lo ≤ n ∧ n ≤ hi)
set_option maxHeartbeats 1000000 in
theorem specInV (n lo hi : Int) (w : World) : Calls Try.prog 41 #[.int .i64 n, .int .i64 lo, .int .i64 hi] w fun e w' => e = .returned (.bool (inV n lo hi)) ∧ w' = w := by
  go_enter Try.func41, Try.ntmps41
  go_wp2
  all_goals (go_ret; refine ⟨retBool ?_, rfl⟩)
  all_goals (simp [inV])
  all_goals omega

theorem lvF_all {z : Nat → Int} {n : Nat} (h : ∀ j, j < n → lvl (z j) = true) : lvF z n = decide (n ≤ 80) := by
  have : allV (fun j => lvl (z j)) n = true := (allV_iff _ _).2 h
  simp [lvF, this]
theorem lvF_no {z : Nat → Int} {n k : Nat} (hk : k < n) (h : lvl (z k) = false) : lvF z n = false := by
  simp [lvF, allV_false (p := fun j => lvl (z j)) hk h]
theorem lvF_long {z : Nat → Int} {n : Nat} (h : 80 < n) : lvF z n = false := by
  simp [lvF]; omega
theorem lvF_len {z : Nat → Int} {n : Nat} (h : lvF z n = true) : n ≤ 80 := by
  simp [lvF] at h; omega
theorem lvF_get {z : Nat → Int} {n : Nat} (h : lvF z n = true) {j : Nat} (hj : j < n) : lvl (z j) = true := by
  simp only [lvF, Bool.and_eq_true] at h; exact (allV_iff _ _).1 h.2 j hj

set_option maxHeartbeats 1000000 in
theorem specLv (v : Value) (l : List Int) (w : World) (hv : Arg w v l) (hl : l.length ≤ 4194304) :
    Calls Try.prog 62 #[v] w fun e w' => e = .returned (.bool (lvF (fn l) l.length)) ∧ w' = w := by
  rcases hv with ⟨a0, c0, rfl, rfl⟩ | ⟨b, off, cap, rfl, hb, hlc, hcm, hat⟩
  · go_enter Try.func62, Try.ntmps62
    go_wp2
    go_rounds 1
    go_ret
    exact ⟨rfl, rfl⟩
  · obtain ⟨n, hn⟩ : ∃ n, l.length = n := ⟨_, rfl⟩
    rw [hn] at hl ⊢
    go_enter Try.func62, Try.ntmps62
    go_wp2
    go_loop [3] (fun i => ∃ k : Nat, k ≤ n ∧ i = .int .i64 k ∧ Hid (∀ j, j < k → lvl (fn l j) = true)) (fun i => n - (intOf i).toNat)
    case atStart => exact ⟨0, Nat.zero_le _, rfl, fun j hj => by omega⟩
    case round =>
      obtain ⟨k, hk, rfl, hok⟩ := hrel
      by_cases hlt : k < n
      · have hcell : w.cell? ⟨b, off + k, none⟩ = some (.int .i64 (fn l k)) := hat k (by omega)
        by_cases hq : lvl (fn l k) = true
        · have hs : inV (fn l k) (-1) 22 = true := hq
          go_wp2_with (go_at_call 41; refine (specInV _ _ _ _).mono ?_; rintro e w' ⟨rfl, rfl⟩)
          go_round
          case rel =>
            refine ⟨k + 1, by omega, by go_num, fun j hj => ?_⟩
            by_cases ej : j = k
            · subst ej; exact hq
            · exact hok.out j (by omega)
          case measure => simp only [intOf]; omega
        · have hs : inV (fn l k) (-1) 22 = false := by simpa [lvl, inV] using hq
          go_wp2_with (go_at_call 41; refine (specInV _ _ _ _).mono ?_; rintro e w' ⟨rfl, rfl⟩)
          go_ret
          exact ⟨retBool (lvF_no hlt (by simpa using hq)).symm, rfl⟩
      · have e : k = n := by omega
        subst e
        go_wp2
        go_ret
        refine ⟨retBool ?_, rfl⟩
        rw [lvF_all hok.out]
        first | rfl | (congr 1; simp; omega)

set_option maxHeartbeats 1000000 in
theorem implLv (v : Value) (l : List Int) (w : World) (hv : Arg w v l) (hl : l.length ≤ 4194304) :
    Calls Try.prog 60 #[v] w fun e w' => e = .returned (.bool (lvF (fn l) l.length)) ∧ w' = w := by
  rcases hv with ⟨a0, c0, rfl, rfl⟩ | ⟨b, off, cap, rfl, hb, hlc, hcm, hat⟩
  · go_enter Try.func60, Try.ntmps60
    go_wp2
    go_rounds 1
    go_ret
    exact ⟨rfl, rfl⟩
  · obtain ⟨n, hn⟩ : ∃ n, l.length = n := ⟨_, rfl⟩
    rw [hn] at hl ⊢
    by_cases h80 : 80 < n
    · go_enter Try.func60, Try.ntmps60
      go_wp2
      go_ret
      exact ⟨retBool (lvF_long h80).symm, rfl⟩
    · go_enter Try.func60, Try.ntmps60
      go_wp2
      go_loop [10] (fun i => ∃ k : Nat, k ≤ n ∧ i = .int .i64 k ∧ Hid (∀ j, j < k → lvl (fn l j) = true)) (fun i => n - (intOf i).toNat)
      case atStart => exact ⟨0, Nat.zero_le _, rfl, fun j hj => by omega⟩
      case round =>
        obtain ⟨k, hk, rfl, hok⟩ := hrel
        by_cases hlt : k < n
        · have hcell : w.cell? ⟨b, off + k, none⟩ = some (.int .i64 (fn l k)) := hat k (by omega)
          go_wp2
          all_goals first
            | (go_ret; exact ⟨retBool (lvF_no hlt (by simp only [lvl, decide_eq_false_iff_not]; omega)).symm, rfl⟩)
            | (refine ⟨⟨k + 1, by omega, by go_num, fun j hj => ?_⟩, by simp only [intOf]; omega⟩
               by_cases ej : j = k
               · subst ej; simp only [lvl, decide_eq_true_eq]; omega
               · exact hok.out j (by omega))
        · have e : k = n := by omega
          subst e
          go_wp2
          go_ret
          refine ⟨retBool ?_, rfl⟩
          rw [lvF_all hok.out]
          simp; omega
end Go.Proofs.Yteefeciiaekdlaa
