import Derived.Test.YtgjhhfmhaalcnaaWideSpec
import Derived.Test.YtgjhhfmhaalcnaaOk
import Derived.Test.YtgjhhfmhaalcnaaTop
namespace Go.Proofs.Ytgjhhfmhaalcnaa
open Go.ChangeShapes Go.WideShapes Go.ChangeAt Go.RowKit
set_option linter.unusedSimpArgs false

/-- What does not count at the end of a line. -/
def emptyR (r : Int) : Bool := decide (r = 32) || (wideOf (bidi r) r == 0)
theorem wideOf_ten (c : Int) : wideOf c 10 = 0 := by unfold wideOf; rw [if_pos]; omega
/-- Where a line ends without what is empty at its end. -/
def endE (z : Nat → Int) (f : Nat) : Nat → Nat
  | 0 => 0
  | t + 1 => if f ≤ t ∧ emptyR (z t) = true then endE z f t else t + 1
theorem endE_le (z : Nat → Int) (f t : Nat) : endE z f t ≤ t := by
  induction t with
  | zero => simp [endE]
  | succ t ih => simp only [endE]; split <;> omega
theorem endE_ge {z : Nat → Int} {f t : Nat} (h : f ≤ t) : f ≤ endE z f t := by
  induction t with
  | zero => simp [endE]; omega
  | succ t ih =>
    simp only [endE]; split
    · exact ih (by omega)
    · exact h
theorem endE_drop {z : Nat → Int} {f t : Nat} (h : f ≤ t) (he : emptyR (z t) = true) : endE z f (t + 1) = endE z f t := by simp only [endE]; rw [if_pos ⟨h, he⟩]
theorem endE_stop {z : Nat → Int} {f t : Nat} (he : emptyR (z t) = false) : endE z f (t + 1) = t + 1 := by simp only [endE]; rw [if_neg]; rw [he]; simp
theorem endE_at {z : Nat → Int} {f : Nat} : endE z f f = f := by
  cases f with
  | zero => rfl
  | succ f => simp only [endE]; rw [if_neg]; omega
def sumW (y : Nat → Int) (f : Nat) : Nat → Int
  | 0 => 0
  | k + 1 => sumW y f k + y (f + k)
theorem sumW_bound {y : Nat → Int} {f n : Nat} (h : ∀ j, j < n → 0 ≤ y j ∧ y j ≤ 20000) : ∀ k, f + k ≤ n → 0 ≤ sumW y f k ∧ sumW y f k ≤ 20000 * (k : Int) := by
  intro k
  induction k with
  | zero => simp [sumW]
  | succ k ih =>
    intro hk
    have h1 := ih (by omega)
    have h2 := h (f + k) (by omega)
    simp only [sumW]
    omega
def lineSum (z y : Nat → Int) (f t : Nat) : Int := sumW y f (endE z f t - f)

set_option maxHeartbeats 1000000 in
theorem implEmpty (r : Int) (w : World) : Calls Try.prog 89 #[.int .i64 r] w fun e w' => e = .returned (.bool (emptyR r)) ∧ Below w.heap.size w w' := by
  by_cases h : r = 32
  · subst h
    go_enter Try.func89, Try.ntmps89
    go_wp2_with fail
    go_ret
    exact ⟨retBool (by simp [emptyR]), Below.refl _ _⟩
  · have h2 : (r == 32) = false := by simpa using h
    have HE : Hid (emptyR r = (wideOf (bidi r) r == 0)) := by show _ = _; simp [emptyR, h]
    clear h
    go_enter Try.func89, Try.ntmps89
    go_wp2_with fail
    refine (implWide _ _).mono ?_
    rintro e w1 ⟨rfl, b1⟩
    go_wp2_with fail
    go_ret
    exact ⟨retBool HE.out.symm, b1⟩
set_option maxHeartbeats 1000000 in
theorem specEmpty (r : Int) (w : World) : Calls Try.prog 88 #[.int .i64 r] w fun e w' => e = .returned (.bool (emptyR r)) ∧ Below w.heap.size w w' := by
  by_cases h : r = 32
  · subst h
    go_enter Try.func88, Try.ntmps88
    go_wp2_with fail
    go_ret
    exact ⟨retBool (by simp [emptyR]), Below.refl _ _⟩
  · by_cases h10 : r = 10
    · subst h10
      have HE : Hid (emptyR 10 = true) := by show _ = _; simp [emptyR, wideOf_ten]
      go_enter Try.func88, Try.ntmps88
      go_wp2_with fail
      go_ret
      exact ⟨retBool HE.out.symm, Below.refl _ _⟩
    · have h2 : (r == 32) = false := by simpa using h
      have h3 : (r == 10) = false := by simpa using h10
      have HE : Hid (emptyR r = (wideOf (bidi r) r == 0)) := by show _ = _; simp [emptyR, h]
      clear h h10
      go_enter Try.func88, Try.ntmps88
      go_wp2_with fail
      refine (specWide _ _).mono ?_
      rintro e w1 ⟨rfl, b1⟩
      go_wp2_with fail
      go_ret
      exact ⟨retBool HE.out.symm, b1⟩

set_option maxHeartbeats 2000000 in
theorem implEnd (a : Option Addr) (n cap f t : Nat) (l : List Int) (w : World) (hb : Hid (f < t → ∃ b off, a = some ⟨b, off, none⟩ ∧ b < w.heap.size ∧ ∀ j, j < n → w.cell? ⟨b, off + j, none⟩ = some (.int .i64 (fn l j)))) (hft : f ≤ t) (ht : t ≤ n) (hn : n ≤ 1048576) (r : Nat) (hr : Hid (endE (fn l) f t = r)) :
    Calls Try.prog 80 #[.slice a n cap, .int .i64 f, .int .i64 t] w fun e w' => e = .returned (.int .i64 r) ∧ Below w.heap.size w w' := by
  go_enter Try.func80, Try.ntmps80
  go_wp2_with fail
  go_loopw [2] (fun i wr => ∃ (k : Nat), f ≤ k ∧ k ≤ t ∧ i = .int .i64 k ∧ Hid (endE (fn l) f k = r) ∧ Below w.heap.size w wr) (fun i _ => (intOf i).toNat)
  case atStart => exact ⟨t, hft, Nat.le_refl _, rfl, hr, Below.refl _ _⟩
  case round =>
    obtain ⟨k, hfk, hkt, rfl, hS, hbel⟩ := hrel
    by_cases hlt : f < k
    · obtain ⟨m, rfl⟩ : ∃ m, k = m + 1 := ⟨k - 1, by omega⟩
      obtain ⟨b, off, rfl, hbw, hat⟩ := hb.out (by omega)
      have c0 : wr.cell? ⟨b, off + m, none⟩ = some (.int .i64 (fn l m)) := (hbel.cell (p := ⟨b, off + m, none⟩) hbw).trans (hat m (by omega))
      have hk1 : ((m + 1 : Nat) : Int) = (m : Int) + 1 := by omega
      rw [hk1]
      clear hat
      go_wp2_with fail
      refine (implEmpty _ _).mono ?_
      rintro e w1 ⟨rfl, b1⟩
      by_cases he : emptyR (fn l m) = true
      · have HR : Hid (endE (fn l) f m = r) := by show _ = _; rw [← hS.out]; exact (endE_drop (by omega) he).symm
        rw [he]
        go_wp2_with fail
        exact ⟨⟨m, by omega, by omega, by go_num, HR, bstep hbel b1⟩, by simp only [intOf]; omega⟩
      · have he2 : emptyR (fn l m) = false := by simpa using he
        have HR : Hid (m + 1 = r) := by show _ = _; rw [← hS.out]; exact (endE_stop he2).symm
        rw [he2]
        go_wp2_with fail
        go_ret
        exact ⟨retInt (by rw [← HR.out]; omega), bstep hbel b1⟩
    · have e : k = f := by omega
      subst e
      have HR : Hid (k = r) := by show _ = _; rw [← hS.out]; exact endE_at.symm
      go_wp2_with fail
      go_ret
      exact ⟨retInt (by rw [HR.out]), hbel⟩

/-- A slice whose numbers can be read, its address a letter. -/
def RdI (w : World) (a : Option Addr) (n : Nat) (l : List Int) : Prop := 0 < n → ∃ b off, a = some ⟨b, off, none⟩ ∧ b < w.heap.size ∧ ∀ j, j < n → w.cell? ⟨b, off + j, none⟩ = some (.int .i64 (fn l j))
theorem RdI.below {w w' : World} {a : Option Addr} {n : Nat} {l : List Int} (h : RdI w a n l) (hb : Below w.heap.size w w') : RdI w' a n l := fun h0 => by
  obtain ⟨b, off, e, h1, h2⟩ := h h0
  exact ⟨b, off, e, Nat.lt_of_lt_of_le h1 hb.size, fun j hj => (hb.cell (p := ⟨b, off + j, none⟩) h1).trans (h2 j hj)⟩
theorem Arg.rdI {w : World} {v : Value} {l : List Int} (h : Arg w v l) : ∃ a cap, v = .slice a l.length cap ∧ RdI w a l.length l ∧ (0 < l.length → l.length ≤ cap) := by
  rcases h with ⟨a, cap, rfl, rfl⟩ | ⟨b, off, cap, rfl, h1, h2, h3, h4⟩
  · exact ⟨a, cap, rfl, fun h => absurd h (by simp), fun h => absurd h (by simp)⟩
  · exact ⟨_, cap, rfl, fun _ => ⟨b, off, rfl, h1, h4⟩, fun _ => h2⟩
end Go.Proofs.Ytgjhhfmhaalcnaa
