import Derived.Test.YteefeciiaekdlaaUtf8P
namespace Go.Proofs.Yteefeciiaekdlaa
open Go.ChangeShapes Go.WideShapes Go.ChangeAt Go.RowKit
set_option linter.unusedSimpArgs false

theorem putS_ne {l : List Int} (h0 : l ≠ []) : (putS l).toList.isEmpty = !okF (fn l) l.length := by
  rw [show (putS l).toList = putB l by simp [putS, strOf]]
  unfold putB
  by_cases h : okF (fn l) l.length = true
  · rw [if_pos h, h]
    have := (encL_len l).1
    have hl : 0 < l.length := List.length_pos_iff.2 h0
    have hne : encL l ≠ [] := fun hn => by rw [hn] at this; simp only [List.length_nil] at this; omega
    simp [hne]
  · rw [if_neg h]
    have : okF (fn l) l.length = false := by simpa using h
    rw [this]; simp

set_option maxHeartbeats 1000000 in
theorem wcOk_any (v : Value) (l : List Int) (n : Nat) (a0 : Option Addr) (cap : Nat) (w : World) (hn : Hid (l.length = n)) (hva : v = .slice a0 n cap) (hv : Arg w v l) (hl : n ≤ 4194304) :
    Calls Try.prog 18 #[v] w fun e w' => e = .returned (.bool (okF (fn l) n)) ∧ Below w.heap.size w w' := by
  subst hva
  by_cases h0 : n = 0
  · subst h0
    have e : l = [] := List.eq_nil_of_length_eq_zero hn.out
    subst e
    go_enter Try.func18, Try.ntmps18
    go_wp2_with fail
    go_ret
    exact ⟨retBool rfl, Below.refl _ _⟩
  · have g0 : ((n : Int) == 0) = false := by simp; omega
    have hne : l ≠ [] := fun e => by have := hn.out; rw [e] at this; simp at this; omega
    have HB := putS_ne hne
    rw [hn.out] at HB
    obtain ⟨q, hq⟩ : ∃ q, okF (fn l) n = q := ⟨_, rfl⟩
    rw [hq] at HB
    have HQ : Hid _ := hq
    rw [hq]
    have HB2 : Hid _ := HB
    clear hq hne h0 HB
    go_enter Try.func18, Try.ntmps18
    go_wp2_with fail
    refine (specPut _ l _ hv (by rw [hn.out]; exact hl)).mono ?_
    rintro e w1 ⟨rfl, b1⟩
    go_wp2_with fail
    go_ret
    exact ⟨retBool (by simp; exact HB2.out), b1⟩

end Go.Proofs.Yteefeciiaekdlaa
