import Derived.Test.YtbacfaddljjopaaMem
namespace Go.Proofs.Ytbacfaddljjopaa
open Go.ChangeShapes Go.WideShapes Go.ChangeAt Go.RowKit
set_option linter.unusedSimpArgs false

def memB (x : Int) (l : List Int) : Bool := decide (x ∈ l)
theorem memB_yes {x : Int} {l : List Int} {k : Nat} (hk : k < l.length) (h : fn l k = x) : memB x l = true := by
  unfold memB; rw [decide_eq_true_eq, ← h, fn_get hk]; exact List.getElem_mem hk
theorem memB_no {x : Int} {l : List Int} (h : ∀ j, j < l.length → fn l j ≠ x) : memB x l = false := by
  unfold memB; rw [decide_eq_false_iff_not]
  intro hm
  obtain ⟨j, hj, e⟩ := List.getElem_of_mem hm
  exact h j hj (by rw [fn_get hj]; exact e)
theorem at2 (w : World) (T : TypeId) (a b : Int) : At (w.alloc (.cells #[.int .i64 a, .int .i64 b] T)) w.heap.size 0 [a, b] := by
  intro j hj
  rcases (show j = 0 ∨ j = 1 by simp at hj; omega) with rfl | rfl <;> simp [fn]
theorem at3 (w : World) (T : TypeId) (a b c : Int) : At (w.alloc (.cells #[.int .i64 a, .int .i64 b, .int .i64 c] T)) w.heap.size 0 [a, b, c] := by
  intro j hj
  rcases (show j = 0 ∨ j = 1 ∨ j = 2 by simp at hj; omega) with rfl | rfl | rfl <;> simp [fn]
theorem at4 (w : World) (T : TypeId) (a b c d : Int) : At (w.alloc (.cells #[.int .i64 a, .int .i64 b, .int .i64 c, .int .i64 d] T)) w.heap.size 0 [a, b, c, d] := by
  intro j hj
  rcases (show j = 0 ∨ j = 1 ∨ j = 2 ∨ j = 3 by simp at hj; omega) with rfl | rfl | rfl | rfl <;> simp [fn]

theorem at2b {w : World} {T : TypeId} {a b : Int} {B : Nat} (h : B = w.heap.size) : At (w.alloc (.cells #[.int .i64 a, .int .i64 b] T)) B 0 [a, b] := by rw [h]; exact at2 w T a b
theorem at3b {w : World} {T : TypeId} {a b c : Int} {B : Nat} (h : B = w.heap.size) : At (w.alloc (.cells #[.int .i64 a, .int .i64 b, .int .i64 c] T)) B 0 [a, b, c] := by rw [h]; exact at3 w T a b c

set_option maxHeartbeats 2000000 in
theorem index_any (b off cap n : Nat) (l : List Int) (x : Int) (w : World) (hn : l.length = n) (hbig : n ≤ 1000) (hat : At w b off l) :
    Calls Try.prog 85 #[.slice (some ⟨b, off, none⟩) n cap, .int .i64 x] w fun e w' => (∃ i : Int, e = .returned (.int .i64 i) ∧ decide (0 ≤ i) = memB x l) ∧ w' = w := by
  have HN : Hid _ := hn
  have HA : Hid _ := hat
  clear hn hat
  go_enter Try.func85, Try.ntmps85
  go_wp2_with fail
  go_loop [8] (fun i => ∃ k : Nat, k ≤ n ∧ i = .int .i64 k ∧ Hid (∀ j, j < k → fn l j ≠ x)) (fun i => n - (intOf i).toNat)
  case atStart => exact ⟨0, Nat.zero_le _, rfl, fun j hj => by omega⟩
  case round =>
    obtain ⟨k, hk, rfl, hall⟩ := hrel
    by_cases hlt : k < n
    · have hcell : w.cell? ⟨b, off + k, none⟩ = some (.int .i64 (fn l k)) := HA.out k (by rw [HN.out]; exact hlt)
      by_cases hq : fn l k = x
      · have HQ : Hid (memB x l = true) := memB_yes (by rw [HN.out]; exact hlt) hq
        have hq2 : (x == fn l k) = true := by simp [hq]
        clear hq
        go_wp2_with fail
        go_ret
        exact ⟨⟨_, rfl, by rw [HQ.out]; simp⟩, rfl⟩
      · have hq2 : (x == fn l k) = false := by simp; exact fun e => hq e.symm
        go_wp2_with fail
        refine ⟨⟨k + 1, by omega, by go_num, fun j hj => ?_⟩, by simp only [intOf]; omega⟩
        by_cases e : j = k
        · subst e; exact hq
        · exact hall.out j (by omega)
    · have e : k = n := by omega
      subst e
      have HQ : Hid (memB x l = false) := memB_no (by rw [HN.out]; exact hall.out)
      go_wp2_with fail
      go_ret
      exact ⟨⟨_, rfl, by rw [HQ.out]; decide⟩, rfl⟩

set_option maxHeartbeats 1000000 in
theorem contains_any (b off cap n : Nat) (l : List Int) (x : Int) (w : World) (hn : l.length = n) (hbig : n ≤ 1000) (hat : At w b off l) :
    Calls Try.prog 58 #[.slice (some ⟨b, off, none⟩) n cap, .int .i64 x] w fun e w' => e = .returned (.bool (memB x l)) ∧ w' = w := by
  go_enter Try.func58, Try.ntmps58
  go_wp2_with fail
  refine (index_any b off cap n l x w hn hbig hat).mono ?_
  rintro e w1 ⟨⟨i, rfl, hi⟩, rfl⟩
  have HI : Hid _ := hi
  clear hi hn hat
  go_wp2_with fail
  go_ret
  exact ⟨retBool HI.out, rfl⟩

set_option maxHeartbeats 1000000 in
theorem oneOf_any (b off cap n : Nat) (l : List Int) (x : Int) (w : World) (hn : l.length = n) (hbig : n ≤ 1000) (hat : At w b off l) :
    Calls Try.prog 97 #[.int .i64 x, .slice (some ⟨b, off, none⟩) n cap] w fun e w' => e = .returned (.bool (memB x l)) ∧ w' = w := by
  go_enter Try.func97, Try.ntmps97
  go_wp2_with fail
  refine (contains_any b off cap n l x w hn hbig hat).mono ?_
  rintro e w1 ⟨rfl, rfl⟩
  clear hn hat
  go_wp2_with fail
  go_ret
  exact ⟨rfl, rfl⟩
theorem oneOf_is (b off cap n : Nat) (l : List Int) (x : Int) (w : World) (hn : l.length = n) (hbig : n ≤ 1000) (hat : At w b off l) (q : Bool) (hq : Hid (memB x l = q)) :
    Calls Try.prog 97 #[.int .i64 x, .slice (some ⟨b, off, none⟩) n cap] w fun e w' => e = .returned (.bool q) ∧ w' = w := by
  rw [← hq.out]; exact oneOf_any b off cap n l x w hn hbig hat
end Go.Proofs.Ytbacfaddljjopaa
