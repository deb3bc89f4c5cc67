import Derived.Test.YteefeciiaekdlaaRunRow
import Derived.Test.YteefeciiaekdlaaLawMark
namespace Go.Proofs.Yteefeciiaekdlaa
open Go.ChangeShapes Go.WideShapes Go.ChangeAt Go.RowKit
set_option linter.unusedSimpArgs false

/-- What came in as a slice of runs: their numbers can be read. -/
def ArgT (w : World) (a : Option Addr) (n cap : Nat) (l : List Int) : Prop :=
  n ≤ cap ∧ cap ≤ maxLen ∧ l.length = n * 3 ∧ (n = 0 ∨ ∃ b off, a = some ⟨b, off, none⟩ ∧ b < w.heap.size ∧ ∀ j, j < n * 3 → w.cell? ⟨b, off + j, none⟩ = some (.int .i64 (fn l j)))
theorem ArgT.below {w w' : World} {a : Option Addr} {n cap : Nat} {l : List Int} (h : ArgT w a n cap l) (hb : Below w.heap.size w w') : ArgT w' a n cap l := by
  obtain ⟨h1, h2, h0, h3⟩ := h
  refine ⟨h1, h2, h0, ?_⟩
  rcases h3 with h | ⟨b, off, rfl, h4, h5⟩
  · exact .inl h
  · exact .inr ⟨b, off, rfl, Nat.lt_of_lt_of_le h4 hb.size, fun j hj => (hb.cell (p := ⟨b, off + j, none⟩) h4).trans (h5 j hj)⟩

set_option maxHeartbeats 2000000 in
theorem toRun_any (f t s : Int) (w : World) :
    Calls Try.prog 48 #[.agg #[.int .i64 f, .int .i64 t, .int .i64 s]] w fun e w' => e = .returned (.agg #[.int .i64 f, .int .i64 t, .int .i64 s]) ∧ Below w.heap.size w w' := by
  go_enter Try.func48, Try.ntmps48
  go_wp2_with fail
  refine bodyPost_ret (v := .agg #[.int .i64 f, .int .i64 t, .int .i64 s]) (by simp [results, Try.results48, go_sem]) rfl ⟨rfl, ?_⟩
  go_grown

theorem infoRq : (Try.prog.info? 33).map (fun i => (i.zero, i.size, i.bytes)) = some (some (.agg #[.int .i64 0, .int .i64 0, .int .i64 0]), 3, 24) := by kernel_rfl
theorem made_three (n : Nat) : (madeCells (Value.cells (.agg #[.int .i64 0, .int .i64 0, .int .i64 0])) (n * 3)).toList = (List.replicate (n * 3) (0 : Int)).map (Value.int .i64) := by
  have e : Value.cells (.agg #[.int .i64 0, .int .i64 0, .int .i64 0]) = #[.int .i64 0, .int .i64 0, .int .i64 0] := by kernel_rfl
  rw [e]
  apply List.ext_getElem
  · simp [madeCells]
  · intro j h1 h2
    simp only [madeCells, Array.toList_map, List.getElem_map, Array.getElem_toList, Array.getElem_range, List.getElem_replicate]
    have hj : j % 3 < 3 := Nat.mod_lt _ (by omega)
    show #[Value.int .i64 0, .int .i64 0, .int .i64 0][j % 3]! = _
    rcases (show j % 3 = 0 ∨ j % 3 = 1 ∨ j % 3 = 2 by omega) with h | h | h <;> rw [h] <;> rfl

set_option maxHeartbeats 4000000 in
theorem toRuns_any (a : Option Addr) (n cap : Nat) (l : List Int) (w : World) (hv : ArgT w a n cap l) (hl : n ≤ 1048576) :
    Calls Try.prog 29 #[.slice a n cap] w fun e w' => (∃ g, e = .returned (.slice (some ⟨g, 0, none⟩) n n) ∧ OwnR w' w.heap.size (.slice (some ⟨g, 0, none⟩) n n) n l) ∧ Below w.heap.size w w' := by
  obtain ⟨i0, hi, hz0, hz1, hz2⟩ := info_parts infoRq
  obtain ⟨h1, h2, h0, h3⟩ := hv
  go_enter Try.func29, Try.ntmps29
  go_wp2_with (first | (at_make; refine wpList_make_full _ rfl _ _ 29 rfl w.heap.size 33 i0 (.agg #[.int .i64 0, .int .i64 0, .int .i64 0]) 3 Try.underlying29 hi hz0 hz1 _ _ _ _ n rfl rfl rfl rfl (by rw [hz2]; omega) (by unfold maxLen; omega) (Nat.le_refl _) ?_; intro w1 hown hgrow))
  have hB : Below w.heap.size w w1 := (Below.refl _ _).grown hgrow (Nat.le_refl _) (by simp)
  have ho : OwnR w1 w.heap.size (.slice (some ⟨w.heap.size, 0, none⟩) n n) n (List.replicate (n * 3) 0) := by
    rw [made_three] at hown; exact hown
  clear hown hgrow
  have H0 : Hid _ := h0
  clear h0
  go_loopw [4] (fun i wr => ∃ (k : Nat) (l' : List Int), k ≤ n ∧ i = .int .i64 k ∧ OwnR wr w.heap.size (.slice (some ⟨w.heap.size, 0, none⟩) n n) n l' ∧ Hid (∀ j, j < k * 3 → fn l' j = fn l j) ∧ Below w.heap.size w wr) (fun i _ => n - (intOf i).toNat)
  case atStart => exact ⟨0, _, Nat.zero_le _, rfl, ho, fun j hj => by omega, hB⟩
  case round =>
    obtain ⟨k, l', hk, rfl, hown, hsame, hbel⟩ := hrel
    by_cases hlt : k < n
    · obtain ⟨b, off, rfl, hb, hat⟩ : ∃ b off, a = some ⟨b, off, none⟩ ∧ b < w.heap.size ∧ ∀ j, j < n * 3 → w.cell? ⟨b, off + j, none⟩ = some (.int .i64 (fn l j)) := by
        rcases h3 with h | h
        · omega
        · exact h
      have c0 : wr.cell? ⟨b, off + k * 3, none⟩ = some (.int .i64 (fn l (k * 3))) := (hbel.cell (p := ⟨b, _, none⟩) hb).trans (hat (k * 3) (by omega))
      have c1 : wr.cell? ⟨b, off + k * 3 + 1, none⟩ = some (.int .i64 (fn l (k * 3 + 1))) := (hbel.cell (p := ⟨b, _, none⟩) hb).trans (hat (k * 3 + 1) (by omega))
      have c2 : wr.cell? ⟨b, off + k * 3 + 2, none⟩ = some (.int .i64 (fn l (k * 3 + 2))) := (hbel.cell (p := ⟨b, _, none⟩) hb).trans (hat (k * 3 + 2) (by omega))
      have HA : Hid _ := hat
      clear hat h3
      go_wp2_with fail
      refine (toRun_any _ _ _ _).mono ?_
      rintro e w5 ⟨rfl, b5⟩
      have hown5 := hown.kept (fun kk hkk => b5.block kk (hown.lt kk hkk).2)
      have B5 := bstep hbel b5
      have f0 := hown5.frozen (k * 3)
      have f1 := hown5.frozen (k * 3 + 1)
      have f2 := hown5.frozen (k * 3 + 2)
      have d0 := hown5.cell (k * 3) (by omega)
      have d1 := hown5.cell (k * 3 + 1) (by omega)
      have d2 := hown5.cell (k * 3 + 2) (by omega)
      clear c0 c1 c2 b5
      go_wp2_with fail
      refine ⟨⟨k + 1, ((l'.set (k * 3) (fn l (k * 3))).set (k * 3 + 1) (fn l (k * 3 + 1))).set (k * 3 + 2) (fn l (k * 3 + 2)), by omega, by go_num, ((hown5.stored (k * 3) _).stored (k * 3 + 1) _).stored (k * 3 + 2) _, fun j hj => ?_, ?_⟩, by simp only [intOf]; omega⟩
      · have e := hown.len
        by_cases e2 : j = k * 3 + 2
        · subst e2; rw [fn_set_same (by simp; omega)]
        · rw [fn_set_other (by omega)]
          by_cases e1 : j = k * 3 + 1
          · subst e1; rw [fn_set_same (by simp; omega)]
          · rw [fn_set_other (by omega)]
            by_cases e0 : j = k * 3
            · subst e0; rw [fn_set_same (by omega)]
            · rw [fn_set_other (by omega)]; exact hsame.out j (by omega)
      · exact ((B5.setCell (Nat.le_refl _) _).setCell (Nat.le_refl _) _).setCell (Nat.le_refl _) _
    · have e : k = n := by omega
      subst e
      go_wp2_with fail
      go_ret
      have e := hown.len
      have el : l' = l := ext_fn (by have := H0.out; omega) (fun j hj => hsame.out j (by omega))
      rw [el] at hown
      exact ⟨⟨_, rfl, hown⟩, hbel⟩

set_option maxHeartbeats 1000000 in
theorem szRuns_any (a : Option Addr) (n cap : Nat) (k : Int) (w : World) (h : (n : Int) ≤ k) (hk : k ≤ 1048576) :
    Calls Try.prog 27 #[.slice a n cap, .int .i64 k] w fun e w' => e = .returned (.int .i64 (k - n)) ∧ w' = w := by
  have h3 : (0 : Int) ≤ k - (n : Int) := by omega
  go_enter Try.func27, Try.ntmps27
  go_wp2_with fail
  go_ret
  exact ⟨rfl, rfl⟩
set_option maxHeartbeats 1000000 in
theorem szRuns_big (a : Option Addr) (n cap : Nat) (k : Int) (w : World) (h : k < (n : Int)) (hk0 : 0 ≤ k) (h2 : n ≤ maxLen) :
    Calls Try.prog 27 #[.slice a n cap, .int .i64 k] w fun e w' => e = .returned (.int .i64 (-1)) ∧ w' = w := by
  unfold maxLen at h2
  have h3 : k - (n : Int) < 0 := by omega
  go_enter Try.func27, Try.ntmps27
  go_wp2_with fail
  go_ret
  exact ⟨rfl, rfl⟩
end Go.Proofs.Yteefeciiaekdlaa
