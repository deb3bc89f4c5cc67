import Derived.Test.YtbacfaddljjopaaBetween
import Derived.Test.YtbacfaddljjopaaLine
import Derived.Test.YtbacfaddljjopaaMade
namespace Go.Proofs.Ytbacfaddljjopaa
open Go.ChangeShapes Go.WideShapes Go.ChangeAt Go.RowKit
set_option linter.unusedSimpArgs false

theorem implLine_is (r C : Int) (w : World) (h : Hid (lineI r = C)) : Calls Try.prog 78 #[.int .i64 r] w fun e w' => e = .returned (.int .i64 C) ∧ Below w.heap.size w w' := by
  rw [← h.out]; exact implLine r w
theorem bears_is (x : Int) (q : Bool) (w : World) (h : Hid (bearB x = q)) : Calls Try.prog 79 #[.int .i64 x] w fun e w' => e = .returned (.bool q) ∧ Below w.heap.size w w' := by
  rw [← h.out]; exact bears_any x w

set_option maxHeartbeats 4000000 in
theorem count_row (b off cap n : Nat) (l : List Int) (w : World) (hn : Hid (l.length = n)) (hl : n ≤ 80) (hb : b < w.heap.size) (hat : At w b off l) :
    Calls Try.prog 77 #[.slice (some ⟨b, off, none⟩) n cap] w fun e w' => (∃ g, e = .returned (.slice (some ⟨g, 0, none⟩) n n) ∧ OwnI w' w.heap.size (.slice (some ⟨g, 0, none⟩) n n) (ctdL l)) ∧ Below w.heap.size w w' := by
  obtain ⟨i0, hi, hz0, hz1, hz2⟩ := info_parts infoM
  go_enter Try.func77, Try.ntmps77
  go_wp2_with (first | (at_make; refine wpList_make_full _ rfl _ _ 23 rfl w.heap.size 3 i0 (.int .i64 0) 1 Try.underlying23 hi hz0 hz1 _ _ _ _ n rfl rfl rfl rfl (by rw [hz2]; omega) (by unfold maxLen; omega) (Nat.le_refl _) ?_; intro w1 hown hgrow))
  have hB : Below w.heap.size w w1 := (Below.refl _ _).grown hgrow (Nat.le_refl _) (by simp)
  have ho : OwnI w1 w.heap.size (.slice (some ⟨w.heap.size, 0, none⟩) n n) (List.replicate n 0) := made_row hown
  clear hown hgrow
  go_loopw [4, 13] (fun q i wr => ∃ (k : Nat) (L : List Int), k ≤ n ∧ i = .int .i64 k ∧ q = .int .i64 (ahC (fn l) k) ∧ OwnI wr w.heap.size (.slice (some ⟨w.heap.size, 0, none⟩) n n) L ∧ Hid (∀ j, j < k → fn L j = ctd (fn l) j) ∧ Below w.heap.size w wr) (fun _ i _ => n - (intOf i).toNat)
  case atStart => exact ⟨0, _, Nat.zero_le _, rfl, rfl, ho, fun j hj => by omega, hB⟩
  case round =>
    obtain ⟨k, L, hk, rfl, rfl, hown, hsame, hbel⟩ := hrel
    by_cases hlt : k < n
    · have hcell : wr.cell? ⟨b, off + k, none⟩ = some (.int .i64 (fn l k)) := (hat.below hbel hb) k (by rw [hn.out]; exact hlt)
      obtain ⟨C, hC⟩ : ∃ C, lineI (fn l k) = C := ⟨_, rfl⟩
      obtain ⟨A, hA⟩ : ∃ A, ahC (fn l) k = A := ⟨_, rfl⟩
      obtain ⟨q, hq⟩ : ∃ q, bearB A = q := ⟨_, rfl⟩
      have HD : Hid (ctd (fn l) k = if C = 7 then (if q = true then A else 1) else C) := by show _ = _; rw [ctd_ah, hC, hA, hq]
      have HC : Hid _ := hC
      have HQ : Hid _ := hq
      rw [hA]
      clear hC hA hq
      have fin : ∀ (D : Int) (w6 : World), D = ctd (fn l) k → Below wr.heap.size wr w6 → OwnI (w6.setCell ⟨w.heap.size, k, none⟩ (.int .i64 D)) w.heap.size (.slice (some ⟨w.heap.size, 0, none⟩) n n) (L.set k D) ∧ (∀ j, j < k + 1 → fn (L.set k D) j = ctd (fn l) j) ∧ Below w.heap.size w (w6.setCell ⟨w.heap.size, k, none⟩ (.int .i64 D)) := by
        intro D w6 hD b6
        refine ⟨(hown.below b6).storedN k D, fun j hj => ?_, (bstep hbel b6).setCell (Nat.le_refl _) _⟩
        have e := hown.len
        by_cases ej : j = k
        · subst ej; rw [fn_set_same (by omega)]; exact hD
        · rw [fn_set_other (by omega)]; exact hsame.out j (by omega)
      have FIN : Hid _ := fin
      clear fin
      have fz : ∀ w6 : World, Below wr.heap.size wr w6 → w6.frozen? ⟨w.heap.size, k, none⟩ = false ∧ w6.cell? ⟨w.heap.size, k, none⟩ = some (.int .i64 (fn L k)) := fun w6 b6 => ⟨(hown.below b6).frozenN k, (hown.below b6).cellN k hlt⟩
      have FZ : Hid _ := fz
      clear fz
      by_cases h7 : C = 7
      · subst h7
        cases q with
        | true =>
          go_wp2_with fail
          refine (implLine_is _ 7 _ HC).mono ?_
          rintro e w5 ⟨rfl, b5⟩
          go_wp2_with fail
          refine (bears_is A true _ HQ).mono ?_
          rintro e w6 ⟨rfl, b6⟩
          have B6 := bstep b5 b6
          obtain ⟨z1, z2⟩ := FZ.out w6 B6
          have F := FIN.out A w6 (by rw [HD.out]; simp) B6
          go_wp2_with fail
          exact ⟨⟨k + 1, _, by omega, by go_num, by show _ = Value.int .i64 (ctd (fn l) k); rw [HD.out]; simp, F.1, F.2.1, F.2.2⟩, by simp only [intOf]; omega⟩
        | false =>
          go_wp2_with fail
          refine (implLine_is _ 7 _ HC).mono ?_
          rintro e w5 ⟨rfl, b5⟩
          go_wp2_with fail
          refine (bears_is A false _ HQ).mono ?_
          rintro e w6 ⟨rfl, b6⟩
          have B6 := bstep b5 b6
          obtain ⟨z1, z2⟩ := FZ.out w6 B6
          have F := FIN.out 1 w6 (by rw [HD.out]; simp) B6
          go_wp2_with fail
          exact ⟨⟨k + 1, _, by omega, by go_num, by show _ = Value.int .i64 (ctd (fn l) k); rw [HD.out]; simp, F.1, F.2.1, F.2.2⟩, by simp only [intOf]; omega⟩
      · have g7 : (C == 7) = false := by simpa using h7
        have H7 : Hid _ := h7
        clear h7
        go_wp2_with fail
        refine (implLine_is _ C _ HC).mono ?_
        rintro e w5 ⟨rfl, b5⟩
        obtain ⟨z1, z2⟩ := FZ.out w5 b5
        have F := FIN.out C w5 (by rw [HD.out, if_neg H7.out]) b5
        go_wp2_with fail
        exact ⟨⟨k + 1, _, by omega, by go_num, by show _ = Value.int .i64 (ctd (fn l) k); rw [HD.out, if_neg H7.out], F.1, F.2.1, F.2.2⟩, by simp only [intOf]; omega⟩
    · have e : k = n := by omega
      subst e
      go_wp2_with fail
      go_ret
      have el : L = ctdL l := by
        refine ext_fn (by rw [ctdL_len, hn.out]; exact hown.len) (fun j hj => ?_)
        have hjn : j < k := by rw [← hown.len]; exact hj
        rw [fn_ctdL (by rw [hn.out]; exact hjn)]; exact hsame.out j hjn
      rw [el] at hown
      exact ⟨⟨_, rfl, hown⟩, hbel⟩
end Go.Proofs.Ytbacfaddljjopaa
