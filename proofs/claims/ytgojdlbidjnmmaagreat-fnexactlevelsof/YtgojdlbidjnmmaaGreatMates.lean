import Derived.Test.YtgojdlbidjnmmaaGreatMateMath
import Derived.Test.YtgojdlbidjnmmaaGreatAppend
import Derived.Test.YtgojdlbidjnmmaaGreatBidiImpl
namespace Go.Proofs.YtgojdlbidjnmmaaGreat
open Go.ChangeShapes Go.WideShapes Go.ChangeAt Go.RowKit
set_option linter.unusedSimpArgs false

set_option maxHeartbeats 1000000 in
theorem implOpens (c : Int) (w : World) : Calls Tryz.prog 91 #[.int .i64 c] w fun e w' => e = .returned (.bool (opensB c)) ∧ w' = w := by
  go_enter Tryz.func91, Tryz.ntmps91
  go_wp2
  all_goals (go_ret; refine ⟨retBool ?_, rfl⟩)
  all_goals (rw [Bool.eq_iff_iff]; simp [opensB]; omega)

set_option maxHeartbeats 1000000 in
theorem specOpens (c : Int) (w : World) : Calls Tryz.prog 120 #[.int .i64 c] w fun e w' => e = .returned (.bool (opensB c)) ∧ w' = w := by
  go_enter Tryz.func120, Tryz.ntmps120
  go_wp2_with (go_at_call 29; refine (specIn _ _ _ _).mono ?_; rintro e w' ⟨rfl, rfl⟩)
  go_ret
  exact ⟨rfl, rfl⟩

theorem infoN : (Tryz.prog.info? 3).map (fun i => (i.zero, i.size, i.bytes)) = some (some (.int .i64 0), 1, 8) := by kernel_rfl
theorem made_row {w : World} {B g n : Nat} (h : w.ownsRow B 3 1 (.slice (some ⟨g, 0, none⟩) n n) n (madeCells (Value.cells (.int .i64 0)) (n * 1)).toList) :
    OwnI w B (.slice (some ⟨g, 0, none⟩) n n) (List.replicate n 0) := by
  have e : (madeCells (Value.cells (.int .i64 0)) (n * 1)).toList = (List.replicate n (0 : Int)).map (Value.int .i64) := by
    rw [Nat.mul_one, show Value.cells (.int .i64 0) = #[.int .i64 0] from rfl, toList_madeCells_one]; simp
  rw [e] at h
  unfold OwnI
  rw [List.length_replicate]
  exact h

def clsL (l : List Int) : List Int := l.map bidi
theorem clsL_len (l : List Int) : (clsL l).length = l.length := by simp [clsL]
theorem fn_clsL {l : List Int} {j : Nat} (h : j < l.length) : fn (clsL l) j = cl l j := by simp [fn, clsL, cl, h]

set_option maxHeartbeats 2000000 in
theorem classes_any (v : Value) (l : List Int) (w : World) (hv : Arg w v l) (hl : l.length ≤ 1048576) :
    Calls Tryz.prog 57 #[v] w fun e w' => (∃ g, e = .returned (.slice (some ⟨g, 0, none⟩) l.length l.length) ∧ OwnI w' w.heap.size (.slice (some ⟨g, 0, none⟩) l.length l.length) (clsL l)) ∧ Below w.heap.size w w' := by
  obtain ⟨i0, hi, hz0, hz1, hz2⟩ := info_parts infoN
  rcases hv with ⟨a0, c0, rfl, rfl⟩ | ⟨b, off, cap, rfl, hb, hlc, hcm, hat⟩
  · go_enter Tryz.func57, Tryz.ntmps57
    go_wp2_with (first | (at_make; refine wpList_make_full _ rfl _ _ 23 rfl w.heap.size 3 i0 (.int .i64 0) 1 Tryz.underlying23 hi hz0 hz1 _ _ _ _ 0 rfl rfl rfl rfl (by omega) (by unfold maxLen; omega) (Nat.le_refl _) ?_; intro w1 hown hgrow))
    go_rounds 1
    go_ret
    exact ⟨⟨_, rfl, made_row hown⟩, (Below.refl _ _).grown hgrow (Nat.le_refl _) (by simp)⟩
  · obtain ⟨n, hn⟩ : ∃ n, l.length = n := ⟨_, rfl⟩
    rw [hn] at hl ⊢
    go_enter Tryz.func57, Tryz.ntmps57
    go_wp2_with (first | (at_make; refine wpList_make_full _ rfl _ _ 23 rfl w.heap.size 3 i0 (.int .i64 0) 1 Tryz.underlying23 hi hz0 hz1 _ _ _ _ n rfl rfl rfl rfl (by rw [hz2]; omega) (by unfold maxLen; omega) (Nat.le_refl _) ?_; intro w1 hown hgrow))
    have hB : Below w.heap.size w w1 := (Below.refl _ _).grown hgrow (Nat.le_refl _) (by simp)
    have ho : OwnI w1 w.heap.size (.slice (some ⟨w.heap.size, 0, none⟩) n n) (List.replicate n 0) := made_row hown
    clear hown hgrow
    go_loopw [11] (fun i wr => ∃ (k : Nat) (l' : List Int), k ≤ n ∧ i = .int .i64 k ∧ OwnI wr w.heap.size (.slice (some ⟨w.heap.size, 0, none⟩) n n) l' ∧ Hid (∀ j, j < k → fn l' j = cl l j) ∧ Below w.heap.size w wr) (fun i _ => n - (intOf i).toNat)
    case atStart => exact ⟨0, _, Nat.zero_le _, rfl, ho, fun j hj => by omega, hB⟩
    case round =>
      obtain ⟨k, l', hk, rfl, hown, hsame, hbel⟩ := hrel
      by_cases hlt : k < n
      · have hcell : wr.cell? ⟨b, off + k, none⟩ = some (.int .i64 (fn l k)) := (hbel.cell (p := ⟨b, off + k, none⟩) hb).trans (hat k (by omega))
        go_wp2_with fail
        refine (implBidi _ _).mono ?_
        rintro e w2 ⟨rfl, b2⟩
        have hown2 := hown.below b2
        have hbel2 := bstep hbel b2
        have hf : w2.frozen? ⟨w.heap.size, k, none⟩ = false := hown2.frozenN k
        have hc2 : w2.cell? ⟨w.heap.size, k, none⟩ = some (.int .i64 (fn l' k)) := hown2.cellN k hlt
        go_wp2_with fail
        go_roundw
        case rel =>
          refine ⟨k + 1, l'.set k (bidi (fn l k)), by omega, by go_num, hown2.storedN k _, fun j hj => ?_, hbel2.setCell (Nat.le_refl _) _⟩
          have e := hown.len
          by_cases ej : j = k
          · subst ej; exact fn_set_same (by omega)
          · rw [fn_set_other (by omega)]; exact hsame.out j (by omega)
        case measure => simp only [intOf]; omega
      · have e : k = n := by omega
        subst e
        go_wp2_with fail
        go_ret
        have e := hown.len
        have el : l' = clsL l := ext_fn (by rw [clsL_len]; omega) (fun j hj => by rw [fn_clsL (by omega)]; exact hsame.out j (by omega))
        rw [el] at hown
        exact ⟨⟨_, rfl, hown⟩, hbel⟩

theorem OwnI.take {w : World} {g n cap q B : Nat} {l : List Int} (h : OwnI w B (.slice (some ⟨g, 0, none⟩) n cap) l) (hq : q ≤ n) : OwnI w B (.slice (some ⟨g, 0, none⟩) q cap) (l.take q) := by
  have e := h.len
  have hl : (l.take q).length = q := by rw [List.length_take]; omega
  unfold OwnI
  rw [hl]
  refine ⟨by rw [List.length_map, hl]; omega, .inr ?_⟩
  rcases h.2 with ⟨h1, _⟩ | ⟨g', cap', cur, h1, h2, h3, h4, h5, h6, h7⟩
  · cases h1
  · simp only [Value.slice.injEq, Option.some.injEq, Addr.mk.injEq] at h1
    obtain ⟨⟨rfl, _⟩, _, rfl⟩ := h1
    refine ⟨g, cap, cur, rfl, h2, h3, by omega, h5, h6, ?_⟩
    rw [List.map_take, ← h7, List.take_take]
    congr 1; omega
end Go.Proofs.YtgojdlbidjnmmaaGreat
