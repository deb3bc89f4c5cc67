import Derived.Test.YtobmdefklgkoiaaSpanRow
import Derived.Test.YtobmdefklgkoiaaGrow
namespace Go.Proofs.Ytobmdefklgkoiaa
open Go.ChangeShapes Go.WideShapes Go.ChangeAt Go.RowKit
set_option linter.unusedSimpArgs false

/-- What came in as a slice of spans: their numbers can be read. -/
def ArgL (w : World) (a : Option Addr) (n cap : Nat) (l : List Int) : Prop :=
  n ≤ cap ∧ cap ≤ maxLen ∧ l.length = n * 4 ∧ (n = 0 ∨ ∃ b off, a = some ⟨b, off, none⟩ ∧ b < w.heap.size ∧ ∀ j, j < n * 4 → w.cell? ⟨b, off + j, none⟩ = some (.int .i64 (fn l j)))
theorem ArgL.below {w w' : World} {a : Option Addr} {n cap : Nat} {l : List Int} (h : ArgL w a n cap l) (hb : Below w.heap.size w w') : ArgL w' a n cap l := by
  obtain ⟨h1, h2, h0, h3⟩ := h
  refine ⟨h1, h2, h0, ?_⟩
  rcases h3 with h | ⟨b, off, rfl, h4, h5⟩
  · exact .inl h
  · exact .inr ⟨b, off, rfl, Nat.lt_of_lt_of_le h4 hb.size, fun j hj => (hb.cell (p := ⟨b, off + j, none⟩) h4).trans (h5 j hj)⟩

set_option maxHeartbeats 2000000 in
theorem toSpan_any (f t s m : Int) (w : World) :
    Calls Try.prog 25 #[.agg #[.int .i64 f, .int .i64 t, .int .i64 s, .int .i64 m]] w fun e w' => e = .returned (.agg #[.int .i64 f, .int .i64 t, .int .i64 s, .int .i64 m]) ∧ Below w.heap.size w w' := by
  go_enter Try.func25, Try.ntmps25
  go_wp2_with fail
  refine bodyPost_ret (v := .agg #[.int .i64 f, .int .i64 t, .int .i64 s, .int .i64 m]) (by simp [results, Try.results25, go_sem]) rfl ⟨rfl, ?_⟩
  go_grown

theorem infoSq : (Try.prog.info? 32).map (fun i => (i.zero, i.size, i.bytes)) = some (some (.agg #[.int .i64 0, .int .i64 0, .int .i64 0, .int .i64 0]), 4, 32) := by kernel_rfl
theorem made_four (n : Nat) : (madeCells (Value.cells (.agg #[.int .i64 0, .int .i64 0, .int .i64 0, .int .i64 0])) (n * 4)).toList = (List.replicate (n * 4) (0 : Int)).map (Value.int .i64) := by
  have e : Value.cells (.agg #[.int .i64 0, .int .i64 0, .int .i64 0, .int .i64 0]) = #[.int .i64 0, .int .i64 0, .int .i64 0, .int .i64 0] := by kernel_rfl
  rw [e]
  apply List.ext_getElem
  · simp [madeCells]
  · intro j h1 h2
    simp only [madeCells, Array.toList_map, List.getElem_map, Array.getElem_toList, Array.getElem_range, List.getElem_replicate]
    have hj : j % 4 < 4 := Nat.mod_lt _ (by omega)
    show #[Value.int .i64 0, .int .i64 0, .int .i64 0, .int .i64 0][j % 4]! = _
    rcases (show j % 4 = 0 ∨ j % 4 = 1 ∨ j % 4 = 2 ∨ j % 4 = 3 by omega) with h | h | h | h <;> rw [h] <;> rfl

set_option maxHeartbeats 4000000 in
theorem toSpans_any (a : Option Addr) (n cap : Nat) (l : List Int) (w : World) (hv : ArgL w a n cap l) (hl : n ≤ 1048576) :
    Calls Try.prog 24 #[.slice a n cap] w fun e w' => (∃ g, e = .returned (.slice (some ⟨g, 0, none⟩) n n) ∧ OwnS w' w.heap.size (.slice (some ⟨g, 0, none⟩) n n) n l) ∧ Below w.heap.size w w' := by
  obtain ⟨i0, hi, hz0, hz1, hz2⟩ := info_parts infoSq
  obtain ⟨h1, h2, h0, h3⟩ := hv
  go_enter Try.func24, Try.ntmps24
  go_wp2_with (first | (at_make; refine wpList_make_full _ rfl _ _ 23 rfl w.heap.size 32 i0 (.agg #[.int .i64 0, .int .i64 0, .int .i64 0, .int .i64 0]) 4 Try.underlying23 hi hz0 hz1 _ _ _ _ n rfl rfl rfl rfl (by rw [hz2]; omega) (by unfold maxLen; omega) (Nat.le_refl _) ?_; intro w1 hown hgrow))
  have hB : Below w.heap.size w w1 := (Below.refl _ _).grown hgrow (Nat.le_refl _) (by simp)
  have ho : OwnS w1 w.heap.size (.slice (some ⟨w.heap.size, 0, none⟩) n n) n (List.replicate (n * 4) 0) := by
    rw [made_four] at hown; exact hown
  clear hown hgrow
  have H0 : Hid _ := h0
  clear h0
  go_loopw [4] (fun i wr => ∃ (k : Nat) (l' : List Int), k ≤ n ∧ i = .int .i64 k ∧ OwnS wr w.heap.size (.slice (some ⟨w.heap.size, 0, none⟩) n n) n l' ∧ Hid (∀ j, j < k * 4 → fn l' j = fn l j) ∧ Below w.heap.size w wr) (fun i _ => n - (intOf i).toNat)
  case atStart => exact ⟨0, _, Nat.zero_le _, rfl, ho, fun j hj => by omega, hB⟩
  case round =>
    obtain ⟨k, l', hk, rfl, hown, hsame, hbel⟩ := hrel
    by_cases hlt : k < n
    · obtain ⟨b, off, rfl, hb, hat⟩ : ∃ b off, a = some ⟨b, off, none⟩ ∧ b < w.heap.size ∧ ∀ j, j < n * 4 → w.cell? ⟨b, off + j, none⟩ = some (.int .i64 (fn l j)) := by
        rcases h3 with h | h
        · omega
        · exact h
      have c0 : wr.cell? ⟨b, off + k * 4, none⟩ = some (.int .i64 (fn l (k * 4))) := (hbel.cell (p := ⟨b, _, none⟩) hb).trans (hat (k * 4) (by omega))
      have c1 : wr.cell? ⟨b, off + k * 4 + 1, none⟩ = some (.int .i64 (fn l (k * 4 + 1))) := (hbel.cell (p := ⟨b, _, none⟩) hb).trans (hat (k * 4 + 1) (by omega))
      have c2 : wr.cell? ⟨b, off + k * 4 + 2, none⟩ = some (.int .i64 (fn l (k * 4 + 2))) := (hbel.cell (p := ⟨b, _, none⟩) hb).trans (hat (k * 4 + 2) (by omega))
      have c3 : wr.cell? ⟨b, off + k * 4 + 3, none⟩ = some (.int .i64 (fn l (k * 4 + 3))) := (hbel.cell (p := ⟨b, _, none⟩) hb).trans (hat (k * 4 + 3) (by omega))
      have HA : Hid _ := hat
      clear hat h3
      go_wp2_with fail
      refine (toSpan_any _ _ _ _ _).mono ?_
      rintro e w5 ⟨rfl, b5⟩
      have hown5 := hown.kept (fun kk hkk => b5.block kk (hown.lt kk hkk).2)
      have B5 := bstep hbel b5
      have f0 := hown5.frozen (k * 4)
      have f1 := hown5.frozen (k * 4 + 1)
      have f2 := hown5.frozen (k * 4 + 2)
      have f3 := hown5.frozen (k * 4 + 3)
      have d0 := hown5.cell (k * 4) (by omega)
      have d1 := hown5.cell (k * 4 + 1) (by omega)
      have d2 := hown5.cell (k * 4 + 2) (by omega)
      have d3 := hown5.cell (k * 4 + 3) (by omega)
      clear c0 c1 c2 c3 b5
      go_wp2_with fail
      refine ⟨⟨k + 1, (((l'.set (k * 4) (fn l (k * 4))).set (k * 4 + 1) (fn l (k * 4 + 1))).set (k * 4 + 2) (fn l (k * 4 + 2))).set (k * 4 + 3) (fn l (k * 4 + 3)), by omega, by go_num, (((hown5.stored (k * 4) _).stored (k * 4 + 1) _).stored (k * 4 + 2) _).stored (k * 4 + 3) _, fun j hj => ?_, ?_⟩, by simp only [intOf]; omega⟩
      · have e := hown.len
        by_cases e3 : j = k * 4 + 3
        · subst e3; rw [fn_set_same (by simp; omega)]
        · rw [fn_set_other (by omega)]
          by_cases e2 : j = k * 4 + 2
          · subst e2; rw [fn_set_same (by simp; omega)]
          · rw [fn_set_other (by omega)]
            by_cases e1 : j = k * 4 + 1
            · subst e1; rw [fn_set_same (by simp; omega)]
            · rw [fn_set_other (by omega)]
              by_cases e0 : j = k * 4
              · subst e0; rw [fn_set_same (by omega)]
              · rw [fn_set_other (by omega)]; exact hsame.out j (by omega)
      · exact (((B5.setCell (Nat.le_refl _) _).setCell (Nat.le_refl _) _).setCell (Nat.le_refl _) _).setCell (Nat.le_refl _) _
    · have e : k = n := by omega
      subst e
      go_wp2_with fail
      go_ret
      have e := hown.len
      have el : l' = l := ext_fn (by have := H0.out; omega) (fun j hj => hsame.out j (by omega))
      rw [el] at hown
      exact ⟨⟨_, rfl, hown⟩, hbel⟩

set_option maxHeartbeats 1000000 in
theorem eqSpan_same (x y z u : Int) (w : World) :
    Calls Try.prog 45 #[.agg #[.int .i64 x, .int .i64 y, .int .i64 z, .int .i64 u], .agg #[.int .i64 x, .int .i64 y, .int .i64 z, .int .i64 u]] w fun e w' => e = .returned (.bool true) ∧ Below w.heap.size w w' := by
  go_enter Try.func45, Try.ntmps45
  go_wp2_with fail
  go_ret
  exact ⟨rfl, by go_grown⟩

set_option maxHeartbeats 4000000 in
theorem eqSpans_yes (v1 v2 : Value) (n : Nat) (l : List Int) (w : World) (h1 : ArgS w v1 n l) (h2 : ArgS w v2 n l) (hl : n ≤ 4194304) :
    Calls Try.prog 26 #[v1, v2] w fun e w' => e = .returned (.bool true) ∧ Below w.heap.size w w' := by
  by_cases h0 : n = 0
  · subst h0
    rcases h1 with ⟨a1, p1, rfl, _⟩ | ⟨g, p1, rfl, _⟩
    all_goals
      rcases h2 with ⟨a2, p2, rfl, _⟩ | ⟨g2, p2, rfl, _⟩
      all_goals
        go_enter Try.func26, Try.ntmps26
        go_wp2
        go_rounds 1
        go_ret
        exact ⟨rfl, Below.refl _ _⟩
  · rcases h1 with ⟨a1, p1, _, e⟩ | ⟨g, cap, rfl, hg, hlc, hcm, hat⟩
    · exact absurd e h0
    rcases h2 with ⟨a1, p1, _, e⟩ | ⟨g2, cap2, rfl, hg2, hlc2, hcm2, hat2⟩
    · exact absurd e h0
    have HA : Hid _ := hat
    have HA2 : Hid _ := hat2
    clear hat hat2
    go_enter Try.func26, Try.ntmps26
    go_wp2_with fail
    go_loopw [5] (fun i wr => ∃ (k : Nat), k ≤ n ∧ i = .int .i64 k ∧ Below w.heap.size w wr) (fun i _ => n - (intOf i).toNat)
    case atStart => exact ⟨0, Nat.zero_le _, rfl, Below.refl _ _⟩
    case round =>
      obtain ⟨k, hk, rfl, hbel⟩ := hrel
      have hsz := hbel.size
      by_cases hlt : k < n
      · have hc : ∀ j, j < n * 4 → wr.cell? ⟨g, j, none⟩ = some (.int .i64 (fn l j)) := fun j hj => (hbel.cell (p := ⟨g, j, none⟩) hg).trans (HA.out j hj)
        have hc2 : ∀ j, j < n * 4 → wr.cell? ⟨g2, j, none⟩ = some (.int .i64 (fn l j)) := fun j hj => (hbel.cell (p := ⟨g2, j, none⟩) hg2).trans (HA2.out j hj)
        have a0 := Gr.cell (hc (k * 4) (by omega)) (by omega)
        have a1 := Gr.cell (hc (k * 4 + 1) (by omega)) (by omega)
        have a2 := Gr.cell (hc (k * 4 + 2) (by omega)) (by omega)
        have a3 := Gr.cell (hc (k * 4 + 3) (by omega)) (by omega)
        have b0 := Gr.cell (hc2 (k * 4) (by omega)) (by omega)
        have b1 := Gr.cell (hc2 (k * 4 + 1) (by omega)) (by omega)
        have b2 := Gr.cell (hc2 (k * 4 + 2) (by omega)) (by omega)
        have b3 := Gr.cell (hc2 (k * 4 + 3) (by omega)) (by omega)
        have hki : (k : Int) < (n : Int) := by omega
        clear hc hc2
        go_wp2_with fail
        refine wp_region_grow (by kernel_rfl) (by kernel_rfl) ?_
        intro hneGr
        repeat (go_big_quiet_step ((go_at_call 45; exact Calls.grow_of (eqSpan_same _ _ _ _ _))))
        refine wpQuiet_nil ?_
        intro w5 hu5
        have b5 := gr_out hu5
        clear hu5
        go_wp2_with fail
        exact ⟨⟨k + 1, by omega, by go_num, bstep hbel b5⟩, by simp only [intOf]; omega⟩
      · have e : k = n := by omega
        subst e
        go_wp2_with fail
        go_ret
        exact ⟨rfl, hbel⟩

set_option maxHeartbeats 1000000 in
theorem szSpans_any (a : Option Addr) (n cap : Nat) (w : World) (h : n ≤ 1048576) :
    Calls Try.prog 23 #[.slice a n cap, .int .i64 1048576] w fun e w' => e = .returned (.int .i64 (1048576 - (n : Int))) ∧ w' = w := by
  go_enter Try.func23, Try.ntmps23
  go_wp2_with fail
  go_ret
  exact ⟨rfl, rfl⟩
set_option maxHeartbeats 1000000 in
theorem szSpans_big (a : Option Addr) (n cap : Nat) (w : World) (h : 1048576 < n) (h2 : n ≤ maxLen) :
    Calls Try.prog 23 #[.slice a n cap, .int .i64 1048576] w fun e w' => e = .returned (.int .i64 (-1)) ∧ w' = w := by
  unfold maxLen at h2
  have h3 : (1048576 : Int) < (n : Int) := by omega
  go_enter Try.func23, Try.ntmps23
  go_wp2_with fail
  go_ret
  exact ⟨rfl, rfl⟩
end Go.Proofs.Ytobmdefklgkoiaa
