import Derived.Test.YtbjcdogbhnadkaeDrawLW
import Derived.Test.YtbjcdogbhnadkaeLWideFn
import Derived.Test.YtbjcdogbhnadkaeBytesRow
namespace Go.Proofs.Ytbjcdogbhnadkae
open Go.ChangeShapes Go.WideShapes Go.ChangeAt Go.RowKit
set_option linter.unusedSimpArgs false

theorem spAt_small {z : Nat → Int} {a : Int} {n : Nat} (h : ∀ j, j < n → -1000 ≤ z (j * 4 + 2) ∧ z (j * 4 + 2) ≤ 1000) : ∀ k, k ≤ n → -1000 ≤ (spAt z a n k).1 ∧ (spAt z a n k).1 ≤ 1000 := by
  intro k
  induction k with
  | zero => simp [spAt]
  | succ k ih =>
    intro hk
    simp only [spAt]
    split
    · exact h _ (by omega)
    · exact ih (by omega)
theorem small_ends {s : List Int} {n : Nat} (h : smallS s) (hl : s.length = n * 4) : endsOk (fn s) n := fun j hj => by
  have := h (j * 4 + 1) (by omega); omega
theorem small_look {s : List Int} {n : Nat} (h : smallS s) (hl : s.length = n * 4) (k : Nat) : -1000 ≤ (lookAt (fn s) n (k : Int)).1 ∧ (lookAt (fn s) n (k : Int)).1 ≤ 1000 :=
  spAt_small (fun j hj => h _ (by omega)) n (Nat.le_refl _)

theorem OwnI.shape {w : World} {B : Nat} {v : Value} {l : List Int} (h : OwnI w B v l) : ∃ a cap, v = .slice a l.length cap := by
  rcases h.forms with ⟨rfl, rfl⟩ | ⟨g, c, rfl, _⟩
  · exact ⟨_, _, rfl⟩
  · exact ⟨_, _, rfl⟩
theorem went_below {w w' : World} {R p : Nat} (h : Went w w' R p) {W : World} (hB : Below W.heap.size W w) (hR : W.heap.size ≤ R) (hl : R < w.heap.size) : Below W.heap.size W w' :=
  hB.trans (h.below hR hl)

set_option maxHeartbeats 4000000 in
theorem drawLW (a : Option Addr) (len cap : Nat) (w : World) (h : Bytes w a len cap) :
    Calls Try.prog 28 #[.slice a len cap] w fun e w' => (∃ v u l y, ∃ f t : Nat, e = .returned (.tuple #[v, u, .int .i64 f, .int .i64 t]) ∧ OwnI w' w.heap.size v l ∧ OwnI w' w.heap.size u y ∧ l.length ≤ 80 ∧ y.length = l.length ∧ f ≤ t ∧ t ≤ l.length) ∧ Below w.heap.size w w' := by
  go_enter Try.func28, Try.ntmps28
  go_wp2_with fail
  refine (open_any a len cap w h).mono ?_
  rintro e w1 ⟨rfl, hr1, b1⟩
  have hl1 := hr1.lt
  go_wp2_with fail
  refine (runes_any w.heap.size 0 w1 hr1 (by omega)).mono ?_
  rintro e w2 ⟨⟨v, l, rfl, ow2, hl80⟩, p2, hp2, hW2⟩
  have B2 := went_below hW2 b1 (Nat.le_refl _) hl1
  have s2 := hW2.gr.size
  obtain ⟨av, cv, rfl⟩ := ow2.shape
  obtain ⟨m, hm⟩ : ∃ m, l.length = m := ⟨_, rfl⟩
  have HM : Hid _ := hm
  rw [hm] at hl80 ow2 ⊢
  clear hm
  have HVB : Hid (∀ k, (Value.slice av m cv).ownBlock = some k → k < w2.heap.size) := fun k hk => (ow2.lt k hk).2
  go_wp2_with fail
  refine (spans_any w.heap.size p2 m w2 hW2.rd (by omega) (by omega)).mono ?_
  rintro e w3 ⟨⟨vs, n, s, rfl, os3, hn12, hsm⟩, p3, hp3, hW3⟩
  have ow3 := ow2.went hW3 (by omega)
  have B3 := went_below hW3 B2 (Nat.le_refl _) (by omega)
  have s3 := hW3.gr.size
  have hsl := os3.len
  obtain ⟨xa, xc, hvs⟩ := os3.arg.shape
  subst hvs
  obtain ⟨W, hWf⟩ := ends_fn l m
  have hr3 := hW3.rd
  clear hW2 hW3 ow2
  go_wp2_with fail
  refine (specL6Gen _ _ l s n m av cv W _ HM rfl ow3.arg os3.arg (by omega) (by omega) (small_ends hsm.out hsl) (fun k => small_look hsm.out hsl k) hWf).mono ?_
  rintro e w4 ⟨⟨u, rfl, ou4⟩, b4⟩
  have ow4 := ow3.below b4
  have hr4 := hr3.keep b4
  have B4 := bstep B3 b4
  have s4 := b4.size
  have hyl : (widesL (fn l) W (fn s) n m).length = m := widesL_len _ _ _ _ _
  obtain ⟨y, hy⟩ : ∃ y, widesL (fn l) W (fn s) n m = y := ⟨_, rfl⟩
  rw [hy] at ou4 hyl
  obtain ⟨au, cu, rfl⟩ := ou4.shape
  rw [hyl] at ou4 ⊢
  have HYL : Hid _ := hyl
  clear hy hyl ow3 os3 b4 hWf
  go_wp2_with fail
  refine (line_any w.heap.size p3 m w4 hr4 (by omega) (by omega)).mono ?_
  rintro e w5 ⟨⟨f, t, rfl, hft, htm⟩, hW5⟩
  have ow5 := ow4.went hW5 (by omega)
  have ou5 := ou4.went hW5 (by omega)
  have B5 := went_below hW5 B4 (Nat.le_refl _) (by omega)
  have s5 := hW5.gr.size
  have hr5 := hW5.rd
  clear hW5 ow4 ou4
  by_cases hm0 : m = 0
  · subst hm0
    go_wp2_with fail
    refine bodyPost_ret (v := .tuple #[.slice av 0 cv, .slice au 0 cu, .int .i64 f, .int .i64 t]) (by simp [results, Try.results28, go_sem]) rfl ⟨⟨_, _, l, y, f, t, rfl, ow5.mono (by omega), ou5.mono (by omega), by rw [HM.out]; omega, by rw [HM.out, HYL.out], hft, by rw [HM.out]; omega⟩, B5⟩
  · have hmi : (0 : Int) < (m : Int) := by omega
    go_wp2_with fail
    refine (pick_went w.heap.size (p3 + 2) _ _ hr5 (by omega) (by omega) (by omega)).mono ?_
    rintro e w6 ⟨⟨k, rfl, hk⟩, hW6, hz6⟩
    have ow6 := ow5.went hW6 (by omega)
    have ou6 := ou5.went hW6 (by omega)
    have B6 := went_below hW6 B5 (Nat.le_refl _) (by omega)
    have s6 := hW6.gr.size
    have hr6 := hW6.rd
    clear hW6 hz6 ow5 ou5
    by_cases hk0 : k = 0
    · subst hk0
      go_wp2_with fail
      refine (pick_went w.heap.size (p3 + 2 + 1) _ _ hr6 (by omega) (by omega) (by omega)).mono ?_
      rintro e w7 ⟨⟨i, rfl, hi⟩, hW7, hz7⟩
      have ow7 := ow6.went hW7 (by omega)
      have ou7 := ou6.went hW7 (by omega)
      have B7 := went_below hW7 B6 (Nat.le_refl _) (by omega)
      have s7 := hW7.gr.size
      have hr7 := hW7.rd
      clear hW7 hz7 ow6 ou6
      go_wp2_with fail
      refine (one_any w.heap.size (p3 + 2 + 1 + 1) _ _ _ _ hr7 (by omega) (by kernel_rfl) (by rfl) (by omega) (by omega)).mono ?_
      rintro e w8 ⟨⟨x, rfl⟩, hW8⟩
      have ow8 := ow7.went hW8 (by omega)
      have ou8 := ou7.went hW8 (by omega)
      have B8 := went_below hW8 B7 (Nat.le_refl _) (by omega)
      have him : i < m := by omega
      clear hW8 ow7 ou7
      obtain ⟨g, hau, hgl⟩ : ∃ g, au = some ⟨g, 0, none⟩ ∧ w3.heap.size ≤ g := by
        rcases ou8.forms with ⟨e, _⟩ | ⟨g, c, e, hg, _⟩
        · simp only [Value.slice.injEq] at e; omega
        · simp only [Value.slice.injEq] at e; exact ⟨g, e.1, hg⟩
      subst hau
      have hf8 := ou8.frozenN i
      have hc8 := ou8.cellN i him
      have OW : Hid (OwnI w8 w1.heap.size (.slice av m cv) l) := ow8
      have OU : Hid (OwnI w8 w3.heap.size (.slice (some ⟨g, 0, none⟩) m cu) y) := ou8
      have HB : Hid (Below w.heap.size w w8) := B8
      clear ow8 ou8 B8
      go_wp2_with fail
      refine bodyPost_ret (v := .tuple #[.slice av m cv, .slice (some ⟨g, 0, none⟩) m cu, .int .i64 f, .int .i64 t]) (by simp [results, Try.results28, go_sem]) rfl ⟨⟨_, _, l, y.set i x, f, t, rfl, ?_, (OwnI.storedN OU.out i x).mono (by omega), by rw [HM.out]; omega, by rw [List.length_set, HM.out, HYL.out], hft, by rw [HM.out]; omega⟩, HB.out.setCell (by show w.heap.size ≤ g; omega) _⟩
      refine OwnI.kept (OwnI.mono OW.out (by omega)) (fun kk hkk => ?_)
      have := HVB.out kk hkk
      exact Below.heap_setCell _ _ _ _ (by show kk ≠ g; omega)
    · have hkb : ((k : Int) == 0) = false := by simp; omega
      go_wp2_with fail
      refine bodyPost_ret (v := .tuple #[.slice av m cv, .slice au m cu, .int .i64 f, .int .i64 t]) (by simp [results, Try.results28, go_sem]) rfl ⟨⟨_, _, l, y, f, t, rfl, ow6.mono (by omega), ou6.mono (by omega), by rw [HM.out]; omega, by rw [HM.out, HYL.out], hft, by rw [HM.out]; omega⟩, B6⟩

theorem sumW_mono {y : Nat → Int} {f n : Nat} (h : ∀ j, j < n → 0 ≤ y j ∧ y j ≤ 20000) : ∀ d k, f + (k + d) ≤ n → sumW y f k ≤ sumW y f (k + d) := by
  intro d
  induction d with
  | zero => intro k _; exact Int.le_refl _
  | succ d ih =>
    intro k hk
    have h1 := ih k (by omega)
    have h2 := h (f + (k + d)) (by omega)
    rw [show k + (d + 1) = (k + d) + 1 by omega]
    simp only [sumW]
    omega
theorem endE_step (z : Nat → Int) (f t : Nat) : endE z f t ≤ endE z f (t + 1) := by
  have h := endE_le z f t
  simp only [endE]
  split
  · exact Nat.le_refl _
  · omega
theorem lineSum_le {z y : Nat → Int} {f t n : Nat} (h : ∀ j, j < n → 0 ≤ y j ∧ y j ≤ 20000) (hft : f ≤ t) (ht : t ≤ n) : lineSum z y f t ≤ sumW y f (t - f) := by
  have h1 := endE_le z f t
  have h2 := endE_ge (z := z) hft
  unfold lineSum
  have := sumW_mono (f := f) h (t - endE z f t) (endE z f t - f) (by omega)
  rwa [show endE z f t - f + (t - endE z f t) = t - f by omega] at this
theorem lineSum_step {z y : Nat → Int} {f t n : Nat} (h : ∀ j, j < n → 0 ≤ y j ∧ y j ≤ 20000) (hft : f ≤ t) (ht : t + 1 ≤ n) : lineSum z y f t ≤ lineSum z y f (t + 1) := by
  have h1 := endE_step z f t
  have h2 := endE_ge (z := z) hft
  have h3 := endE_le z f (t + 1)
  unfold lineSum
  have := sumW_mono (f := f) h (endE z f (t + 1) - endE z f t) (endE z f t - f) (by omega)
  rwa [show endE z f t - f + (endE z f (t + 1) - endE z f t) = endE z f (t + 1) - f by omega] at this
theorem lineSum_nonneg {z y : Nat → Int} {f t n : Nat} (h : ∀ j, j < n → 0 ≤ y j ∧ y j ≤ 20000) (hft : f ≤ t) (ht : t ≤ n) : 0 ≤ lineSum z y f t := by
  have h1 := endE_le z f t
  have h2 := endE_ge (z := z) hft
  exact (sumW_bound h (endE z f t - f) (by omega)).1

set_option maxHeartbeats 1000000 in
theorem lineWideLaw (a : Option Addr) (len cap : Nat) (w : World) (h : Bytes w a len cap) :
    Calls Try.prog 7 #[.slice a len cap] w fun e w' => e = .returned (.bool true) ∧ Below w.heap.size w w' := by
  by_cases hbig : 1048576 < len
  · have hbi : (1048576 : Int) < (len : Int) := by omega
    go_enter Try.func7, Try.ntmps7
    go_wp2_with fail
    go_ret
    exact ⟨rfl, Below.refl _ _⟩
  · have hbi : (len : Int) ≤ 1048576 := by omega
    go_enter Try.func7, Try.ntmps7
    go_wp2_with fail
    refine (drawLW a len cap w h).mono ?_
    rintro e w1 ⟨⟨v, u, l, y, f, t, rfl, ov, ou, hl80, hyl, hft, htl⟩, b1⟩
    have HV : Hid (∀ w', Below w1.heap.size w1 w' → Arg w' v l) := fun w' b => (ov.below b).arg
    have HU : Hid (∀ w', Below w1.heap.size w1 w' → Arg w' u y) := fun w' b => (ou.below b).arg
    obtain ⟨av, cv, rfl⟩ := ov.shape
    obtain ⟨au, cu, rfl⟩ := ou.shape
    have HAU : Hid (OwnI w1 w.heap.size (.slice au y.length cu) y) := ou
    have HYL : Hid _ := hyl
    have hy80 : y.length ≤ 80 := by omega
    clear ov ou hyl
    obtain ⟨r, hr⟩ : ∃ r, lw (fn l) (fn y) l.length y.length f t = r := ⟨_, rfl⟩
    have HR : Hid _ := hr
    clear hr
    have hli : (l.length : Int) ≤ 80 := by omega
    go_wp2_with fail
    refine (implLW _ _ l y f t _ (HV.out _ (Below.refl _ _)) (HU.out _ (Below.refl _ _)) (by omega) (by omega) r HR).mono ?_
    rintro e w2 ⟨rfl, b2⟩
    go_wp2_with fail
    refine (specLW _ _ l y f t _ (HV.out _ b2) (HU.out _ b2) (by omega) (by omega) r HR).mono ?_
    rintro e w3 ⟨rfl, b3⟩
    have b13 := bstep b2 b3
    have B3 := bstep b1 b13
    have HNE : Hid ((r != r) = false) := by show _ = _; simp
    by_cases hok : okF (fn l) l.length = true ∧ wOk (fn y) y.length = true
    · have HRS : Hid (lineSum (fn l) (fn y) f t = r) := by show _ = _; rw [← HR.out, lw_is hok.1 HYL.out hok.2 hft htl]
      have HW0 : Hid (∀ j, j < l.length → 0 ≤ fn y j ∧ fn y j ≤ 20000) := fun j hj => wOk_out hok.2 j (by rw [HYL.out]; exact hj)
      have hr0 : 0 ≤ r := by rw [← HRS.out]; exact lineSum_nonneg HW0.out hft htl
      have hrs : r ≤ sumW (fn y) f (t - f) := by rw [← HRS.out]; exact lineSum_le HW0.out hft htl
      have HOK : Hid _ := hok
      clear hok
      have HSB : Hid (∀ k, f + k ≤ l.length → 0 ≤ sumW (fn y) f k ∧ sumW (fn y) f k ≤ 20000 * (k : Int)) := sumW_bound HW0.out
      have hne := HNE.out
      go_wp2_with fail
      go_loop [8, 9] (fun s i => ∃ (k : Nat), f + k ≤ t ∧ i = .int .i64 ((f : Int) + (k : Int)) ∧ s = .int .i64 (sumW (fn y) f k)) (fun _ i => t - (intOf i).toNat)
      case atStart => exact ⟨0, hft, by go_num, rfl⟩
      case round =>
        obtain ⟨k, hk, rfl, rfl⟩ := hrel
        by_cases hlt : f + k < t
        · have hcast : ((f : Int) + (k : Int)) = ((f + k : Nat) : Int) := by omega
          have hki : ((f + k : Nat) : Int) < (t : Int) := by omega
          have hky : ((f + k : Nat) : Int) < (y.length : Int) := by have := HYL.out; omega
          obtain ⟨bb, oo, hau, hcell⟩ : ∃ bb oo, au = some ⟨bb, oo, none⟩ ∧ w3.cell? ⟨bb, oo + (f + k), none⟩ = some (.int .i64 (fn y (f + k))) := by
            rcases HU.out _ b13 with ⟨x1, x2, e, hnil⟩ | ⟨bb, oo, c, e, _, _, _, hat⟩
            · have := HYL.out; rw [hnil] at this; simp at this; omega
            · simp only [Value.slice.injEq] at e
              exact ⟨bb, oo, e.1, hat (f + k) (by have := HYL.out; omega)⟩
          subst hau
          obtain ⟨s1, s2⟩ := HSB.out k (by omega)
          obtain ⟨y1, y2⟩ := HW0.out (f + k) (by omega)
          rw [hcast]
          clear hcast
          go_wp2_with fail
          refine ⟨⟨k + 1, by omega, by go_num, ?_⟩, by simp only [intOf]; omega⟩
          simp only [sumW]
        · have e : t - f = k := by omega
          rw [e] at hrs
          have hki : ¬ ((f : Int) + (k : Int)) < (t : Int) := by omega
          clear e
          by_cases hte : t = f
          · have hte2 : ((t : Int) == (f : Int)) = true := by simp [hte]
            clear hte
            go_wp2_with fail
            go_ret
            exact ⟨rfl, B3⟩
          · obtain ⟨t', rfl⟩ : ∃ t', t = t' + 1 := ⟨t - 1, by omega⟩
            have hte2 : ((t' : Int) + 1 == (f : Int)) = false := by simp; omega
            have hte3 : ¬ ((t' : Int) + 1 = (f : Int)) := by omega
            obtain ⟨r2, hr2⟩ : ∃ r2, lw (fn l) (fn y) l.length y.length f t' = r2 := ⟨_, rfl⟩
            have HR2 : Hid _ := hr2
            have hle : r2 ≤ r := by
              rw [← hr2, ← HRS.out, lw_is HOK.out.1 HYL.out HOK.out.2 (by omega) (by omega)]
              exact lineSum_step HW0.out (by omega) (by omega)
            clear hr2 hte
            go_wp2_with fail
            refine (implLW _ _ l y f t' _ (HV.out _ b13) (HU.out _ b13) (by omega) (by omega) r2 HR2).mono ?_
            rintro e w4 ⟨rfl, b4⟩
            go_wp2_with fail
            go_ret
            exact ⟨rfl, bstep B3 b4⟩
    · have HRZ : ∀ t2 : Int, lw (fn l) (fn y) l.length y.length f t2 = 0 := fun t2 => lw_bad (fun hh => hok ⟨hh.1, hh.2.2.1⟩)
      have hr0 : r = 0 := by rw [← HR.out]; exact HRZ t
      subst hr0
      have HRT : Hid _ := HRZ
      have hne : ((0 : Int) != 0) = false := rfl
      clear hok HRZ
      go_wp2_with fail
      go_loop [8, 9] (fun s i => ∃ (k : Nat) (x : Int), f + k ≤ t ∧ i = .int .i64 ((f : Int) + (k : Int)) ∧ s = .int .i64 x) (fun _ i => t - (intOf i).toNat)
      case atStart => exact ⟨0, 0, hft, by go_num, rfl⟩
      case round =>
        obtain ⟨k, x, hk, rfl, rfl⟩ := hrel
        by_cases hlt : f + k < t
        · have hcast : ((f : Int) + (k : Int)) = ((f + k : Nat) : Int) := by omega
          have hki : ((f + k : Nat) : Int) < (t : Int) := by omega
          have hky : ((f + k : Nat) : Int) < (y.length : Int) := by have := HYL.out; omega
          obtain ⟨bb, oo, hau, hcell⟩ : ∃ bb oo, au = some ⟨bb, oo, none⟩ ∧ w3.cell? ⟨bb, oo + (f + k), none⟩ = some (.int .i64 (fn y (f + k))) := by
            rcases HU.out _ b13 with ⟨x1, x2, e, hnil⟩ | ⟨bb, oo, c, e, _, _, _, hat⟩
            · have := HYL.out; rw [hnil] at this; simp at this; omega
            · simp only [Value.slice.injEq] at e
              exact ⟨bb, oo, e.1, hat (f + k) (by have := HYL.out; omega)⟩
          subst hau
          rw [hcast]
          clear hcast
          go_wp2_with fail
          exact ⟨⟨k + 1, _, by omega, by go_num, rfl⟩, by simp only [intOf]; omega⟩
        · have hki : ¬ ((f : Int) + (k : Int)) < (t : Int) := by omega
          by_cases hte : t = f
          · have hte2 : ((t : Int) == (f : Int)) = true := by simp [hte]
            clear hte
            go_wp2_with fail
            all_goals (go_ret; exact ⟨rfl, B3⟩)
          · obtain ⟨t', rfl⟩ : ∃ t', t = t' + 1 := ⟨t - 1, by omega⟩
            have hte2 : ((t' : Int) + 1 == (f : Int)) = false := by simp; omega
            have hte3 : ¬ ((t' : Int) + 1 = (f : Int)) := by omega
            clear hte
            by_cases hx : 0 ≤ x
            · go_wp2_with fail
              refine (implLW _ _ l y f t' _ (HV.out _ b13) (HU.out _ b13) (by omega) (by omega) 0 (HRT.out t')).mono ?_
              rintro e w4 ⟨rfl, b4⟩
              go_wp2_with fail
              go_ret
              exact ⟨rfl, bstep B3 b4⟩
            · go_wp2_with fail
              refine (implLW _ _ l y f t' _ (HV.out _ b13) (HU.out _ b13) (by omega) (by omega) 0 (HRT.out t')).mono ?_
              rintro e w4 ⟨rfl, b4⟩
              go_wp2_with fail
              go_ret
              exact ⟨rfl, bstep B3 b4⟩
end Go.Proofs.Ytbjcdogbhnadkae
