import Derived.Test.YtbjcdogbhnadkavLineHitI
namespace Go.Proofs.Ytbjcdogbhnadkav
open Go.ChangeShapes Go.WideShapes Go.ChangeAt Go.RowKit
set_option linter.unusedSimpArgs false

theorem at4r {w w5 : World} {T : TypeId} {a b c d : Value} (h : Below (w.alloc (.cells #[a, b, c, d] T)).heap.size (w.alloc (.cells #[a, b, c, d] T)) w5) :
    w5.cell? ⟨w.heap.size, 0, none⟩ = some a ∧ w5.cell? ⟨w.heap.size, 1, none⟩ = some b ∧ w5.cell? ⟨w.heap.size, 2, none⟩ = some c ∧ w5.cell? ⟨w.heap.size, 3, none⟩ = some d := by
  have hs : w.heap.size < (w.alloc (.cells #[a, b, c, d] T)).heap.size := by simp
  refine ⟨?_, ?_, ?_, ?_⟩
  all_goals (rw [h.cell (p := ⟨w.heap.size, _, none⟩) hs]; simp)
/-- The first glyph with an At, among the k last ones of n. -/
def glyG (z : Nat → Int) (a : Int) (n : Nat) : Nat → Int
  | 0 => -1
  | k + 1 => if z ((n - (k + 1)) * 5) = a then ((n - (k + 1) : Nat) : Int) else glyG z a n k
theorem glyG_hit {z : Nat → Int} {a : Int} {n k : Nat} (hk : k < n) (h : z (k * 5) = a) : glyG z a n (n - k) = (k : Int) := by
  obtain ⟨m, hm⟩ : ∃ m, n - k = m + 1 := ⟨n - k - 1, by omega⟩
  have e : n - (m + 1) = k := by omega
  rw [hm]; simp only [glyG, e]; rw [if_pos h]
theorem glyG_miss {z : Nat → Int} {a : Int} {n k : Nat} (hk : k < n) (h : ¬ z (k * 5) = a) : glyG z a n (n - k) = glyG z a n (n - (k + 1)) := by
  obtain ⟨m, hm⟩ : ∃ m, n - k = m + 1 := ⟨n - k - 1, by omega⟩
  have e : n - (m + 1) = k := by omega
  have e2 : n - (k + 1) = m := by omega
  rw [hm, e2]; simp only [glyG, e]; rw [if_neg h]
def glyAt (z : Nat → Int) (n : Nat) (a : Int) : Int := glyG z a n n
theorem glyG_lt (z : Nat → Int) (a : Int) (n : Nat) : ∀ k, k ≤ n → -1 ≤ glyG z a n k ∧ glyG z a n k < (n : Int) := by
  intro k
  induction k with
  | zero => simp [glyG]; omega
  | succ k ih =>
    intro hk
    simp only [glyG]
    split
    · omega
    · exact ih (by omega)
theorem glyAt_lt (z : Nat → Int) (n : Nat) (a : Int) : -1 ≤ glyAt z n a ∧ glyAt z n a < (n : Int) := glyG_lt z a n n (Nat.le_refl _)

set_option maxHeartbeats 4000000 in
theorem specGlyph (f t d : Int) (v : Value) (n : Nat) (l : List Int) (a : Int) (w : World) (hv : ArgG w v n l) (hbig : n ≤ 1048576) (r : Int) (hr : Hid (glyAt (fn l) n a = r)) :
    Calls Try.prog 46 #[.agg #[.int .i64 f, .int .i64 t, .int .i64 d, v], .int .i64 a] w fun e w' => e = .returned (.int .i64 r) ∧ Below w.heap.size w w' := by
  rcases hv with ⟨b, cap, rfl, rfl⟩ | ⟨b, cap, rfl, hb, hlc, hcm, hat⟩
  · have HR : Hid (r = -1) := by show _ = _; rw [← hr.out]; rfl
    go_enter Try.func46, Try.ntmps46
    go_wp2_with fail
    go_rounds 1
    go_ret
    exact ⟨retInt HR.out.symm, by go_grown⟩
  · have HA : Hid _ := hat
    clear hat
    go_enter Try.func46, Try.ntmps46
    go_wp2_with fail
    go_loop [5] (fun i => ∃ (k : Nat), k ≤ n ∧ i = .int .i64 k ∧ Hid (glyG (fn l) a n (n - k) = r)) (fun i => n - (intOf i).toNat)
    case atStart => exact ⟨0, Nat.zero_le _, rfl, hr⟩
    case round =>
      obtain ⟨k, hk, rfl, hS⟩ := hrel
      by_cases hlt : k < n
      · have c0 := fun o => ((below_alloc w o).cell (p := ⟨b, k * 5, none⟩) hb).trans (HA.out _ (by omega))
        by_cases hq : fn l (k * 5) = a
        · have HR : Hid (r = (k : Int)) := by show _ = _; rw [← hS.out]; exact glyG_hit hlt hq
          have hq2 : (fn l (k * 5) == a) = true := by simpa using hq
          clear hq
          go_wp2_with fail
          go_ret
          exact ⟨retInt HR.out.symm, below_alloc _ _⟩
        · have HR : Hid (glyG (fn l) a n (n - (k + 1)) = r) := by show _ = _; rw [← hS.out]; exact (glyG_miss hlt hq).symm
          have hq2 : (fn l (k * 5) == a) = false := by simpa using hq
          clear hq
          go_wp2_with fail
          exact ⟨⟨k + 1, by omega, by go_num, HR⟩, by simp only [intOf]; omega⟩
      · have e : k = n := by omega
        subst e
        have HR : Hid (r = -1) := by show _ = _; rw [← hS.out, Nat.sub_self]; rfl
        go_wp2_with fail
        go_ret
        exact ⟨retInt HR.out.symm, below_alloc _ _⟩

set_option maxHeartbeats 2000000 in
theorem glyphIs (X : Nat) (g0 g1 g2 g3 g4 a : Int) (w : World) (hX : X < w.heap.size) (hc : w.cell? ⟨X, 0, none⟩ = some (.int .i64 a)) (q : Bool) (hq : Hid ((g0 == a) = q)) :
    Calls Try.prog 59 #[.agg #[.int .i64 g0, .int .i64 g1, .int .i64 g2, .int .i64 g3, .int .i64 g4], .pointer (some ⟨X, 0, none⟩)] w fun e w' => e = .returned (.bool q) ∧ Below w.heap.size w w' := by
  have hc2 := fun o => ((below_alloc w o).cell (p := ⟨X, 0, none⟩) hX).trans hc
  clear hc
  go_enter Try.func59, Try.ntmps59
  go_wp2_with fail
  go_ret
  exact ⟨retBool hq.out, by go_grown⟩

set_option maxHeartbeats 4000000 in
theorem indexGlyph (X : Nat) (v : Value) (n : Nat) (l : List Int) (a : Int) (w : World) (hv : ArgG w v n l) (hbig : n ≤ 1048576) (hX : X < w.heap.size) (hc : w.cell? ⟨X, 0, none⟩ = some (.int .i64 a)) (r : Int) (hr : Hid (glyAt (fn l) n a = r)) :
    Calls Try.prog 58 #[v, .func (Fn.func 59) #[] #[.pointer (some ⟨X, 0, none⟩)]] w fun e w' => e = .returned (.int .i64 r) ∧ Below w.heap.size w w' := by
  rcases hv with ⟨b, cap, rfl, rfl⟩ | ⟨b, cap, rfl, hb, hlc, hcm, hat⟩
  · have HR : Hid (r = -1) := by show _ = _; rw [← hr.out]; rfl
    go_enter Try.func58, Try.ntmps58
    go_wp2_with fail
    go_rounds 1
    go_ret
    exact ⟨retInt HR.out.symm, by go_grown⟩
  · have HA : Hid _ := hat
    have HC : Hid _ := hc
    clear hat hc
    go_enter Try.func58, Try.ntmps58
    go_wp2_with fail
    go_loopw [8] (fun i wr => ∃ (k : Nat), k ≤ n ∧ i = .int .i64 k ∧ Hid (glyG (fn l) a n (n - k) = r) ∧ Below w.heap.size w wr) (fun i _ => n - (intOf i).toNat)
    case atStart => exact ⟨0, Nat.zero_le _, rfl, hr, Below.refl _ _⟩
    case round =>
      obtain ⟨k, hk, rfl, hS, hbel⟩ := hrel
      have hsz := hbel.size
      by_cases hlt : k < n
      · have c0 := (hbel.cell (p := ⟨b, k * 5, none⟩) hb).trans (HA.out _ (by omega))
        have c1 := (hbel.cell (p := ⟨b, k * 5 + 1, none⟩) hb).trans (HA.out _ (by omega))
        have c2 := (hbel.cell (p := ⟨b, k * 5 + 2, none⟩) hb).trans (HA.out _ (by omega))
        have c3 := (hbel.cell (p := ⟨b, k * 5 + 3, none⟩) hb).trans (HA.out _ (by omega))
        have c4 := (hbel.cell (p := ⟨b, k * 5 + 4, none⟩) hb).trans (HA.out _ (by omega))
        by_cases hq : fn l (k * 5) = a
        · have HR : Hid (r = (k : Int)) := by show _ = _; rw [← hS.out]; exact glyG_hit hlt hq
          have HQ : Hid ((fn l (k * 5) == a) = true) := by show _ = _; simpa using hq
          clear hq
          go_wp2_with fail
          refine (glyphIs X _ _ _ _ _ a _ (by omega) ((hbel.cell (p := ⟨X, 0, none⟩) hX).trans HC.out) _ HQ).mono ?_
          rintro e w5 ⟨rfl, b5⟩
          go_wp2_with fail
          go_ret
          exact ⟨retInt HR.out.symm, bstep hbel b5⟩
        · have HR : Hid (glyG (fn l) a n (n - (k + 1)) = r) := by show _ = _; rw [← hS.out]; exact (glyG_miss hlt hq).symm
          have HQ : Hid ((fn l (k * 5) == a) = false) := by show _ = _; simpa using hq
          clear hq
          go_wp2_with fail
          refine (glyphIs X _ _ _ _ _ a _ (by omega) ((hbel.cell (p := ⟨X, 0, none⟩) hX).trans HC.out) _ HQ).mono ?_
          rintro e w5 ⟨rfl, b5⟩
          go_wp2_with fail
          exact ⟨⟨k + 1, by omega, by go_num, HR, bstep hbel b5⟩, by simp only [intOf]; omega⟩
      · have e : k = n := by omega
        subst e
        have HR : Hid (r = -1) := by show _ = _; rw [← hS.out, Nat.sub_self]; rfl
        go_wp2_with fail
        go_ret
        exact ⟨retInt HR.out.symm, hbel⟩

set_option maxHeartbeats 2000000 in
theorem implGlyph (f t d : Int) (v : Value) (n : Nat) (l : List Int) (a : Int) (w : World) (hv : ArgG w v n l) (hbig : n ≤ 1048576) (r : Int) (hr : Hid (glyAt (fn l) n a = r)) :
    Calls Try.prog 47 #[.agg #[.int .i64 f, .int .i64 t, .int .i64 d, v], .int .i64 a] w fun e w' => e = .returned (.int .i64 r) ∧ Below w.heap.size w w' := by
  have hv0 := hv
  rcases hv with ⟨b, cap, rfl, rfl⟩ | ⟨b, cap, rfl, hb, hlc, hcm, hat⟩
  all_goals
    have HV := fun (w' : World) (b : Below w.heap.size w w') => hv0.below b
    have HW : Hid _ := HV
    clear hv0 HV
    go_enter Try.func47, Try.ntmps47
    go_wp2_with fail
    refine (indexGlyph _ _ _ l a _ (HW.out _ (bstep (below_alloc _ _) (below_alloc _ _))) hbig (by simp) (by simp) r hr).mono ?_
    rintro e w2 ⟨rfl, b2⟩
    go_wp2_with fail
    go_ret
    exact ⟨rfl, bstep (bstep (below_alloc _ _) (below_alloc _ _)) b2⟩

def lineCar (z : Nat → Int) (n : Nat) (a : Int) : Int × Bool :=
  if glyAt z n a < 0 then (0, false) else if glyOk z (glyAt z n a).toNat = true then
    (if odd2 (z ((glyAt z n a).toNat * 5 + 4)) = true then z ((glyAt z n a).toNat * 5 + 2) + z ((glyAt z n a).toNat * 5 + 3) else z ((glyAt z n a).toNat * 5 + 2), true) else (0, false)
theorem lineCar_none {z : Nat → Int} {n : Nat} {a : Int} (h : glyAt z n a < 0) : lineCar z n a = (0, false) := by unfold lineCar; rw [if_pos h]
theorem lineCar_bad {z : Nat → Int} {n m : Nat} {a : Int} (h : glyAt z n a = (m : Int)) (hg : glyOk z m = false) : lineCar z n a = (0, false) := by
  unfold lineCar; rw [if_neg (by omega), h, Int.toNat_natCast, hg]; rfl
theorem lineCar_odd {z : Nat → Int} {n m : Nat} {a : Int} (h : glyAt z n a = (m : Int)) (hg : glyOk z m = true) (ho : odd2 (z (m * 5 + 4)) = true) : lineCar z n a = (z (m * 5 + 2) + z (m * 5 + 3), true) := by
  unfold lineCar; rw [if_neg (by omega), h, Int.toNat_natCast, if_pos hg, if_pos ho]
theorem lineCar_even {z : Nat → Int} {n m : Nat} {a : Int} (h : glyAt z n a = (m : Int)) (hg : glyOk z m = true) (ho : odd2 (z (m * 5 + 4)) = false) : lineCar z n a = (z (m * 5 + 2), true) := by
  unfold lineCar; rw [if_neg (by omega), h, Int.toNat_natCast, if_pos hg, ho]; rfl

set_option maxHeartbeats 4000000 in
theorem implCar (f t d : Int) (v : Value) (n : Nat) (l : List Int) (a : Int) (w : World) (hv : ArgG w v n l) (hbig : n ≤ 1048576) (r : Int × Bool) (hr : Hid (lineCar (fn l) n a = r)) :
    Calls Try.prog 22 #[.agg #[.int .i64 f, .int .i64 t, .int .i64 d, v], .int .i64 a] w fun e w' => e = .returned (.tuple #[.int .i64 r.1, .bool r.2]) ∧ Below w.heap.size w w' := by
  obtain ⟨g, hg⟩ : ∃ g, glyAt (fn l) n a = g := ⟨_, rfl⟩
  have HG : Hid _ := hg
  have hgl := glyAt_lt (fn l) n a
  rw [hg] at hgl
  clear hg
  have HW : Hid (∀ w', Below w.heap.size w w' → ArgG w' v n l) := fun w' b => hv.below b
  by_cases h0 : g < 0
  · have HR : Hid (r = (0, false)) := by show _ = _; rw [← hr.out]; exact lineCar_none (by rw [HG.out]; exact h0)
    rcases hv with ⟨b, cap, rfl, rfl⟩ | ⟨b, cap, rfl, hb, hlc, hcm, hat⟩
    all_goals
      try clear hat
      go_enter Try.func22, Try.ntmps22
      go_wp2_with fail
      refine (implGlyph f t d _ _ l a _ (HW.out _ (below_alloc _ _)) hbig g HG).mono ?_
      rintro e w2 ⟨rfl, b2⟩
      go_wp2_with fail
      go_ret2
      exact ⟨retIB HR.out, bstep (below_alloc _ _) b2⟩
  · obtain ⟨m, rfl⟩ : ∃ m : Nat, g = (m : Int) := ⟨g.toNat, by omega⟩
    have hmn : m < n := by omega
    rcases hv with ⟨b, cap, rfl, rfl⟩ | ⟨b, cap, rfl, hb, hlc, hcm, hat⟩
    · omega
    have HA : Hid _ := hat
    clear hat h0 hgl
    go_enter Try.func22, Try.ntmps22
    go_wp2_with fail
    refine (implGlyph f t d _ _ l a _ (HW.out _ (below_alloc _ _)) hbig _ HG).mono ?_
    rintro e w2 ⟨rfl, b2⟩
    obtain ⟨l0, l1, l2, l3⟩ := at4r b2
    have B2 := bstep (below_alloc _ _) b2
    have hN2 : w.heap.size < w2.heap.size := by have := b2.size; simp at this; omega
    clear b2 l0 l1 l2
    have c0 := (B2.cell (p := ⟨b, m * 5, none⟩) hb).trans (HA.out _ (by omega))
    have c1 := (B2.cell (p := ⟨b, m * 5 + 1, none⟩) hb).trans (HA.out _ (by omega))
    have c2 := (B2.cell (p := ⟨b, m * 5 + 2, none⟩) hb).trans (HA.out _ (by omega))
    have c3 := (B2.cell (p := ⟨b, m * 5 + 3, none⟩) hb).trans (HA.out _ (by omega))
    have c4 := (B2.cell (p := ⟨b, m * 5 + 4, none⟩) hb).trans (HA.out _ (by omega))
    have hb2 : b < w2.heap.size := by omega
    by_cases hok : glyOk (fn l) m = true
    · have hgb := glyOk_out hok
      have HOK : Hid _ := hok
      have hg2 : (in1 (fn l (m * 5 + 2)) (-40000) 40000 && in1 (fn l (m * 5 + 3)) 0 20000) = true := hok
      have HG2 : Hid _ := hg2
      clear hok hg2
      go_wp2_with fail
      refine (implPlaced _ _ _ _ _ _).mono ?_
      rintro e w5 ⟨rfl, b5⟩
      rw [HG2.out]
      have l35 := (b5.cell (p := ⟨w.heap.size, 3, none⟩) hN2).trans l3
      have c05 := (b5.cell (p := ⟨b, m * 5, none⟩) hb2).trans c0
      have c15 := (b5.cell (p := ⟨b, m * 5 + 1, none⟩) hb2).trans c1
      have c25 := (b5.cell (p := ⟨b, m * 5 + 2, none⟩) hb2).trans c2
      have c35 := (b5.cell (p := ⟨b, m * 5 + 3, none⟩) hb2).trans c3
      have c45 := (b5.cell (p := ⟨b, m * 5 + 4, none⟩) hb2).trans c4
      have B5 := bstep B2 b5
      clear c0 c1 c2 c3 c4 l3 b5
      go_wp2_with fail
      refine (implOdd _ _).mono ?_
      rintro e w6 ⟨rfl, rfl⟩
      by_cases ho : odd2 (fn l (m * 5 + 4)) = true
      · have HR : Hid _ := hr.out.symm.trans (lineCar_odd HG.out HOK.out ho)
        rw [ho]
        go_wp2_with fail
        go_ret2
        exact ⟨retIB HR.out, bstep B5 (below_alloc _ _)⟩
      · have ho2 : odd2 (fn l (m * 5 + 4)) = false := by simpa using ho
        have HR : Hid _ := hr.out.symm.trans (lineCar_even HG.out HOK.out ho2)
        rw [ho2]
        go_wp2_with fail
        go_ret2
        exact ⟨retIB HR.out, bstep B5 (below_alloc _ _)⟩
    · have hok2 : glyOk (fn l) m = false := by simpa using hok
      have hg2 : (in1 (fn l (m * 5 + 2)) (-40000) 40000 && in1 (fn l (m * 5 + 3)) 0 20000) = false := hok2
      have HG2 : Hid _ := hg2
      have HR : Hid _ := hr.out.symm.trans (lineCar_bad HG.out hok2)
      clear hok hok2 hg2
      go_wp2_with fail
      refine (implPlaced _ _ _ _ _ _).mono ?_
      rintro e w5 ⟨rfl, b5⟩
      rw [HG2.out]
      have B5 := bstep B2 b5
      clear b5
      go_wp2_with fail
      go_ret2
      exact ⟨retIB HR.out, B5⟩

set_option maxHeartbeats 4000000 in
theorem specCar (f t d : Int) (v : Value) (n : Nat) (l : List Int) (a : Int) (w : World) (hv : ArgG w v n l) (hbig : n ≤ 1048576) (r : Int × Bool) (hr : Hid (lineCar (fn l) n a = r)) :
    Calls Try.prog 21 #[.agg #[.int .i64 f, .int .i64 t, .int .i64 d, v], .int .i64 a] w fun e w' => e = .returned (.tuple #[.int .i64 r.1, .bool r.2]) ∧ Below w.heap.size w w' := by
  obtain ⟨g, hg⟩ : ∃ g, glyAt (fn l) n a = g := ⟨_, rfl⟩
  have HG : Hid _ := hg
  have hgl := glyAt_lt (fn l) n a
  rw [hg] at hgl
  clear hg
  have HW : Hid (∀ w', Below w.heap.size w w' → ArgG w' v n l) := fun w' b => hv.below b
  by_cases h0 : g < 0
  · have HR : Hid (r = (0, false)) := by show _ = _; rw [← hr.out]; exact lineCar_none (by rw [HG.out]; exact h0)
    rcases hv with ⟨b, cap, rfl, rfl⟩ | ⟨b, cap, rfl, hb, hlc, hcm, hat⟩
    all_goals
      try clear hat
      go_enter Try.func21, Try.ntmps21
      go_wp2_with fail
      refine (specGlyph f t d _ _ l a _ (HW.out _ (below_alloc _ _)) hbig g HG).mono ?_
      rintro e w2 ⟨rfl, b2⟩
      go_wp2_with fail
      go_ret2
      exact ⟨retIB HR.out, bstep (below_alloc _ _) b2⟩
  · obtain ⟨m, rfl⟩ : ∃ m : Nat, g = (m : Int) := ⟨g.toNat, by omega⟩
    have hmn : m < n := by omega
    rcases hv with ⟨b, cap, rfl, rfl⟩ | ⟨b, cap, rfl, hb, hlc, hcm, hat⟩
    · omega
    have HA : Hid _ := hat
    clear hat h0 hgl
    go_enter Try.func21, Try.ntmps21
    go_wp2_with fail
    refine (specGlyph f t d _ _ l a _ (HW.out _ (below_alloc _ _)) hbig _ HG).mono ?_
    rintro e w2 ⟨rfl, b2⟩
    obtain ⟨l0, l1, l2, l3⟩ := at4r b2
    have B2 := bstep (below_alloc _ _) b2
    clear b2 l0 l1 l2
    have c2 := (B2.cell (p := ⟨b, m * 5 + 2, none⟩) hb).trans (HA.out _ (by omega))
    have c3 := (B2.cell (p := ⟨b, m * 5 + 3, none⟩) hb).trans (HA.out _ (by omega))
    have c4 := (B2.cell (p := ⟨b, m * 5 + 4, none⟩) hb).trans (HA.out _ (by omega))
    by_cases g1 : in1 (fn l (m * 5 + 2)) (-40000) 40000 = true
    · by_cases g2 : in1 (fn l (m * 5 + 3)) 0 20000 = true
      · have hok := glyOk_yes g1 g2
        have hgb := glyOk_out hok
        have HOK : Hid _ := hok
        have G1 : Hid _ := g1
        have G2 : Hid _ := g2
        clear g1 g2 hok
        go_wp2_with fail
        refine (specIn1_is _ _ _ _ _ G1).mono ?_
        rintro e w5 ⟨rfl, rfl⟩
        go_wp2_with fail
        refine (specIn1_is _ _ _ _ _ G2).mono ?_
        rintro e w5 ⟨rfl, rfl⟩
        by_cases ho : odd2 (fn l (m * 5 + 4)) = true
        · have HR : Hid _ := hr.out.symm.trans (lineCar_odd HG.out HOK.out ho)
          have ho2 : ((fn l (m * 5 + 4)).tmod 2 == 0) = false := by simpa [odd2] using ho
          clear ho
          go_wp2_with fail
          go_quiet (fail)
          go_wp2_with fail
          go_ret2
          exact ⟨retIB HR.out, bstep B2 (below_draws _ _)⟩
        · have ho3 : odd2 (fn l (m * 5 + 4)) = false := by simpa using ho
          have ho2 : ((fn l (m * 5 + 4)).tmod 2 == 0) = true := by simpa [odd2] using ho3
          have HR : Hid _ := hr.out.symm.trans (lineCar_even HG.out HOK.out ho3)
          clear ho ho3
          go_wp2_with fail
          go_ret2
          exact ⟨retIB HR.out, B2⟩
      · have g3 : in1 (fn l (m * 5 + 3)) 0 20000 = false := by simpa using g2
        have HR : Hid _ := hr.out.symm.trans (lineCar_bad HG.out (glyOk_no2 g3))
        have G1 : Hid _ := g1
        have G2 : Hid _ := g3
        clear g1 g2 g3
        go_wp2_with fail
        refine (specIn1_is _ _ _ _ _ G1).mono ?_
        rintro e w5 ⟨rfl, rfl⟩
        go_wp2_with fail
        refine (specIn1_is _ _ _ _ _ G2).mono ?_
        rintro e w5 ⟨rfl, rfl⟩
        go_wp2_with fail
        go_ret2
        exact ⟨retIB HR.out, B2⟩
    · have g3 : in1 (fn l (m * 5 + 2)) (-40000) 40000 = false := by simpa using g1
      have HR : Hid _ := hr.out.symm.trans (lineCar_bad HG.out (glyOk_no1 g3))
      have G1 : Hid _ := g3
      clear g1 g3
      go_wp2_with fail
      refine (specIn1_is _ _ _ _ _ G1).mono ?_
      rintro e w5 ⟨rfl, rfl⟩
      go_wp2_with fail
      go_ret2
      exact ⟨retIB HR.out, B2⟩
end Go.Proofs.Ytbjcdogbhnadkav
