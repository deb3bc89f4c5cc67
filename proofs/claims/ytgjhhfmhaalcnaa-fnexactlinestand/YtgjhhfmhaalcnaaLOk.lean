import Derived.Test.YtgjhhfmhaalcnaaLineHitI
import Derived.Test.YtgjhhfmhaalcnaaLThere
import Derived.Test.YtgjhhfmhaalcnaaTop
namespace Go.Proofs.Ytgjhhfmhaalcnaa
open Go.ChangeShapes Go.WideShapes Go.ChangeAt Go.RowKit
set_option linter.unusedSimpArgs false

def glyGd (f t : Int) (z : Nat → Int) (k : Nat) : Bool := decide (f ≤ z (k * 5) ∧ z (k * 5) < t ∧ 0 ≤ z (k * 5 + 4) ∧ z (k * 5 + 4) ≤ 22 ∧ 0 ≤ z (k * 5 + 3) ∧ z (k * 5 + 3) ≤ 20000 ∧ -20000 ≤ z (k * 5 + 2) ∧ z (k * 5 + 2) ≤ 40000)
def lineOk (l : List Int) (f t d : Int) (n : Nat) (z : Nat → Int) : Bool := okF (fn l) l.length && (thereB l.length f t && (in1 d 0 20000 && (decide (n ≤ 80) && allB (glyGd f t z) n)))
theorem lineOk_yes {l : List Int} {f t d : Int} {n : Nat} {z : Nat → Int} (h1 : okF (fn l) l.length = true) (h2 : thereB l.length f t = true) (h3 : in1 d 0 20000 = true) (h4 : n ≤ 80) (h5 : ∀ k, k < n → glyGd f t z k = true) : lineOk l f t d n z = true := by
  unfold lineOk; rw [h1, h2, h3, (allB_iff _ _).2 h5]; simp [h4]
theorem lineOk_out {l : List Int} {f t d : Int} {n : Nat} {z : Nat → Int} (h : lineOk l f t d n z = true) : okF (fn l) l.length = true ∧ thereB l.length f t = true ∧ in1 d 0 20000 = true ∧ n ≤ 80 ∧ ∀ k, k < n → glyGd f t z k = true := by
  unfold lineOk at h
  simp only [Bool.and_eq_true, decide_eq_true_eq] at h
  exact ⟨h.1, h.2.1, h.2.2.1, h.2.2.2.1, (allB_iff _ _).1 h.2.2.2.2⟩
theorem lineOk_no {l : List Int} {f t d : Int} {n : Nat} {z : Nat → Int} (h : ¬ (okF (fn l) l.length = true ∧ thereB l.length f t = true ∧ in1 d 0 20000 = true ∧ n ≤ 80 ∧ ∀ k, k < n → glyGd f t z k = true)) : lineOk l f t d n z = false := by
  rw [Bool.eq_false_iff]; exact fun hh => h (lineOk_out hh)

set_option maxRecDepth 10000 in
set_option maxHeartbeats 2000000 in
theorem implMay_row (f t d : Int) (g : Nat) (n cap : Nat) (z : List Int) (v : Value) (l : List Int) (w : World) (hg : g < w.heap.size) (hat : ∀ j, j < n * 5 → w.cell? ⟨g, j, none⟩ = some (.int .i64 (fn z j))) (hv : Arg w v l) (h1 : okF (fn l) l.length = true) (h2 : thereB l.length f t = true) (h3 : in1 d 0 20000 = true) (h4 : n ≤ 80) (q : Bool) (hq : Hid (lineOk l f t d n (fn z) = q)) :
    Calls Try.prog 50 #[.agg #[.int .i64 f, .int .i64 t, .int .i64 d, .slice (some ⟨g, 0, none⟩) n cap], v] w fun e w' => e = .returned (.bool q) ∧ Below w.heap.size w w' := by
  have HA : Hid _ := hat
  have HV : Hid (∀ w', Below w.heap.size w w' → Arg w' v l) := fun w' b => hv.below b
  have H1 : Hid _ := h1
  have H2 : Hid _ := h2
  have H3 : Hid _ := h3
  have h80 := okF_len h1
  have hth : 0 ≤ f ∧ f ≤ t ∧ t ≤ (l.length : Int) := by simpa [thereB] using h2
  obtain ⟨av, cv, rfl⟩ : ∃ av cv, v = .slice av l.length cv := by obtain ⟨a, c, e, _⟩ := hv.rdI; exact ⟨a, c, e⟩
  have h4i : (n : Int) ≤ 80 := by omega
  clear hat hv h1 h2 h3
  go_enter Try.func50, Try.ntmps50
  go_wp2_with fail
  refine (implOk _ l _ (HV.out _ (below_new _ _)) (by omega)).mono ?_
  rintro e w1 ⟨rfl, rfl⟩
  rw [H1.out]
  go_wp2_with fail
  refine (implThere av l.length cv f t _).mono ?_
  rintro e w1 ⟨rfl, rfl⟩
  rw [H2.out]
  go_wp2_with fail
  refine (implWideOk _ _).mono ?_
  rintro e w1 ⟨rfl, rfl⟩
  rw [H3.out]
  go_wp2_with fail
  go_loopw [35] (fun i wr => ∃ (k : Nat), k ≤ n ∧ i = .int .i64 k ∧ Hid (∀ j, j < k → glyGd f t (fn z) j = true) ∧ Below w.heap.size w wr ∧ Hid (w.heap.size < wr.heap.size) ∧ wr.cell? ⟨w.heap.size, 0, none⟩ = some (.int .i64 f) ∧ wr.cell? ⟨w.heap.size, 1, none⟩ = some (.int .i64 t)) (fun i _ => n - (intOf i).toNat)
  case atStart => exact ⟨0, Nat.zero_le _, rfl, fun j hj => by omega, below_new _ _, by show _ < _; simp, by simp, by simp⟩
  case round =>
    obtain ⟨k, hk, rfl, hall, hbel, hnew, hl0, hl1⟩ := hrel
    have hsz := hbel.size
    by_cases hlt : k < n
    · have c0 := (hbel.cell (p := ⟨g, k * 5, none⟩) hg).trans (HA.out _ (by omega))
      have c1 := (hbel.cell (p := ⟨g, k * 5 + 1, none⟩) hg).trans (HA.out _ (by omega))
      have c2 := (hbel.cell (p := ⟨g, k * 5 + 2, none⟩) hg).trans (HA.out _ (by omega))
      have c3 := (hbel.cell (p := ⟨g, k * 5 + 3, none⟩) hg).trans (HA.out _ (by omega))
      have c4 := (hbel.cell (p := ⟨g, k * 5 + 4, none⟩) hg).trans (HA.out _ (by omega))
      have hne : w.heap.size ≠ wr.heap.size := by have := hnew.out; omega
      have K0 : ∀ o, (wr.alloc o).cell? ⟨w.heap.size, 0, none⟩ = some (.int .i64 f) := fun o => ((below_alloc wr o).cell (p := ⟨w.heap.size, 0, none⟩) hnew.out).trans hl0
      have K1 : ∀ o, (wr.alloc o).cell? ⟨w.heap.size, 1, none⟩ = some (.int .i64 t) := fun o => ((below_alloc wr o).cell (p := ⟨w.heap.size, 1, none⟩) hnew.out).trans hl1
      have HK0 : Hid _ := K0
      have HK1 : Hid _ := K1
      have KN : Hid (∀ o, Hid (w.heap.size < (wr.alloc o).heap.size)) := fun o => by have := hnew.out; show _ < _; simp; omega
      by_cases hw : f ≤ fn z (k * 5) ∧ fn z (k * 5) < t ∧ 0 ≤ fn z (k * 5 + 4) ∧ fn z (k * 5 + 4) ≤ 22
      · obtain ⟨q1, q2, q3, q4⟩ := hw
        by_cases hw3 : in1 (fn z (k * 5 + 3)) 0 20000 = true
        · by_cases hx : -20000 ≤ fn z (k * 5 + 2) ∧ fn z (k * 5 + 2) ≤ 40000
          · have HG : Hid (glyGd f t (fn z) k = true) := by
              show _ = _; unfold glyGd; simp only [in1, decide_eq_true_eq] at hw3 ⊢; omega
            obtain ⟨x1, x2⟩ := hx
            have HW3 : Hid _ := hw3
            clear hw3
            go_wp2_with fail
            refine (implWideOk _ _).mono ?_
            rintro e w1 ⟨rfl, rfl⟩
            rw [HW3.out]
            go_wp2_with fail
            refine ⟨⟨k + 1, by omega, by go_num, fun j hj => ?_, hbel.alloc hsz _, KN.out _, HK0.out _, HK1.out _⟩, by simp only [intOf]; omega⟩
            by_cases e : j = k
            · subst e; exact HG.out
            · exact hall.out j (by omega)
          · have HQ : Hid (q = false) := by
              show _ = _; rw [← hq.out]; refine lineOk_no (fun hh => ?_)
              have hg0 := hh.2.2.2.2 k hlt
              simp only [glyGd, decide_eq_true_eq] at hg0; omega
            have HW3 : Hid _ := hw3
            clear hw3
            by_cases hx1 : fn z (k * 5 + 2) < -20000
            · clear hx
              go_wp2_with fail
              refine (implWideOk _ _).mono ?_
              rintro e w1 ⟨rfl, rfl⟩
              rw [HW3.out]
              go_wp2_with fail
              go_ret
              exact ⟨retBool HQ.out.symm, hbel.alloc hsz _⟩
            · have hx2 : 40000 < fn z (k * 5 + 2) := by omega
              clear hx
              go_wp2_with fail
              refine (implWideOk _ _).mono ?_
              rintro e w1 ⟨rfl, rfl⟩
              rw [HW3.out]
              go_wp2_with fail
              go_ret
              exact ⟨retBool HQ.out.symm, hbel.alloc hsz _⟩
        · have hw4 : in1 (fn z (k * 5 + 3)) 0 20000 = false := by simpa using hw3
          have HQ : Hid (q = false) := by
            show _ = _; rw [← hq.out]; refine lineOk_no (fun hh => ?_)
            have hg0 := hh.2.2.2.2 k hlt
            simp only [glyGd, decide_eq_true_eq] at hg0
            simp only [in1, decide_eq_false_iff_not] at hw4; omega
          have HW3 : Hid _ := hw4
          clear hw3 hw4
          go_wp2_with fail
          refine (implWideOk _ _).mono ?_
          rintro e w1 ⟨rfl, rfl⟩
          rw [HW3.out]
          go_wp2_with fail
          go_ret
          exact ⟨retBool HQ.out.symm, hbel.alloc hsz _⟩
      · have HQ : Hid (q = false) := by
          show _ = _; rw [← hq.out]; refine lineOk_no (fun hh => ?_)
          have hg0 := hh.2.2.2.2 k hlt
          simp only [glyGd, decide_eq_true_eq] at hg0; omega
        have HB : Hid (∀ o, Below w.heap.size w (wr.alloc o)) := fun o => hbel.alloc hsz o
        by_cases q1 : f ≤ fn z (k * 5)
        · by_cases q2 : fn z (k * 5) < t
          · by_cases q3 : 0 ≤ fn z (k * 5 + 4)
            · have q4 : ¬ fn z (k * 5 + 4) ≤ 22 := by omega
              clear hw
              go_wp2_with fail
              go_ret
              exact ⟨retBool HQ.out.symm, HB.out _⟩
            · clear hw
              go_wp2_with fail
              go_ret
              exact ⟨retBool HQ.out.symm, HB.out _⟩
          · clear hw
            go_wp2_with fail
            go_ret
            exact ⟨retBool HQ.out.symm, HB.out _⟩
        · clear hw
          go_wp2_with fail
          go_ret
          exact ⟨retBool HQ.out.symm, HB.out _⟩
    · have e : k = n := by omega
      subst e
      have HQ : Hid (q = true) := by show _ = _; rw [← hq.out]; exact lineOk_yes H1.out H2.out H3.out h4 hall.out
      go_wp2_with fail
      go_ret
      exact ⟨retBool HQ.out.symm, hbel⟩

set_option maxRecDepth 10000 in
set_option maxHeartbeats 2000000 in
theorem implMay (f t d : Int) (u : Value) (n : Nat) (z : List Int) (v : Value) (l : List Int) (w : World) (hu : ArgG w u n z) (hv : Arg w v l) (hl : l.length ≤ 1048576) (hn : n ≤ 1048576) (q : Bool) (hq : Hid (lineOk l f t d n (fn z) = q)) :
    Calls Try.prog 50 #[.agg #[.int .i64 f, .int .i64 t, .int .i64 d, u], v] w fun e w' => e = .returned (.bool q) ∧ Below w.heap.size w w' := by
  have HV : Hid (∀ w', Below w.heap.size w w' → Arg w' v l) := fun w' b => hv.below b
  by_cases hgood : okF (fn l) l.length = true ∧ thereB l.length f t = true ∧ in1 d 0 20000 = true ∧ n ≤ 80 ∧ 0 < n
  · obtain ⟨h1, h2, h3, h4, h0⟩ := hgood
    rcases hu with ⟨a, c, _, e⟩ | ⟨g, c, rfl, hg, _, _, hat⟩
    · omega
    · exact implMay_row f t d g n c z v l w hg hat hv h1 h2 h3 h4 q hq
  · obtain ⟨xu, zu, rfl⟩ : ∃ xu zu, u = .slice xu n zu := by
      rcases hu with ⟨a, c, rfl, rfl⟩ | ⟨b, c, rfl, _⟩
      · exact ⟨_, _, rfl⟩
      · exact ⟨_, _, rfl⟩
    obtain ⟨av, cv, rfl⟩ : ∃ av cv, v = .slice av l.length cv := by obtain ⟨a, c, e, _⟩ := hv.rdI; exact ⟨a, c, e⟩
    clear hu hv
    by_cases h1 : okF (fn l) l.length = true
    · have H1 : Hid _ := h1
      by_cases h2 : thereB l.length f t = true
      · have H2 : Hid _ := h2
        by_cases h3 : in1 d 0 20000 = true
        · have H3 : Hid _ := h3
          by_cases h4 : n ≤ 80
          · have h0 : n = 0 := by
              rcases Nat.eq_zero_or_pos n with h | h
              · exact h
              · exact absurd ⟨h1, h2, h3, h4, h⟩ hgood
            subst h0
            have HQ : Hid (q = true) := by show _ = _; rw [← hq.out]; exact lineOk_yes h1 h2 h3 (by omega) (fun k hk => by omega)
            clear hgood h1 h2 h3
            go_enter Try.func50, Try.ntmps50
            go_wp2_with fail
            refine (implOk _ l _ (HV.out _ (below_new _ _)) (by omega)).mono ?_
            rintro e w1 ⟨rfl, rfl⟩
            rw [H1.out]
            go_wp2_with fail
            refine (implThere av l.length cv f t _).mono ?_
            rintro e w1 ⟨rfl, rfl⟩
            rw [H2.out]
            go_wp2_with fail
            refine (implWideOk _ _).mono ?_
            rintro e w1 ⟨rfl, rfl⟩
            rw [H3.out]
            go_wp2_with fail
            go_rounds 1
            go_ret
            exact ⟨retBool HQ.out.symm, below_new _ _⟩
          · have h5 : (80 : Int) < (n : Int) := by omega
            have HQ : Hid (q = false) := by show _ = _; rw [← hq.out]; exact lineOk_no (fun hh => h4 hh.2.2.2.1)
            clear hgood h1 h2 h3
            go_enter Try.func50, Try.ntmps50
            go_wp2_with fail
            refine (implOk _ l _ (HV.out _ (below_new _ _)) (by omega)).mono ?_
            rintro e w1 ⟨rfl, rfl⟩
            rw [H1.out]
            go_wp2_with fail
            refine (implThere av l.length cv f t _).mono ?_
            rintro e w1 ⟨rfl, rfl⟩
            rw [H2.out]
            go_wp2_with fail
            refine (implWideOk _ _).mono ?_
            rintro e w1 ⟨rfl, rfl⟩
            rw [H3.out]
            go_wp2_with fail
            go_ret
            exact ⟨retBool HQ.out.symm, below_new _ _⟩
        · have h4 : in1 d 0 20000 = false := by simpa using h3
          have H3 : Hid _ := h4
          have HQ : Hid (q = false) := by show _ = _; rw [← hq.out]; exact lineOk_no (fun hh => h3 hh.2.2.1)
          clear hgood h1 h2 h3 h4
          go_enter Try.func50, Try.ntmps50
          go_wp2_with fail
          refine (implOk _ l _ (HV.out _ (below_new _ _)) (by omega)).mono ?_
          rintro e w1 ⟨rfl, rfl⟩
          rw [H1.out]
          go_wp2_with fail
          refine (implThere av l.length cv f t _).mono ?_
          rintro e w1 ⟨rfl, rfl⟩
          rw [H2.out]
          go_wp2_with fail
          refine (implWideOk _ _).mono ?_
          rintro e w1 ⟨rfl, rfl⟩
          rw [H3.out]
          go_wp2_with fail
          go_ret
          exact ⟨retBool HQ.out.symm, below_new _ _⟩
      · have h4 : thereB l.length f t = false := by simpa using h2
        have H2 : Hid _ := h4
        have HQ : Hid (q = false) := by show _ = _; rw [← hq.out]; exact lineOk_no (fun hh => h2 hh.2.1)
        clear hgood h1 h2 h4
        go_enter Try.func50, Try.ntmps50
        go_wp2_with fail
        refine (implOk _ l _ (HV.out _ (below_new _ _)) (by omega)).mono ?_
        rintro e w1 ⟨rfl, rfl⟩
        rw [H1.out]
        go_wp2_with fail
        refine (implThere av l.length cv f t _).mono ?_
        rintro e w1 ⟨rfl, rfl⟩
        rw [H2.out]
        go_wp2_with fail
        go_ret
        exact ⟨retBool HQ.out.symm, below_new _ _⟩
    · have h4 : okF (fn l) l.length = false := by simpa using h1
      have H1 : Hid _ := h4
      have HQ : Hid (q = false) := by show _ = _; rw [← hq.out]; exact lineOk_no (fun hh => h1 hh.1)
      clear hgood h1 h4
      go_enter Try.func50, Try.ntmps50
      go_wp2_with fail
      refine (implOk _ l _ (HV.out _ (below_new _ _)) (by omega)).mono ?_
      rintro e w1 ⟨rfl, rfl⟩
      rw [H1.out]
      go_wp2_with fail
      go_ret
      exact ⟨retBool HQ.out.symm, below_new _ _⟩
end Go.Proofs.Ytgjhhfmhaalcnaa
