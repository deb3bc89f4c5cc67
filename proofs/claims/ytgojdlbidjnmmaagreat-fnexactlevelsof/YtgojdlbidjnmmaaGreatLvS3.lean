import Derived.Test.YtgojdlbidjnmmaaGreatLvS2
import Derived.Test.YtgojdlbidjnmmaaGreatRunsS2
namespace Go.Proofs.YtgojdlbidjnmmaaGreat
open Go.ChangeShapes Go.WideShapes Go.ChangeAt Go.RowKit
set_option linter.unusedSimpArgs false
set_option linter.unusedVariables false

theorem aftL_skip {lv : Nat → Int} {n : Nat} {base : Int} : ∀ (d p : Nat), p + d ≤ n → (∀ x, p ≤ x → x < p + d → lv x < 0) → aftL lv n base (n - p) = aftL lv n base (n - (p + d))
  | 0, p, _, _ => rfl
  | d + 1, p, h1, h2 => by
    rw [aftL_step (by omega) (h2 p (Nat.le_refl _) (by omega)), aftL_skip d (p + 1) (by omega) (fun x h3 h4 => h2 x (by omega) (by omega)), show p + 1 + d = p + (d + 1) by omega]
theorem aftL_at {lv : Nat → Int} {n : Nat} {base : Int} {p k : Nat} (h1 : p ≤ k) (h2 : k ≤ n) (h3 : ∀ x, p ≤ x → x < k → lv x < 0) (h4 : k < n → 0 ≤ lv k) : aftL lv n base (n - p) = if k = n then base else lv k := by
  have := aftL_skip (lv := lv) (n := n) (base := base) (k - p) p (by omega) (fun x a b => h3 x a (by omega))
  rw [this, show p + (k - p) = k by omega]
  split
  · rename_i e; rw [e, Nat.sub_self]; rfl
  · exact aftL_hit (by omega) (h4 (by omega))
set_option maxHeartbeats 2000000 in
theorem specBehind (b off cap b2 off2 cap2 n at_ : Nat) (l L : List Int) (mt : Nat → Nat) (base : Int) (w : World) (hn : l.length = n) (hnL : L.length = n) (hb : b < w.heap.size) (hb2 : b2 < w.heap.size) (hat : At w b off l) (hatL : At w b2 off2 L) (hl : n ≤ 1000) (hmt : Hid (MateFn (cl l) n mt)) (ha : at_ < n) :
    Calls Tryz.prog 75 #[.slice (some ⟨b, off, none⟩) n cap, .slice (some ⟨b2, off2, none⟩) n cap2, .int .i64 (at_ : Int), .int .i64 base] w fun e w' => e = .returned (.int .i64 (behF (cl l) (fn L) n mt base at_)) ∧ Below w.heap.size w w' := by
  have hai : (at_ : Int) < (n : Int) := by omega
  have cx := hat at_ (by omega)
  obtain ⟨y, hy⟩ : ∃ y, fn l at_ = y := ⟨_, rfl⟩
  rw [hy] at cx
  obtain ⟨c, hc⟩ : ∃ c, cl l at_ = c := ⟨_, rfl⟩
  have hcy : bidi y = c := by rw [← hc, ← hy]; rfl
  have HCY : Hid _ := hcy
  obtain ⟨q, hq⟩ : ∃ q, opensB c = q := ⟨_, rfl⟩
  have HQ : Hid _ := hq
  have HAT : Hid (At w b off l) := hat
  have HAL : Hid (At w b2 off2 L) := hatL
  have HN : Hid _ := hn
  have HNL : Hid _ := hnL
  have HLF : Hid (∀ V, Below w.heap.size w V → Calls Tryz.prog 115 #[.slice (some ⟨b2, off2, none⟩) n cap2, .int .i64 ((at_ : Int) + 1)] V fun e w' => (∃ k : Nat, e = .returned (.int .i64 k) ∧ at_ + 1 ≤ k ∧ k ≤ n ∧ (∀ x, at_ + 1 ≤ x → x < k → fn L x < 0) ∧ (k < n → 0 ≤ fn L k)) ∧ w' = V) := fun V hV => specLeft b2 off2 cap2 n L (at_ + 1) _ V hnL (hatL.below hV hb2) (by omega) (by omega) (by omega)
  have HCELL : Hid (∀ V, Below w.heap.size w V → ∀ k, k < n → V.cell? ⟨b2, off2 + k, none⟩ = some (.int .i64 (fn L k))) := fun V hV k hk => hatL.below hV hb2 k (by omega)
  cases q
  · have HB : Hid (behF (cl l) (fn L) n mt base at_ = aftL (fn L) n base (n - (at_ + 1))) := by
      unfold Hid behF; rw [hc, hq]; simp
    clear hq hcy hc hy hat hatL hn hnL hmt
    go_enter Tryz.func75, Tryz.ntmps75
    go_wp2_with (first | (go_at_call 10; refine (specBidi _ _).mono ?_; rintro e w1 ⟨rfl, b1⟩; rw [HCY.out]) | (go_at_call 120; refine (specOpens _ _).mono ?_; rintro e w2 ⟨rfl, rfl⟩; rw [HQ.out]))
    refine (HLF.out _ b1).mono ?_
    rintro e w3 ⟨⟨k, rfl, k1, k2, k3, k4⟩, hw3⟩
    rw [hw3]
    clear hw3 w3
    have K3 : Hid _ := k3
    have K4 : Hid (k < n → 0 ≤ fn L k) := k4
    clear k3 k4
    have hres := aftL_at (base := base) k1 k2 K3.out K4.out
    by_cases e : k = n
    · subst e
      have H2 : Hid (behF (cl l) (fn L) k mt base at_ = base) := by unfold Hid; rw [HB.out, hres]; simp
      clear hres
      go_wp2_with fail
      go_ret
      exact ⟨retInt H2.out.symm, b1⟩
    · have hki : (k : Int) < (n : Int) := by omega
      have cl2 := HCELL.out _ b1 k (by omega)
      have H2 : Hid (behF (cl l) (fn L) n mt base at_ = fn L k) := by unfold Hid; rw [HB.out, hres, if_neg e]
      clear hres
      go_wp2_with fail
      go_ret
      exact ⟨retInt H2.out.symm, b1⟩
  · have hmle : mt at_ ≤ n := by
      rcases hmt.out at_ ha (by rw [hc]; exact hq) with ⟨a, _⟩ | ⟨a, _⟩ <;> omega
    have HML : Hid (∀ V, Below w.heap.size w V → Calls Tryz.prog 121 #[.slice (some ⟨b, off, none⟩) n cap, .int .i64 (at_ : Int)] V fun e w' => e = .returned (.int .i64 (mt at_ : Int)) ∧ Below V.heap.size V w') := fun V hV => specMateL b off cap n l mt _ at_ V hn (Nat.lt_of_lt_of_le hb hV.size) (hat.below hV hb) (by omega) hmt rfl ha (by rw [hc]; exact hq)
    have HB : Hid (behF (cl l) (fn L) n mt base at_ = if n ≤ mt at_ then base else aftL (fn L) n base (n - (at_ + 1))) := by
      unfold Hid behF; rw [hc, hq]; simp
    obtain ⟨m, hm⟩ : ∃ m, mt at_ = m := ⟨_, rfl⟩
    rw [hm] at hmle HML HB
    clear hq hcy hc hy hat hatL hn hnL hmt hm
    by_cases hmn : m = n
    · subst hmn
      have H2 : Hid (behF (cl l) (fn L) m mt base at_ = base) := by unfold Hid; rw [HB.out]; simp
      clear HB
      go_enter Tryz.func75, Tryz.ntmps75
      go_wp2_with (first | (go_at_call 10; refine (specBidi _ _).mono ?_; rintro e w1 ⟨rfl, b1⟩; rw [HCY.out]) | (go_at_call 120; refine (specOpens _ _).mono ?_; rintro e w2 ⟨rfl, rfl⟩; rw [HQ.out]) | (go_at_call 121; refine (HML.out _ b1).mono ?_; rintro e w3 ⟨rfl, b3⟩; have b13 := bstep b1 b3; clear b3))
      go_ret
      exact ⟨retInt H2.out.symm, b13⟩
    · have hmi : (m : Int) < (n : Int) := by omega
      have H1 : Hid (behF (cl l) (fn L) n mt base at_ = aftL (fn L) n base (n - (at_ + 1))) := by unfold Hid; rw [HB.out, if_neg (by omega)]
      clear HB
      go_enter Tryz.func75, Tryz.ntmps75
      go_wp2_with (first | (go_at_call 10; refine (specBidi _ _).mono ?_; rintro e w1 ⟨rfl, b1⟩; rw [HCY.out]) | (go_at_call 120; refine (specOpens _ _).mono ?_; rintro e w2 ⟨rfl, rfl⟩; rw [HQ.out]) | (go_at_call 121; refine (HML.out _ b1).mono ?_; rintro e w3 ⟨rfl, b3⟩; have b13 := bstep b1 b3; clear b3))
      refine (HLF.out _ b13).mono ?_
      rintro e w5 ⟨⟨k, rfl, k1, k2, k3, k4⟩, hw5⟩
      rw [hw5]
      clear hw5 w5
      have K3 : Hid _ := k3
      have K4 : Hid (k < n → 0 ≤ fn L k) := k4
      clear k3 k4
      have hres := aftL_at (base := base) k1 k2 K3.out K4.out
      by_cases e : k = n
      · subst e
        have H2 : Hid (behF (cl l) (fn L) k mt base at_ = base) := by unfold Hid; rw [H1.out, hres]; simp
        clear hres
        go_wp2_with fail
        go_ret
        exact ⟨retInt H2.out.symm, b13⟩
      · have hki : (k : Int) < (n : Int) := by omega
        have cl2 := HCELL.out _ b13 k (by omega)
        have H2 : Hid (behF (cl l) (fn L) n mt base at_ = fn L k) := by unfold Hid; rw [H1.out, hres, if_neg e]
        clear hres
        go_wp2_with fail
        go_ret
        exact ⟨retInt H2.out.symm, b13⟩
end Go.Proofs.YtgojdlbidjnmmaaGreat
