import Derived.Test.YtbacfaddljjopaaBreakTop
namespace Go.Proofs.Ytbacfaddljjopaa
open Go.ChangeShapes Go.WideShapes Go.ChangeAt Go.RowKit
set_option linter.unusedSimpArgs false

def wdsN (z : Nat → Int) : Nat → List Int
  | 0 => []
  | k + 1 => if z k = 0 then wdsN z k else wdsN z k ++ [(k : Int) + 1]
theorem wdsN_len (z : Nat → Int) (k : Nat) : (wdsN z k).length ≤ k := by
  induction k with
  | zero => simp [wdsN]
  | succ k ih => simp only [wdsN]; split
                 · omega
                 · simp; omega
def wdsR (l : List Int) : List Int := wdsN (fn (brkR l)) (brkR l).length
theorem wdsR_len (l : List Int) : (wdsR l).length ≤ l.length := Nat.le_trans (wdsN_len _ _) (brkR_len l)

set_option maxHeartbeats 2000000 in
theorem implWords (v : Value) (l : List Int) (w : World) (hv : Arg w v l) (hl : l.length ≤ 1048576) :
    Calls Try.prog 18 #[v] w fun e w' => (∃ v', e = .returned v' ∧ OwnI w' w.heap.size v' (wdsR l)) ∧ Below w.heap.size w w' := by
  have hbl := brkR_len l
  unfold wdsR
  obtain ⟨R, hR⟩ : ∃ R, brkR l = R := ⟨_, rfl⟩
  rw [hR] at hbl ⊢
  have HR : Hid _ := hR
  clear hR
  go_enter Try.func18, Try.ntmps18
  go_wp2_with fail
  refine (implBreaks v l w hv hl).mono ?_
  rintro e w1 ⟨⟨v1, rfl, o1⟩, b1⟩
  rw [HR.out] at o1
  have hs1 := b1.size
  obtain ⟨n, hn⟩ : ∃ n, R.length = n := ⟨_, rfl⟩
  rcases o1.forms with ⟨rfl, rfl⟩ | ⟨g, cp, rfl, hg, hgw, hlc, hcm, hat⟩
  · go_wp2_with fail
    go_rounds 1
    go_ret
    exact ⟨⟨_, rfl, OwnI.nil _ _⟩, b1⟩
  · rw [hn] at hbl ⊢
    have HN : Hid _ := hn
    clear hn
    go_wp2_with fail
    go_loopw [3, 9] (fun q i wr => ∃ k : Nat, k ≤ n ∧ i = .int .i64 k ∧ OwnI wr w1.heap.size q (wdsN (fn R) k) ∧ Below w1.heap.size w1 wr) (fun _ i _ => n - (intOf i).toNat)
    case atStart => exact ⟨0, Nat.zero_le _, rfl, OwnI.nil _ _, Below.refl _ _⟩
    case round =>
      obtain ⟨k, hk, rfl, hown, hbel⟩ := hrel
      by_cases hlt : k < n
      · have hcell : wr.cell? ⟨g, k, none⟩ = some (.int .i64 (fn R k)) := by
          have := (hat.below hbel hgw) k (by rw [HN.out]; exact hlt)
          rwa [Nat.zero_add] at this
        have hle := wdsN_len (fn R) k
        by_cases q : fn R k = 0
        · have HW : Hid (wdsN (fn R) (k + 1) = wdsN (fn R) k) := by show _ = _; simp only [wdsN]; rw [if_pos q]
          have gq : (fn R k != 0) = false := by simpa using q
          clear q
          go_wp2_with fail
          exact ⟨⟨k + 1, by omega, by go_num, by rw [HW.out]; exact hown, hbel⟩, by simp only [intOf]; omega⟩
        · have HW : Hid (wdsN (fn R) (k + 1) = wdsN (fn R) k ++ [(k : Int) + 1]) := by show _ = _; simp only [wdsN]; rw [if_neg q]
          have gq : (fn R k != 0) = true := by simpa using q
          go_wp2_with (at_builtin; refine own_append (.tmp 16) (.tmp 19) hown (by omega) hbel.size rfl rfl rfl rfl ?_; intro v9 w9 hown9 hgr9)
          exact ⟨⟨k + 1, by omega, by go_num, by rw [HW.out]; exact hown9, grown_below hbel hgr9 hown (Nat.le_refl _) hbel.size⟩, by simp only [intOf]; omega⟩
      · have e : k = n := by omega
        subst e
        go_wp2_with fail
        go_ret
        exact ⟨⟨_, rfl, by rw [HN.out]; exact hown.mono hs1⟩, b1.trans (hbel.mono hs1)⟩

set_option maxHeartbeats 2000000 in
theorem specL5Words (v : Value) (R : List Int) (w : World) (hv : Arg w v R) (hbl : R.length ≤ 1048576) :
    Calls Try.prog 42 #[v] w fun e w' => (∃ v', e = .returned v' ∧ OwnI w' w.heap.size v' (wdsN (fn R) R.length)) ∧ Below w.heap.size w w' := by
  obtain ⟨n, hn⟩ : ∃ n, R.length = n := ⟨_, rfl⟩
  rcases hv with ⟨a0, c0, rfl, rfl⟩ | ⟨g, off, cp, rfl, hgw, hlc, hcm, hat⟩
  · go_enter Try.func42, Try.ntmps42
    go_wp2_with fail
    go_rounds 1
    go_ret
    exact ⟨⟨_, rfl, own_empty _ _ _ (Nat.le_refl _) rfl⟩, by go_grown⟩
  · rw [hn] at hbl ⊢
    have HN : Hid _ := hn
    clear hn
    go_enter Try.func42, Try.ntmps42
    go_wp2_with fail
    go_loopw [3, 4] (fun q i wr => ∃ k : Nat, k ≤ n ∧ i = .int .i64 k ∧ OwnI wr w.heap.size q (wdsN (fn R) k) ∧ Below w.heap.size w wr) (fun _ i _ => n - (intOf i).toNat)
    case atStart => exact ⟨0, Nat.zero_le _, rfl, own_empty _ _ _ (Nat.le_refl _) rfl, by go_grown⟩
    case round =>
      obtain ⟨k, hk, rfl, hown, hbel⟩ := hrel
      by_cases hlt : k < n
      · have hcell : wr.cell? ⟨g, off + k, none⟩ = some (.int .i64 (fn R k)) := (hat.below hbel hgw) k (by rw [HN.out]; exact hlt)
        have hle := wdsN_len (fn R) k
        by_cases q : fn R k = 0
        · have HW : Hid (wdsN (fn R) (k + 1) = wdsN (fn R) k) := by show _ = _; simp only [wdsN]; rw [if_pos q]
          have gq : (fn R k != 0) = false := by simpa using q
          clear q
          go_wp2_with fail
          exact ⟨⟨k + 1, by omega, by go_num, by rw [HW.out]; exact hown, hbel⟩, by simp only [intOf]; omega⟩
        · have HW : Hid (wdsN (fn R) (k + 1) = wdsN (fn R) k ++ [(k : Int) + 1]) := by show _ = _; simp only [wdsN]; rw [if_neg q]
          have gq : (fn R k != 0) = true := by simpa using q
          go_wp2_with (at_builtin; refine own_append (.tmp 17) (.tmp 20) hown (by omega) hbel.size rfl rfl rfl rfl ?_; intro v9 w9 hown9 hgr9)
          exact ⟨⟨k + 1, by omega, by go_num, by rw [HW.out]; exact hown9, grown_below hbel hgr9 hown (Nat.le_refl _) hbel.size⟩, by simp only [intOf]; omega⟩
      · have e : k = n := by omega
        subst e
        go_wp2_with fail
        go_ret
        exact ⟨⟨_, rfl, hown⟩, hbel⟩

set_option maxHeartbeats 1000000 in
theorem specWords (v : Value) (l : List Int) (w : World) (hv : Arg w v l) (hl : l.length ≤ 1048576) :
    Calls Try.prog 16 #[v] w fun e w' => (∃ v', e = .returned v' ∧ OwnI w' w.heap.size v' (wdsR l)) ∧ Below w.heap.size w w' := by
  have hbl := brkR_len l
  go_enter Try.func16, Try.ntmps16
  go_wp2_with fail
  refine (specBreaks v l w hv hl).mono ?_
  rintro e w1 ⟨⟨v1, rfl, o1⟩, b1⟩
  go_wp2_with fail
  refine (specL5Words v1 (brkR l) w1 o1.arg (by omega)).mono ?_
  rintro e w2 ⟨⟨v2, rfl, o2⟩, b2⟩
  go_wp2_with fail
  go_ret
  exact ⟨⟨_, rfl, o2.mono b1.size⟩, bstep b1 b2⟩
end Go.Proofs.Ytbacfaddljjopaa
