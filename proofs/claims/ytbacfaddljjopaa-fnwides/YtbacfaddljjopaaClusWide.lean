import Derived.Test.YtbacfaddljjopaaL2At
import Derived.Test.YtbacfaddljjopaaWideSpec
namespace Go.Proofs.Ytbacfaddljjopaa
open Go.ChangeShapes Go.WideShapes Go.ChangeAt Go.RowKit
set_option linter.unusedSimpArgs false

def wd (r : Int) : Int := wideOf (bidi r) r
theorem wd_bounds (r : Int) : 0 ≤ wd r ∧ wd r ≤ 40 := by
  unfold wd wideOf
  repeat' (split; omega)
  omega
def wdMax (z : Nat → Int) (p : Nat) : Nat → Int
  | 0 => 0
  | c + 1 => if wdMax z p c < wd (z (p + c)) then wd (z (p + c)) else wdMax z p c
theorem wdMax_bounds (z : Nat → Int) (p c : Nat) : 0 ≤ wdMax z p c ∧ wdMax z p c ≤ 40 := by
  induction c with
  | zero => simp [wdMax]
  | succ c ih => simp only [wdMax]; have := wd_bounds (z (p + c)); split <;> omega
theorem wdMax_one (z : Nat → Int) (p : Nat) : wdMax z p 1 = wd (z p) := by
  have h0 := wd_bounds (z p)
  rw [wdMax]
  split
  · rfl
  · rename_i h
    have h1 : ¬ (0 : Int) < wd (z p) := h
    show (0 : Int) = wd (z p)
    omega
theorem wdMax_more {z : Nat → Int} {p c k : Nat} (e : p + c = k) (h : wdMax z p c < wd (z k)) : wdMax z p (c + 1) = wd (z k) := by
  subst e; simp [wdMax, h]
theorem wdMax_less {z : Nat → Int} {p c k : Nat} (e : p + c = k) (h : ¬ wdMax z p c < wd (z k)) : wdMax z p (c + 1) = wdMax z p c := by
  subst e; simp [wdMax, h]

theorem specWd (r : Int) (w : World) : Calls Try.prog 90 #[.int .i64 r] w fun e w' => e = .returned (.int .i64 (wd r)) ∧ Below w.heap.size w w' := specWide r w
theorem implWd (r : Int) (w : World) : Calls Try.prog 68 #[.int .i64 r] w fun e w' => e = .returned (.int .i64 (wd r)) ∧ Below w.heap.size w w' := implWide r w

set_option maxHeartbeats 2000000 in
theorem specL2Wide (b off cap n : Nat) (l : List Int) (a : Int) (p e0 : Nat) (w : World) (hn : l.length = n) (hb : b < w.heap.size) (hat : At w b off l) (hl : n ≤ 4194304) (ha : a = (p : Int)) (hp : p < n) (hE : Ends (fn l) n p e0) :
    Calls Try.prog 73 #[.slice (some ⟨b, off, none⟩) n cap, .int .i64 a] w fun e w' => e = .returned (.int .i64 (wdMax (fn l) p (e0 - p))) ∧ Below w.heap.size w w' := by
  subst ha
  have c0 : w.cell? ⟨b, off + p, none⟩ = some (.int .i64 (fn l p)) := hat _ (by omega)
  have hpn : (p : Int) < (n : Int) := by omega
  have hE1 := hE.lt
  have hE2 := hE.le
  go_enter Try.func73, Try.ntmps73
  go_wp2_with (go_at_call 90; refine (specWd _ _).mono ?_; rintro e w' ⟨rfl, hw⟩)
  go_loopw [5, 6] (fun q i wr => ∃ k : Nat, p < k ∧ k ≤ e0 ∧ i = .int .i64 k ∧ q = .int .i64 (wdMax (fn l) p (k - p)) ∧ Below w.heap.size w wr) (fun _ i _ => e0 - (intOf i).toNat)
  case atStart => exact ⟨p + 1, by omega, by omega, by go_num, by rw [show p + 1 - p = 1 by omega, wdMax_one], hw⟩
  case round =>
    obtain ⟨k, hk1, hk2, rfl, rfl, hbel⟩ := hrel
    by_cases hke : k < e0
    · have hj := hE.ins k hk1 hke
      obtain ⟨q, rfl⟩ : ∃ q, k = q + 1 := ⟨k - 1, by omega⟩
      have hz : ((q + 1 : Nat) : Int) = (q : Int) + 1 := by omega
      have hcell : w.cell? ⟨b, off + (q + 1), none⟩ = some (.int .i64 (fn l (q + 1))) := hat _ (by omega)
      have hbd := wdMax_bounds (fn l) p (q + 1 - p)
      have hbd2 := wd_bounds (fn l (q + 1))
      have hwl := (hat.below hbel hb) (q + 1) (by omega)
      by_cases hgt : wdMax (fn l) p (q + 1 - p) < wd (fn l (q + 1))
      · have HX : Hid _ := wdMax_more (z := fn l) (p := p) (c := q + 1 - p) (k := q + 1) (by omega) hgt
        go_wp2_with fail
        refine (specJoins b off cap n l _ q _ hn (Nat.lt_of_lt_of_le hb hbel.size) (hat.below hbel hb) hl hz (by omega)).mono ?_
        rintro e w2 ⟨rfl, hw2⟩
        have h2 := (hat.below (bstep hbel hw2) hb) (q + 1) (by omega)
        go_wp2_with fail
        refine (specWd _ _).mono ?_
        rintro e w3 ⟨rfl, hw3⟩
        have h3 := (hat.below (bstep (bstep hbel hw2) hw3) hb) (q + 1) (by omega)
        go_wp2_with fail
        refine (specWd _ _).mono ?_
        rintro e w4 ⟨rfl, hw4⟩
        go_wp2_with fail
        go_roundw
        case rel => exact ⟨q + 1 + 1, by omega, by omega, by go_num, by rw [show q + 1 + 1 - p = q + 1 - p + 1 by omega, HX.out], bstep (bstep (bstep hbel hw2) hw3) hw4⟩
        case measure => simp only [intOf]; omega
      · have HX : Hid _ := wdMax_less (z := fn l) (p := p) (c := q + 1 - p) (k := q + 1) (by omega) hgt
        go_wp2_with fail
        refine (specJoins b off cap n l _ q _ hn (Nat.lt_of_lt_of_le hb hbel.size) (hat.below hbel hb) hl hz (by omega)).mono ?_
        rintro e w2 ⟨rfl, hw2⟩
        have h2 := (hat.below (bstep hbel hw2) hb) (q + 1) (by omega)
        go_wp2_with fail
        refine (specWd _ _).mono ?_
        rintro e w3 ⟨rfl, hw3⟩
        go_wp2_with fail
        go_roundw
        case rel => exact ⟨q + 1 + 1, by omega, by omega, by go_num, by rw [show q + 1 + 1 - p = q + 1 - p + 1 by omega, HX.out], bstep (bstep hbel hw2) hw3⟩
        case measure => simp only [intOf]; omega
    · have ek : k = e0 := by omega
      subst ek
      by_cases hkn : k < n
      · have hj := hE.out hkn
        obtain ⟨q, rfl⟩ : ∃ q, k = q + 1 := ⟨k - 1, by omega⟩
        have hz : ((q + 1 : Nat) : Int) = (q : Int) + 1 := by omega
        go_wp2_with fail
        refine (specJoins b off cap n l _ q _ hn (Nat.lt_of_lt_of_le hb hbel.size) (hat.below hbel hb) hl hz (by omega)).mono ?_
        rintro e w2 ⟨rfl, hw2⟩
        go_wp2_with fail
        go_ret
        exact ⟨rfl, bstep hbel hw2⟩
      · go_wp2_with fail
        go_ret
        exact ⟨rfl, hbel⟩
end Go.Proofs.Ytbacfaddljjopaa
