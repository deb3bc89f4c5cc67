import Derived.Test.YtanhmphmpobceaaBidi
import Derived.Test.YtanhmphmpobceaaWordMath
import Derived.Test.YtanhmphmpobceaaL2At
import Derived.Test.YtanhmphmpobceaaAppend
namespace Go.Proofs.Ytanhmphmpobceaa
open Go.ChangeShapes Go.WideShapes Go.ChangeAt Go.RowKit
set_option linter.unusedSimpArgs false

set_option maxHeartbeats 1000000 in
theorem specWord (b off cap n : Nat) (l : List Int) (a : Int) (p : Nat) (w : World) (hn : l.length = n) (hat : At w b off l) (_hl : n ≤ 4194304) (ha : a = (p : Int)) (hp : p < n) :
    Calls Try.prog 36 #[.slice (some ⟨b, off, none⟩) n cap, .int .i64 a] w fun e w' => e = .returned (.bool (wordC (fn l p))) ∧ Below w.heap.size w w' := by
  subst ha
  have hcell : w.cell? ⟨b, off + p, none⟩ = some (.int .i64 (fn l p)) := hat p (by omega)
  go_enter Try.func36, Try.ntmps36
  go_wp2_with fail
  refine (specBidi _ _).mono ?_
  rintro e w2 ⟨rfl, hb2⟩
  go_wp2_with fail
  all_goals (go_ret; refine ⟨retBool ?_, hb2⟩)
  all_goals (rw [Bool.eq_iff_iff]; simp_all [wordC, wcls])

set_option maxHeartbeats 1000000 in
theorem specBegins (b off cap n : Nat) (l : List Int) (a : Int) (p : Nat) (w : World) (hn : l.length = n) (hb : b < w.heap.size) (hat : At w b off l) (hl : n ≤ 4194304) (ha : a = (p : Int)) (hp : p < n) :
    Calls Try.prog 33 #[.slice (some ⟨b, off, none⟩) n cap, .int .i64 a] w fun e w' => e = .returned (.bool (wbeg (fn l) p)) ∧ Below w.heap.size w w' := by
  subst ha
  cases hbeg : begins (fn l) p
  · have hne : ((atOf (fn l) p : Int) == (p : Int)) = false := by
      have := (atOf_self (fn l) p); rw [hbeg] at this; simp at this; simp; omega
    have HW : Hid (wbeg (fn l) p = false) := show wbeg (fn l) p = false by
      cases p with
      | zero => simp [begins] at hbeg
      | succ q => simp [wbeg, hbeg]
    go_enter Try.func33, Try.ntmps33
    go_wp2_with fail
    refine (specL2At b off cap n l _ p _ hn hb hat hl rfl hp).mono ?_
    rintro e w2 ⟨rfl, hb2⟩
    go_wp2_with fail
    go_ret
    exact ⟨retBool HW.out.symm, hb2⟩
  · have he : Hid (atOf (fn l) p = p) := (atOf_self (fn l) p).2 hbeg
    have hne : ((atOf (fn l) p : Int) == (p : Int)) = true := by rw [he.out]; simp
    by_cases hp0 : p = 0
    · subst hp0
      go_enter Try.func33, Try.ntmps33
      go_wp2_with fail
      refine (specL2At b off cap n l _ 0 _ hn hb hat hl rfl hp).mono ?_
      rintro e w2 ⟨rfl, hb2⟩
      go_wp2_with fail
      go_ret
      exact ⟨rfl, hb2⟩
    · obtain ⟨q, rfl⟩ : ∃ q, p = q + 1 := ⟨p - 1, by omega⟩
      have hle := atOf_le (fn l) q
      have hp1 : (((q + 1 : Nat) : Int) == 0) = false := by simp; omega
      have HW : Hid (wbeg (fn l) (q + 1) = (wordC (fn l (q + 1)) != wordC (fn l (atOf (fn l) q)))) := show wbeg (fn l) (q + 1) = _ by simp [wbeg, hbeg]
      go_enter Try.func33, Try.ntmps33
      go_wp2_with fail
      refine (specL2At b off cap n l _ (q + 1) _ hn hb hat hl rfl hp).mono ?_
      rintro e w2 ⟨rfl, hb2⟩
      have hb2' := Nat.lt_of_lt_of_le hb hb2.size
      have hat2 := hat.below hb2 hb
      go_wp2_with fail
      refine (specWord b off cap n l _ (q + 1) _ hn hat2 hl rfl hp).mono ?_
      rintro e w3 ⟨rfl, hb3⟩
      go_wp2_with fail
      refine (specL2At b off cap n l _ q _ hn (Nat.lt_of_lt_of_le hb2' hb3.size) (hat2.below hb3 hb2') hl rfl (by omega)).mono ?_
      rintro e w4 ⟨rfl, hb4⟩
      go_wp2_with fail
      refine (specWord b off cap n l _ (atOf (fn l) q) _ hn ((hat2.below hb3 hb2').below hb4 (Nat.lt_of_lt_of_le hb2' hb3.size)) hl rfl (by omega)).mono ?_
      rintro e w5 ⟨rfl, hb5⟩
      go_wp2_with fail
      go_ret
      refine ⟨retBool ?_, bstep (bstep (bstep hb2 hb3) hb4) hb5⟩
      rw [HW.out]
      first | rfl | simp [bne]

set_option maxHeartbeats 4000000 in
theorem specWordStarts (v : Value) (l : List Int) (w : World) (hv : Arg w v l) (hl : l.length ≤ 4194304) :
    Calls Try.prog 12 #[v] w fun e w' => (∃ v', e = .returned v' ∧ OwnI w' w.heap.size v' (words l)) ∧ Below w.heap.size w w' := by
  cases hok : okF (fn l) l.length
  · have HC : Hid (words l = []) := words_bad hok
    have HO := specOk v l
    go_enter Try.func12, Try.ntmps12
    go_wp2_with (go_at_call 32; refine (specOk _ l _ (hv.below (by go_grown)) hl).mono ?_; rintro e w' ⟨rfl, rfl⟩)
    go_ret
    exact ⟨⟨_, rfl, by rw [HC.out]; exact own_empty _ _ _ (Nat.le_refl _) rfl⟩, by go_grown⟩
  · have HC : Hid (words l = wstarts (fn l) l.length) := words_ok hok
    have hv2 := hv
    rcases hv with ⟨a0, c0, rfl, rfl⟩ | ⟨b, off, cap, rfl, hb, hlc, hcm, hat⟩
    · go_enter Try.func12, Try.ntmps12
      go_wp2_with (go_at_call 32; refine (specOk _ [] _ (.inl ⟨_, _, rfl, rfl⟩) hl).mono ?_; rintro e w' ⟨rfl, rfl⟩)
      go_rounds 1
      go_ret
      exact ⟨⟨_, rfl, own_empty _ _ _ (Nat.le_refl _) rfl⟩, by go_grown⟩
    · obtain ⟨n, hn⟩ : ∃ n, l.length = n := ⟨_, rfl⟩
      have HO := fun (v' : Value) (w' : World) (h : Arg w' v' l) => specOk v' l w' h hl
      rw [hn] at HC HO hok hl hv2 ⊢
      go_enter Try.func12, Try.ntmps12
      go_wp2_with (go_at_call 32; refine (HO _ _ (hv2.below (by go_grown))).mono ?_; rintro e w' ⟨rfl, rfl⟩)
      go_loopw [3, 4] (fun q i wr => ∃ k : Nat, k ≤ n ∧ i = .int .i64 k ∧ OwnI wr w.heap.size q (wstarts (fn l) k) ∧ Below w.heap.size w wr) (fun _ i _ => n - (intOf i).toNat)
      case atStart => exact ⟨0, Nat.zero_le _, rfl, own_empty _ _ _ (Nat.le_refl _) rfl, by go_grown⟩
      case round =>
        obtain ⟨k, hk, rfl, hown, hbel⟩ := hrel
        by_cases hlt : k < n
        · have hle := wstarts_len (fn l) k
          cases hbeg : wbeg (fn l) k
          · go_wp2_with (first | (go_at_call 33; refine (specBegins b off cap n l _ k _ hn (Nat.lt_of_lt_of_le hb hbel.size) (hat.below hbel hb) hl rfl hlt).mono ?_; rintro e w2 ⟨rfl, hw2⟩))
            go_roundw
            case rel => exact ⟨k + 1, by omega, by go_num, by rw [wstarts_no hbeg]; exact hown.below hw2, hbel.trans (hw2.mono hbel.size)⟩
            case measure => simp only [intOf]; omega
          · go_wp2_with (first | (go_at_call 33; refine (specBegins b off cap n l _ k _ hn (Nat.lt_of_lt_of_le hb hbel.size) (hat.below hbel hb) hl rfl hlt).mono ?_; rintro e w2 ⟨rfl, hw2⟩) | (at_builtin; refine own_append (.tmp 19) (.tmp 21) (hown.below hw2) (by omega) (Nat.le_trans hbel.size hw2.size) rfl rfl rfl rfl ?_; intro v' w1 hown1 hgr1))
            go_roundw
            case rel => exact ⟨k + 1, by omega, by go_num, by rw [wstarts_yes hbeg]; exact hown1, grown_below (hbel.trans (hw2.mono hbel.size)) hgr1 (hown.below hw2) (Nat.le_refl _) (Nat.le_trans hbel.size hw2.size)⟩
            case measure => simp only [intOf]; omega
        · have e : k = n := by omega
          subst e
          go_wp2
          go_ret
          exact ⟨⟨_, rfl, by rw [HC.out]; exact hown⟩, hbel⟩
end Go.Proofs.Ytanhmphmpobceaa
