import Derived.Test.YtnaiaponkafcpaaSides2
namespace Go.Proofs.Ytnaiaponkafcpaa
open Go.ChangeShapes Go.WideShapes Go.ChangeAt Go.RowKit
set_option linter.unusedSimpArgs false

/-- The side of a text. -/
def BaseIs (l : List Int) (W : Int) : Prop :=
  (okF (fn l) l.length = false ∧ W = 0) ∨ ∃ mt : Nat → Nat, okF (fn l) l.length = true ∧ MateFn (cl l) l.length mt ∧ W = sideFrom (cl l) mt l.length 0
theorem BaseIs.bad {l : List Int} (hok : okF (fn l) l.length = false) : BaseIs l 0 := .inl ⟨hok, rfl⟩
theorem BaseIs.good {l : List Int} (mt : Nat → Nat) (hok : okF (fn l) l.length = true) (hmt : MateFn (cl l) l.length mt) : BaseIs l (sideFrom (cl l) mt l.length 0) := .inr ⟨mt, hok, hmt, rfl⟩
theorem baseIs_some (l : List Int) : ∃ W, BaseIs l W := by
  cases hok : okF (fn l) l.length
  · exact ⟨0, .bad hok⟩
  · obtain ⟨mt, h⟩ := mt_exists (cl l) l.length
    exact ⟨_, .good mt hok h⟩

set_option maxHeartbeats 1000000 in
theorem specLB (v : Value) (l : List Int) (n : Nat) (W : Int) (a0 : Option Addr) (cap : Nat) (w : World) (hn : Hid (l.length = n)) (hva : v = .slice a0 n cap) (hv : Arg w v l) (hl : n ≤ 4194304) (hW : BaseIs l W) :
    Calls Try.prog 11 #[v] w fun e w' => e = .returned (.int .i64 W) ∧ Below w.heap.size w w' := by
  have HO := specOk v l w hv (by rw [hn.out]; exact hl)
  rcases hW with ⟨hok, rfl⟩ | ⟨mt, hok, hmt, rfl⟩
  · rw [hok] at HO
    subst hva
    go_enter Try.func11, Try.ntmps11
    go_wp2_with (go_at_call 40; refine HO.mono ?_; rintro e w' ⟨rfl, rfl⟩)
    go_ret
    exact ⟨rfl, Below.refl _ _⟩
  · rw [hok] at HO
    rw [hn.out] at hmt ⊢
    have HMT : Hid _ := hmt
    clear hmt
    rcases hv with ⟨a1, c1, h1, h2⟩ | ⟨b, off, cap', hv1, hbw, hlc, hcm, hat⟩
    · have hn0 : n = 0 := by have := hn.out; rw [h2] at this; simpa using this.symm
      subst hn0
      subst h1
      clear hva
      have HZ : Hid (sideFrom (cl l) mt 0 0 = 0) := side_end (by omega)
      go_enter Try.func11, Try.ntmps11
      go_wp2_with (first | (go_at_call 40; refine HO.mono ?_; rintro e w' ⟨rfl, rfl⟩) | go_in)
      go_rounds 1
      go_ret
      exact ⟨retInt HZ.out.symm, Below.refl _ _⟩
    · rw [hn.out] at hv1
      subst hv1
      clear hva
      go_enter Try.func11, Try.ntmps11
      go_wp2_with (first | (go_at_call 40; refine HO.mono ?_; rintro e w' ⟨rfl, rfl⟩) | (go_at_call 41; refine (specBaseL b off cap' n l mt _ _ 0 n _ hn.out hbw hat hl HMT rfl rfl (by omega) (by omega)).mono ?_; rintro e w2 ⟨rfl, b2⟩))
      go_ret
      exact ⟨rfl, b2⟩

set_option maxHeartbeats 1000000 in
theorem implLB (v : Value) (l : List Int) (n : Nat) (W : Int) (a0 : Option Addr) (cap : Nat) (w : World) (hn : Hid (l.length = n)) (hva : v = .slice a0 n cap) (hv : Arg w v l) (hl : n ≤ 1048576) (hW : BaseIs l W) :
    Calls Try.prog 10 #[v] w fun e w' => e = .returned (.int .i64 W) ∧ Below w.heap.size w w' := by
  have HO := implOk v l w hv (by rw [hn.out]; omega)
  rcases hW with ⟨hok, rfl⟩ | ⟨mt, hok, hmt, rfl⟩
  · rw [hok] at HO
    subst hva
    go_enter Try.func10, Try.ntmps10
    go_wp2_with (go_at_call 36; refine HO.mono ?_; rintro e w' ⟨rfl, rfl⟩)
    go_ret
    exact ⟨rfl, Below.refl _ _⟩
  · rw [hok] at HO
    rw [hn.out] at hmt ⊢
    have HMT : Hid _ := hmt
    clear hmt
    have HC := classes_any v l w hv (by rw [hn.out]; exact hl)
    rw [hn.out] at HC
    have hcl : (clsL l).length = n := by rw [clsL_len, hn.out]
    have HCL : Hid _ := hcl
    clear hcl
    subst hva
    go_enter Try.func10, Try.ntmps10
    go_wp2_with (first | (go_at_call 36; refine HO.mono ?_; rintro e w' ⟨rfl, rfl⟩) | (go_at_call 37; refine HC.mono ?_; rintro e w1 ⟨⟨g, rfl, oc⟩, b1⟩))
    have hgc := oc.lt g rfl
    have hatc : At w1 g 0 (clsL l) := by
      intro j hj
      have := oc.cellN j (by rw [HCL.out] at hj; exact hj)
      rwa [Nat.zero_add]
    have hfc : Hid (∀ j, j < n → fn (clsL l) j = cl l j) := fun j hj => fn_clsL (by rw [hn.out]; exact hj)
    refine (mates_row g 0 n n (clsL l) (cl l) w1 HCL.out hl hgc.2 hatc hfc).mono ?_
    rintro e w2 ⟨⟨gm, M, rfl, om, hM⟩, b2⟩
    have hatm : At w2 gm 0 M := by
      intro j hj
      have := om.cellN j (by rw [om.len] at hj; exact hj)
      rwa [Nat.zero_add]
    have hatc2 := hatc.below b2 hgc.2
    go_wp2_with fail
    refine (implSide g 0 n n gm 0 n (clsL l) M (cl l) mt _ _ 0 n _ HCL.out om.len hatc2 hatm (by omega) hfc HMT (same_mates HMT.out hM.out) rfl rfl (by omega) (by omega)).mono ?_
    rintro e w3 ⟨rfl, rfl⟩
    go_wp2_with fail
    go_ret
    exact ⟨rfl, bstep b1 b2⟩
end Go.Proofs.Ytnaiaponkafcpaa
