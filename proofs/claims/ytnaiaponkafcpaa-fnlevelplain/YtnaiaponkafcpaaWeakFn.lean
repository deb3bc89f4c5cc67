import Derived.Test.YtnaiaponkafcpaaWeakS3
namespace Go.Proofs.Ytnaiaponkafcpaa
open Go.ChangeShapes Go.WideShapes Go.ChangeAt Go.RowKit
set_option linter.unusedSimpArgs false

attribute [local go_sem] store_func index7_0 index7_1 index7_2 index7_3 index7_4 index7_5 index7_6

set_option maxRecDepth 10000 in
set_option maxHeartbeats 4000000 in
theorem implWeak_nil (a : Option Addr) (cap : Nat) (b : Int) (w : World) (h1 : Hid (sideB b = true)) :
    Calls Try.prog 15 #[.slice a 0 cap, .int .i64 b] w fun e w' => (∃ v', e = .returned v' ∧ OwnI w' w.heap.size v' []) ∧ Below w.heap.size w w' := by
  have HA : Arg w (.slice a 0 cap) [] := .inl ⟨_, _, rfl, rfl⟩
  go_enter Try.func15, Try.ntmps15
  go_wp2_with fail
  refine (implCls _ [] 0 w rfl HA (by omega)).mono ?_
  rintro e w1 ⟨rfl, rfl⟩
  go_wp2_with fail
  refine (implSide? _ _).mono ?_
  rintro e w2 ⟨rfl, rfl⟩
  rw [h1.out]
  go_wp2_with fail
  refine (clone_any _ [] _ HA (by simp)).mono ?_
  rintro e w4 ⟨⟨v4, rfl, o4⟩, b4⟩
  obtain ⟨a4, cp, rfl⟩ : ∃ a4 cp, v4 = .slice a4 0 cp := by
    rcases o4.forms with ⟨rfl, _⟩ | ⟨g, cp, rfl, _⟩
    · exact ⟨_, _, rfl⟩
    · exact ⟨_, _, rfl⟩
  have hs4 := b4.size
  go_wp2_with fail
  go_loopw [38] (fun i wr => ∃ k : Nat, k ≤ 7 ∧ i = .int .i64 k ∧ OwnI wr w2.heap.size (.slice a4 0 cp) [] ∧ WT0 wr w4.heap.size cp a4 b ∧ Below w2.heap.size w2 wr) (fun i _ => 7 - (intOf i).toNat)
  case atStart =>
    refine ⟨0, by omega, rfl, ?_, ⟨by simp, by simp⟩, ?_⟩
    · exact World.ownsRow.alloc (World.ownsRow.alloc o4 _) _
    · exact (b4.alloc hs4 _).alloc (by simp; omega) _
  case round =>
    obtain ⟨k, hk, rfl, ho, hw, hbel⟩ := hrel
    have HO : Hid _ := ho
    have HW : Hid _ := hw
    have HBEL : Hid _ := hbel
    obtain ⟨q0, q1⟩ := hw
    clear ho hbel o4 b4
    rcases (by omega : k = 0 ∨ k = 1 ∨ k = 2 ∨ k = 3 ∨ k = 4 ∨ k = 5 ∨ k = 6 ∨ k = 7) with rfl | rfl | rfl | rfl | rfl | rfl | rfl | rfl
    · go_wp2_with fail
      refine (implR1z _ cp a4 b _ HW.out).mono ?_
      rintro e w' ⟨rfl, rfl⟩
      go_wp2_with fail
      exact ⟨⟨1, by omega, by go_num, HO.out, HW.out, HBEL.out⟩, by simp [intOf]⟩
    · go_wp2_with fail
      refine (implR2z _ cp a4 b _ HW.out).mono ?_
      rintro e w' ⟨rfl, rfl⟩
      go_wp2_with fail
      exact ⟨⟨2, by omega, by go_num, HO.out, HW.out, HBEL.out⟩, by simp [intOf]⟩
    · go_wp2_with fail
      refine (implR3z _ cp a4 b _ HW.out).mono ?_
      rintro e w' ⟨rfl, rfl⟩
      go_wp2_with fail
      exact ⟨⟨3, by omega, by go_num, HO.out, HW.out, HBEL.out⟩, by simp [intOf]⟩
    · go_wp2_with fail
      refine (implR4z _ cp a4 b _ HW.out).mono ?_
      rintro e w' ⟨rfl, rfl⟩
      go_wp2_with fail
      exact ⟨⟨4, by omega, by go_num, HO.out, HW.out, HBEL.out⟩, by simp [intOf]⟩
    · go_wp2_with fail
      refine (implR5z _ cp a4 b _ HW.out).mono ?_
      rintro e w' ⟨rfl, rfl⟩
      go_wp2_with fail
      exact ⟨⟨5, by omega, by go_num, HO.out, HW.out, HBEL.out⟩, by simp [intOf]⟩
    · go_wp2_with fail
      refine (implR6z _ cp a4 b _ HW.out).mono ?_
      rintro e w' ⟨rfl, rfl⟩
      go_wp2_with fail
      exact ⟨⟨6, by omega, by go_num, HO.out, HW.out, HBEL.out⟩, by simp [intOf]⟩
    · go_wp2_with fail
      refine (implR7z _ cp a4 b _ HW.out).mono ?_
      rintro e w' ⟨rfl, rfl⟩
      go_wp2_with fail
      exact ⟨⟨7, by omega, by go_num, HO.out, HW.out, HBEL.out⟩, by simp [intOf]⟩
    · go_wp2_with fail
      go_ret
      exact ⟨⟨_, rfl, HO.out⟩, HBEL.out⟩

set_option maxHeartbeats 4000000 in
theorem implWeak (v : Value) (l : List Int) (b : Int) (w : World) (a0 : Option Addr) (cap0 : Nat) (hva : v = .slice a0 l.length cap0) (hv : Arg w v l) (hl : l.length ≤ 1048576) :
    Calls Try.prog 15 #[v, .int .i64 b] w fun e w' => (∃ v', e = .returned v' ∧ OwnI w' w.heap.size v' (weakR l b)) ∧ Below w.heap.size w w' := by
  subst hva
  by_cases hc : clsOk (fn l) l.length = true
  · by_cases h1 : sideB b = true
    · rw [weakR_yes ⟨hc, h1⟩]
      by_cases h0 : l = []
      · subst h0
        have e : weakL [] b = [] := by simp [weakL, r1, r2, r3, r4, r5, r6, r7, mkL]
        rw [e]
        exact implWeak_nil a0 cap0 b w h1
      · rcases hv with ⟨_, _, _, e⟩ | ⟨ba, off, cap, e, hb, hlc, hcm, hat⟩
        · exact absurd e h0
        · cases e
          exact implWeak_row ba off cap0 l.length l b w rfl (by cases l with | nil => exact absurd rfl h0 | cons => simp) (clsOk_out hc).1 hlc hcm hb hat hc h1
    · have h1' : sideB b = false := by simpa using h1
      rw [weakR_no (fun h => h1 h.2)]
      have HC : Hid _ := hc
      have H1 : Hid _ := h1'
      clear hc h1 h1'
      go_enter Try.func15, Try.ntmps15
      go_wp2_with fail
      refine (implCls _ l l.length w rfl hv (by omega)).mono ?_
      rintro e w1 ⟨rfl, rfl⟩
      rw [HC.out]
      go_wp2_with fail
      refine (implSide? _ _).mono ?_
      rintro e w2 ⟨rfl, rfl⟩
      rw [H1.out]
      go_wp2_with fail
      go_ret
      exact ⟨⟨_, rfl, OwnI.nil _ _⟩, Below.refl _ _⟩
  · have hc' : clsOk (fn l) l.length = false := by simpa using hc
    rw [weakR_no (fun h => hc h.1)]
    have HC : Hid _ := hc'
    clear hc hc'
    go_enter Try.func15, Try.ntmps15
    go_wp2_with fail
    refine (implCls _ l l.length w rfl hv (by omega)).mono ?_
    rintro e w1 ⟨rfl, rfl⟩
    rw [HC.out]
    go_wp2_with fail
    go_ret
    exact ⟨⟨_, rfl, OwnI.nil _ _⟩, Below.refl _ _⟩

set_option maxHeartbeats 1000000 in
theorem specR1z (a : Option Addr) (cp : Nat) (b : Int) (w : World) : Calls Try.prog 87 #[.slice a 0 cp, .int .i64 b] w fun e w' => e = .returned (.tuple #[]) ∧ w' = w := by
  go_enter Try.func87, Try.ntmps87
  go_wp2
  go_rounds 1
  go_end0
  exact ⟨rfl, rfl⟩
set_option maxHeartbeats 1000000 in
theorem specR4z (a : Option Addr) (cp : Nat) (w : World) : Calls Try.prog 89 #[.slice a 0 cp] w fun e w' => e = .returned (.tuple #[]) ∧ w' = w := by
  go_enter Try.func89, Try.ntmps89
  go_wp2
  go_rounds 1
  go_end0
  exact ⟨rfl, rfl⟩
set_option maxHeartbeats 1000000 in
theorem specR5z (a : Option Addr) (cp : Nat) (w : World) : Calls Try.prog 90 #[.slice a 0 cp] w fun e w' => e = .returned (.tuple #[]) ∧ w' = w := by
  go_enter Try.func90, Try.ntmps90
  go_wp2
  go_rounds 1
  go_end0
  exact ⟨rfl, rfl⟩

set_option maxRecDepth 10000 in
set_option maxHeartbeats 4000000 in
theorem specWeak_nil (a : Option Addr) (cap : Nat) (b : Int) (w : World) :
    Calls Try.prog 56 #[.slice a 0 cap, .int .i64 b] w fun e w' => (∃ v', e = .returned v' ∧ OwnI w' w.heap.size v' []) ∧ Below w.heap.size w w' := by
  have ho := own_empty w w.heap.size 3 (Nat.le_refl _) rfl
  cases a with
  | none =>
    go_enter Try.func56, Try.ntmps56
    go_wp2_with fail
    refine (specR1z _ _ _ _).mono ?_
    rintro e w1 ⟨rfl, rfl⟩
    go_wp2_with fail
    go_rounds 1
    go_rounds 1
    go_rounds 1
    go_rounds 1
    go_rounds 1
    go_rounds 1
    go_ret
    exact ⟨⟨_, rfl, ho⟩, by go_grown⟩
  | some ad =>
    go_enter Try.func56, Try.ntmps56
    go_wp2_with fail
    refine (specR1z _ _ _ _).mono ?_
    rintro e w1 ⟨rfl, rfl⟩
    go_wp2_with fail
    go_rounds 1
    go_rounds 1
    go_rounds 1
    go_rounds 1
    go_rounds 1
    go_rounds 1
    go_ret
    exact ⟨⟨_, rfl, ho⟩, by go_grown⟩

set_option maxHeartbeats 4000000 in
theorem specWeak (v : Value) (l : List Int) (b : Int) (w : World) (a0 : Option Addr) (cap0 : Nat) (hva : v = .slice a0 l.length cap0) (hv : Arg w v l) (hl : l.length ≤ 1048576) :
    Calls Try.prog 17 #[v, .int .i64 b] w fun e w' => (∃ v', e = .returned v' ∧ OwnI w' w.heap.size v' (weakR l b)) ∧ Below w.heap.size w w' := by
  subst hva
  have ho := own_empty w w.heap.size 3 (Nat.le_refl _) rfl
  by_cases hc : clsOk (fn l) l.length = true
  · by_cases h1 : sideB b = true
    · rw [weakR_yes ⟨hc, h1⟩]
      have h80 := (clsOk_out hc).1
      have HC : Hid _ := hc
      have H1 : Hid _ := h1
      clear hc h1
      go_enter Try.func17, Try.ntmps17
      go_wp2_with fail
      refine (specCls _ l l.length w rfl hv (by omega)).mono ?_
      rintro e w1 ⟨rfl, rfl⟩
      rw [HC.out]
      go_wp2_with fail
      refine (specSide? _ _).mono ?_
      rintro e w2 ⟨rfl, rfl⟩
      rw [H1.out]
      go_wp2_with fail
      by_cases h0 : l = []
      · subst h0
        refine (specWeak_nil a0 cap0 b _).mono ?_
        rintro e w5 ⟨⟨v5, rfl, o5⟩, b5⟩
        go_wp2_with fail
        go_ret
        exact ⟨⟨_, rfl, by simpa [weakL, r1, r2, r3, r4, r5, r6, r7, mkL] using o5⟩, b5⟩
      · rcases hv with ⟨_, _, _, e⟩ | ⟨ba, off, cap, e, hb, hlc, hcm, hat⟩
        · exact absurd e h0
        · cases e
          refine (specWeak_row ba off cap0 l.length l b _ rfl (by cases l with | nil => exact absurd rfl h0 | cons => simp) h80 hb hat H1).mono ?_
          rintro e w5 ⟨⟨v5, rfl, o5⟩, b5⟩
          go_wp2_with fail
          go_ret
          exact ⟨⟨_, rfl, o5⟩, b5⟩
    · have h1' : sideB b = false := by simpa using h1
      rw [weakR_no (fun h => h1 h.2)]
      have HC : Hid _ := hc
      have H1 : Hid _ := h1'
      clear hc h1 h1'
      go_enter Try.func17, Try.ntmps17
      go_wp2_with fail
      refine (specCls _ l l.length w rfl hv (by omega)).mono ?_
      rintro e w1 ⟨rfl, rfl⟩
      rw [HC.out]
      go_wp2_with fail
      refine (specSide? _ _).mono ?_
      rintro e w2 ⟨rfl, rfl⟩
      rw [H1.out]
      go_wp2_with fail
      go_ret
      exact ⟨⟨_, rfl, ho⟩, by go_grown⟩
  · have hc' : clsOk (fn l) l.length = false := by simpa using hc
    rw [weakR_no (fun h => hc h.1)]
    have HC : Hid _ := hc'
    clear hc hc'
    go_enter Try.func17, Try.ntmps17
    go_wp2_with fail
    refine (specCls _ l l.length w rfl hv (by omega)).mono ?_
    rintro e w1 ⟨rfl, rfl⟩
    rw [HC.out]
    go_wp2_with fail
    go_ret
    exact ⟨⟨_, rfl, ho⟩, by go_grown⟩
end Go.Proofs.Ytnaiaponkafcpaa
