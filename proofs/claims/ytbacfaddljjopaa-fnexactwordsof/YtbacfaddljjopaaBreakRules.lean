import Derived.Test.YtbacfaddljjopaaBreakFn
namespace Go.Proofs.Ytbacfaddljjopaa
open Go.ChangeShapes Go.WideShapes Go.ChangeAt Go.RowKit
set_option linter.unusedSimpArgs false
attribute [local go_sem ↓] Go.wp_at_zero Go.wp_at_succ

def ruleC (h n s : Int) : Nat → Bool
  | 0 => h == 4
  | 1 => memB n [4, 3, 6]
  | 2 => s == 6
  | 3 => h == 5 || (n == 5 && !memB h [3, 14, 12])
  | 4 => (memB n [9, 10, 13] && h != 3) || (memB n [9, 10] && s != 0)
  | 5 => s == 8
  | 6 => h == 3
  | 7 => h == 11 || memB n [11, 14, 12]
  | _ => withinB h n
def ruleX : Nat → Int
  | 0 => 2
  | 2 => 1
  | 6 => 1
  | _ => 0
def ans (h n s : Int) (k : Nat) : Int := pickA (ruleC h n s k) (ruleX k)

/-- What the rules share: the answering function, and what they are asked of. -/
structure Env (w : World) (X H N S : Nat) (h n s : Int) : Prop where
  ans : w.cell? ⟨X, 0, none⟩ = some (.func (Fn.func 108) #[] #[])
  here : w.cell? ⟨H, 0, none⟩ = some (.int .i64 h)
  next : w.cell? ⟨N, 0, none⟩ = some (.int .i64 n)
  solid : w.cell? ⟨S, 0, none⟩ = some (.int .i64 s)
  lx : X < w.heap.size
  lh : H < w.heap.size
  ln : N < w.heap.size
  ls : S < w.heap.size
theorem Env.below {w w' : World} {X H N S : Nat} {h n s : Int} (e : Env w X H N S h n s) (b : Below w.heap.size w w') : Env w' X H N S h n s :=
  ⟨(b.cell (p := ⟨X, 0, none⟩) e.lx).trans e.ans, (b.cell (p := ⟨H, 0, none⟩) e.lh).trans e.here, (b.cell (p := ⟨N, 0, none⟩) e.ln).trans e.next, (b.cell (p := ⟨S, 0, none⟩) e.ls).trans e.solid,
    Nat.lt_of_lt_of_le e.lx b.size, Nat.lt_of_lt_of_le e.lh b.size, Nat.lt_of_lt_of_le e.ln b.size, Nat.lt_of_lt_of_le e.ls b.size⟩


set_option maxHeartbeats 1000000 in
theorem rule0 (w : World) (X H N S : Nat) (h n s : Int) (E : Env w X H N S h n s) : Calls Try.prog 109 #[.pointer (some ⟨X, 0, none⟩), .pointer (some ⟨H, 0, none⟩)] w fun e w' => e = .returned (.int .i64 (ans h n s 0)) ∧ Below w.heap.size w w' := by
  obtain ⟨c1, c2, c3, c4, _, _, _, _⟩ := E
  go_enter Try.func109, Try.ntmps109
  go_wp2_with fail
  refine (answer_any _ _ _).mono ?_
  rintro e w1 ⟨rfl, rfl⟩
  go_wp2_with fail
  go_ret
  exact ⟨rfl, Below.refl _ _⟩
set_option maxHeartbeats 1000000 in
theorem rule2 (w : World) (X H N S : Nat) (h n s : Int) (E : Env w X H N S h n s) : Calls Try.prog 111 #[.pointer (some ⟨X, 0, none⟩), .pointer (some ⟨S, 0, none⟩)] w fun e w' => e = .returned (.int .i64 (ans h n s 2)) ∧ Below w.heap.size w w' := by
  obtain ⟨c1, c2, c3, c4, _, _, _, _⟩ := E
  go_enter Try.func111, Try.ntmps111
  go_wp2_with fail
  refine (answer_any _ _ _).mono ?_
  rintro e w1 ⟨rfl, rfl⟩
  go_wp2_with fail
  go_ret
  exact ⟨rfl, Below.refl _ _⟩
set_option maxHeartbeats 1000000 in
theorem rule5 (w : World) (X H N S : Nat) (h n s : Int) (E : Env w X H N S h n s) : Calls Try.prog 114 #[.pointer (some ⟨X, 0, none⟩), .pointer (some ⟨S, 0, none⟩)] w fun e w' => e = .returned (.int .i64 (ans h n s 5)) ∧ Below w.heap.size w w' := by
  obtain ⟨c1, c2, c3, c4, _, _, _, _⟩ := E
  go_enter Try.func114, Try.ntmps114
  go_wp2_with fail
  refine (answer_any _ _ _).mono ?_
  rintro e w1 ⟨rfl, rfl⟩
  go_wp2_with fail
  go_ret
  exact ⟨rfl, Below.refl _ _⟩
set_option maxHeartbeats 1000000 in
theorem rule6 (w : World) (X H N S : Nat) (h n s : Int) (E : Env w X H N S h n s) : Calls Try.prog 115 #[.pointer (some ⟨X, 0, none⟩), .pointer (some ⟨H, 0, none⟩)] w fun e w' => e = .returned (.int .i64 (ans h n s 6)) ∧ Below w.heap.size w w' := by
  obtain ⟨c1, c2, c3, c4, _, _, _, _⟩ := E
  go_enter Try.func115, Try.ntmps115
  go_wp2_with fail
  refine (answer_any _ _ _).mono ?_
  rintro e w1 ⟨rfl, rfl⟩
  go_wp2_with fail
  go_ret
  exact ⟨rfl, Below.refl _ _⟩

set_option maxHeartbeats 2000000 in
theorem rule1 (w : World) (X H N S : Nat) (h n s : Int) (E : Env w X H N S h n s) : Calls Try.prog 110 #[.pointer (some ⟨X, 0, none⟩), .pointer (some ⟨N, 0, none⟩)] w fun e w' => e = .returned (.int .i64 (ans h n s 1)) ∧ Below w.heap.size w w' := by
  obtain ⟨c1, c2, c3, c4, l1, l2, l3, l4⟩ := E
  have a1 : X ≠ w.heap.size := by omega
  have a2 : N ≠ w.heap.size := by omega
  go_enter Try.func110, Try.ntmps110
  go_wp2_with fail
  go_region_with (first | (go_at_call 97; refine (oneOf_any _ 0 _ 3 [4, 3, 6] n _ rfl (by omega) (by exact at3 _ _ 4 3 6)).mono ?_; rintro e w5 ⟨rfl, rfl⟩) | (go_at_call 108; refine (answer_any _ _ _).mono ?_; rintro e w6 ⟨rfl, rfl⟩))
  all_goals (go_wp2_with fail)
  all_goals go_ret
  all_goals exact ⟨rfl, ((Below.refl _ _).alloc (Nat.le_refl _) _).drew⟩

set_option maxHeartbeats 2000000 in
theorem rule8 (w : World) (X H N S : Nat) (h n s : Int) (E : Env w X H N S h n s) : Calls Try.prog 117 #[.pointer (some ⟨X, 0, none⟩), .pointer (some ⟨H, 0, none⟩), .pointer (some ⟨N, 0, none⟩)] w fun e w' => e = .returned (.int .i64 (ans h n s 8)) ∧ Below w.heap.size w w' := by
  obtain ⟨c1, c2, c3, c4, l1, l2, l3, l4⟩ := E
  have e1 := Gr.cell c1 l1
  have e2 := Gr.cell c2 l2
  have e3 := Gr.cell c3 l3
  go_enter Try.func117, Try.ntmps117
  go_wp2_with fail
  refine wp_region_grow (by kernel_rfl) (by kernel_rfl) ?_
  intro hneGr
  repeat (go_big_quiet_step (first | (go_at_call 118; exact Calls.grow_of (within_any _ _ _)) | (go_at_call 108; exact Calls.grow_of_same (answer_any _ _ _))))
  refine wpQuiet_nil ?_
  intro w5 hu5
  have b5 := gr_out hu5
  clear hu5
  go_wp2_with fail
  go_ret
  exact ⟨rfl, b5⟩

set_option maxHeartbeats 2000000 in
theorem rule3 (w : World) (X H N S : Nat) (h n s : Int) (E : Env w X H N S h n s) : Calls Try.prog 112 #[.pointer (some ⟨N, 0, none⟩), .pointer (some ⟨H, 0, none⟩), .pointer (some ⟨X, 0, none⟩)] w fun e w' => e = .returned (.int .i64 (ans h n s 3)) ∧ Below w.heap.size w w' := by
  obtain ⟨c1, c2, c3, c4, l1, l2, l3, l4⟩ := E
  have a1 : X ≠ w.heap.size := by omega
  have a2 : H ≠ w.heap.size := by omega
  obtain ⟨R, hR⟩ : ∃ R, ans h n s 3 = R := ⟨_, rfl⟩
  have HR : Hid _ := hR
  rw [hR]
  clear hR
  obtain ⟨q, hq⟩ : ∃ q, memB h [3, 14, 12] = q := ⟨_, rfl⟩
  have HQ : Hid _ := hq
  clear hq
  by_cases g : n = 5
  · have g5 : (n == 5) = true := by simpa using g
    have G : Hid _ := g
    clear g
    by_cases k : h = 5
    · have k5 : (h == 5) = true := by simpa using k
      have K : Hid (R = 0) := by show _ = _; rw [← HR.out]; simp [ans, ruleC, ruleX, pickA, k]
      clear k
      go_enter Try.func112, Try.ntmps112
      go_wp2_with fail
      refine (oneOf_is _ 0 _ 3 [3, 14, 12] h _ rfl (by omega) (at3b (by simp)) q HQ).mono ?_
      rintro e w5 ⟨rfl, rfl⟩
      go_wp2_with fail
      refine (answer_any _ _ _).mono ?_
      rintro e w6 ⟨rfl, rfl⟩
      go_wp2_with fail
      go_ret
      exact ⟨retInt (by rw [K.out]; try rfl), (Below.refl _ _).alloc (Nat.le_refl _) _⟩
    · have k5 : (h == 5) = false := by simpa using k
      have K : Hid (R = pickA (!q) 0) := by show _ = _; rw [← HR.out]; simp [ans, ruleC, ruleX, k5, G.out, HQ.out]
      clear k
      go_enter Try.func112, Try.ntmps112
      go_wp2_with fail
      refine (oneOf_is _ 0 _ 3 [3, 14, 12] h _ rfl (by omega) (at3b (by simp)) q HQ).mono ?_
      rintro e w5 ⟨rfl, rfl⟩
      go_wp2_with fail
      refine (answer_any _ _ _).mono ?_
      rintro e w6 ⟨rfl, rfl⟩
      go_wp2_with fail
      go_ret
      exact ⟨retInt (by rw [K.out]; try rfl), (Below.refl _ _).alloc (Nat.le_refl _) _⟩
  · have g5 : (n == 5) = false := by simpa using g
    have K : Hid (R = pickA (h == 5) 0) := by show _ = _; rw [← HR.out]; simp [ans, ruleC, ruleX, g5]
    clear g
    by_cases k : h = 5
    · have k5 : (h == 5) = true := by simpa using k
      clear k
      go_enter Try.func112, Try.ntmps112
      go_wp2_with fail
      refine (answer_any _ _ _).mono ?_
      rintro e w6 ⟨rfl, rfl⟩
      go_wp2_with fail
      go_ret
      exact ⟨retInt (by rw [K.out, k5]; try rfl), Below.refl _ _⟩
    · have k5 : (h == 5) = false := by simpa using k
      clear k
      go_enter Try.func112, Try.ntmps112
      go_wp2_with fail
      refine (answer_any _ _ _).mono ?_
      rintro e w6 ⟨rfl, rfl⟩
      go_wp2_with fail
      go_ret
      exact ⟨retInt (by rw [K.out, k5]; try rfl), Below.refl _ _⟩

set_option maxHeartbeats 2000000 in
theorem rule7 (w : World) (X H N S : Nat) (h n s : Int) (E : Env w X H N S h n s) : Calls Try.prog 116 #[.pointer (some ⟨X, 0, none⟩), .pointer (some ⟨H, 0, none⟩), .pointer (some ⟨N, 0, none⟩)] w fun e w' => e = .returned (.int .i64 (ans h n s 7)) ∧ Below w.heap.size w w' := by
  obtain ⟨c1, c2, c3, c4, l1, l2, l3, l4⟩ := E
  have a1 : X ≠ w.heap.size := by omega
  have a2 : H ≠ w.heap.size := by omega
  have a3 : N ≠ w.heap.size := by omega
  obtain ⟨R, hR⟩ : ∃ R, ans h n s 7 = R := ⟨_, rfl⟩
  have HR : Hid _ := hR
  rw [hR]
  clear hR
  by_cases k : h = 11
  · have k5 : (h == 11) = true := by simpa using k
    have K : Hid (R = 0) := by show _ = _; rw [← HR.out]; simp [ans, ruleC, ruleX, pickA, k]
    have e1 := Gr.cell c1 l1
    have e2 := Gr.cell c2 l2
    clear k
    go_enter Try.func116, Try.ntmps116
    go_wp2_with fail
    refine wp_region_grow (by kernel_rfl) (by kernel_rfl) ?_
    intro hneGr
    repeat (go_big_quiet_step ((go_at_call 108; exact Calls.grow_of_same (answer_any _ _ _))))
    refine wpQuiet_nil ?_
    intro w5 hu5
    have b5 := gr_out hu5
    clear hu5
    go_wp2_with fail
    go_ret
    exact ⟨retInt (by rw [K.out]; try rfl), b5⟩
  · have k5 : (h == 11) = false := by simpa using k
    have K : Hid (R = pickA (memB n [11, 14, 12]) 0) := by show _ = _; rw [← HR.out]; simp [ans, ruleC, ruleX, k5]
    clear k
    go_enter Try.func116, Try.ntmps116
    go_wp2_with fail
    go_region_with (first | (go_at_call 97; refine (oneOf_any _ 0 _ 3 [11, 14, 12] n _ rfl (by omega) (by exact at3 _ _ 11 14 12)).mono ?_; rintro e w5 ⟨rfl, rfl⟩) | (go_at_call 108; refine (answer_any _ _ _).mono ?_; rintro e w6 ⟨rfl, rfl⟩))
    all_goals (go_wp2_with fail)
    all_goals go_ret
    all_goals exact ⟨retInt (by rw [K.out]), ((Below.refl _ _).alloc (Nat.le_refl _) _).drew⟩

set_option maxHeartbeats 2000000 in
theorem rule4 (w : World) (X H N S : Nat) (h n s : Int) (E : Env w X H N S h n s) : Calls Try.prog 113 #[.pointer (some ⟨N, 0, none⟩), .pointer (some ⟨H, 0, none⟩), .pointer (some ⟨S, 0, none⟩), .pointer (some ⟨X, 0, none⟩)] w fun e w' => e = .returned (.int .i64 (ans h n s 4)) ∧ Below w.heap.size w w' := by
  obtain ⟨c1, c2, c3, c4, l1, l2, l3, l4⟩ := E
  have a1 : X ≠ w.heap.size := by omega
  have a2 : H ≠ w.heap.size := by omega
  have a3 : N ≠ w.heap.size := by omega
  have a4 : S ≠ w.heap.size := by omega
  have d1 : X ≠ w.heap.size + 1 := by omega
  have d4 : S ≠ w.heap.size + 1 := by omega
  obtain ⟨R, hR⟩ : ∃ R, ans h n s 4 = R := ⟨_, rfl⟩
  obtain ⟨p, hp⟩ : ∃ q, memB n [9, 10, 13] = q := ⟨_, rfl⟩
  obtain ⟨q, hq⟩ : ∃ q, memB n [9, 10] = q := ⟨_, rfl⟩
  have HK : Hid (R = pickA ((p && h != 3) || (q && s != 0)) 0) := by show _ = _; rw [← hR, ← hp, ← hq]; rfl
  have HP : Hid _ := hp
  have HQ : Hid _ := hq
  rw [hR]
  clear hR hp hq
  have B2 : Below w.heap.size w ((w.alloc (.cells #[.int .i64 9, .int .i64 10, .int .i64 13] 3)).alloc (.cells #[.int .i64 9, .int .i64 10] 3)) := by go_grown
  cases p with
  | true =>
    cases q with
    | true =>
      go_enter Try.func113, Try.ntmps113
      go_wp2_with fail
      refine (oneOf_is _ 0 _ 3 [9, 10, 13] n _ rfl (by omega) (at3b (by simp)) true HP).mono ?_
      rintro e w5 ⟨rfl, rfl⟩
      go_wp2_with fail
      refine (oneOf_is _ 0 _ 2 [9, 10] n _ rfl (by omega) (at2b (by simp)) true HQ).mono ?_
      rintro e w6 ⟨rfl, rfl⟩
      obtain ⟨y, hy⟩ : ∃ y, (h != 3) = y := ⟨_, rfl⟩
      cases y with
      | true =>
        go_wp2_with fail
        refine (answer_any _ _ _).mono ?_
        rintro e w7 ⟨rfl, rfl⟩
        go_wp2_with fail
        go_ret
        exact ⟨retInt (by rw [HK.out, hy]; rfl), B2⟩
      | false =>
        go_wp2_with fail
        refine (answer_any _ _ _).mono ?_
        rintro e w7 ⟨rfl, rfl⟩
        go_wp2_with fail
        go_ret
        exact ⟨retInt (by rw [HK.out, hy]; simp), B2⟩
    | false =>
      go_enter Try.func113, Try.ntmps113
      go_wp2_with fail
      refine (oneOf_is _ 0 _ 3 [9, 10, 13] n _ rfl (by omega) (at3b (by simp)) true HP).mono ?_
      rintro e w5 ⟨rfl, rfl⟩
      go_wp2_with fail
      refine (oneOf_is _ 0 _ 2 [9, 10] n _ rfl (by omega) (at2b (by simp)) false HQ).mono ?_
      rintro e w6 ⟨rfl, rfl⟩
      obtain ⟨y, hy⟩ : ∃ y, (h != 3) = y := ⟨_, rfl⟩
      cases y with
      | true =>
        go_wp2_with fail
        refine (answer_any _ _ _).mono ?_
        rintro e w7 ⟨rfl, rfl⟩
        go_wp2_with fail
        go_ret
        exact ⟨retInt (by rw [HK.out, hy]; rfl), B2⟩
      | false =>
        go_wp2_with fail
        refine (answer_any _ _ _).mono ?_
        rintro e w7 ⟨rfl, rfl⟩
        go_wp2_with fail
        go_ret
        exact ⟨retInt (by rw [HK.out, hy]; rfl), B2⟩
  | false =>
    cases q with
    | true =>
      go_enter Try.func113, Try.ntmps113
      go_wp2_with fail
      refine (oneOf_is _ 0 _ 3 [9, 10, 13] n _ rfl (by omega) (at3b (by simp)) false HP).mono ?_
      rintro e w5 ⟨rfl, rfl⟩
      go_wp2_with fail
      refine (oneOf_is _ 0 _ 2 [9, 10] n _ rfl (by omega) (at2b (by simp)) true HQ).mono ?_
      rintro e w6 ⟨rfl, rfl⟩
      go_wp2_with fail
      refine (answer_any _ _ _).mono ?_
      rintro e w7 ⟨rfl, rfl⟩
      go_wp2_with fail
      go_ret
      exact ⟨retInt (by rw [HK.out]; simp), B2⟩
    | false =>
      go_enter Try.func113, Try.ntmps113
      go_wp2_with fail
      refine (oneOf_is _ 0 _ 3 [9, 10, 13] n _ rfl (by omega) (at3b (by simp)) false HP).mono ?_
      rintro e w5 ⟨rfl, rfl⟩
      go_wp2_with fail
      refine (oneOf_is _ 0 _ 2 [9, 10] n _ rfl (by omega) (at2b (by simp)) false HQ).mono ?_
      rintro e w6 ⟨rfl, rfl⟩
      go_wp2_with fail
      refine (answer_any _ _ _).mono ?_
      rintro e w7 ⟨rfl, rfl⟩
      go_wp2_with fail
      go_ret
      exact ⟨retInt (by rw [HK.out]; simp), B2⟩
end Go.Proofs.Ytbacfaddljjopaa
