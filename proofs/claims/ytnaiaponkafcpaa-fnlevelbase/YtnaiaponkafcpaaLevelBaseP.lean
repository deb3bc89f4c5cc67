import Derived.Test.YtnaiaponkafcpaaBaseShift
import Derived.Test.YtnaiaponkafcpaaDraw4
import Derived.Test.YtnaiaponkafcpaaBytesRow
import Derived.Test.YtnaiaponkafcpaaAppendAll
import Derived.Test.YtnaiaponkafcpaaUtf8P
import Derived.Laws.AppendOwnNone
namespace Go.Proofs.Ytnaiaponkafcpaa
open Go.ChangeShapes Go.WideShapes Go.ChangeAt Go.RowKit
set_option linter.unusedSimpArgs false

/-- 'append(out, more...)', both rows of their own. -/
theorem own_appendOwn {ops : Array Oper} {rest : List Oper} {o : Oper} {a : Act} {Q : Exit → Act → World → Prop} {wr : World} {v vx : Value} {l m : List Int} {B B' : Nat} (s x : Operand) (hown : OwnI wr B v l) (hm : OwnI wr B' vx m) (hl : l.length + m.length ≤ 1073741824) (hB : B ≤ wr.heap.size)
    (hgd : o.guard = none) (ho : o.op = .call { callee := .builtin .append, args := #[s, x], argTypes := #[23, 23] }) (hs : a.eval s = v) (hx : a.eval x = vx)
    (h : ∀ v' w', OwnI w' B v' (l ++ m) → wr.grownBy w' v.ownBlock → wpList Try.prog ops Q rest (a.put o.dst v') w') :
    wpList Try.prog ops Q (o :: rest) a wr := by
  rcases hm.forms with ⟨rfl, rfl⟩ | ⟨g, cap, rfl, _, _, _, _, hat⟩
  · obtain ⟨i0, hi, _⟩ := info_parts infoI
    refine wpList_append_own_none hgd s x 23 ho B 3 i0 1 Try.underlying23 hi v l.length (l.map (Value.int .i64)) hs hown hx (h v wr (by rw [List.append_nil]; exact hown) ⟨rfl, rfl, rfl, Nat.le_refl _, fun _ _ _ => rfl⟩)
  · exact own_appendAll s x hown rfl hl hB hat hgd ho hs hx h
theorem own_lit1 (w : World) (B : Nat) (T : TypeId) (x : Int) (h : B ≤ w.heap.size) (hT : T = 3) : OwnI (w.alloc (.cells #[.int .i64 x] T)) B (.slice (some ⟨w.heap.size, 0, none⟩) 1 1) [x] := by
  subst hT
  exact ⟨by simp, .inr ⟨w.heap.size, 1, #[.int .i64 x], rfl, h, heap_alloc_new w _, by simp, by unfold maxLen; omega, by simp, by simp⟩⟩
theorem own_lit3 (w : World) (B : Nat) (T : TypeId) (x y z : Int) (h : B ≤ w.heap.size) (hT : T = 3) : OwnI (w.alloc (.cells #[.int .i64 x, .int .i64 y, .int .i64 z] T)) B (.slice (some ⟨w.heap.size, 0, none⟩) 3 3) [x, y, z] := by
  subst hT
  exact ⟨by simp, .inr ⟨w.heap.size, 3, #[.int .i64 x, .int .i64 y, .int .i64 z], rfl, h, heap_alloc_new w _, by simp, by unfold maxLen; omega, by simp, by simp⟩⟩
theorem own_app1 {ops : Array Oper} {rest : List Oper} {o : Oper} {a : Act} {Q : Exit → Act → World → Prop} {wr : World} {vx : Value} {m : List Int} {B' : Nat} {x0 : Int} (s x : Operand) (hm : OwnI wr B' vx m) (hl : m.length ≤ 1000)
    (hgd : o.guard = none) (ho : o.op = .call { callee := .builtin .append, args := #[s, x], argTypes := #[23, 23] }) (hs : a.eval s = .slice (some ⟨wr.heap.size, 0, none⟩) 1 1) (hx : a.eval x = vx)
    (h : ∀ v' w', OwnI w' wr.heap.size v' ([x0] ++ m) → Below wr.heap.size wr w' → wpList Try.prog ops Q rest (a.put o.dst v') w') :
    wpList Try.prog ops Q (o :: rest) a (wr.alloc (.cells #[.int .i64 x0] 3)) :=
  own_appendOwn s x (own_lit1 wr wr.heap.size 3 x0 (Nat.le_refl _) rfl) (World.ownsRow.alloc hm _) (by simp; omega) (by simp) hgd ho hs hx
    (fun v' w' h1 h2 => h v' w' h1 (((Below.refl _ _).alloc (Nat.le_refl _) _).grown h2 (by simp) (fun k hk => by simp [Value.ownBlock] at hk; omega)))
theorem own_app3 {ops : Array Oper} {rest : List Oper} {o : Oper} {a : Act} {Q : Exit → Act → World → Prop} {wr : World} {vx : Value} {m : List Int} {B' : Nat} {x0 x1 x2 : Int} (s x : Operand) (hm : OwnI wr B' vx m) (hl : m.length ≤ 1000)
    (hgd : o.guard = none) (ho : o.op = .call { callee := .builtin .append, args := #[s, x], argTypes := #[23, 23] }) (hs : a.eval s = .slice (some ⟨wr.heap.size, 0, none⟩) 3 3) (hx : a.eval x = vx)
    (h : ∀ v' w', OwnI w' wr.heap.size v' ([x0, x1, x2] ++ m) → Below wr.heap.size wr w' → wpList Try.prog ops Q rest (a.put o.dst v') w') :
    wpList Try.prog ops Q (o :: rest) a (wr.alloc (.cells #[.int .i64 x0, .int .i64 x1, .int .i64 x2] 3)) :=
  own_appendOwn s x (own_lit3 wr wr.heap.size 3 x0 x1 x2 (Nat.le_refl _) rfl) (World.ownsRow.alloc hm _) (by simp; omega) (by simp) hgd ho hs hx
    (fun v' w' h1 h2 => h v' w' h1 (((Below.refl _ _).alloc (Nat.le_refl _) _).grown h2 (by simp) (fun k hk => by simp [Value.ownBlock] at hk; omega)))
theorem OwnI.slic {w : World} {B : Nat} {v : Value} {l : List Int} (h : OwnI w B v l) : ∃ a n cap, v = .slice a n cap ∧ l.length = n := by
  rcases h.forms with ⟨rfl, rfl⟩ | ⟨g, cap, rfl, _⟩
  · exact ⟨_, _, _, rfl, rfl⟩
  · exact ⟨_, _, _, rfl, rfl⟩

set_option maxHeartbeats 1000000 in
theorem wcIn_b (n lo hi : Int) (w : World) (q : Bool) (hq : Hid (decide (lo ≤ n ∧ n ≤ hi) = q)) : Calls Try.prog 13 #[.int .i64 n, .int .i64 lo, .int .i64 hi] w fun e w' => e = .returned (.bool q) ∧ w' = w := by
  by_cases h1 : lo ≤ n
  · by_cases h2 : n ≤ hi
    · have HQ : Hid (q = true) := by show _ = _; rw [← hq.out]; simpa using ⟨h1, h2⟩
      go_enter Try.func13, Try.ntmps13
      go_wp2
      go_ret
      exact ⟨retBool HQ.out.symm, rfl⟩
    · have HQ : Hid (q = false) := by show _ = _; rw [← hq.out]; simp; omega
      go_enter Try.func13, Try.ntmps13
      go_wp2
      go_ret
      exact ⟨retBool HQ.out.symm, rfl⟩
  · have HQ : Hid (q = false) := by show _ = _; rw [← hq.out]; simp; omega
    go_enter Try.func13, Try.ntmps13
    go_wp2
    go_ret
    exact ⟨retBool HQ.out.symm, rfl⟩

theorem putS_ne {l : List Int} (h0 : l ≠ []) : (putS l).toList.isEmpty = !okF (fn l) l.length := by
  rw [show (putS l).toList = putB l by simp [putS, strOf]]
  unfold putB
  by_cases h : okF (fn l) l.length = true
  · rw [if_pos h, h]
    have := (encL_len l).1
    have hl : 0 < l.length := List.length_pos_iff.2 h0
    have hne : encL l ≠ [] := fun hn => by rw [hn] at this; simp only [List.length_nil] at this; omega
    simp [hne]
  · rw [if_neg h]
    have : okF (fn l) l.length = false := by simpa using h
    rw [this]; simp

set_option maxHeartbeats 1000000 in
theorem wcOk_any (v : Value) (l : List Int) (n : Nat) (a0 : Option Addr) (cap : Nat) (w : World) (hn : Hid (l.length = n)) (hva : v = .slice a0 n cap) (hv : Arg w v l) (hl : n ≤ 4194304) :
    Calls Try.prog 12 #[v] w fun e w' => e = .returned (.bool (okF (fn l) n)) ∧ Below w.heap.size w w' := by
  subst hva
  by_cases h0 : n = 0
  · subst h0
    have e : l = [] := List.eq_nil_of_length_eq_zero hn.out
    subst e
    go_enter Try.func12, Try.ntmps12
    go_wp2_with fail
    go_ret
    exact ⟨retBool rfl, Below.refl _ _⟩
  · have g0 : ((n : Int) == 0) = false := by simp; omega
    have hne : l ≠ [] := fun e => by have := hn.out; rw [e] at this; simp at this; omega
    have HB := putS_ne hne
    rw [hn.out] at HB
    obtain ⟨q, hq⟩ : ∃ q, okF (fn l) n = q := ⟨_, rfl⟩
    rw [hq] at HB
    have HQ : Hid _ := hq
    rw [hq]
    have HB2 : Hid _ := HB
    clear hq hne h0 HB
    go_enter Try.func12, Try.ntmps12
    go_wp2_with fail
    refine (specPut _ l _ hv (by rw [hn.out]; exact hl)).mono ?_
    rintro e w1 ⟨rfl, b1⟩
    go_wp2_with fail
    go_ret
    exact ⟨retBool (by simp; exact HB2.out), b1⟩

set_option maxHeartbeats 1000000 in
theorem drawBase (a : Option Addr) (len cap : Nat) (w : World) (h : Bytes w a len cap) :
    Calls Try.prog 9 #[.slice a len cap] w fun e w' => (∃ v l, e = .returned v ∧ OwnI w' w.heap.size v l ∧ l.length ≤ 81) ∧ Below w.heap.size w w' := by
  go_enter Try.func9, Try.ntmps9
  go_wp2_with fail
  refine (open_any a len cap w h).mono ?_
  rintro e w1 ⟨rfl, hr, hb⟩
  have hl1 := hr.lt
  go_wp2_with fail
  refine (any_any _ 0 _ hr (by omega)).mono ?_
  rintro e w2 ⟨⟨v, l, rfl, ho, hl⟩, p, hp, hW⟩
  go_wp2_with fail
  go_ret
  exact ⟨⟨_, l, rfl, ho.mono (Nat.le_of_lt hl1), hl⟩, hb.trans (hW.below (Nat.le_refl _) hl1)⟩

set_option maxRecDepth 10000 in
set_option maxHeartbeats 8000000 in
theorem baseLaw (a : Option Addr) (len cap : Nat) (w : World) (h : Bytes w a len cap) :
    Calls Try.prog 3 #[.slice a len cap] w fun e w' => e = .returned (.bool true) ∧ Below w.heap.size w w' := by
  by_cases hbig : 1048576 < len
  · have hbig2 : (1048576 : Int) < (len : Int) := by omega
    go_enter Try.func3, Try.ntmps3
    go_wp2_with fail
    go_ret
    exact ⟨rfl, Below.refl _ _⟩
  · have hbig2 : (len : Int) ≤ 1048576 := by omega
    go_enter Try.func3, Try.ntmps3
    go_wp2_with fail
    refine (drawBase a len cap w h).mono ?_
    rintro e w1 ⟨⟨v1, l, rfl, o1, hl⟩, b1⟩
    obtain ⟨av, n, cv, rfl, hn⟩ := o1.slic
    have HN : Hid _ := hn
    have hn81 : n ≤ 81 := by omega
    obtain ⟨W, hW⟩ := baseIs_some l
    have HW : Hid _ := hW
    obtain ⟨hW0, hW1⟩ := baseIs_range hW
    clear hn hW hl
    go_wp2_with fail
    refine (implLB _ l n W av cv _ HN rfl o1.arg (by omega) HW.out).mono ?_
    rintro e w2 ⟨rfl, b2⟩
    have o2 := o1.below b2
    have B2 := bstep b1 b2
    go_wp2_with fail
    refine (specLB _ l n W av cv _ HN rfl o2.arg (by omega) HW.out).mono ?_
    rintro e w3 ⟨rfl, b3⟩
    have o3 := o2.below b3
    have B3 := bstep B2 b3
    have gW : (W != W) = false := by simp
    go_wp2_with fail
    refine (wcOk_any _ l n av cv _ HN rfl o3.arg (by omega)).mono ?_
    rintro e w4 ⟨rfl, b4⟩
    have o4 := o3.below b4
    have B4 := bstep B3 b4
    clear o1 o2 o3 b1 b2 b3 b4 B2 B3
    obtain ⟨q, hq⟩ : ∃ q, okF (fn l) n = q := ⟨_, rfl⟩
    rw [hq]
    have HQ : Hid _ := hq
    clear hq
    by_cases hgo : q = true ∧ n + 3 ≤ 80
    · obtain ⟨rfl, h77⟩ := hgo
      have h77' : ¬ ((80 : Int) < (n : Int) + 3) := by omega
      have HOK : Hid (okF (fn l) l.length = true) := by show _ = _; rw [HN.out]; exact HQ.out
      have HB0 : Hid (BaseIs ([97] ++ l) 0) := base_L HOK.out (by rw [HN.out]; omega)
      have HB1 : Hid (BaseIs ([1488] ++ l) 1) := base_R HOK.out (by rw [HN.out]; omega)
      have HB2 : Hid (BaseIs ([8295, 1488, 8297] ++ l) W) := base_alone HW.out HOK.out (by rw [HN.out]; omega)
      have HO4 : Hid (OwnI w4 w.heap.size (.slice av n cv) l) := o4
      have HB4 : Hid _ := B4
      have hs4 := B4.size
      have HL : Hid (l.length ≤ 1000) := by show _ ≤ _; rw [HN.out]; omega
      clear o4 B4
      go_wp2_with (first
        | (at_builtin; refine own_app3 (.tmp 40) (.tmp 41) (HO4.out.below (bstep p5 p6)) HL.out rfl rfl rfl rfl ?_; intro v7 w7 o7 p7; have tok3 : True := trivial)
        | (at_builtin; refine own_app1 (.tmp 37) (.tmp 38) (HO4.out.below p5) HL.out rfl rfl rfl rfl ?_; intro v6 w6 o6 p6; have tok2 : True := trivial)
        | (at_builtin; refine own_app1 (.tmp 34) (.tmp 35) HO4.out HL.out rfl rfl rfl rfl ?_; intro v5 w5 o5 p5; have tok1 : True := trivial))
      have q6 := o5.below p6
      have q7 := q6.below p7
      have r7 := o6.below p7
      obtain ⟨a5, n5, c5, rfl, hn5⟩ := o5.slic
      obtain ⟨a6, n6, c6, rfl, hn6⟩ := o6.slic
      obtain ⟨a7, n7, c7, rfl, hn7⟩ := o7.slic
      have k5 : n5 ≤ 1000 := by rw [← hn5]; simp; have := HN.out; omega
      have k6 : n6 ≤ 1000 := by rw [← hn6]; simp; have := HN.out; omega
      have k7 : n7 ≤ 1000 := by rw [← hn7]; simp; have := HN.out; omega
      have N5 : Hid _ := hn5
      have N6 : Hid _ := hn6
      have N7 : Hid _ := hn7
      have B7 : Hid (Below w.heap.size w w7) := bstep (bstep (bstep HB4.out p5) p6) p7
      clear hn5 hn6 hn7 o5 o6 q6 p5 p6 p7
      refine (implLB _ ([97] ++ l) n5 0 a5 c5 _ N5 rfl q7.arg (by omega) HB0.out).mono ?_
      rintro e w8 ⟨rfl, b8⟩
      have r8 := r7.below b8
      have o8 := o7.below b8
      go_wp2_with fail
      refine (implLB _ ([1488] ++ l) n6 1 a6 c6 _ N6 rfl r8.arg (by omega) HB1.out).mono ?_
      rintro e w9 ⟨rfl, b9⟩
      have o9 := o8.below b9
      go_wp2_with fail
      refine (implLB _ ([8295, 1488, 8297] ++ l) n7 W a7 c7 _ N7 rfl o9.arg (by omega) HB2.out).mono ?_
      rintro e w10 ⟨rfl, b10⟩
      have gW2 : (W == W) = true := by simp
      have hW01 : W = 0 ∨ W = 1 := by omega
      clear hW0 hW1
      rcases hW01 with rfl | rfl
      all_goals
        go_wp2_with fail
        refine (wcIn_b _ _ _ _ true (by show _ = _; decide)).mono ?_
        rintro e w11 ⟨rfl, rfl⟩
        go_wp2_with fail
        go_ret
        exact ⟨rfl, bstep (bstep (bstep B7.out b8) b9) b10⟩
    · have HB4 : Hid _ := B4
      clear B4
      cases q with
      | false =>
        go_wp2_with fail
        refine (specLB _ l n W av cv _ HN rfl o4.arg (by omega) HW.out).mono ?_
        rintro e w5 ⟨rfl, b5⟩
        go_wp2_with fail
        go_ret
        exact ⟨retBool (by simp), bstep HB4.out b5⟩
      | true =>
        have hg2 : ¬ n + 3 ≤ 80 := fun h => hgo ⟨rfl, h⟩
        have h77' : (80 : Int) < (n : Int) + 3 := by omega
        go_wp2_with fail
        refine (specLB _ l n W av cv _ HN rfl o4.arg (by omega) HW.out).mono ?_
        rintro e w5 ⟨rfl, b5⟩
        go_wp2_with fail
        go_ret
        exact ⟨retBool (by simp), bstep HB4.out b5⟩
end Go.Proofs.Ytnaiaponkafcpaa
