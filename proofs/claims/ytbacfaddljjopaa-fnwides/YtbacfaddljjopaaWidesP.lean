import Derived.Test.YtbacfaddljjopaaDrawSp2
import Derived.Test.YtbacfaddljjopaaDraw4
import Derived.Test.YtbacfaddljjopaaBytesRow
import Derived.Test.YtbacfaddljjopaaWidesFn
import Derived.Test.YtbacfaddljjopaaClusAtI
import Derived.Test.YtbacfaddljjopaaWc
namespace Go.Proofs.Ytbacfaddljjopaa
open Go.ChangeShapes Go.WideShapes Go.ChangeAt Go.RowKit
set_option linter.unusedSimpArgs false

theorem went_belowW {w w' : World} {R p : Nat} (h : Went w w' R p) {W : World} (hB : Below W.heap.size W w) (hR : W.heap.size ≤ R) (hl : R < w.heap.size) : Below W.heap.size W w' :=
  hB.trans (h.below hR hl)
theorem OwnI.shapeW {w : World} {B : Nat} {v : Value} {l : List Int} (h : OwnI w B v l) : ∃ a cap, v = .slice a l.length cap := by
  rcases h.forms with ⟨rfl, rfl⟩ | ⟨g, c, rfl, _⟩
  · exact ⟨_, _, rfl⟩
  · exact ⟨_, _, rfl⟩

set_option maxHeartbeats 1000000 in
theorem drawWides (a : Option Addr) (len cap : Nat) (w : World) (h : Bytes w a len cap) :
    Calls Try.prog 9 #[.slice a len cap] w fun e w' => (∃ v u, e = .returned (.tuple #[v, u]) ∧ (∃ l, OwnI w' w.heap.size v l ∧ l.length ≤ 81) ∧ SpRes w' w.heap.size u) ∧ Below w.heap.size w w' := by
  go_enter Try.func9, Try.ntmps9
  go_wp2_with fail
  refine (open_any a len cap w h).mono ?_
  rintro e w1 ⟨rfl, hr1, b1⟩
  have hl1 := hr1.lt
  go_wp2_with fail
  refine (any_any w.heap.size 0 w1 hr1 (by omega)).mono ?_
  rintro e w2 ⟨⟨v, l, rfl, ov2, hl81⟩, p2, hp2, hW2⟩
  have B2 := went_belowW hW2 b1 (Nat.le_refl _) hl1
  have s2 := hW2.gr.size
  obtain ⟨av, cv, rfl⟩ := ov2.shapeW
  go_wp2_with fail
  refine (anySpans w.heap.size p2 l.length w2 hW2.rd (by omega) (by omega)).mono ?_
  rintro e w3 ⟨⟨u, rfl, n, s, o3, hn⟩, p3, hp3, hW3⟩
  have ov3 := ov2.went hW3 hl1
  have B3 := went_belowW hW3 B2 (Nat.le_refl _) (by omega)
  clear hW2 hW3
  go_wp2_with fail
  refine bodyPost_ret (v := .tuple #[.slice av l.length cv, u]) (by simp [results, Try.results9, go_sem]) rfl ⟨⟨_, _, rfl, ⟨l, ov3.mono (by omega), hl81⟩, n, s, o3.mono (by omega), hn⟩, B3⟩

theorem implAt_is (v : Value) (l : List Int) (n : Nat) (a : Int) (a0 : Option Addr) (cap : Nat) (w : World) (hn : Hid (l.length = n)) (hva : v = .slice a0 n cap) (hv : Arg w v l) (hl : n ≤ 4194304) (q : Int) (hq : Hid (atR l a = q)) :
    Calls Try.prog 14 #[v, .int .i64 a] w fun e w' => e = .returned (.int .i64 q) ∧ Below w.heap.size w w' := by
  rw [← hq.out]; exact implAt v l n a a0 cap w hn hva hv hl
/-- One span over all letters. -/
theorem all_ok {m : Nat} {z : Int} (h0 : 0 < m) (h1 : m ≤ 80) (hz : 1 ≤ z) (hz2 : z ≤ 40) : spansOk (fn [0, (m : Int), z, 0]) 1 (m : Int) = true := by
  refine spansOk_yes (by omega) (by omega) (by omega) (fun j hj => ?_)
  have : j = 0 := by omega
  subst this
  refine rowOk_mk (spOk_iff.2 ?_) ?_
  · simp [fn]; omega
  · simp [fn, enS]
theorem all_look {m k : Nat} {z : Int} (hk : k < m) : lookAt (fn [0, (m : Int), z, 0]) 1 (k : Int) = (z, 0) := by
  unfold lookAt
  have := spAt_hit (z := fn [0, (m : Int), z, 0]) (a := (k : Int)) (n := 1) (k := 0) (by omega) (by simp [fn]; omega)
  simpa [fn] using this

theorem one_arg (w : World) (x0 x1 x2 x3 : Int) (T : TypeId) : ArgS (w.alloc (.cells #[.int .i64 x0, .int .i64 x1, .int .i64 x2, .int .i64 x3] T)) (.slice (some ⟨w.heap.size, 0, none⟩) 1 1) 1 [x0, x1, x2, x3] := by
  refine .inr ⟨w.heap.size, 1, rfl, by simp, Nat.le_refl _, by unfold maxLen; omega, fun j hj => ?_⟩
  rcases (show j = 0 ∨ j = 1 ∨ j = 2 ∨ j = 3 by omega) with rfl | rfl | rfl | rfl <;> simp [fn]
def timesF (z W : Nat → Int) (c : Int) (k : Nat) : Int := if begins z k = true then W k * c else 0
theorem all_wides {l : List Int} {W : Nat → Int} {m : Nat} {c : Int} (hok : okF (fn l) l.length = true) (hm : l.length = m) (h0 : 0 < m) (h1 : 1 ≤ c) (h2 : c ≤ 40) :
    (widesR l W [0, (m : Int), c, 0] 1).length = m ∧ ∀ j, j < m → fn (widesR l W [0, (m : Int), c, 0] 1) j = timesF (fn l) W c j := by
  have h80 := okF_len hok
  have e : widesR l W [0, (m : Int), c, 0] 1 = widesL (fn l) W (fn [0, (m : Int), c, 0]) 1 m := by
    unfold widesR; rw [if_pos ⟨hok, by rw [hm]; exact all_ok h0 (by omega) h1 h2⟩, hm]
  rw [e]
  refine ⟨widesL_len _ _ _ _ _, fun j hj => ?_⟩
  rw [fn_widesL hj]
  unfold wdeF timesF
  rw [all_look hj]

set_option maxRecDepth 10000 in
set_option maxHeartbeats 2000000 in
theorem widesLaw (a : Option Addr) (len cap : Nat) (w : World) (h : Bytes w a len cap) :
    Calls Try.prog 3 #[.slice a len cap] w fun e w' => e = .returned (.bool true) ∧ Below w.heap.size w w' := by
  by_cases hbig : 1048576 < len
  · have hbi : (1048576 : Int) < (len : Int) := by omega
    go_enter Try.func3, Try.ntmps3
    go_wp2_with fail
    go_ret
    exact ⟨rfl, Below.refl _ _⟩
  · have hbi : (len : Int) ≤ 1048576 := by omega
    go_enter Try.func3, Try.ntmps3
    go_wp2_with fail
    refine (drawWides a len cap w h).mono ?_
    rintro e w1 ⟨⟨v, u, rfl, ⟨l, ov, hl81⟩, n, s, ou, hn⟩, b1⟩
    have HV : Hid (∀ w', Below w1.heap.size w1 w' → Arg w' v l) := fun w' b => (ov.below b).arg
    have HU : Hid (∀ w', Below w1.heap.size w1 w' → ArgS w' u n s) := fun w' b => (ou.below b).arg
    obtain ⟨av, cv, rfl⟩ := ov.shapeW
    obtain ⟨xu, zu, rfl⟩ := ou.arg.shape
    obtain ⟨W, hWf⟩ := wideIs_fn l
    have HW : Hid _ := hWf
    clear ov ou hWf
    have hli : (l.length : Int) ≤ 81 := by omega
    go_wp2_with fail
    refine (implWides _ _ l s n W _ (HV.out _ (Below.refl _ _)) (HU.out _ (Below.refl _ _)) (by omega) HW).mono ?_
    rintro e w2 ⟨⟨vw, rfl, o2⟩, b2⟩
    obtain ⟨aw, cw, rfl⟩ := o2.shapeW
    have HO : Hid (∀ w', Below w2.heap.size w2 w' → OwnI w' w1.heap.size (.slice aw (widesR l W s n).length cw) (widesR l W s n)) := fun w' b => o2.below b
    clear o2
    go_wp2_with fail
    refine (specWides _ _ l s n W _ (HV.out _ b2) (HU.out _ b2) (by omega) (by omega) HW).mono ?_
    rintro e w3 ⟨⟨vs, rfl, o3⟩, b3⟩
    have hrl := widesR_len l W s n
    go_wp2_with fail
    refine (wcInts_yes _ _ (widesR l W s n) _ (HO.out _ b3).arg o3.arg (by omega)).mono ?_
    rintro e w4 ⟨rfl, b4⟩
    have b24 := bstep b3 b4
    have b14 := bstep b2 b24
    have B4 := bstep b1 b14
    clear o3
    by_cases hz : (widesR l W s n).length = 0
    · rw [hz]
      have HZ : Hid _ := hz
      clear hz
      go_wp2_with fail
      refine (specWides _ _ l s n W _ (HV.out _ b14) (HU.out _ b14) (by omega) (by omega) HW).mono ?_
      rintro e w5 ⟨⟨vs, rfl, o5⟩, b5⟩
      go_wp2_with fail
      refine (wcInts_yes _ _ (widesR l W s n) _ ?_ o5.arg (by omega)).mono ?_
      · have := (HO.out _ (bstep b24 b5)).arg; rw [HZ.out] at this; exact this
      rintro e w6 ⟨rfl, b6⟩
      go_wp2_with fail
      go_ret
      exact ⟨rfl, bstep (bstep B4 b5) b6⟩
    · have hok : okF (fn l) l.length = true ∧ spansOk (fn s) n (l.length : Int) = true := by
        by_cases hh : okF (fn l) l.length = true ∧ spansOk (fn s) n (l.length : Int) = true
        · exact hh
        · exfalso; apply hz; unfold widesR; rw [if_neg hh]; rfl
      obtain ⟨h1, h2⟩ := hok
      have h80 := okF_len h1
      have hre : widesR l W s n = widesL (fn l) W (fn s) n l.length := by unfold widesR; rw [if_pos ⟨h1, h2⟩]
      have hml : (widesR l W s n).length = l.length := by rw [hre, widesL_len]
      obtain ⟨m, hm⟩ : ∃ m, l.length = m := ⟨_, rfl⟩
      have HM : Hid _ := hm
      have hm0 : 0 < m := by omega
      have HO2 : Hid (∀ w', Below w2.heap.size w2 w' → OwnI w' w1.heap.size (.slice aw m cw) (widesL (fn l) W (fn s) n m)) := fun w' b => by
        have := HO.out w' b; rw [hml, hre, hm] at this; exact this
      rw [hml, hm]
      have HV2 : Hid (∀ w', Below w1.heap.size w1 w' → Arg w' (.slice av m cv) l) := fun w' b => by have := HV.out w' b; rw [hm] at this; exact this
      have H1 : Hid _ := h1
      have H2 : Hid (spansOk (fn s) n (m : Int) = true) := by show _ = _; rw [← hm]; exact h2
      have hm80 : m ≤ 80 := by omega
      have hmi : (0 : Int) < (m : Int) := by omega
      have hmz : ((m : Int) == 0) = false := by simp; omega
      clear hz hre hml h1 h2 hm HV HO hrl h80 hl81 hli
      go_wp2_with fail
      go_loopw [6] (fun i wr => ∃ (k : Nat), k ≤ m ∧ i = .int .i64 k ∧ Below w4.heap.size w4 wr) (fun i _ => m - (intOf i).toNat)
      case atStart => exact ⟨0, Nat.zero_le _, rfl, Below.refl _ _⟩
      case round =>
        obtain ⟨k, hk, rfl, hbel⟩ := hrel
        by_cases hlt : k < m
        · obtain ⟨lk, hlk⟩ : ∃ q, lookAt (fn s) n (k : Int) = q := ⟨_, rfl⟩
          have HLK : Hid (spanAt (fn s) n (k : Int) = lk) := by show _ = _; unfold spanAt; rw [if_pos (spansOk_80 H2.out), hlk]
          have lb := look_bounds (k : Int) H2.out
          rw [hlk] at lb
          have wb := wideIs_bounds (HW.out k)
          have pb := prod_bounds wb.1 wb.2 lb.1 lb.2
          have HWk : Hid _ := HW.out k
          obtain ⟨wk, hwk⟩ : ∃ q, W k = q := ⟨_, rfl⟩
          rw [hwk] at pb wb HWk
          have b1r := bstep b14 hbel
          have b2r := bstep b24 hbel
          have hki : (k : Int) < (m : Int) := by omega
          go_wp2_with fail
          refine (implSpanAt _ n s (k : Int) _ (HU.out _ b1r) lk HLK).mono ?_
          rintro e w5 ⟨rfl, b5⟩
          have b15 := bstep b1r b5
          have b25 := bstep b2r b5
          obtain ⟨g, haw, hg5, hcell⟩ : ∃ g, aw = some ⟨g, 0, none⟩ ∧ g < w5.heap.size ∧ w5.cell? ⟨g, k, none⟩ = some (.int .i64 (wdeF (fn l) W (fn s) n k)) := by
            have ho := HO2.out _ b25
            rcases ho.forms with ⟨e, _⟩ | ⟨g, c, e, _, hgw, _, _, hat⟩
            · simp only [Value.slice.injEq] at e; omega
            · simp only [Value.slice.injEq] at e
              have hc := hat k (by rw [widesL_len]; exact hlt)
              rw [Nat.zero_add, fn_widesL hlt] at hc
              exact ⟨g, e.1, hgw, hc⟩
          subst haw
          have HB5 : Hid (∀ w', Below w5.heap.size w5 w' → Arg w' (.slice av m cv) l) := fun w' b => HV2.out w' (bstep b15 b)
          have e0 := Gr.cell hcell hg5
          have HATR : Hid (atR l (k : Int) = (atOf (fn l) k : Int)) := atR_yes H1.out (by rw [HM.out]; exact hlt)
          clear hcell
          by_cases hbg : begins (fn l) k = true
          · have HAT : Hid (atR l (k : Int) = (k : Int)) := by show _ = _; rw [HATR.out, (atOf_self (fn l) k).2 hbg]
            have hval : wdeF (fn l) W (fn s) n k = wk * lk.1 := by unfold wdeF; rw [if_pos hbg, hwk, hlk]
            rw [hval] at e0
            have q1 : ((k : Int) == (k : Int)) = true := by simp
            have q2 : ((k : Int) != (k : Int)) = false := by simp
            have q3 : (wk * lk.1 != wk * lk.1) = false := by simp
            clear hval hbg hlk hwk
            go_wp2_with fail
            refine wp_region_grow (by kernel_rfl) (by kernel_rfl) ?_
            intro hneGr
            repeat (go_big_quiet_step (first | (go_at_call 14; exact Calls.grow_of (implAt_is _ l m _ av cv _ HM rfl (HB5.out _ (Subtype.property _)) (by omega) _ HAT)) | (go_at_call 15; exact Calls.grow_of (implCW _ l m _ wk av cv _ HM rfl (HB5.out _ (Subtype.property _)) (by omega) HWk.out))))
            refine wpQuiet_nil ?_
            intro w6 hu6
            have b6 := gr_out hu6
            clear hu6
            go_wp2_with fail
            exact ⟨⟨k + 1, by omega, by go_num, bstep (bstep hbel b5) b6⟩, by simp only [intOf]; omega⟩
          · have hbg2 : begins (fn l) k = false := by simpa using hbg
            have hne : atOf (fn l) k ≠ k := fun h => hbg ((atOf_self (fn l) k).1 h)
            obtain ⟨at0, hat0⟩ : ∃ q, atOf (fn l) k = q := ⟨_, rfl⟩
            have HAT : Hid (atR l (k : Int) = (at0 : Int)) := by show _ = _; rw [HATR.out, hat0]
            rw [hat0] at hne
            have hval : wdeF (fn l) W (fn s) n k = 0 := by unfold wdeF; rw [hbg2]; rfl
            rw [hval] at e0
            have q1 : ((at0 : Int) == (k : Int)) = false := by simp; omega
            have q2 : ((at0 : Int) != (k : Int)) = true := by simp; omega
            have q3 : ((0 : Int) != 0) = false := by simp
            clear hval hbg hbg2 hlk hwk hat0 hne
            go_wp2_with fail
            refine wp_region_grow (by kernel_rfl) (by kernel_rfl) ?_
            intro hneGr
            repeat (go_big_quiet_step (first | (go_at_call 14; exact Calls.grow_of (implAt_is _ l m _ av cv _ HM rfl (HB5.out _ (Subtype.property _)) (by omega) _ HAT)) | (go_at_call 15; exact Calls.grow_of (implCW _ l m _ wk av cv _ HM rfl (HB5.out _ (Subtype.property _)) (by omega) HWk.out))))
            refine wpQuiet_nil ?_
            intro w6 hu6
            have b6 := gr_out hu6
            clear hu6
            go_wp2_with fail
            exact ⟨⟨k + 1, by omega, by go_num, bstep (bstep hbel b5) b6⟩, by simp only [intOf]; omega⟩
        · have e : k = m := by omega
          subst e
          obtain ⟨y1l, y1f⟩ := all_wides (W := W) (c := 7) H1.out HM.out hm0 (by omega) (by omega)
          obtain ⟨y2l, y2f⟩ := all_wides (W := W) (c := 14) H1.out HM.out hm0 (by omega) (by omega)
          obtain ⟨Y1, hY1⟩ : ∃ q, widesR l W [0, (k : Int), 7, 0] 1 = q := ⟨_, rfl⟩
          obtain ⟨Y2, hY2⟩ : ∃ q, widesR l W [0, (k : Int), 14, 0] 1 = q := ⟨_, rfl⟩
          rw [hY1] at y1l y1f
          rw [hY2] at y2l y2f
          have HY1 : Hid _ := hY1
          have HY2 : Hid _ := hY2
          have Y1L : Hid _ := y1l
          have Y2L : Hid _ := y2l
          have Y1F : Hid _ := y1f
          have Y2F : Hid _ := y2f
          clear hY1 hY2 y1l y1f y2l y2f
          have b1r := bstep b14 hbel
          have BR := bstep B4 hbel
          go_wp2_with fail
          refine (implWides _ _ l [0, (k : Int), 7, 0] 1 W _ ?_ (one_arg wr _ _ _ _ _) (by rw [HM.out]; omega) HW).mono ?_
          · exact HV2.out _ (bstep b1r (below_new _ _))
          rintro e w5 ⟨⟨v1, rfl, o1⟩, b5⟩
          rw [HY1.out] at o1
          have b5r := bstep (below_new wr _) b5
          have b15 := bstep b1r b5r
          have B5 := bstep BR b5r
          obtain ⟨a1, c1, rfl⟩ := o1.shapeW
          rw [Y1L.out] at o1 ⊢
          have HO1 : Hid (∀ w', Below w5.heap.size w5 w' → Arg w' (.slice a1 k c1) Y1) := fun w' b => (o1.below b).arg
          clear o1 b5
          go_wp2_with fail
          refine (implWides _ _ l [0, (k : Int), 14, 0] 1 W _ ?_ (one_arg w5 _ _ _ _ _) (by rw [HM.out]; omega) HW).mono ?_
          · exact HV2.out _ (bstep b15 (below_new _ _))
          rintro e w6 ⟨⟨v2, rfl, o2⟩, b6⟩
          rw [HY2.out] at o2
          have b6r := bstep (below_new w5 _) b6
          have B6 := bstep B5 b6r
          obtain ⟨a2, c2, rfl⟩ := o2.shapeW
          rw [Y2L.out] at o2 ⊢
          have A1 := HO1.out _ b6r
          have A2 := o2.arg
          obtain ⟨p1, f1, ha1, hat1⟩ : ∃ p1 f1, a1 = some ⟨p1, f1, none⟩ ∧ ∀ j, j < k → w6.cell? ⟨p1, f1 + j, none⟩ = some (.int .i64 (timesF (fn l) W 7 j)) := by
            rcases A1 with ⟨x1, x2, e, hnil⟩ | ⟨bb, oo, c, e, _, _, _, hat⟩
            · have := Y1L.out; rw [hnil] at this; simp at this; omega
            · simp only [Value.slice.injEq] at e
              exact ⟨bb, oo, e.1, fun j hj => by rw [← Y1F.out j hj]; exact hat j (by rw [Y1L.out]; exact hj)⟩
          obtain ⟨p2, f2, ha2, hat2⟩ : ∃ p2 f2, a2 = some ⟨p2, f2, none⟩ ∧ ∀ j, j < k → w6.cell? ⟨p2, f2 + j, none⟩ = some (.int .i64 (timesF (fn l) W 14 j)) := by
            rcases A2 with ⟨x1, x2, e, hnil⟩ | ⟨bb, oo, c, e, _, _, _, hat⟩
            · have := Y2L.out; rw [hnil] at this; simp at this; omega
            · simp only [Value.slice.injEq] at e
              exact ⟨bb, oo, e.1, fun j hj => by rw [← Y2F.out j hj]; exact hat j (by rw [Y2L.out]; exact hj)⟩
          subst ha1
          subst ha2
          have HT1 : Hid _ := hat1
          have HT2 : Hid _ := hat2
          clear hat1 hat2 o2 A1 b6
          go_wp2_with fail
          go_loopw [11] (fun i wr => ∃ (j d : Nat), j ≤ k ∧ i = .int .i64 j ∧ wr = w6.drewN d) (fun i _ => k - (intOf i).toNat)
          case atStart => exact ⟨0, 0, Nat.zero_le _, rfl, rfl⟩
          case round =>
            obtain ⟨j, d, hj, rfl, rfl⟩ := hrel
            by_cases hjk : j < k
            · have t1 := HT1.out j hjk
              have t2 := HT2.out j hjk
              have hji : (j : Int) < (k : Int) := by omega
              have hwb := wideIs_bounds (HW.out j)
              have hb1 : 0 ≤ timesF (fn l) W 7 j ∧ timesF (fn l) W 7 j ≤ 280 := by unfold timesF; split <;> omega
              have hb2 : timesF (fn l) W 14 j = 2 * timesF (fn l) W 7 j := by unfold timesF; split <;> omega
              rw [hb2] at t2
              have q3 : (2 * timesF (fn l) W 7 j != 2 * timesF (fn l) W 7 j) = false := by simp
              clear hb2
              go_wp2_with fail
              go_quiet (fail)
              go_wp2_with fail
              exact ⟨⟨j + 1, _, by omega, by go_num, by first | rfl | rw [World.drewN_drewN]⟩, by simp only [intOf]; omega⟩
            · have e : j = k := by omega
              subst e
              have q3 : ((j : Int) == (j : Int)) = true := by simp
              go_wp2_with fail
              go_ret
              exact ⟨rfl, bstep B6 (below_draws _ _)⟩
end Go.Proofs.Ytbacfaddljjopaa
