import Derived.Test.YtpdngcjioaeckacDrawLv2
import Derived.Test.YtpdngcjioaeckacUpMath
import Derived.Test.YtpdngcjioaeckacAppendAt
import Derived.Test.YtpdngcjioaeckacWc
namespace Go.Proofs.Ytpdngcjioaeckac
open Go.ChangeShapes Go.WideShapes Go.ChangeAt Go.RowKit
set_option linter.unusedSimpArgs false

set_option maxHeartbeats 8000000 in
theorem upLaw (a : Option Addr) (len cap : Nat) (w : World) (h : Bytes w a len cap) :
    Calls Try.prog 7 #[.slice a len cap] w fun e w' => e = .returned (.bool true) ∧ Below w.heap.size w w' := by
  by_cases hbig : 1048576 < len
  · have hbig2 : (1048576 : Int) < (len : Int) := by omega
    go_enter Try.func7, Try.ntmps7
    go_wp2_with fail
    go_ret
    exact ⟨rfl, Below.refl _ _⟩
  · have hl2 : (len : Int) ≤ 1048576 := by omega
    go_enter Try.func7, Try.ntmps7
    go_wp2_with fail
    refine (drawOrder a len cap w h).mono ?_
    rintro e w1 ⟨⟨v, l, rfl, o1, hlen⟩, b1⟩
    have hol := ordR_len l
    obtain ⟨av, n, cv, rfl, hn⟩ := o1.slice
    have HN : Hid _ := hn
    have hn80 : n ≤ 80 := by omega
    have HL4 : Hid (l.length ≤ 4194304) := show l.length ≤ 4194304 by omega
    have HO4 : Hid ((ordR l).length ≤ 4194304) := show (ordR l).length ≤ 4194304 by omega
    clear hn hlen
    go_wp2_with fail
    refine (implOrd _ l _ o1.arg HL4.out).mono ?_
    rintro e w2 ⟨⟨vo, rfl, oo2⟩, b2⟩
    have o2 := o1.below b2
    have B2 := bstep b1 b2
    go_wp2_with fail
    refine (specOrd _ l _ o2.arg HL4.out).mono ?_
    rintro e w3 ⟨⟨v3, rfl, p3⟩, b3⟩
    have o3 := o2.below b3
    have oo3 := oo2.below b3
    have B3 := bstep B2 b3
    go_wp2_with fail
    refine (wcInts_yes _ _ (ordR l) _ oo3.arg p3.arg HO4.out).mono ?_
    rintro e w4 ⟨rfl, b4⟩
    have o4 := o3.below b4
    have oo4 := oo3.below b4
    have B4 := bstep B3 b4
    clear o1 o2 o3 oo2 oo3 p3 B2 B3 b1 b2 b3 b4
    obtain ⟨ao, no, co, rfl, hno⟩ := oo4.slice
    have HNO : Hid _ := hno
    have hno80 : no ≤ 80 := by omega
    clear hno hol
    go_wp2_with fail
    have hE1 : OwnI (w4.alloc (.cells #[] 3)) w4.heap.size (.slice (some ⟨w4.heap.size, 0, none⟩) 0 0) [] := own_empty _ _ _ (Nat.le_refl _) rfl
    have hE2 : OwnI ((w4.alloc (.cells #[] 3)).alloc (.cells #[] 3)) w4.heap.size (.slice (some ⟨w4.heap.size + 1, 0, none⟩) 0 0) [] := by
      have := own_empty (w4.alloc (.cells #[] 3)) w4.heap.size 3 (by simp) rfl
      simpa using this
    go_loopw [5, 6, 7, 8] (fun q5 q6 i q8 wr => ∃ (k : Nat), k ≤ n ∧ i = .int .i64 k ∧ OwnI wr w4.heap.size q5 (upF 2 (fn l) k) ∧ OwnI wr w4.heap.size q6 (upF 1 (fn l) k) ∧ Hid (Apart q5 q6) ∧ Hid (∀ j, j < k → fn l j ≤ 20) ∧ Below w4.heap.size w4 wr) (fun _ _ i _ _ => n - (intOf i).toNat)
    case atStart =>
      refine ⟨0, Nat.zero_le _, rfl, World.ownsRow.alloc hE1 _, hE2, ?_, fun j hj => by omega, ?_⟩
      · intro k hk e
        simp [Value.ownBlock] at hk e; omega
      · exact ((Below.refl _ _).alloc (Nat.le_refl _) _).alloc (by simp) _
    case round =>
      obtain ⟨k, hk, rfl, ho5, ho6, hap, h20, hbel⟩ := hrel
      have hsz := hbel.size
      have hl5 := upF_len 2 (fn l) k
      have hl6 := upF_len 1 (fn l) k
      by_cases hlt : k < n
      · rcases o4.forms with ⟨e, _⟩ | ⟨gl, cl, e, _, hgl, _, _, _⟩
        · simp only [Value.slice.injEq] at e; omega
        simp only [Value.slice.injEq] at e
        obtain ⟨rfl, -, rfl⟩ := e
        have hc0 : wr.cell? ⟨gl, k, none⟩ = some (.int .i64 (fn l k)) := (o4.below hbel).cellN k hlt
        by_cases hgt : 20 < fn l k
        · go_wp2_with fail
          go_ret
          exact ⟨rfl, B4.trans (hbel.mono B4.size)⟩
        · have hle : fn l k ≤ 20 := by omega
          have H20 : Hid (∀ j, j < k + 1 → fn l j ≤ 20) := fun j hj => by
            by_cases ej : j = k
            · subst ej; exact hle
            · exact h20.out j (by omega)
          clear hgt
          by_cases h0 : 0 ≤ fn l k
          · have HU2 : Hid (upF 2 (fn l) (k + 1) = upF 2 (fn l) k ++ [fn l k + 2]) := show _ = _ by simp [upF, upV, h0]
            have HU1 : Hid (upF 1 (fn l) (k + 1) = upF 1 (fn l) k ++ [fn l k + 1]) := show _ = _ by simp [upF, upV, h0]
            go_wp2_with (first | (at_builtin; refine own_append_at (.tmp 42) (.tmp 45) ho5 (by omega) hsz rfl rfl rfl rfl ?_; intro v5 w5 p5 hgr5 hat5; have hap5 := hap.out.next ho6 hat5; have p6 := ho6.apart hgr5 hap.out; have hbel5 := grown_below hbel hgr5 ho5 (Nat.le_refl _) hsz; have hsz5 := hbel5.size) | (at_builtin; refine own_append_at (.tmp 47) (.tmp 50) p6 (by omega) hsz5 rfl rfl rfl rfl ?_; intro v6 w6 q6 hgr6 hat6; have hap6 := (hap5.symm.next p5 hat6).symm; have q5 := p5.apart hgr6 hap5.symm; have hbel6 := grown_below hbel5 hgr6 p6 (Nat.le_refl _) hsz5))
            go_roundw
            case rel => exact ⟨k + 1, by omega, by go_num, by rw [HU2.out]; exact q5, by rw [HU1.out]; exact q6, hap6, H20, hbel6⟩
            case measure => simp only [intOf]; omega
          · have HU2 : Hid (upF 2 (fn l) (k + 1) = upF 2 (fn l) k ++ [fn l k]) := show _ = _ by simp [upF, upV, h0]
            have HU1 : Hid (upF 1 (fn l) (k + 1) = upF 1 (fn l) k ++ [fn l k]) := show _ = _ by simp [upF, upV, h0]
            go_wp2_with (first | (at_builtin; refine own_append_at (.tmp 52) (.tmp 54) ho5 (by omega) hsz rfl rfl rfl rfl ?_; intro v5 w5 p5 hgr5 hat5; have hap5 := hap.out.next ho6 hat5; have p6 := ho6.apart hgr5 hap.out; have hbel5 := grown_below hbel hgr5 ho5 (Nat.le_refl _) hsz; have hsz5 := hbel5.size) | (at_builtin; refine own_append_at (.tmp 56) (.tmp 58) p6 (by omega) hsz5 rfl rfl rfl rfl ?_; intro v6 w6 q6 hgr6 hat6; have hap6 := (hap5.symm.next p5 hat6).symm; have q5 := p5.apart hgr6 hap5.symm; have hbel6 := grown_below hbel5 hgr6 p6 (Nat.le_refl _) hsz5))
            go_roundw
            case rel => exact ⟨k + 1, by omega, by go_num, by rw [HU2.out]; exact q5, by rw [HU1.out]; exact q6, hap6, H20, hbel6⟩
            case measure => simp only [intOf]; omega
      · have e : k = n := by omega
        subst e
        obtain ⟨f1, f2, f3⟩ := up_facts (l := l) (by rw [HN.out]; exact h20.out)
        rw [HN.out] at f1 f2 f3
        rw [HNO.out] at f2 f3
        have HF1 : Hid _ := f1
        have HF3 : Hid _ := f3
        clear f1 f3
        go_wp2_with fail
        refine (implOrd _ (upF 1 (fn l) k) _ ho6.arg (by omega)).mono ?_
        rintro e w6 ⟨⟨vx, rfl, ox⟩, b6⟩
        have hbel6 : Below w4.heap.size w4 w6 := hbel.trans (b6.mono hsz)
        have oo6 := oo4.below hbel6
        have p5 := ho5.below b6
        obtain ⟨ax, nx, cx, rfl, hnx⟩ := ox.slice
        have hnx2 : nx = no := by omega
        subst hnx2
        clear hnx f2
        go_wp2_with fail
        go_loopw [10] (fun i wr => ∃ (k m : Nat), k ≤ nx ∧ i = .int .i64 k ∧ wr = w6.drewN m) (fun i _ => nx - (intOf i).toNat)
        case atStart => exact ⟨0, 0, by omega, rfl, rfl⟩
        case round =>
          obtain ⟨i, m, hi, rfl, rfl⟩ := hrel
          by_cases hlti : i < nx
          · rcases oo6.forms with ⟨e, _⟩ | ⟨go, coo, e, _, hgo, _, _, _⟩
            · simp only [Value.slice.injEq] at e; omega
            simp only [Value.slice.injEq] at e
            obtain ⟨rfl, -, rfl⟩ := e
            rcases ox.forms with ⟨e, _⟩ | ⟨gx, cxx, e, _, hgx, _, _, _⟩
            · simp only [Value.slice.injEq] at e; omega
            simp only [Value.slice.injEq] at e
            obtain ⟨rfl, -, rfl⟩ := e
            obtain ⟨j, hj⟩ : ∃ j, nx - 1 - i = j := ⟨_, rfl⟩
            have hji : (nx : Int) - 1 - (i : Int) = (j : Int) := by omega
            have hjn : (j : Int) < (nx : Int) := by omega
            have hin : (i : Int) < (nx : Int) := by omega
            have c1 : w6.cell? ⟨go, i, none⟩ = some (.int .i64 (fn (ordR l) i)) := oo6.cellN i hlti
            have c2 : w6.cell? ⟨gx, j, none⟩ = some (.int .i64 (fn (ordR l) i)) := by
              rw [← HF3.out i hlti, hj]; exact ox.cellN j (by omega)
            have HJ : Hid _ := hj
            clear hj
            go_wp2_with fail
            go_quiet (fail)
            go_wp2_with fail
            go_roundw
            case rel => exact ⟨i + 1, _, by omega, by go_num, by first | rfl | (rw [World.drewN_drewN])⟩
            case measure => simp only [intOf]; omega
          · have e : i = nx := by omega
            subst e
            go_wp2_with fail
            refine (implOrd _ (upF 2 (fn l) k) _ (p5.arg.drewN m) (by omega)).mono ?_
            rintro e w8 ⟨⟨v8, rfl, o8⟩, b8⟩
            rw [HF1.out] at o8
            have hb8 : Below w4.heap.size w4 w8 := (hbel6.trans ((below_draws w6 m).mono hbel6.size)).trans (b8.mono hbel6.size)
            go_wp2_with fail
            refine (wcInts_yes _ _ (ordR l) _ o8.arg (oo4.below hb8).arg HO4.out).mono ?_
            rintro e w9 ⟨rfl, b9⟩
            go_wp2_with fail
            go_ret
            exact ⟨rfl, B4.trans ((hb8.trans (b9.mono hb8.size)).mono B4.size)⟩
end Go.Proofs.Ytpdngcjioaeckac
