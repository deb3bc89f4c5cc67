import Derived.Test.YtgojdlbidjnmmabGreatPk6
import Derived.Test.YtgojdlbidjnmmabGreatPk1
import Derived.Test.YtgojdlbidjnmmabGreatPk13
import Derived.Test.YtgojdlbidjnmmabGreatPk10
import Derived.Test.YtgojdlbidjnmmabGreatPk7
import Derived.Test.YtgojdlbidjnmmabGreatPk4
import Derived.Test.YtgojdlbidjnmmabGreatPk11
namespace Go.Proofs.YtgojdlbidjnmmabGreat
open Go.ChangeShapes Go.WideShapes Go.ChangeAt Go.RowKit
set_option linter.unusedSimpArgs false

set_option maxHeartbeats 2000000 in
theorem implCls (v : Value) (l : List Int) (n : Nat) (w : World) (hn : l.length = n) (hv : Arg w v l) (hl : n ≤ 4194304) :
    Calls Tryz.prog 100 #[v] w fun e w' => e = .returned (.bool (clsOk (fn l) n)) ∧ w' = w := by
  rcases hv with ⟨a, cap, rfl, rfl⟩ | ⟨b, off, cap, rfl, hb, hlc, hcm, hat⟩
  · subst hn
    go_enter Tryz.func100, Tryz.ntmps100
    go_wp2
    go_rounds 1
    go_ret
    exact ⟨retBool rfl, rfl⟩
  · rw [hn]
    have HN : Hid _ := hn
    have HA : Hid _ := hat
    clear hn hat hlc
    by_cases h80 : 80 < n
    · have h80' : (80 : Int) < (n : Int) := by omega
      go_enter Tryz.func100, Tryz.ntmps100
      go_wp2
      go_ret
      exact ⟨retBool (clsOk_long h80).symm, rfl⟩
    · go_enter Tryz.func100, Tryz.ntmps100
      go_wp2
      go_loop [10] (fun i => ∃ k : Nat, k ≤ n ∧ i = .int .i64 k ∧ Hid (∀ j, j < k → 1 ≤ fn l j ∧ fn l j ≤ 22)) (fun i => n - (intOf i).toNat)
      case atStart => exact ⟨0, Nat.zero_le _, rfl, fun j hj => by omega⟩
      case round =>
        obtain ⟨k, hk, rfl, hall⟩ := hrel
        by_cases hlt : k < n
        · have hcell : w.cell? ⟨b, off + k, none⟩ = some (.int .i64 (fn l k)) := HA.out k (by rw [HN.out]; exact hlt)
          by_cases q1 : fn l k < 1
          · go_wp2
            go_ret
            exact ⟨retBool (clsOk_no hlt (by omega)).symm, rfl⟩
          · by_cases q2 : 22 < fn l k
            · go_wp2
              go_ret
              exact ⟨retBool (clsOk_no hlt (by omega)).symm, rfl⟩
            · go_wp2
              refine ⟨⟨k + 1, by omega, by go_num, fun j hj => ?_⟩, by simp only [intOf]; omega⟩
              by_cases e : j = k
              · subst e; omega
              · exact hall.out j (by omega)
        · have e : k = n := by omega
          subst e
          go_wp2
          go_ret
          exact ⟨retBool (by rw [clsOk_yes hall.out]; simp; omega), rfl⟩

end Go.Proofs.YtgojdlbidjnmmabGreat
namespace Go.Proofs.YtgojdlbidjnmmabGreat
open Go.ChangeShapes Go.WideShapes Go.ChangeAt Go.RowKit
set_option linter.unusedSimpArgs false
set_option linter.unusedVariables false

theorem BS.add {w w2 w' : World} {B n : Nat} {v vo v' vx : Value} {x : List Int} {zs : List (Value × List Int)} {O : List Nat} (hn : zs.length = n) (h : BS w B v vo zs O) (hB : B ≤ w.heap.size) (hb : Below w.heap.size w w2) (hx : OwnI w2 w.heap.size vx x) (ho : OwnV 22 1 w' B v' (n + 1) (zs.map (·.1) ++ [vx])) (hg : w2.grownBy w' v.ownBlock) (hv : v'.ownBlock = v.ownBlock ∨ ∃ H, v'.ownBlock = some H ∧ w2.heap.size ≤ H) : BS w' B v' vo (zs ++ [(vx, x)]) O := by
  refine ⟨h.rz.snoc hn hB hb hx ho hg hv, (h.op.below hb).kept (fun k hk => hg.block k (Nat.lt_of_lt_of_le (h.op.lt k hk).2 hb.size) (fun e => h.ap k e.symm hk)), fun k h1 h2 => ?_, fun q hq k h1 h2 => ?_⟩
  · rcases hv with e | ⟨H, e, hH⟩
    · exact h.ap k (by rw [← e]; exact h1) h2
    · rw [h1] at e; simp at e; have := (h.op.lt k h2).2; have := hb.size; omega
  · simp at hq
    rcases hq with hq | rfl
    · exact h.apz q hq k h1 h2
    · have := (hx.lt k h1).1; have := (h.op.lt k h2).2; omega
/-- What goes together. -/
def mateR (l c : List Int) : List (List Int) := if okF (fn l) l.length = true ∧ clsOk (fn c) c.length = true ∧ l.length = c.length then rowsP (srtB (stB (fn l) (fn c) mate l.length).2) else []

set_option maxRecDepth 10000 in
set_option maxHeartbeats 8000000 in
theorem implMates_row (ba oa bb ob n cap cb : Nat) (L C : List Int) (w : World) (hLl : L.length = n) (hCl : C.length = n) (hn80 : n ≤ 80) (hba : ba < w.heap.size) (hbb : bb < w.heap.size) (hL : At w ba oa L) (hC : At w bb ob C) (hok : Calls Tryz.prog 71 #[.slice (some ⟨ba, oa, none⟩) n cap] w fun e w' => e = .returned (.bool true) ∧ w' = w) (hcls : Calls Tryz.prog 100 #[.slice (some ⟨bb, ob, none⟩) n cb] w fun e w' => e = .returned (.bool true) ∧ w' = w) :
    Calls Tryz.prog 82 #[.slice (some ⟨ba, oa, none⟩) n cap, .slice (some ⟨bb, ob, none⟩) n cb] w fun e w' => (∃ v zs, e = .returned v ∧ RZ w' w.heap.size v zs ∧ zs.map (·.2) = rowsP (srtB (stB (fn L) (fn C) mate n).2)) ∧ Below w.heap.size w w' := by
  have HA : Hid (∀ wr, Below w.heap.size w wr → ∀ j, j < n → wr.cell? ⟨ba, oa + j, none⟩ = some (.int .i64 (fn L j))) := fun wr hb j hj => (hb.cell (p := ⟨ba, oa + j, none⟩) hba).trans (hL j (by omega))
  have HC : Hid (∀ wr, Below w.heap.size w wr → ∀ j, j < n → wr.cell? ⟨bb, ob + j, none⟩ = some (.int .i64 (fn C j))) := fun wr hb j hj => (hb.cell (p := ⟨bb, ob + j, none⟩) hbb).trans (hC j (by omega))
  have HOK : Hid _ := hok
  have HCLS : Hid _ := hcls
  clear hL hC hLl hCl hba hbb hok hcls
  go_enter Tryz.func82, Tryz.ntmps82
  go_wp2_with (first | (go_at_call 71; refine Calls.mono HOK.out ?_; rintro e w1 ⟨rfl, hw1⟩; rw [hw1]; clear hw1 w1) | (go_at_call 100; refine Calls.mono HCLS.out ?_; rintro e w1 ⟨rfl, hw1⟩; rw [hw1]; clear hw1 w1))
  go_loopw [5, 6, 28] (fun v vo i wr => ∃ (k : Nat) (zs : List (Value × List Int)), i = .int .i64 k ∧ k ≤ n ∧ Hid (BS wr w.heap.size v vo zs (stB (fn L) (fn C) mate k).1) ∧ Hid (zs.map (·.2) = rowsP (stB (fn L) (fn C) mate k).2) ∧ Hid (Below w.heap.size w wr)) (fun _ _ i _ => n - (intOf i).toNat)
  case atStart =>
    refine ⟨0, [], rfl, Nat.zero_le _, ⟨RZ.nil _ _, OwnI.nil _ _, fun k h1 h2 => by simp [Value.ownBlock] at h1, fun q hq => by simp at hq⟩, rfl, Below.refl _ _⟩
  case round =>
    obtain ⟨k, zs, rfl, hk, hBS, hzm, hbel⟩ := hrel
    obtain ⟨⟨O, P⟩, hst⟩ : ∃ s, stB (fn L) (fn C) mate k = s := ⟨_, rfl⟩
    have hOl : O.length ≤ k := by have := (st_len (fn L) (fn C) mate k).1; rw [hst] at this; exact this
    have hPl : P.length ≤ k := by have := (st_len (fn L) (fn C) mate k).2; rw [hst] at this; exact this
    rw [hst] at hBS hzm
    replace hBS : Hid (BS wr w.heap.size u5 u6 zs O) := hBS
    replace hzm : Hid (zs.map (·.2) = rowsP P) := hzm
    obtain ⟨N, hNl⟩ : ∃ N, zs.length = N := ⟨_, rfl⟩
    have hNP : N = P.length := by
      have h2 := congrArg List.length hzm.out
      rw [List.length_map, rowsP_len] at h2; omega
    have HNP : Hid (N = P.length) := hNP
    have HNL : Hid (zs.length = N) := hNl
    have hN80 : N ≤ 80 := by omega
    clear hNl hNP
    by_cases hlt : k < n
    · have hki : (k : Int) < (n : Int) := by omega
      obtain ⟨x, hx⟩ : ∃ x, fn L k = x := ⟨_, rfl⟩
      obtain ⟨c, hc⟩ : ∃ c, fn C k = c := ⟨_, rfl⟩
      obtain ⟨m, hm⟩ : ∃ m, mate x = m := ⟨_, rfl⟩
      have HM : Hid (∀ W, Calls Tryz.prog 50 #[.int .i64 x] W fun e w' => e = .returned (.int .i64 m) ∧ w' = W) := fun W => by rw [← hm]; exact implMate x W
      have HS := stB_succ hst hm hx hc
      have hcx : wr.cell? ⟨ba, oa + k, none⟩ = some (.int .i64 x) := by rw [HA.out wr hbel.out k hlt, hx]
      have hcc : wr.cell? ⟨bb, ob + k, none⟩ = some (.int .i64 c) := by rw [HC.out wr hbel.out k hlt, hc]
      have HST : Hid (stB (fn L) (fn C) mate k = (O, P)) := hst
      clear hst hm hx hc
      by_cases h0 : m = 0 ∨ c ≠ 13
      · rw [if_pos h0] at HS
        have HS' : Hid (stB (fn L) (fn C) mate (k + 1) = (O, P)) := HS
        clear HS
        by_cases h1 : m = 0
        · subst h1
          clear h0
          go_wp2_with (go_at_call 50; refine (HM.out _).mono ?_; rintro e w4 ⟨rfl, hw4⟩; rw [hw4]; clear hw4 w4)
          go_roundw
          case rel => exact ⟨k + 1, zs, by go_num, by omega, by rw [HS'.out]; exact hBS.out, by rw [HS'.out]; exact hzm.out, hbel.out⟩
          case measure => simp only [intOf]; omega
        · have h2 : c ≠ 13 := by rcases h0 with h | h; exact absurd h h1; exact h
          have hm0 : (m == 0) = false := by simpa using h1
          have hc13 : (c == 13) = false := by simpa using h2
          clear h0
          go_wp2_with (go_at_call 50; refine (HM.out _).mono ?_; rintro e w4 ⟨rfl, hw4⟩; rw [hw4]; clear hw4 w4)
          go_roundw
          case rel => exact ⟨k + 1, zs, by go_num, by omega, by rw [HS'.out]; exact hBS.out, by rw [HS'.out]; exact hzm.out, hbel.out⟩
          case measure => simp only [intOf]; omega
      · rw [if_neg h0] at HS
        have h1 : ¬ m = 0 := fun e => h0 (.inl e)
        have h2 : c = 13 := by
          by_cases e : c = 13
          · exact e
          · exact absurd (.inr e) h0
        have hm0 : (m == 0) = false := by simpa using h1
        subst h2
        clear h0
        by_cases hxm : x < m
        · rw [if_pos hxm] at HS
          have HS' : Hid (stB (fn L) (fn C) mate (k + 1) = (O ++ [k], P)) := HS
          clear HS
          go_wp2_with (first | (go_at_call 50; refine (HM.out _).mono ?_; rintro e w4 ⟨rfl, hw4⟩; rw [hw4]; clear hw4 w4) | (at_builtin; refine own_append_at (.tmp 47) (.tmp 49) hBS.out.op (by rw [natL_len]; omega) hbel.out.size rfl rfl rfl rfl ?_; intro v' w6 ho6 hg6 hv6; have HO6 : Hid (OwnI w6 w.heap.size v' (natL O ++ [(k : Int)])) := ho6; have HG6 : Hid (wr.grownBy w6 u6.ownBlock) := hg6; have HV6 : Hid (v'.ownBlock = u6.ownBlock ∨ v'.ownBlock = some (wr.heap.size + 1)) := hv6; clear ho6 hg6 hv6))
          go_roundw
          case rel =>
            refine ⟨k + 1, zs, by go_num, by omega, ?_, by rw [HS'.out]; exact hzm.out, ?_⟩
            · rw [HS'.out]
              exact hBS.out.push (x := k) (by rw [natL_app]; exact HO6.out) HG6.out HV6.out
            · exact hbel.out.grown HG6.out hbel.out.size (fun b hb => (hBS.out.op.lt b hb).1)
          case measure => simp only [intOf]; omega
        · rw [if_neg hxm] at HS
          have HS' : Hid (stB (fn L) (fn C) mate (k + 1) = shutB (fn L) m k O P (scanF (fn L) O m O.length)) := HS
          clear HS
          obtain ⟨lo, hlo⟩ : ∃ lo, O.length = lo := ⟨_, rfl⟩
          obtain ⟨ao, no, co, hvo, hno⟩ := hBS.out.op.slicZ
          rw [natL_len, hlo] at hno
          subst hno
          subst hvo
          rw [hlo] at hOl
          have HLO : Hid (O.length = lo) := hlo
          clear hlo
          go_wp2_with (first | (go_at_call 50; refine (HM.out _).mono ?_; rintro e w4 ⟨rfl, hw4⟩; rw [hw4]; clear hw4 w4))
          go_loop [5, 6, 10] (fun v5 v6 j => v5 = u5 ∧ v6 = .slice ao lo co ∧ ∃ q : Nat, j = .int .i64 ((q : Int) - 1) ∧ q ≤ lo ∧ Hid (scanF (fn L) O m lo = scanF (fn L) O m q)) (fun _ _ j => (intOf j + 1).toNat)
          case atStart => exact ⟨rfl, rfl, lo, rfl, Nat.le_refl _, rfl⟩
          case round =>
            obtain ⟨rfl, rfl, q, rfl, hq, hsc⟩ := hrel
            cases q with
            | zero =>
              have HSN : Hid (stB (fn L) (fn C) mate (k + 1) = (O, P)) := by
                unfold Hid; rw [HS'.out, HLO.out, hsc.out]; rfl
              go_wp2_with fail
              go_roundw
              case rel => exact ⟨k + 1, zs, by go_num, by omega, by rw [HSN.out]; exact hBS.out, by rw [HSN.out]; exact hzm.out, hbel.out⟩
              case measure => simp only [intOf]; omega
            | succ q =>
              rw [show ((q + 1 : Nat) : Int) - 1 = (q : Int) by omega]
              have hOq : q < O.length := by rw [HLO.out]; omega
              obtain ⟨go, co', e, hlc⟩ := hBS.out.op.form1 (by intro e; have := congrArg List.length e; rw [natL_len] at this; simp at this; rw [this] at hOq; simp at hOq)
              rw [natL_len, HLO.out] at hlc e
              simp only [Value.slice.injEq] at e
              obtain ⟨rfl, _, rfl⟩ := e
              obtain ⟨o, ho⟩ : ∃ o, O.getD q 0 = o := ⟨_, rfl⟩
              have ho2 : O[q] = o := by rw [← ho]; simp [hOq]
              have hok : o < k := by
                have := (good_st (fn L) (fn C) mate k).lt o
                rw [HST.out] at this
                exact this (by rw [← ho2]; exact List.getElem_mem hOq)
              have hco : wr.cell? ⟨go, q, none⟩ = some (.int .i64 (o : Int)) := by
                rw [hBS.out.op.cellN q (by omega), fn_natL hOq, ho2]
              have hcr : wr.cell? ⟨ba, oa + o, none⟩ = some (.int .i64 (fn L o)) := HA.out _ hbel.out o (by omega)
              obtain ⟨y, hy⟩ : ∃ y, fn L o = y := ⟨_, rfl⟩
              rw [hy] at hcr
              have hqi : (q : Int) < (lo : Int) := by omega
              have hoi : (o : Int) < (n : Int) := by omega
              have hqc : (q : Int) ≤ (co : Int) := by omega
              by_cases hym : y = m
              · have hyb : (y == m) = true := by simpa using hym
                have HSC : Hid (stB (fn L) (fn C) mate (k + 1) = (O.take q, P ++ [(o, k)])) := by
                  unfold Hid; rw [HS'.out, HLO.out, hsc.out]
                  simp only [scanF, ho, hy, if_pos hym, shutB]
                obtain ⟨W, hW⟩ : ∃ W, wr.alloc (.cells #[.int .i64 (o : Int), .int .i64 (k : Int)] 3) = W := ⟨_, rfl⟩
                have hBW : Below wr.heap.size wr W := by rw [← hW]; exact (Below.refl _ _).alloc (Nat.le_refl _) _
                have HBW : Hid (Below wr.heap.size wr W) := hBW
                have hWs : W.heap.size = wr.heap.size + 1 := by rw [← hW]; simp
                have HWS : Hid (W.heap.size = wr.heap.size + 1) := hWs
                have HOP : Hid (OwnI W wr.heap.size (.slice (some ⟨wr.heap.size, 0, none⟩) 2 2) (rowP (o, k))) := by rw [← hW]; exact own_lit2 wr _ _ _ _ (Nat.le_refl _) rfl
                have HOV : Hid (OwnV 22 1 W w.heap.size u5 N (zs.map (·.1))) := by have := (hBS.out.rz.own).below hBW; rw [HNL.out] at this; exact this
                have hwW : w.heap.size ≤ W.heap.size := by have := hbel.out.size; omega
                clear hym ho ho2 hy hlc hBW hWs
                subst hW
                go_wp2_with (at_builtin; refine own_appendV (k := 1) (b := 24) (T := 22) (TS := 44) (.tmp 67) (.tmp 74) HWS.out rowSS Tryz.underlying44 HOV.out (by omega) hwW (by omega) (by omega) rfl (by simp [Value.oneCell']) rfl rfl rfl rfl ?_; intro v8 w8 ho8 hg8 hv8; have HO8 : Hid (OwnV 22 1 w8 w.heap.size v8 (N + 1) (zs.map (·.1) ++ [.slice (some ⟨wr.heap.size, 0, none⟩) 2 2])) := ho8; have HG8 : Hid (World.grownBy _ w8 (Value.ownBlock u5)) := hg8; have HV8 : Hid (v8.ownBlock = u5.ownBlock ∨ ∃ H, v8.ownBlock = some H ∧ wr.heap.size + 1 ≤ H) := (by rcases hv8 with e | e; exact .inl e; exact .inr ⟨_, e, by rw [HWS.out]; omega⟩); clear ho8 hg8 hv8)
                go_roundw
                case rel =>
                  refine ⟨k + 1, zs ++ [(.slice (some ⟨wr.heap.size, 0, none⟩) 2 2, rowP (o, k))], by go_num, by omega, ?_, ?_, (hbel.out.trans (HBW.out.mono hbel.out.size)).grown HG8.out hwW (fun b hb => (HOV.out.lt b hb).1)⟩
                  · rw [HSC.out]
                    refine (hBS.out.add HNL.out hbel.out.size HBW.out HOP.out HO8.out HG8.out ?_).cut (by omega)
                    rcases HV8.out with e | e
                    · exact .inl e
                    · obtain ⟨H, e, h⟩ := e
                      exact .inr ⟨H, e, by rw [HWS.out]; exact h⟩
                  · rw [HSC.out, List.map_append, hzm.out]
                    show rowsP P ++ [rowP (o, k)] = rowsP (P ++ [(o, k)])
                    simp [rowsP]
                case measure => simp only [intOf]; omega
              · have hyb : (y == m) = false := by simpa using hym
                have hsc2 : Hid (scanF (fn L) O m lo = scanF (fn L) O m q) := by
                  unfold Hid; rw [hsc.out]
                  simp only [scanF, ho, hy, if_neg hym]
                clear hym ho ho2 hy hlc
                go_wp2_with fail
                go_round
                case rel => exact ⟨rfl, rfl, q, rfl, by omega, hsc2⟩
                case measure => simp only [intOf]; omega
    · have e : k = n := by omega
      subst e
      have hgood := good_st (fn L) (fn C) mate k
      rw [hst] at hgood
      have HST : Hid (stB (fn L) (fn C) mate k = (O, P)) := hst
      have HNE : Hid (P.Pairwise (fun a b => a.1 ≠ b.1)) := hgood.ne
      have HLE : Hid (∀ p ∈ P, p.1 ≤ 1000) := fun p hp => by obtain ⟨h1, h2⟩ := hgood.lt2 p hp; omega
      clear hst hgood
      cases N with
      | zero =>
        have hz0 : zs = [] := List.eq_nil_of_length_eq_zero HNL.out
        have hP0 : P = [] := List.eq_nil_of_length_eq_zero HNP.out.symm
        subst hz0
        subst hP0
        obtain ⟨a5, c5, rfl⟩ := hBS.out.rz.slc
        simp only [List.length_nil]
        go_wp2_with (go_at_call 109; refine (sort_none _ _ _).mono ?_; rintro e w5 ⟨rfl, rfl⟩)
        go_ret
        exact ⟨⟨_, [], rfl, hBS.out.rz, by rw [HST.out]; rfl⟩, hbel.out⟩
      | succ M =>
        obtain ⟨g5, c5, e5, _⟩ := hBS.out.rz.own.form1 (by rw [HNL.out]; omega)
        rw [HNL.out] at e5
        subst e5
        go_wp2_with (go_at_call 109; refine (implSort g5 M c5 w.heap.size zs P _ hBS.out.rz hzm.out HNE.out HLE.out (by omega)).mono ?_; rintro e w5 ⟨rfl, ⟨zs', hz5, hm5⟩, b5⟩)
        go_ret
        exact ⟨⟨_, zs', rfl, hz5, by rw [HST.out]; exact hm5⟩, hbel.out.trans b5⟩
end Go.Proofs.YtgojdlbidjnmmabGreat
namespace Go.Proofs.YtgojdlbidjnmmabGreat
open Go.ChangeShapes Go.WideShapes Go.ChangeAt Go.RowKit
set_option linter.unusedSimpArgs false
set_option linter.unusedVariables false

theorem mateR_no {l c : List Int} (h : ¬ (okF (fn l) l.length = true ∧ clsOk (fn c) c.length = true ∧ l.length = c.length)) : mateR l c = [] := by unfold mateR; rw [if_neg h]
theorem mateR_nil : mateR [] [] = [] := by
  unfold mateR; split <;> rfl
theorem mateR_yes {l c : List Int} (h1 : okF (fn l) l.length = true) (h2 : clsOk (fn c) c.length = true) (h3 : l.length = c.length) : mateR l c = rowsP (srtB (stB (fn l) (fn c) mate l.length).2) := by unfold mateR; rw [if_pos ⟨h1, h2, h3⟩]
set_option maxHeartbeats 2000000 in
theorem implMates (l c : List Int) (w : World) (a b : Option Addr) (ca cb : Nat) (h1 : Arg w (.slice a l.length ca) l) (h2 : Arg w (.slice b c.length cb) c) (hl1 : l.length ≤ 1048576) (hl2 : c.length ≤ 1048576) :
    Calls Tryz.prog 82 #[.slice a l.length ca, .slice b c.length cb] w fun e w' => (∃ v, e = .returned v ∧ RRX w' w.heap.size v (mateR l c)) ∧ Below w.heap.size w w' := by
  have hok := fun q (e : okF (fn l) l.length = q) => e ▸ implOk _ l w h1 (by omega)
  have hcl := fun q (e : clsOk (fn c) c.length = q) => e ▸ implCls _ c c.length w rfl h2 (by omega)
  obtain ⟨n, hn⟩ : ∃ n, l.length = n := ⟨_, rfl⟩
  obtain ⟨m, hm⟩ : ∃ m, c.length = m := ⟨_, rfl⟩
  have HOK : Hid _ := hok
  have HCL : Hid _ := hcl
  clear hok hcl
  by_cases q1 : okF (fn l) l.length = true
  · by_cases q2 : clsOk (fn c) c.length = true
    · have HO := HOK.out true q1
      have HC := HCL.out true q2
      by_cases q3 : l.length = c.length
      · rw [mateR_yes q1 q2 q3]
        have h80 := okF_len q1
        rw [hm] at q3 h2 HC ⊢
        rw [hn] at q3 h80 h1 HO ⊢
        subst q3
        rcases h1 with ⟨a1, c1, e1, rfl⟩ | ⟨b1, o1, c1, e1, hb1, hlc1, hcm1, hat1⟩
        · simp only [Value.slice.injEq] at e1
          obtain ⟨rfl, rfl, rfl⟩ := e1
          have HOz : Hid _ := HO
          have HCz : Hid _ := HC
          clear HO HC h2 hm hn
          go_enter Tryz.func82, Tryz.ntmps82
          go_wp2_with (first | (go_at_call 71; refine Calls.mono HOz.out ?_; rintro e w1 ⟨rfl, hw1⟩; rw [hw1]; clear hw1 w1) | (go_at_call 100; refine Calls.mono HCz.out ?_; rintro e w1 ⟨rfl, hw1⟩; rw [hw1]; clear hw1 w1))
          refine wp_loop_rounds 1 ?_
          rw [rounds_succ]
          go_wp2_with (go_at_call 109; refine (sort_none _ _ _).mono ?_; rintro e w5 ⟨rfl, hw5⟩; rw [hw5]; clear hw5 w5)
          go_ret
          exact ⟨⟨_, rfl, [], RR.nil _ _⟩, Below.refl _ _⟩
        · rw [hn] at e1 hlc1
          simp only [Value.slice.injEq] at e1
          obtain ⟨rfl, _, rfl⟩ := e1
          rcases h2 with ⟨a2, c2, e2, e3⟩ | ⟨b2, o2, c2, e2, hb2, hlc2, hcm2, hat2⟩
          · simp only [Value.slice.injEq] at e2
            obtain ⟨rfl, rfl, rfl⟩ := e2
            have HOz : Hid _ := HO
            have HCz : Hid _ := HC
            clear HO HC hm hat1 hlc1
            go_enter Tryz.func82, Tryz.ntmps82
            go_wp2_with (first | (go_at_call 71; refine Calls.mono HOz.out ?_; rintro e w1 ⟨rfl, hw1⟩; rw [hw1]; clear hw1 w1) | (go_at_call 100; refine Calls.mono HCz.out ?_; rintro e w1 ⟨rfl, hw1⟩; rw [hw1]; clear hw1 w1))
            refine wp_loop_rounds 1 ?_
            rw [rounds_succ]
            go_wp2_with (go_at_call 109; refine (sort_none _ _ _).mono ?_; rintro e w5 ⟨rfl, hw5⟩; rw [hw5]; clear hw5 w5)
            go_ret
            exact ⟨⟨_, rfl, [], RR.nil _ _⟩, Below.refl _ _⟩
          · rw [hm] at e2 hlc2
            simp only [Value.slice.injEq] at e2
            obtain ⟨rfl, _, rfl⟩ := e2
            refine (implMates_row b1 o1 b2 o2 n ca cb l c w hn hm h80 hb1 hb2 hat1 hat2 HO HC).mono ?_
            rintro e w1 ⟨⟨v, zs, rfl, hz, hmm⟩, b1⟩
            exact ⟨⟨v, rfl, _, by rw [← hmm]; exact hz.rr⟩, b1⟩
      · rw [mateR_no (fun h => q3 h.2.2)]
        rw [hm] at q3 h2 HC ⊢
        rw [hn] at q3 h1 HO ⊢
        have hq3 : ((n : Int) == (m : Int)) = false := by simp; omega
        have HOz : Hid _ := HO
        have HCz : Hid _ := HC
        clear HO HC h2 hm hn h1
        go_enter Tryz.func82, Tryz.ntmps82
        go_wp2_with (first | (go_at_call 71; refine Calls.mono HOz.out ?_; rintro e w1 ⟨rfl, hw1⟩; rw [hw1]; clear hw1 w1) | (go_at_call 100; refine Calls.mono HCz.out ?_; rintro e w1 ⟨rfl, hw1⟩; rw [hw1]; clear hw1 w1))
        go_ret
        exact ⟨⟨_, rfl, [], RR.nil _ _⟩, Below.refl _ _⟩
    · have q2' : clsOk (fn c) c.length = false := by simpa using q2
      have HO := HOK.out true q1
      have HC := HCL.out false q2'
      rw [mateR_no (fun h => q2 h.2.1)]
      rw [hm] at h2 HC ⊢
      rw [hn] at h1 HO ⊢
      have HOz : Hid _ := HO
      have HCz : Hid _ := HC
      clear HO HC h2 hm hn h1
      go_enter Tryz.func82, Tryz.ntmps82
      go_wp2_with (first | (go_at_call 71; refine Calls.mono HOz.out ?_; rintro e w1 ⟨rfl, hw1⟩; rw [hw1]; clear hw1 w1) | (go_at_call 100; refine Calls.mono HCz.out ?_; rintro e w1 ⟨rfl, hw1⟩; rw [hw1]; clear hw1 w1))
      go_ret
      exact ⟨⟨_, rfl, [], RR.nil _ _⟩, Below.refl _ _⟩
  · have q1' : okF (fn l) l.length = false := by simpa using q1
    have HO := HOK.out false q1'
    rw [mateR_no (fun h => q1 h.1)]
    rw [hm] at h2 ⊢
    rw [hn] at h1 HO ⊢
    have HOz : Hid _ := HO
    clear HO h2 hm hn h1
    go_enter Tryz.func82, Tryz.ntmps82
    go_wp2_with (go_at_call 71; refine Calls.mono HOz.out ?_; rintro e w1 ⟨rfl, hw1⟩; rw [hw1]; clear hw1 w1)
    go_ret
    exact ⟨⟨_, rfl, [], RR.nil _ _⟩, Below.refl _ _⟩

end Go.Proofs.YtgojdlbidjnmmabGreat
namespace Go.Proofs.YtgojdlbidjnmmabGreat
open Go.ChangeShapes Go.WideShapes Go.ChangeAt Go.RowKit
set_option linter.unusedSimpArgs false

/-- Classes on which the rules work: where they lie, and the side ahead. -/
structure WT (w : World) (R g n cp : Nat) (b : Int) : Prop where
  c0 : w.cell? ⟨R, 0, none⟩ = some (.slice (some ⟨g, 0, none⟩) n cp)
  c1 : w.cell? ⟨R, 1, none⟩ = some (.int .i64 b)
  lt : R < w.heap.size
  ne : R ≠ g
theorem WT.kept {w w' : World} {R g n cp : Nat} {b : Int} (h : WT w R g n cp b) (hg : w.grownBy w' (some g)) : WT w' R g n cp b :=
  ⟨(World.cell?_of_block (a := ⟨R, 0, none⟩) (hg.block R h.lt (fun e => h.ne (by simpa using e)))).trans h.c0,
   (World.cell?_of_block (a := ⟨R, 1, none⟩) (hg.block R h.lt (fun e => h.ne (by simpa using e)))).trans h.c1, Nat.lt_of_lt_of_le h.lt hg.size, h.ne⟩
theorem grownW_refl (w : World) (k : Option Nat) : w.grownBy w k := ⟨rfl, rfl, rfl, Nat.le_refl _, fun _ _ _ => rfl⟩
theorem grown_trans' {a b c : World} {row : Option Nat} (h : a.grownBy b row) (k : b.grownBy c row) : a.grownBy c row :=
  ⟨k.os.trans h.os, k.tape.trans h.tape, k.output.trans h.output, Nat.le_trans h.size k.size, fun i hi hne => (k.block i (Nat.lt_of_lt_of_le hi h.size) hne).trans (h.block i hi hne)⟩
theorem grownW_set {w wr : World} {g j : Nat} {x : Value} (hgr : w.grownBy wr (some g)) : w.grownBy (wr.setCell ⟨g, j, none⟩ x) (some g) :=
  ⟨hgr.os, hgr.tape, hgr.output, by simpa using hgr.size, fun y hy hne => (heap_setCell_other wr ⟨g, j, none⟩ y _ (fun e => hne (by rw [e]))).trans (hgr.block y hy hne)⟩
/-- What a rule leaves: the row as the rule makes it, nothing else turned. -/
def Ruled (w w' : World) (B g n cp : Nat) (L : List Int) : Prop := OwnI w' B (.slice (some ⟨g, 0, none⟩) n cp) L ∧ w.grownBy w' (some g) ∧ w'.heap.size = w.heap.size
/-- The state of a rule's loop. -/
def Ruling (w wr : World) (B g n cp f : Nat) (m z : Nat → Int) : Prop := ∃ L, OwnI wr B (.slice (some ⟨g, 0, none⟩) n cp) L ∧ upTo m z n f L ∧ w.grownBy wr (some g) ∧ wr.heap.size = w.heap.size
theorem Ruling.start {w : World} {B g n cp : Nat} {m : Nat → Int} {l : List Int} (h : OwnI w B (.slice (some ⟨g, 0, none⟩) n cp) l) : Ruling w w B g n cp 0 m (fn l) :=
  ⟨l, h, upTo_zero _ _ _ _ (fun _ _ => rfl), grownW_refl _ _, rfl⟩
theorem Ruling.keep {w wr : World} {B g n cp f : Nat} {m z : Nat → Int} (h : Ruling w wr B g n cp f m z) (hf : f < n) (e : m f = z f) : Ruling w wr B g n cp (f + 1) m z := by
  obtain ⟨L, a, b, c, d⟩ := h; exact ⟨L, a, upTo_keep b hf e, c, d⟩
theorem Ruling.set {w wr : World} {B g n cp f : Nat} {m z : Nat → Int} {x : Int} (h : Ruling w wr B g n cp f m z) (hf : f < n) (e : m f = x) : Ruling w (wr.setCell ⟨g, f, none⟩ (.int .i64 x)) B g n cp (f + 1) m z := by
  obtain ⟨L, a, b, c, d⟩ := h
  exact ⟨L.set f x, a.storedN _ _, upTo_set b a.len hf e, grownW_set c, by rw [World.size_setCell]; exact d⟩
theorem Ruling.fin {w wr : World} {B g n cp : Nat} {m z : Nat → Int} (h : Ruling w wr B g n cp n m z) : Ruled w wr B g n cp (mkL n m) := by
  obtain ⟨L, a, b, c, d⟩ := h
  have e := upTo_end b a.len
  subst e
  exact ⟨a, c, d⟩
theorem Ruling.cell {w wr : World} {B g n cp f : Nat} {m z : Nat → Int} (h : Ruling w wr B g n cp f m z) {j : Nat} (h1 : f ≤ j) (h2 : j < n) : wr.cell? ⟨g, j, none⟩ = some (.int .i64 (z j)) := by
  obtain ⟨L, a, b, _⟩ := h; rw [a.cellN j h2, b.2 j h1 h2]
theorem Ruling.done {w wr : World} {B g n cp f : Nat} {m z : Nat → Int} (h : Ruling w wr B g n cp f m z) {j : Nat} (h1 : j < f) (h2 : j < n) : wr.cell? ⟨g, j, none⟩ = some (.int .i64 (m j)) := by
  obtain ⟨L, a, b, _⟩ := h; rw [a.cellN j h2, b.1 j h1]
theorem Ruling.free {w wr : World} {B g n cp f : Nat} {m z : Nat → Int} (h : Ruling w wr B g n cp f m z) (j : Nat) : wr.frozen? ⟨g, j, none⟩ = false := by
  obtain ⟨L, a, _⟩ := h; exact a.frozenN j
theorem Ruling.wt {w wr : World} {B g n cp f R : Nat} {b : Int} {m z : Nat → Int} (h : Ruling w wr B g n cp f m z) (hw : WT w R g n cp b) : WT wr R g n cp b := by
  obtain ⟨L, _, _, c, _⟩ := h; exact hw.kept c

set_option maxHeartbeats 1000000 in
theorem implR3 (R g n cp B : Nat) (b : Int) (l : List Int) (w : World) (hw : WT w R g n cp b) (hn : Hid (l.length = n)) (hv : OwnI w B (.slice (some ⟨g, 0, none⟩) n cp) l) (hl : n ≤ 80) :
    Calls Tryz.prog 104 #[.pointer (some ⟨R, 0, none⟩)] w fun e w' => e = .returned (.tuple #[]) ∧ Ruled w w' B g n cp (r3 l) := by
  have HR : Hid (r3 l = mkL n (m3 (fn l))) := by show _ = _; unfold r3; rw [hn.out]
  rw [HR.out]
  have HS : Hid (Ruling w w B g n cp 0 (m3 (fn l)) (fn l)) := Ruling.start hv
  have HW : Hid _ := hw
  obtain ⟨q0, q1, q2, q3⟩ := hw
  go_enter Tryz.func104, Tryz.ntmps104
  go_wp2
  clear q0 q1
  go_loopw [9] (fun i wr => ∃ f : Nat, f ≤ n ∧ i = .int .i64 f ∧ Hid (Ruling w wr B g n cp f (m3 (fn l)) (fn l))) (fun i _ => n - (intOf i).toNat)
  case atStart => exact ⟨0, Nat.zero_le _, rfl, HS⟩
  case round =>
    obtain ⟨f, hf, rfl, hr⟩ := hrel
    by_cases hlt : f < n
    · have c := hr.out.cell (Nat.le_refl _) hlt
      have fz := hr.out.free f
      obtain ⟨q0, q1, _, _⟩ := hr.out.wt HW.out
      by_cases e3 : fn l f = 3
      · have E3 : Hid _ := e3
        rw [e3] at c
        clear e3
        go_wp2
        go_roundw
        case rel => exact ⟨f + 1, by omega, by go_num, hr.out.set hlt (by unfold m3; rw [if_pos E3.out])⟩
        case measure => simp only [intOf]; omega
      · have g3 : (fn l f == 3) = false := by simpa using e3
        go_wp2
        go_roundw
        case rel => exact ⟨f + 1, by omega, by go_num, hr.out.keep hlt (by unfold m3; rw [if_neg e3])⟩
        case measure => simp only [intOf]; omega
    · have e : f = n := by omega
      subst e
      go_wp2
      go_end0
      exact ⟨rfl, hr.out.fin⟩
end Go.Proofs.YtgojdlbidjnmmabGreat
