import Derived.Test.YtgojdlbidjnmmaaGreatSortP
import Derived.Test.YtgojdlbidjnmmaaGreatMateD
import Derived.Test.YtgojdlbidjnmmaaGreatClsOk
import Derived.Test.YtgojdlbidjnmmaaGreatOk
namespace Go.Proofs.YtgojdlbidjnmmaaGreat
open Go.ChangeShapes Go.WideShapes Go.ChangeAt Go.RowKit
set_option linter.unusedSimpArgs false
set_option linter.unusedVariables false

theorem BS.add {w w2 w' : World} {B n : Nat} {v vo v' vx : Value} {x : List Int} {zs : List (Value × List Int)} {O : List Nat} (hn : zs.length = n) (h : BS w B v vo zs O) (hB : B ≤ w.heap.size) (hb : Below w.heap.size w w2) (hx : OwnI w2 w.heap.size vx x) (ho : OwnV 23 1 w' B v' (n + 1) (zs.map (·.1) ++ [vx])) (hg : w2.grownBy w' v.ownBlock) (hv : v'.ownBlock = v.ownBlock ∨ ∃ H, v'.ownBlock = some H ∧ w2.heap.size ≤ H) : BS w' B v' vo (zs ++ [(vx, x)]) O := by
  refine ⟨h.rz.snoc hn hB hb hx ho hg hv, (h.op.below hb).kept (fun k hk => hg.block k (Nat.lt_of_lt_of_le (h.op.lt k hk).2 hb.size) (fun e => h.ap k e.symm hk)), fun k h1 h2 => ?_, fun q hq k h1 h2 => ?_⟩
  · rcases hv with e | ⟨H, e, hH⟩
    · exact h.ap k (by rw [← e]; exact h1) h2
    · rw [h1] at e; simp at e; have := (h.op.lt k h2).2; have := hb.size; omega
  · simp at hq
    rcases hq with hq | rfl
    · exact h.apz q hq k h1 h2
    · have := (hx.lt k h1).1; have := (h.op.lt k h2).2; omega
/-- What goes together. -/
def mateR (l c : List Int) : List (List Int) := if okF (fn l) l.length = true ∧ clsOk (fn c) c.length = true ∧ l.length = c.length then rowsP (srtB (stB (fn l) (fn c) mate l.length).2) else []

set_option maxRecDepth 10000 in
set_option maxHeartbeats 8000000 in
theorem implMates_row (ba oa bb ob n cap cb : Nat) (L C : List Int) (w : World) (hLl : L.length = n) (hCl : C.length = n) (hn80 : n ≤ 80) (hba : ba < w.heap.size) (hbb : bb < w.heap.size) (hL : At w ba oa L) (hC : At w bb ob C) (hok : Calls Tryz.prog 56 #[.slice (some ⟨ba, oa, none⟩) n cap] w fun e w' => e = .returned (.bool true) ∧ w' = w) (hcls : Calls Tryz.prog 98 #[.slice (some ⟨bb, ob, none⟩) n cb] w fun e w' => e = .returned (.bool true) ∧ w' = w) :
    Calls Tryz.prog 67 #[.slice (some ⟨ba, oa, none⟩) n cap, .slice (some ⟨bb, ob, none⟩) n cb] w fun e w' => (∃ v zs, e = .returned v ∧ RZ w' w.heap.size v zs ∧ zs.map (·.2) = rowsP (srtB (stB (fn L) (fn C) mate n).2)) ∧ Below w.heap.size w w' := by
  have HA : Hid (∀ wr, Below w.heap.size w wr → ∀ j, j < n → wr.cell? ⟨ba, oa + j, none⟩ = some (.int .i64 (fn L j))) := fun wr hb j hj => (hb.cell (p := ⟨ba, oa + j, none⟩) hba).trans (hL j (by omega))
  have HC : Hid (∀ wr, Below w.heap.size w wr → ∀ j, j < n → wr.cell? ⟨bb, ob + j, none⟩ = some (.int .i64 (fn C j))) := fun wr hb j hj => (hb.cell (p := ⟨bb, ob + j, none⟩) hbb).trans (hC j (by omega))
  have HOK : Hid _ := hok
  have HCLS : Hid _ := hcls
  clear hL hC hLl hCl hba hbb hok hcls
  go_enter Tryz.func67, Tryz.ntmps67
  go_wp2_with (first | (go_at_call 56; refine Calls.mono HOK.out ?_; rintro e w1 ⟨rfl, hw1⟩; rw [hw1]; clear hw1 w1) | (go_at_call 98; refine Calls.mono HCLS.out ?_; rintro e w1 ⟨rfl, hw1⟩; rw [hw1]; clear hw1 w1))
  go_loopw [5, 6, 28] (fun v vo i wr => ∃ (k : Nat) (zs : List (Value × List Int)), i = .int .i64 k ∧ k ≤ n ∧ Hid (BS wr w.heap.size v vo zs (stB (fn L) (fn C) mate k).1) ∧ Hid (zs.map (·.2) = rowsP (stB (fn L) (fn C) mate k).2) ∧ Hid (Below w.heap.size w wr)) (fun _ _ i _ => n - (intOf i).toNat)
  case atStart =>
    refine ⟨0, [], rfl, Nat.zero_le _, ⟨RZ.nil _ _, OwnI.nil _ _, fun k h1 h2 => by simp [Value.ownBlock] at h1, fun q hq => by simp at hq⟩, rfl, Below.refl _ _⟩
  case round =>
    obtain ⟨k, zs, rfl, hk, hBS, hzm, hbel⟩ := hrel
    obtain ⟨⟨O, P⟩, hst⟩ : ∃ s, stB (fn L) (fn C) mate k = s := ⟨_, rfl⟩
    have hOl : O.length ≤ k := by have := (st_len (fn L) (fn C) mate k).1; rw [hst] at this; exact this
    have hPl : P.length ≤ k := by have := (st_len (fn L) (fn C) mate k).2; rw [hst] at this; exact this
    rw [hst] at hBS hzm
    replace hBS : Hid (BS wr w.heap.size u5 u6 zs O) := hBS
    replace hzm : Hid (zs.map (·.2) = rowsP P) := hzm
    obtain ⟨N, hNl⟩ : ∃ N, zs.length = N := ⟨_, rfl⟩
    have hNP : N = P.length := by
      have h2 := congrArg List.length hzm.out
      rw [List.length_map, rowsP_len] at h2; omega
    have HNP : Hid (N = P.length) := hNP
    have HNL : Hid (zs.length = N) := hNl
    have hN80 : N ≤ 80 := by omega
    clear hNl hNP
    by_cases hlt : k < n
    · have hki : (k : Int) < (n : Int) := by omega
      obtain ⟨x, hx⟩ : ∃ x, fn L k = x := ⟨_, rfl⟩
      obtain ⟨c, hc⟩ : ∃ c, fn C k = c := ⟨_, rfl⟩
      obtain ⟨m, hm⟩ : ∃ m, mate x = m := ⟨_, rfl⟩
      have HM : Hid (∀ W, Calls Tryz.prog 54 #[.int .i64 x] W fun e w' => e = .returned (.int .i64 m) ∧ w' = W) := fun W => by rw [← hm]; exact implMate x W
      have HS := stB_succ hst hm hx hc
      have hcx : wr.cell? ⟨ba, oa + k, none⟩ = some (.int .i64 x) := by rw [HA.out wr hbel.out k hlt, hx]
      have hcc : wr.cell? ⟨bb, ob + k, none⟩ = some (.int .i64 c) := by rw [HC.out wr hbel.out k hlt, hc]
      have HST : Hid (stB (fn L) (fn C) mate k = (O, P)) := hst
      clear hst hm hx hc
      by_cases h0 : m = 0 ∨ c ≠ 13
      · rw [if_pos h0] at HS
        have HS' : Hid (stB (fn L) (fn C) mate (k + 1) = (O, P)) := HS
        clear HS
        by_cases h1 : m = 0
        · subst h1
          clear h0
          go_wp2_with (go_at_call 54; refine (HM.out _).mono ?_; rintro e w4 ⟨rfl, hw4⟩; rw [hw4]; clear hw4 w4)
          go_roundw
          case rel => exact ⟨k + 1, zs, by go_num, by omega, by rw [HS'.out]; exact hBS.out, by rw [HS'.out]; exact hzm.out, hbel.out⟩
          case measure => simp only [intOf]; omega
        · have h2 : c ≠ 13 := by rcases h0 with h | h; exact absurd h h1; exact h
          have hm0 : (m == 0) = false := by simpa using h1
          have hc13 : (c == 13) = false := by simpa using h2
          clear h0
          go_wp2_with (go_at_call 54; refine (HM.out _).mono ?_; rintro e w4 ⟨rfl, hw4⟩; rw [hw4]; clear hw4 w4)
          go_roundw
          case rel => exact ⟨k + 1, zs, by go_num, by omega, by rw [HS'.out]; exact hBS.out, by rw [HS'.out]; exact hzm.out, hbel.out⟩
          case measure => simp only [intOf]; omega
      · rw [if_neg h0] at HS
        have h1 : ¬ m = 0 := fun e => h0 (.inl e)
        have h2 : c = 13 := by
          by_cases e : c = 13
          · exact e
          · exact absurd (.inr e) h0
        have hm0 : (m == 0) = false := by simpa using h1
        subst h2
        clear h0
        by_cases hxm : x < m
        · rw [if_pos hxm] at HS
          have HS' : Hid (stB (fn L) (fn C) mate (k + 1) = (O ++ [k], P)) := HS
          clear HS
          go_wp2_with (first | (go_at_call 54; refine (HM.out _).mono ?_; rintro e w4 ⟨rfl, hw4⟩; rw [hw4]; clear hw4 w4) | (at_builtin; refine own_append_at (.tmp 47) (.tmp 49) hBS.out.op (by rw [natL_len]; omega) hbel.out.size rfl rfl rfl rfl ?_; intro v' w6 ho6 hg6 hv6; have HO6 : Hid (OwnI w6 w.heap.size v' (natL O ++ [(k : Int)])) := ho6; have HG6 : Hid (wr.grownBy w6 u6.ownBlock) := hg6; have HV6 : Hid (v'.ownBlock = u6.ownBlock ∨ v'.ownBlock = some (wr.heap.size + 1)) := hv6; clear ho6 hg6 hv6))
          go_roundw
          case rel =>
            refine ⟨k + 1, zs, by go_num, by omega, ?_, by rw [HS'.out]; exact hzm.out, ?_⟩
            · rw [HS'.out]
              exact hBS.out.push (x := k) (by rw [natL_app]; exact HO6.out) HG6.out HV6.out
            · exact hbel.out.grown HG6.out hbel.out.size (fun b hb => (hBS.out.op.lt b hb).1)
          case measure => simp only [intOf]; omega
        · rw [if_neg hxm] at HS
          have HS' : Hid (stB (fn L) (fn C) mate (k + 1) = shutB (fn L) m k O P (scanF (fn L) O m O.length)) := HS
          clear HS
          obtain ⟨lo, hlo⟩ : ∃ lo, O.length = lo := ⟨_, rfl⟩
          obtain ⟨ao, no, co, hvo, hno⟩ := hBS.out.op.slicZ
          rw [natL_len, hlo] at hno
          subst hno
          subst hvo
          rw [hlo] at hOl
          have HLO : Hid (O.length = lo) := hlo
          clear hlo
          go_wp2_with (first | (go_at_call 54; refine (HM.out _).mono ?_; rintro e w4 ⟨rfl, hw4⟩; rw [hw4]; clear hw4 w4))
          go_loop [5, 6, 10] (fun v5 v6 j => v5 = u5 ∧ v6 = .slice ao lo co ∧ ∃ q : Nat, j = .int .i64 ((q : Int) - 1) ∧ q ≤ lo ∧ Hid (scanF (fn L) O m lo = scanF (fn L) O m q)) (fun _ _ j => (intOf j + 1).toNat)
          case atStart => exact ⟨rfl, rfl, lo, rfl, Nat.le_refl _, rfl⟩
          case round =>
            obtain ⟨rfl, rfl, q, rfl, hq, hsc⟩ := hrel
            cases q with
            | zero =>
              have HSN : Hid (stB (fn L) (fn C) mate (k + 1) = (O, P)) := by
                unfold Hid; rw [HS'.out, HLO.out, hsc.out]; rfl
              go_wp2_with fail
              go_roundw
              case rel => exact ⟨k + 1, zs, by go_num, by omega, by rw [HSN.out]; exact hBS.out, by rw [HSN.out]; exact hzm.out, hbel.out⟩
              case measure => simp only [intOf]; omega
            | succ q =>
              rw [show ((q + 1 : Nat) : Int) - 1 = (q : Int) by omega]
              have hOq : q < O.length := by rw [HLO.out]; omega
              obtain ⟨go, co', e, hlc⟩ := hBS.out.op.form1 (by intro e; have := congrArg List.length e; rw [natL_len] at this; simp at this; rw [this] at hOq; simp at hOq)
              rw [natL_len, HLO.out] at hlc e
              simp only [Value.slice.injEq] at e
              obtain ⟨rfl, _, rfl⟩ := e
              obtain ⟨o, ho⟩ : ∃ o, O.getD q 0 = o := ⟨_, rfl⟩
              have ho2 : O[q] = o := by rw [← ho]; simp [hOq]
              have hok : o < k := by
                have := (good_st (fn L) (fn C) mate k).lt o
                rw [HST.out] at this
                exact this (by rw [← ho2]; exact List.getElem_mem hOq)
              have hco : wr.cell? ⟨go, q, none⟩ = some (.int .i64 (o : Int)) := by
                rw [hBS.out.op.cellN q (by omega), fn_natL hOq, ho2]
              have hcr : wr.cell? ⟨ba, oa + o, none⟩ = some (.int .i64 (fn L o)) := HA.out _ hbel.out o (by omega)
              obtain ⟨y, hy⟩ : ∃ y, fn L o = y := ⟨_, rfl⟩
              rw [hy] at hcr
              have hqi : (q : Int) < (lo : Int) := by omega
              have hoi : (o : Int) < (n : Int) := by omega
              have hqc : (q : Int) ≤ (co : Int) := by omega
              by_cases hym : y = m
              · have hyb : (y == m) = true := by simpa using hym
                have HSC : Hid (stB (fn L) (fn C) mate (k + 1) = (O.take q, P ++ [(o, k)])) := by
                  unfold Hid; rw [HS'.out, HLO.out, hsc.out]
                  simp only [scanF, ho, hy, if_pos hym, shutB]
                obtain ⟨W, hW⟩ : ∃ W, wr.alloc (.cells #[.int .i64 (o : Int), .int .i64 (k : Int)] 3) = W := ⟨_, rfl⟩
                have hBW : Below wr.heap.size wr W := by rw [← hW]; exact (Below.refl _ _).alloc (Nat.le_refl _) _
                have HBW : Hid (Below wr.heap.size wr W) := hBW
                have hWs : W.heap.size = wr.heap.size + 1 := by rw [← hW]; simp
                have HWS : Hid (W.heap.size = wr.heap.size + 1) := hWs
                have HOP : Hid (OwnI W wr.heap.size (.slice (some ⟨wr.heap.size, 0, none⟩) 2 2) (rowP (o, k))) := by rw [← hW]; exact own_lit2 wr _ _ _ _ (Nat.le_refl _) rfl
                have HOV : Hid (OwnV 23 1 W w.heap.size u5 N (zs.map (·.1))) := by have := (hBS.out.rz.own).below hBW; rw [HNL.out] at this; exact this
                have hwW : w.heap.size ≤ W.heap.size := by have := hbel.out.size; omega
                clear hym ho ho2 hy hlc hBW hWs
                subst hW
                go_wp2_with (at_builtin; refine own_appendV (k := 1) (b := 24) (T := 23) (TS := 78) (.tmp 67) (.tmp 74) HWS.out rowSS Tryz.underlying78 HOV.out (by omega) hwW (by omega) (by omega) rfl (by simp [Value.oneCell']) rfl rfl rfl rfl ?_; intro v8 w8 ho8 hg8 hv8; have HO8 : Hid (OwnV 23 1 w8 w.heap.size v8 (N + 1) (zs.map (·.1) ++ [.slice (some ⟨wr.heap.size, 0, none⟩) 2 2])) := ho8; have HG8 : Hid (World.grownBy _ w8 (Value.ownBlock u5)) := hg8; have HV8 : Hid (v8.ownBlock = u5.ownBlock ∨ ∃ H, v8.ownBlock = some H ∧ wr.heap.size + 1 ≤ H) := (by rcases hv8 with e | e; exact .inl e; exact .inr ⟨_, e, by rw [HWS.out]; omega⟩); clear ho8 hg8 hv8)
                go_roundw
                case rel =>
                  refine ⟨k + 1, zs ++ [(.slice (some ⟨wr.heap.size, 0, none⟩) 2 2, rowP (o, k))], by go_num, by omega, ?_, ?_, (hbel.out.trans (HBW.out.mono hbel.out.size)).grown HG8.out hwW (fun b hb => (HOV.out.lt b hb).1)⟩
                  · rw [HSC.out]
                    refine (hBS.out.add HNL.out hbel.out.size HBW.out HOP.out HO8.out HG8.out ?_).cut (by omega)
                    rcases HV8.out with e | e
                    · exact .inl e
                    · obtain ⟨H, e, h⟩ := e
                      exact .inr ⟨H, e, by rw [HWS.out]; exact h⟩
                  · rw [HSC.out, List.map_append, hzm.out]
                    show rowsP P ++ [rowP (o, k)] = rowsP (P ++ [(o, k)])
                    simp [rowsP]
                case measure => simp only [intOf]; omega
              · have hyb : (y == m) = false := by simpa using hym
                have hsc2 : Hid (scanF (fn L) O m lo = scanF (fn L) O m q) := by
                  unfold Hid; rw [hsc.out]
                  simp only [scanF, ho, hy, if_neg hym]
                clear hym ho ho2 hy hlc
                go_wp2_with fail
                go_round
                case rel => exact ⟨rfl, rfl, q, rfl, by omega, hsc2⟩
                case measure => simp only [intOf]; omega
    · have e : k = n := by omega
      subst e
      have hgood := good_st (fn L) (fn C) mate k
      rw [hst] at hgood
      have HST : Hid (stB (fn L) (fn C) mate k = (O, P)) := hst
      have HNE : Hid (P.Pairwise (fun a b => a.1 ≠ b.1)) := hgood.ne
      have HLE : Hid (∀ p ∈ P, p.1 ≤ 1000) := fun p hp => by obtain ⟨h1, h2⟩ := hgood.lt2 p hp; omega
      clear hst hgood
      cases N with
      | zero =>
        have hz0 : zs = [] := List.eq_nil_of_length_eq_zero HNL.out
        have hP0 : P = [] := List.eq_nil_of_length_eq_zero HNP.out.symm
        subst hz0
        subst hP0
        obtain ⟨a5, c5, rfl⟩ := hBS.out.rz.slc
        simp only [List.length_nil]
        go_wp2_with (go_at_call 107; refine (sort_none _ _ _).mono ?_; rintro e w5 ⟨rfl, rfl⟩)
        go_ret
        exact ⟨⟨_, [], rfl, hBS.out.rz, by rw [HST.out]; rfl⟩, hbel.out⟩
      | succ M =>
        obtain ⟨g5, c5, e5, _⟩ := hBS.out.rz.own.form1 (by rw [HNL.out]; omega)
        rw [HNL.out] at e5
        subst e5
        go_wp2_with (go_at_call 107; refine (implSort g5 M c5 w.heap.size zs P _ hBS.out.rz hzm.out HNE.out HLE.out (by omega)).mono ?_; rintro e w5 ⟨rfl, ⟨zs', hz5, hm5⟩, b5⟩)
        go_ret
        exact ⟨⟨_, zs', rfl, hz5, by rw [HST.out]; exact hm5⟩, hbel.out.trans b5⟩
end Go.Proofs.YtgojdlbidjnmmaaGreat
