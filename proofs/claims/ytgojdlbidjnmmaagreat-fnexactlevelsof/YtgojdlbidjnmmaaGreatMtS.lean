import Derived.Test.YtgojdlbidjnmmaaGreatIntoS
import Derived.Test.YtgojdlbidjnmmaaGreatMateD
namespace Go.Proofs.YtgojdlbidjnmmaaGreat
open Go.ChangeShapes Go.WideShapes Go.ChangeAt Go.RowKit
set_option linter.unusedSimpArgs false
set_option linter.unusedVariables false

set_option maxRecDepth 10000 in
set_option maxHeartbeats 4000000 in
theorem specMates_row (ba oa bb ob n cap cb : Nat) (L C : List Int) (w : World) (hLl : L.length = n) (hCl : C.length = n) (hn80 : n ≤ 80) (hba : ba < w.heap.size) (hbb : bb < w.heap.size) (hL : At w ba oa L) (hC : At w bb ob C) :
    Calls Tryz.prog 126 #[.slice (some ⟨ba, oa, none⟩) n cap, .slice (some ⟨bb, ob, none⟩) n cb] w fun e w' => (∃ v zs, e = .returned v ∧ RZ w' w.heap.size v zs ∧ zs.map (·.2) = rowsP (srtB (stB (fn L) (fn C) mate n).2)) ∧ Below w.heap.size w w' := by
  have HA : Hid (∀ wr, Below w.heap.size w wr → ∀ j, j < n → wr.cell? ⟨ba, oa + j, none⟩ = some (.int .i64 (fn L j))) := fun wr hb j hj => (hb.cell (p := ⟨ba, oa + j, none⟩) hba).trans (hL j (by omega))
  have HC : Hid (∀ wr, Below w.heap.size w wr → ∀ j, j < n → wr.cell? ⟨bb, ob + j, none⟩ = some (.int .i64 (fn C j))) := fun wr hb j hj => (hb.cell (p := ⟨bb, ob + j, none⟩) hbb).trans (hC j (by omega))
  clear hL hC hLl hCl hba hbb
  go_enter Tryz.func126, Tryz.ntmps126
  go_wp2_with fail
  go_loopw [5, 6, 7] (fun v vo i wr => ∃ (k g N cp : Nat) (zs : List (Value × List Int)), i = .int .i64 k ∧ k ≤ n ∧ v = .slice (some ⟨g, 0, none⟩) N cp ∧ Hid (BS wr w.heap.size v vo zs (stB (fn L) (fn C) mate k).1) ∧ Hid (zs.map (·.2) = rowsP (srtB (stB (fn L) (fn C) mate k).2)) ∧ Hid (Below w.heap.size w wr)) (fun _ _ i _ => n - (intOf i).toNat)
  case atStart =>
    refine ⟨0, w.heap.size, 0, 0, [], rfl, Nat.zero_le _, rfl, ⟨?_, ?_, ?_, fun q hq => by simp at hq⟩, rfl, ?_⟩
    · exact (RZ.empty w w.heap.size 23 (Nat.le_refl _) rfl).below ((Below.refl _ _).alloc (Nat.le_refl _) _)
    · have := own_empty (w.alloc (.cells #[] 23)) w.heap.size 3 (by simp) rfl
      show OwnI _ _ _ []
      simpa using this
    · intro k h1 h2; simp [Value.ownBlock] at h1 h2; omega
    · exact ((Below.refl _ _).alloc (Nat.le_refl _) _).alloc (by simp) _
  case round =>
    obtain ⟨k, g, N, cp, zs, rfl, hk, rfl, hBS, hzm, hbel⟩ := hrel
    obtain ⟨⟨O, P⟩, hst⟩ : ∃ s, stB (fn L) (fn C) mate k = s := ⟨_, rfl⟩
    have hOl : O.length ≤ k := by have := (st_len (fn L) (fn C) mate k).1; rw [hst] at this; exact this
    have hPl : P.length ≤ k := by have := (st_len (fn L) (fn C) mate k).2; rw [hst] at this; exact this
    rw [hst] at hBS hzm
    replace hBS : Hid (BS wr w.heap.size (.slice (some ⟨g, 0, none⟩) N cp) u6 zs O) := hBS
    replace hzm : Hid (zs.map (·.2) = rowsP (srtB P)) := hzm
    have hNl : N = P.length := by
      obtain ⟨_, _, e⟩ := hBS.out.rz.slc
      simp only [Value.slice.injEq] at e
      have h2 := congrArg List.length hzm.out
      rw [List.length_map, rowsP_len, srt_len] at h2
      omega
    have HNP : Hid (N = P.length) := hNl
    have hN80 : N ≤ 80 := by omega
    clear hNl
    by_cases hlt : k < n
    · have hki : (k : Int) < (n : Int) := by omega
      obtain ⟨x, hx⟩ : ∃ x, fn L k = x := ⟨_, rfl⟩
      obtain ⟨c, hc⟩ : ∃ c, fn C k = c := ⟨_, rfl⟩
      obtain ⟨m, hm⟩ : ∃ m, mate x = m := ⟨_, rfl⟩
      have HM : Hid (∀ W, Calls Tryz.prog 90 #[.int .i64 x] W fun e w' => e = .returned (.int .i64 m) ∧ Below W.heap.size W w') := fun W => by rw [← hm]; exact specMate x W
      have HS := stB_succ hst hm hx hc
      have hcx : wr.cell? ⟨ba, oa + k, none⟩ = some (.int .i64 x) := by rw [HA.out wr hbel.out k hlt, hx]
      have HCX : Hid (∀ W, Below w.heap.size w W → W.cell? ⟨ba, oa + k, none⟩ = some (.int .i64 x) ∧ W.cell? ⟨bb, ob + k, none⟩ = some (.int .i64 c)) := fun W hW => ⟨by rw [HA.out W hW k hlt, hx], by rw [HC.out W hW k hlt, hc]⟩
      have HST : Hid (stB (fn L) (fn C) mate k = (O, P)) := hst
      clear hst hm hx hc
      by_cases h0 : m = 0 ∨ c ≠ 13
      · rw [if_pos h0] at HS
        have HS' : Hid (stB (fn L) (fn C) mate (k + 1) = (O, P)) := HS
        clear HS
        have hnext : ∀ W, Below wr.heap.size wr W → (∃ (k' g' N' cp' : Nat) (zs' : List (Value × List Int)), Value.int .i64 ((k : Int) + 1) = .int .i64 k' ∧ k' ≤ n ∧ Value.slice (some ⟨g, 0, none⟩) N cp = .slice (some ⟨g', 0, none⟩) N' cp' ∧ Hid (BS W w.heap.size (.slice (some ⟨g, 0, none⟩) N cp) u6 zs' (stB (fn L) (fn C) mate k').1) ∧ Hid (zs'.map (·.2) = rowsP (srtB (stB (fn L) (fn C) mate k').2)) ∧ Hid (Below w.heap.size w W)) := fun W hW =>
          ⟨k + 1, g, N, cp, zs, by go_num, by omega, rfl, by rw [HS'.out]; exact hBS.out.below hW, by rw [HS'.out]; exact hzm.out, bstep hbel.out hW⟩
        have HNX : Hid _ := hnext
        clear hnext
        by_cases h1 : m = 0
        · subst h1
          clear h0
          go_wp2_with (go_at_call 90; refine (HM.out _).mono ?_; rintro e w4 ⟨rfl, b4⟩; have B4 : Hid (Below wr.heap.size wr w4) := b4; clear b4)
          go_roundw
          case rel => exact HNX.out _ B4.out
          case measure => simp only [intOf]; omega
        · have h2 : c ≠ 13 := by rcases h0 with h | h; exact absurd h h1; exact h
          have hm0 : (m == 0) = false := by simpa using h1
          have hc13 : (c == 13) = false := by simpa using h2
          clear h0
          go_wp2_with (go_at_call 90; refine (HM.out _).mono ?_; rintro e w4 ⟨rfl, b4⟩; obtain ⟨cx4, cc4⟩ := HCX.out _ (bstep hbel.out b4); have B4 : Hid (Below wr.heap.size wr w4) := b4; clear b4)
          go_roundw
          case rel => exact HNX.out _ B4.out
          case measure => simp only [intOf]; omega
      · rw [if_neg h0] at HS
        have h1 : ¬ m = 0 := fun e => h0 (.inl e)
        have h2 : c = 13 := by
          by_cases e : c = 13
          · exact e
          · exact absurd (.inr e) h0
        have hm0 : (m == 0) = false := by simpa using h1
        subst h2
        clear h0
        by_cases hxm : x < m
        · rw [if_pos hxm] at HS
          have HS' : Hid (stB (fn L) (fn C) mate (k + 1) = (O ++ [k], P)) := HS
          clear HS
          go_wp2_with (first | (go_at_call 90; refine (HM.out _).mono ?_; rintro e w4 ⟨rfl, b4⟩; obtain ⟨cx4, cc4⟩ := HCX.out _ (bstep hbel.out b4); have B4 : Hid (Below wr.heap.size wr w4) := b4; have BS4 : Hid (BS w4 w.heap.size (.slice (some ⟨g, 0, none⟩) N cp) u6 zs O) := hBS.out.below b4; clear b4) | (at_builtin; refine own_append_at (.tmp 38) (.tmp 40) BS4.out.op (by rw [natL_len]; omega) (Nat.le_trans hbel.out.size B4.out.size) rfl rfl rfl rfl ?_; intro v' w6 ho6 hg6 hv6; have HO6 : Hid (OwnI w6 w.heap.size v' (natL O ++ [(k : Int)])) := ho6; have HG6 : Hid (w4.grownBy w6 u6.ownBlock) := hg6; have HV6 : Hid (v'.ownBlock = u6.ownBlock ∨ v'.ownBlock = some (w4.heap.size + 1)) := hv6; clear ho6 hg6 hv6))
          go_roundw
          case rel =>
            refine ⟨k + 1, g, N, cp, zs, by go_num, by omega, rfl, ?_, by rw [HS'.out]; exact hzm.out, ?_⟩
            · rw [HS'.out]
              exact BS4.out.push (x := k) (by rw [natL_app]; exact HO6.out) HG6.out HV6.out
            · exact (bstep hbel.out B4.out).grown HG6.out (Nat.le_trans hbel.out.size B4.out.size) (fun b hb => (BS4.out.op.lt b hb).1)
          case measure => simp only [intOf]; omega
        · rw [if_neg hxm] at HS
          have HS' : Hid (stB (fn L) (fn C) mate (k + 1) = shutB (fn L) m k O P (scanF (fn L) O m O.length)) := HS
          clear HS
          obtain ⟨lo, hlo⟩ : ∃ lo, O.length = lo := ⟨_, rfl⟩
          obtain ⟨ao, no, co, hvo, hno⟩ := hBS.out.op.slicZ
          rw [natL_len, hlo] at hno
          subst hno
          subst hvo
          rw [hlo] at hOl
          have HLO : Hid (O.length = lo) := hlo
          clear hlo
          go_wp2_with (first | (go_at_call 90; refine (HM.out _).mono ?_; rintro e w4 ⟨rfl, b4⟩; obtain ⟨cx4, cc4⟩ := HCX.out _ (bstep hbel.out b4); have B4 : Hid (Below wr.heap.size wr w4) := b4; have BS4 : Hid (BS w4 w.heap.size (.slice (some ⟨g, 0, none⟩) N cp) (.slice ao lo co) zs O) := hBS.out.below b4; clear b4))
          go_loop [5, 6, 9] (fun v5 v6 j => v5 = .slice (some ⟨g, 0, none⟩) N cp ∧ v6 = .slice ao lo co ∧ ∃ q : Nat, j = .int .i64 ((q : Int) - 1) ∧ q ≤ lo ∧ Hid (scanF (fn L) O m lo = scanF (fn L) O m q)) (fun _ _ j => (intOf j + 1).toNat)
          case atStart => exact ⟨rfl, rfl, lo, rfl, Nat.le_refl _, rfl⟩
          case round =>
            obtain ⟨rfl, rfl, q, rfl, hq, hsc⟩ := hrel
            cases q with
            | zero =>
              have HSN : Hid (stB (fn L) (fn C) mate (k + 1) = (O, P)) := by
                unfold Hid; rw [HS'.out, HLO.out, hsc.out]; rfl
              go_wp2_with fail
              go_roundw
              case rel => exact ⟨k + 1, g, N, cp, zs, by go_num, by omega, rfl, by rw [HSN.out]; exact BS4.out, by rw [HSN.out]; exact hzm.out, bstep hbel.out B4.out⟩
              case measure => simp only [intOf]; omega
            | succ q =>
              rw [show ((q + 1 : Nat) : Int) - 1 = (q : Int) by omega]
              have hOq : q < O.length := by rw [HLO.out]; omega
              obtain ⟨go, co', e, hlc⟩ := BS4.out.op.form1 (by intro e; have := congrArg List.length e; rw [natL_len] at this; simp at this; rw [this] at hOq; simp at hOq)
              rw [natL_len, HLO.out] at hlc e
              simp only [Value.slice.injEq] at e
              obtain ⟨rfl, _, rfl⟩ := e
              obtain ⟨o, ho⟩ : ∃ o, O.getD q 0 = o := ⟨_, rfl⟩
              have ho2 : O[q] = o := by rw [← ho]; simp [hOq]
              have hok : o < k := by
                have := (good_st (fn L) (fn C) mate k).lt o
                rw [HST.out] at this
                exact this (by rw [← ho2]; exact List.getElem_mem hOq)
              have hco : w4.cell? ⟨go, q, none⟩ = some (.int .i64 (o : Int)) := by
                rw [BS4.out.op.cellN q (by omega), fn_natL hOq, ho2]
              have hcr : w4.cell? ⟨ba, oa + o, none⟩ = some (.int .i64 (fn L o)) := HA.out _ (bstep hbel.out B4.out) o (by omega)
              obtain ⟨y, hy⟩ : ∃ y, fn L o = y := ⟨_, rfl⟩
              rw [hy] at hcr
              have hqi : (q : Int) < (lo : Int) := by omega
              have hoi : (o : Int) < (n : Int) := by omega
              have hqc : (q : Int) ≤ (co : Int) := by omega
              by_cases hym : y = m
              · have hyb : (y == m) = true := by simpa using hym
                have HSC : Hid (stB (fn L) (fn C) mate (k + 1) = (O.take q, P ++ [(o, k)])) := by
                  unfold Hid; rw [HS'.out, HLO.out, hsc.out]
                  simp only [scanF, ho, hy, if_pos hym, shutB]
                have HGD : Hid (O.take q = O.take q) := rfl
                clear hym ho ho2 hy hlc
                go_wp2_with (go_at_call 143; refine (specInto g N cp w.heap.size w4.heap.size zs (srtB P) (o, k) w4 _ BS4.out.rz (Nat.le_trans hbel.out.size B4.out.size) ((Below.refl _ _).alloc (Nat.le_refl _) _) (own_lit2 w4 _ _ _ _ (Nat.le_refl _) rfl) hzm.out (by rw [srt_len, HNP.out]) (by omega)).mono ?_; rintro e w5 ⟨⟨g', c', zs', rfl, hz5, hm5, hg5, hp5⟩, b5⟩; have HZ5 : Hid (RZ w5 w.heap.size (.slice (some ⟨g', 0, none⟩) (N + 1) c') zs') := hz5; have HM5 : Hid (zs'.map (·.2) = rowsP (insP (srtB P) (o, k))) := hm5; have HG5 : Hid (w4.heap.size ≤ g') := (by simp at hg5; unfold Hid; omega); have HP5 : Hid (zs'.Perm ((.slice (some ⟨w4.heap.size, 0, none⟩) 2 2, rowP (o, k)) :: zs)) := hp5; have B5 : Hid (Below w4.heap.size w4 w5) := bstep ((Below.refl _ _).alloc (Nat.le_refl _) _) b5; clear hz5 hm5 hg5 hp5 b5)
                go_roundw
                case rel =>
                  refine ⟨k + 1, g', N + 1, c', zs', by go_num, by omega, rfl, ?_, ?_, bstep (bstep hbel.out B4.out) B5.out⟩
                  · rw [HSC.out]
                    exact (BS4.out.into B5.out HZ5.out (fun b hb => by simp [Value.ownBlock] at hb; have := HG5.out; omega) (fun b hb => by simp [Value.ownBlock] at hb; omega) HP5.out).cut (by omega)
                  · rw [HSC.out]
                    show _ = rowsP (srtB (P ++ [(o, k)]))
                    rw [srt_snoc]; exact HM5.out
                case measure => simp only [intOf]; omega
              · have hyb : (y == m) = false := by simpa using hym
                have hsc2 : Hid (scanF (fn L) O m lo = scanF (fn L) O m q) := by
                  unfold Hid; rw [hsc.out]
                  simp only [scanF, ho, hy, if_neg hym]
                clear hym ho ho2 hy hlc
                go_wp2_with fail
                go_round
                case rel => exact ⟨rfl, rfl, q, rfl, by omega, hsc2⟩
                case measure => simp only [intOf]; omega
    · have e : k = n := by omega
      subst e
      have HST : Hid (stB (fn L) (fn C) mate k = (O, P)) := hst
      clear hst
      go_wp2_with fail
      go_ret
      exact ⟨⟨_, zs, rfl, hBS.out.rz, by rw [HST.out]; exact hzm.out⟩, hbel.out⟩
theorem rrx_empty (w : World) (T : TypeId) (hT : T = 23) : RRX (w.alloc (.cells #[] T)) w.heap.size (.slice (some ⟨w.heap.size, 0, none⟩) 0 0) [] := ⟨[], RR.empty w w.heap.size T (Nat.le_refl _) hT⟩
theorem mates_none (a b : Option Addr) (ca cb : Nat) (l c : List Int) (w : World) : Calls Tryz.prog 126 #[.slice a 0 ca, .slice b 0 cb] w fun e w' => (∃ v, e = .returned v ∧ RRX w' w.heap.size v (rowsP (srtB (stB (fn l) (fn c) mate 0).2))) ∧ Below w.heap.size w w' := by
  go_enter Tryz.func126, Tryz.ntmps126
  go_wp2
  go_rounds 1
  go_ret
  exact ⟨⟨_, rfl, (rrx_empty w 23 rfl).below ((Below.refl _ _).alloc (Nat.le_refl _) _)⟩, ((Below.refl _ _).alloc (Nat.le_refl _) _).alloc (by simp) _⟩
end Go.Proofs.YtgojdlbidjnmmaaGreat
