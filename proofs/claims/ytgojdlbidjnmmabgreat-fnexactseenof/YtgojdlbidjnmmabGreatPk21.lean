import Derived.Test.YtgojdlbidjnmmabGreatPk20
import Derived.Test.YtgojdlbidjnmmabGreatPk11
import Derived.Test.YtgojdlbidjnmmabGreatPk17
import Derived.Test.YtgojdlbidjnmmabGreatPk4
namespace Go.Proofs.YtgojdlbidjnmmabGreat
open Go.ChangeShapes Go.WideShapes Go.ChangeAt Go.RowKit Go.Deep
set_option linter.unusedSimpArgs false
set_option linter.unusedVariables false

set_option maxRecDepth 10000 in
set_option maxHeartbeats 8000000 in
theorem implLevels (v : Value) (l : List Int) (mt : Nat → Nat) (base : Int) (w : World) (a : Option Addr) (cap : Nat) (hva : v = .slice a l.length cap) (hv : Arg w v l) (hl : l.length ≤ 1048576) (hmt : Hid (MateFn (cl l) l.length mt)) :
    Calls Tryz.prog 23 #[v, .int .i64 base] w fun e w' => (∃ v', e = .returned v' ∧ OwnI w' w.heap.size v' (levsR l mt base)) ∧ Below w.heap.size w w' := by
  obtain ⟨q, hq⟩ : ∃ q, okT l base = q := ⟨_, rfl⟩
  unfold levsR
  rw [hq]
  cases q
  · rw [if_neg (by simp)]
    have HQ : Hid ((okF (fn l) l.length && baseB base) = false) := hq
    clear hq hva
    go_enter Tryz.func23, Tryz.ntmps23
    go_wp2_with (go_at_call 44; refine (tellLevels_no v l base _ hv (by omega) HQ.out).mono ?_; rintro e w1 ⟨rfl, rfl⟩)
    go_ret
    exact ⟨⟨_, rfl, OwnI.nil _ _⟩, Below.refl _ _⟩
  · obtain ⟨hok, hb01, h80⟩ := okT_out hq
    rw [if_pos rfl]
    unfold levsF
    have HOK : Hid _ := hok
    subst hva
    obtain ⟨n, hn⟩ : ∃ n, l.length = n := ⟨_, rfl⟩
    have ht : Txt (cl l) (fn (lvL (cl l) (fsF (cl l) mt) base n)) n mt := by rw [← hn]; exact txt_told l mt hb01 hmt.out
    have hrk := runs_okk (mt := mt) hn hb01 (by rw [← hn]; exact hok) (by omega) ht
    have hbd22 := lvL_bd (c := cl l) (fs := fsF (cl l) mt) hb01 n
    have hLl := lvL_len (cl l) (fsF (cl l) mt) base n
    rw [hn] at hl h80 hv hmt ⊢
    have HT : Hid _ := ht
    have HCL : Hid (∀ j, j < n → fn (clsL l) j = cl l j) := fun j hj => fn_clsL (by omega)
    obtain ⟨R, hR⟩ : ∃ R, runsTo (cl l) (fn (lvL (cl l) (fsF (cl l) mt) base n)) n mt n = R := ⟨_, rfl⟩
    rw [hR] at hrk ⊢
    have HRE : Hid _ := hR
    have HTY := fun w => tellLevels_yes (.slice a n cap) l mt base n w a cap hn rfl
    obtain ⟨L, hL⟩ : ∃ L, lvL (cl l) (fsF (cl l) mt) base n = L := ⟨_, rfl⟩
    obtain ⟨C, hC⟩ : ∃ C, clL (cl l) (fsF (cl l) mt) base n = C := ⟨_, rfl⟩
    have HTT := HTY w hv HOK h80 hmt hb01
    rw [hL, hC] at hrk HTT ⊢
    rw [hL] at hbd22 hLl HT HRE
    have HTT2 : Hid _ := HTT
    have HRK : Hid (RunsOk l L C n R) := hrk
    have HLL : Hid (L.length = n) := hLl
    have HLB : Hid (∀ j, fn L j ≤ 22) := hbd22
    have HN : Hid _ := hn
    have HV : Hid _ := hv
    have hRn := hrk.len
    clear hq hok hn ht hrk hbd22 hLl hR HTY hL hC HTT hv
    go_enter Tryz.func23, Tryz.ntmps23
    go_wp2_with fail
    refine Calls.mono HTT2.out ?_
    rintro e w1 ⟨⟨T, gm, gq, gl, gc, M, rfl, h, hm⟩, b1⟩
    have hc3 := h.c3
    have HAL : Hid (Arg w1 (.slice (some ⟨gl, 0, none⟩) n n) L) := h.ol.arg
    have HL1 : Hid (L.length ≤ 1048576) := show L.length ≤ 1048576 by have := HLL.out; omega
    go_wp2_with fail
    refine (clone_any _ L _ HAL.out HL1.out).mono ?_
    rintro e w2 ⟨⟨v6, rfl, o6⟩, b2⟩
    have h2 := h.below b2
    go_wp2_with fail
    refine (implTogether _ h2 (by omega) HCL.out HT.out hm).mono ?_
    rintro e w3 ⟨⟨vp, P, rfl, hp, hpl⟩, b3⟩
    have HPL : Hid (P.map (·.2) = R.map (fun r => fn L (r.headD 0))) := by
      unfold Hid; rw [hpl, ← HRE.out]; exact runs_lvs HT.out
    rw [HRE.out] at hp
    obtain ⟨av, cv, rfl⟩ := hp.slc
    rw [natR_len] at hp ⊢
    obtain ⟨np, hnp⟩ : ∃ np, R.length = np := ⟨_, rfl⟩
    rw [hnp] at hp hRn ⊢
    have HNP : Hid (R.length = np) := hnp
    have HP : Hid (PR w3 (w2.heap.size + 1) (.slice av np cv) P (natR R)) := hp
    have HH : Hid (TT w1 w.heap.size T gm gq gl gc n base (clsL l) M L C) := h
    have HSM : Hid (SameMates (cl l) n mt M) := hm.same
    have B3 : Hid (Below w.heap.size w w3) := bstep (bstep b1 b2) b3
    have B13 : Hid (Below w1.heap.size w1 w3) := bstep b2 b3
    have O63 : Hid (OwnI w3 w1.heap.size v6 L) := o6.below b3
    have h12 := b2.size
    have h01 := b1.size
    have hV6 : Hid (∀ k, v6.ownBlock = some k → w1.heap.size ≤ k ∧ k < w2.heap.size) := o6.lt
    clear hp hnp hpl h h2 hm hc3 o6 b1 b2 b3
    go_wp2_with fail
    go_loopw [25] (fun x wr => ∃ q : Nat, q ≤ np ∧ x = .int .i64 q ∧ Hid (OwnI wr w1.heap.size v6 (lvsTo (cl l) l L C n mt base R q)) ∧ Hid (w3.grownBy wr v6.ownBlock)) (fun x _ => np - (intOf x).toNat)
    case atStart => exact ⟨0, Nat.zero_le _, rfl, O63.out, grownB_refl _ _⟩
    case round =>
      obtain ⟨q, hq, rfl, hO, hgr⟩ := hrel
      rename World => wr
      by_cases hlt : q < np
      · have hqi : (q : Int) < (np : Int) := by omega
        have hqR : q < R.length := by rw [HNP.out]; exact hlt
        have hpw := HP.out.kept (w' := wr) (fun b hb => hgr.out.block b (by
            rcases hb with hb | ⟨j, hj, hb⟩
            · exact (HP.out.lt b hb).2
            · exact ((HP.out.row j hj).lt b hb).2) (fun e => by
            have h6 := (hV6.out b e.symm).2
            rcases hb with hb | ⟨j, hj, hb⟩
            · have := (HP.out.lt b hb).1; omega
            · have := ((HP.out.row j hj).lt b hb).1; omega))
        have hnl : (natR R).length = np := by rw [natR_len, HNP.out]
        obtain ⟨g, cp, hvv, _⟩ := hpw.own.form1 (by rw [hnl]; omega)
        simp only [Value.slice.injEq] at hvv
        obtain ⟨rfl, hzz, rfl⟩ := hvv
        clear hzz
        obtain ⟨hcu, hcx⟩ := hpw.cellAt q (by rw [hnl]; exact hlt)
        have hrow := hpw.row q (by rw [hnl]; exact hlt)
        obtain ⟨r, hr⟩ : ∃ r, R.getD q [] = r := ⟨_, rfl⟩
        have hre : R[q] = r := by rw [← hr]; simp [hqR]
        have hrm : r ∈ R := by rw [← hre]; exact List.getElem_mem _
        have hrr : rN (natR R) q = natL r := by rw [← hre]; simp [rN, natR, hqR]
        rw [hrr] at hrow
        have hlq : (pN P q).2 = fn L (r.headD 0) := by
          have hPl : q < P.length := by rw [hpw.len, hnl]; exact hlt
          have e := congrArg (fun z => z[q]?) HPL.out
          simp only [List.getElem?_map, List.getElem?_eq_getElem hPl, List.getElem?_eq_getElem hqR, Option.map_some, Option.some.injEq, hre] at e
          simp [pN, hPl, e]
        rw [hlq] at hcx
        obtain ⟨u, hu⟩ : ∃ u, (pN P q).1 = u := ⟨_, rfl⟩
        rw [hu] at hcu hrow
        obtain ⟨m, hm⟩ : ∃ m, r.length = m + 1 := ⟨r.length - 1, by have := List.length_pos_iff.2 (HRK.out.ne r hrm); omega⟩
        have hrok := HRK.out.ok r hrm m hm
        obtain ⟨gu, cu, hue, _⟩ := OwnI.form1 hrow (natL_ne (HRK.out.ne r hrm))
        rw [natL_len, hm] at hue
        subst hue
        obtain ⟨lx, hlx⟩ : ∃ lx, fn L (r.headD 0) = lx := ⟨_, rfl⟩
        rw [hlx] at hcx hrok
        have hnpos : 0 < n := by have := hrok.inn (r.headD 0) (by cases r with | nil => simp at hm | cons a z => simp); omega
        obtain ⟨bl, ol, e1, hbl, hat⟩ : ∃ bl ol, a = some ⟨bl, ol, none⟩ ∧ bl < w.heap.size ∧ At w bl ol l := by
          rcases HV.out with ⟨a0, cap0, e1, e2⟩ | ⟨b, off, cap', e1, hb, hlc, hcm, hat⟩
          · rw [e2] at HN; have := HN.out; simp at this; omega
          · simp only [Value.slice.injEq] at e1
            exact ⟨b, off, e1.1, hb, hat⟩
        subst e1
        have hBwr : Below w.heap.size w wr := B3.out.grown hgr.out B3.out.size (fun j hj => by have := (hV6.out j hj).1; omega)
        have hB1r : Below w1.heap.size w1 wr := B13.out.grown hgr.out B13.out.size (fun j hj => (hV6.out j hj).1)
        obtain ⟨W, hW⟩ : ∃ W, wr.alloc (.cells #[.slice (some ⟨gu, 0, none⟩) (m + 1) cu, .int .i64 lx] 57) = W := ⟨_, rfl⟩
        have HW : Hid _ := hW
        have hBW : Below wr.heap.size wr W := by rw [← hW]; exact (Below.refl _ _).alloc (Nat.le_refl _) _
        have hWs : W.heap.size = wr.heap.size + 1 := by rw [← hW]; simp
        have t0 : W.heap[wr.heap.size]? = some (.cells #[.slice (some ⟨gu, 0, none⟩) (m + 1) cu, .int .i64 lx] 57) := by rw [← hW]; exact heap_alloc_new _ _
        have HBX : Hid (∀ V : World, (∀ b, b = wr.heap.size → V.heap[b]? = W.heap[b]?) → V.cell? ⟨wr.heap.size, 0, none⟩ = some (.slice (some ⟨gu, 0, none⟩) (m + 1) cu) ∧ V.cell? ⟨wr.heap.size, 1, none⟩ = some (.int .i64 lx)) := fun V hV => by
          have hb := (hV wr.heap.size rfl).trans t0
          exact ⟨cell_of_row V wr.heap.size 0 _ _ (0, 0) hb, cell_of_row V wr.heap.size 1 _ _ (0, 0) hb⟩
        obtain ⟨b0, b1⟩ := HBX.out W (fun b _ => rfl)
        have hgu := (hrow.lt gu rfl).2
        have hrowW := hrow.below hBW
        have hTW : TT W w.heap.size T gm gq gl gc n base (clsL l) M L C := HH.out.below (hB1r.trans (hBW.mono hB1r.size))
        have hRS := implResolve gu m cu bl ol cap r l lx W hTW (by omega) hrok (by omega) (fun j hj => by rw [Nat.zero_add]; exact hrowW.cellN j (by rw [natL_len, hm] at hj; exact hj)) (Nat.lt_of_lt_of_le hbl (by have := hBwr.size; omega)) (hat.below (hBwr.trans (hBW.mono hBwr.size)) hbl) HN.out HCL.out HSM.out ⟨hb01.1, by omega⟩ HLB.out
        have hX : resF l C (sidA (fn L) base lx (r.headD 0)) (sidB (cl l) (fn L) n mt base lx (r.getLastD 0)) lx r = runL (cl l) l L C n mt base r := by unfold runL; rw [hlx]
        rw [hX] at hRS
        have hXl : (runL (cl l) l L C n mt base r).length = m + 1 := by unfold runL; rw [resF_len, hm]
        obtain ⟨X, hXX⟩ : ∃ X, runL (cl l) l L C n mt base r = X := ⟨_, rfl⟩
        rw [hXX] at hRS hXl
        have HRS : Hid _ := hRS
        obtain ⟨Z, hZ⟩ : ∃ Z, lvsTo (cl l) l L C n mt base R q = Z := ⟨_, rfl⟩
        have hZl : Z.length = n := by rw [← hZ, lvsTo_len, HLL.out]
        have HZ1 : Hid (lvsTo (cl l) l L C n mt base R (q + 1) = putTo Z r lx (fn X) (m + 1)) := by
          unfold Hid; simp only [lvsTo]; rw [hr, hlx, hXX, hm, hZ]
        have HCU : Hid (∀ k, k < m + 1 → r.getD k 0 < n ∧ fn (putTo Z r lx (fn X) k) (r.getD k 0) = lx) := fun k hk => by
          have hmem : r.getD k 0 ∈ r := by rw [show r.getD k 0 = r[k]'(by omega) by simp [show k < r.length by omega]]; exact List.getElem_mem _
          refine ⟨hrok.inn _ hmem, ?_⟩
          have := put_cur (c := cl l) (l := l) (L := L) (C := C) (n := n) (mt := mt) (base := base) HRK.out.nod hqR (k := k) (by rw [hr]; omega) lx (fn X)
          rw [hr, hZ] at this
          rw [this, HRK.out.lv r hrm _ hmem, hlx]
        rw [hZ] at hO
        have hvn : Z ≠ [] := fun e => by rw [e] at hZl; simp at hZl; omega
        obtain ⟨g6, c6, e6, hc6⟩ := OwnI.form1 hO.out hvn
        rw [hZl] at e6
        subst e6
        have hg6 : g6 < w2.heap.size := (hV6.out g6 rfl).2
        have hgu2 : w2.heap.size + 1 ≤ gu := (hrow.lt gu rfl).1
        have HROW : Hid (∀ k, k < m + 1 → wr.cell? ⟨gu, k, none⟩ = some (.int .i64 ((r.getD k 0 : Nat) : Int))) := fun k hk => by
          rw [hrow.cellN k hk, fn_natL (by omega)]; simp [show k < r.length by omega]
        have h3r := hgr.out.size
        have h23 : w2.heap.size ≤ wr.heap.size := Nat.le_of_lt (by omega)
        have HLX : Hid (0 ≤ lx) := hrok.lv0
        have HXL : Hid (X.length = m + 1) := hXl
        have HM80 : m + 1 ≤ 80 := hrok.m80
        have HOZ : Hid (OwnI W w1.heap.size (.slice (some ⟨g6, 0, none⟩) n c6) Z) := hO.out.below hBW
        have HLX22 : Hid (lx ≤ 22) := hrok.lv22
        clear hpw hrow hrr hre hlq hu hrok hlx hnpos hat hBwr hB1r hW hBW t0 hTW hrowW hRS hX hXX hXl hZ hZl hvn hO hm hr hrm
        go_upto_region 8 with fail
        rw [HW.out]
        go_wp2_with fail
        refine Calls.mono HRS.out ?_
        rintro e w4 ⟨⟨v9, rfl, o9⟩, b4⟩
        obtain ⟨g9, c9, e9, _⟩ := OwnI.form1 o9 (fun e => by have := HXL.out; rw [e] at this; simp at this)
        rw [HXL.out] at e9
        subst e9
        obtain ⟨d0, d1⟩ := HBX.out w4 (fun b hb => b4.block b (by omega))
        have HB4 : Hid (Below W.heap.size W w4) := b4
        have O9 : Hid (OwnI w4 W.heap.size (.slice (some ⟨g9, 0, none⟩) (m + 1) c9) X) := o9
        have hg9 := (o9.lt g9 rfl).1
        have hg9' := (o9.lt g9 rfl).2
        have OZ4 : Hid (OwnI w4 w1.heap.size (.slice (some ⟨g6, 0, none⟩) n c6) Z) := HOZ.out.below b4
        have hG4 : Hid (w3.grownBy w4 (some g6)) := by
          refine grownB_tr hgr.out ⟨?_, ?_, ?_, ?_, ?_⟩
          · rw [b4.os, ← HW.out]; rfl
          · rw [b4.tape, ← HW.out]; rfl
          · rw [b4.output, ← HW.out]; rfl
          · exact Nat.le_trans (by omega) b4.size
          · intro j hj _
            rw [b4.block j (by omega), ← HW.out]
            exact ((Below.refl wr.heap.size wr).alloc (Nat.le_refl _) _).block j hj
        have HR4 : Hid (∀ k, k < m + 1 → w4.cell? ⟨gu, k, none⟩ = some (.int .i64 ((r.getD k 0 : Nat) : Int))) := fun k hk => by
          rw [← HROW.out k hk]
          apply World.cell?_of_block
          rw [b4.block gu (by omega), ← HW.out]
          exact ((Below.refl wr.heap.size wr).alloc (Nat.le_refl _) _).block gu hgu
        clear o9 b4
        go_wp2_with fail
        go_loopw [36] (fun x wx => ∃ k : Nat, k ≤ m + 1 ∧ x = .int .i64 k ∧ Hid (OwnI wx w1.heap.size (.slice (some ⟨g6, 0, none⟩) n c6) (putTo Z r lx (fn X) k)) ∧ Hid (w4.grownBy wx (some g6))) (fun x _ => m + 1 - (intOf x).toNat)
        case atStart => exact ⟨0, Nat.zero_le _, rfl, OZ4.out, grownB_refl _ _⟩
        case round =>
          obtain ⟨k, hk, rfl, hOx, hgx⟩ := hrel
          rename World => wx
          by_cases hkm : k < m + 1
          · have hki : (k : Int) < ((m + 1 : Nat) : Int) := by omega
            obtain ⟨hin, hcur⟩ := HCU.out k hkm
            obtain ⟨at_, hat⟩ : ∃ at_, r.getD k 0 = at_ := ⟨_, rfl⟩
            have hgx0 : ∀ b j, b ≠ g6 → b < w4.heap.size → wx.cell? ⟨b, j, none⟩ = w4.cell? ⟨b, j, none⟩ := fun b j hb hlt => World.cell?_of_block (hgx.out.block b hlt (fun e => hb (Option.some.inj e)))
            have x1 := (hgx0 gu k (by omega) (by have := HB4.out.size; omega)).trans (HR4.out k hkm)
            have x2 := (hgx0 g9 k (by omega) hg9').trans (O9.out.cellN k hkm)
            have x3 := (hgx0 wr.heap.size 1 (by omega) (by have := HB4.out.size; omega)).trans d1
            have x4 := hOx.out.cellN _ hin
            have f4 : wx.frozen? ⟨g6, r.getD k 0, none⟩ = false := hOx.out.frozenN _
            rw [hcur] at x4
            obtain ⟨y, hy⟩ : ∃ y, fn X k = y := ⟨_, rfl⟩
            rw [hy] at x2
            rw [hat] at x1 x4 f4 hin
            obtain ⟨mo, hmo⟩ : ∃ mo, moreF lx y = mo := ⟨_, rfl⟩
            have hmb : 0 ≤ mo ∧ mo ≤ 2 := by rw [← hmo]; unfold moreF; repeat' split <;> omega
            have HMO : Hid (∀ V, Calls Tryz.prog 47 #[.int .i64 lx, .int .i64 y] V fun e w' => e = .returned (.int .i64 mo) ∧ w' = V) := fun V => implMore lx y V HLX.out mo hmo
            have hai : (at_ : Int) < (n : Int) := by omega
            have HP1 : Hid (putTo Z r lx (fn X) (k + 1) = (putTo Z r lx (fn X) k).set at_ (lx + mo)) := by
              unfold Hid; simp only [putTo]; rw [hat, hy, hmo]
            have hlx0 := HLX.out
            have hlx2 := HLX22.out
            clear hcur hat hy hmo hgx0
            go_upto_region 12 with fail
            go_region_with (go_at_call 47; refine (HMO.out _).mono ?_; rintro e w6 ⟨rfl, hw6⟩; rw [hw6]; clear hw6 w6)
            all_goals
              go_wp2_with fail
              go_roundw
              case rel => exact ⟨k + 1, by omega, by go_num, by rw [HP1.out]; exact (hOx.out.below (below_draws wx 1)).storedN _ _, grownB_tr hgx.out (grownB_tr (grownB_draws wx 1 _) (grownB_set _ _ _ _))⟩
              case measure => simp only [intOf]; omega
          · have e : k = m + 1 := by omega
            subst e
            go_wp2_with fail
            go_roundw
            case rel => exact ⟨q + 1, by omega, by go_num, by rw [HZ1.out]; exact hOx.out, grownB_tr hG4.out hgx.out⟩
            case measure => simp only [intOf]; omega
      · have e : q = np := by omega
        subst e
        have hB : Hid (Below w.heap.size w wr) := B3.out.grown hgr.out B3.out.size (fun j hj => by have := (hV6.out j hj).1; omega)
        go_wp2_with fail
        go_ret
        exact ⟨⟨_, rfl, by rw [HNP.out]; exact hO.out.mono h01⟩, hB.out⟩
end Go.Proofs.YtgojdlbidjnmmabGreat
namespace Go.Proofs.YtgojdlbidjnmmabGreat
open Go.ChangeShapes Go.WideShapes Go.ChangeAt Go.RowKit
set_option linter.unusedSimpArgs false
set_option linter.unusedVariables false

theorem specBefore (b off cap n at_ : Nat) (L : List Int) (base : Int) (w : World) (hn : L.length = n) (hb : b < w.heap.size) (hat : At w b off L) (hn80 : n ≤ 1000) (ha : at_ ≤ n) :
    Calls Tryz.prog 38 #[.slice (some ⟨b, off, none⟩) n cap, .int .i64 (at_ : Int), .int .i64 base] w fun e w' => e = .returned (.int .i64 (befL (fn L) base at_)) ∧ w' = w := by
  have HL : Hid (∀ x, x < n → w.cell? ⟨b, off + x, none⟩ = some (.int .i64 (fn L x))) := fun x hx => hat x (by omega)
  clear hat hn
  go_enter Tryz.func38, Tryz.ntmps38
  go_wp2_with fail
  go_loop [7] (fun z => ∃ k : Nat, z = .int .i64 ((k : Int) - 1) ∧ k ≤ at_ ∧ Hid (befL (fn L) base at_ = befL (fn L) base k)) (fun z => (intOf z + 1).toNat)
  case atStart => exact ⟨at_, by first | rfl | (congr 1), Nat.le_refl _, rfl⟩
  case round =>
    obtain ⟨k, rfl, hk, he⟩ := hrel
    cases k with
    | zero =>
      go_wp2_with fail
      go_ret
      exact ⟨retInt he.out.symm, rfl⟩
    | succ k =>
      rw [show ((k + 1 : Nat) : Int) - 1 = (k : Int) by omega]
      have hkn : (k : Int) < (n : Int) := by omega
      have cx := HL.out k (by omega)
      obtain ⟨y, hy⟩ : ∃ y, fn L k = y := ⟨_, rfl⟩
      rw [hy] at cx
      have he2 : Hid (befL (fn L) base at_ = if 0 ≤ y then y else befL (fn L) base k) := by unfold Hid; rw [he.out]; simp only [befL, hy]
      clear he hy
      by_cases h0 : 0 ≤ y
      · go_wp2_with fail
        go_ret
        exact ⟨retInt (by rw [he2.out, if_pos h0]), rfl⟩
      · go_wp2_with fail
        go_round
        case rel => exact ⟨k, by first | rfl | (congr 1), by omega, by unfold Hid; rw [he2.out, if_neg h0]⟩
        case measure => simp only [intOf]; omega
theorem specEdge (x y : Int) (w : World) (h0 : 0 ≤ x) (h1 : 0 ≤ y) : Calls Tryz.prog 37 #[.int .i64 x, .int .i64 y] w fun e w' => e = .returned (.int .i64 (ownOf (maxI x y))) ∧ w' = w := by
  by_cases h : x < y
  · have hm : maxI x y = y := by unfold maxI; rw [if_pos h]
    rw [hm]
    clear hm
    go_enter Tryz.func37, Tryz.ntmps37
    go_wp2_with (go_at_call 58; refine (specOwn _ _ h1).mono ?_; rintro e w1 ⟨rfl, hw1⟩; rw [hw1]; clear hw1 w1)
    go_ret
    exact ⟨rfl, rfl⟩
  · have hm : maxI x y = x := by unfold maxI; rw [if_neg h]
    rw [hm]
    clear hm
    go_enter Tryz.func37, Tryz.ntmps37
    go_wp2_with (go_at_call 58; refine (specOwn _ _ h0).mono ?_; rintro e w1 ⟨rfl, hw1⟩; rw [hw1]; clear hw1 w1)
    go_ret
    exact ⟨rfl, rfl⟩
theorem specAhead (g n cp at_ : Nat) (x : Nat → Int) (bf : Int) (w : World) (hx : Hid (∀ j, j < n → w.cell? ⟨g, j, none⟩ = some (.int .i64 (x j)))) (hn : n ≤ 1000) (ha : at_ ≤ n) :
    Calls Tryz.prog 67 #[.slice (some ⟨g, 0, none⟩) n cp, .int .i64 (at_ : Int), .int .i64 bf] w fun e w' => e = .returned (.int .i64 (shA x bf at_)) ∧ w' = w := by
  go_enter Tryz.func67, Tryz.ntmps67
  go_wp2_with fail
  go_loop [7] (fun z => ∃ k : Nat, z = .int .i64 ((k : Int) - 1) ∧ k ≤ at_ ∧ Hid (shA x bf at_ = shA x bf k)) (fun z => (intOf z + 1).toNat)
  case atStart => exact ⟨at_, by first | rfl | (congr 1), Nat.le_refl _, rfl⟩
  case round =>
    obtain ⟨k, rfl, hk, he⟩ := hrel
    cases k with
    | zero =>
      go_wp2_with fail
      go_ret
      exact ⟨retInt he.out.symm, rfl⟩
    | succ k =>
      rw [show ((k + 1 : Nat) : Int) - 1 = (k : Int) by omega]
      have hkn : (k : Int) < (n : Int) := by omega
      have cx := hx.out k (by omega)
      obtain ⟨y, hy⟩ : ∃ y, x k = y := ⟨_, rfl⟩
      rw [hy] at cx
      obtain ⟨z, hz⟩ : ∃ z, asB y = z := ⟨_, rfl⟩
      have hlk : like y = if sideB z = true then z else 0 := by
        rw [← hz]; unfold like asB sideB
        by_cases h1 : y = 1
        · simp [h1]
        · by_cases h2 : y = 2
          · simp [h2]
          · by_cases h4 : y = 4 ∨ y = 7
            · rcases h4 with h4 | h4 <;> simp [h4]
            · simp [h1, h2, h4]
      obtain ⟨q, hq⟩ : ∃ q, sideB z = q := ⟨_, rfl⟩
      have HAS : Hid (∀ W, Calls Tryz.prog 69 #[.int .i64 y] W fun e w' => e = .returned (.int .i64 z) ∧ w' = W) := fun W => by rw [← hz]; exact specAs y W
      have HSI : Hid (∀ W, Calls Tryz.prog 70 #[.int .i64 z] W fun e w' => e = .returned (.bool q) ∧ w' = W) := fun W => by rw [← hq]; exact specSide? z W
      rw [hq] at hlk
      have hzr : q = true → z ≠ 0 := fun e => by rw [e] at hq; unfold sideB at hq; have := of_decide_eq_true hq; omega
      have he2 : Hid (shA x bf at_ = if q = true then z else shA x bf k) := by
        unfold Hid; rw [he.out]; simp only [shA, hy, hlk]
        cases q with
        | true => rw [if_pos rfl, if_neg (hzr rfl)]; rfl
        | false => simp
      clear he hy hz hq hlk hzr
      cases q
      · go_wp2_with (first | (go_at_call 69; refine (HAS.out _).mono ?_; rintro e w1 ⟨rfl, hw1⟩; rw [hw1]; clear hw1 w1) | (go_at_call 70; refine (HSI.out _).mono ?_; rintro e w1 ⟨rfl, hw1⟩; rw [hw1]; clear hw1 w1))
        go_round
        case rel => exact ⟨k, by first | rfl | (congr 1), by omega, by unfold Hid; rw [he2.out, if_neg (by simp)]⟩
        case measure => simp only [intOf]; omega
      · go_wp2_with (first | (go_at_call 69; refine (HAS.out _).mono ?_; rintro e w1 ⟨rfl, hw1⟩; rw [hw1]; clear hw1 w1) | (go_at_call 70; refine (HSI.out _).mono ?_; rintro e w1 ⟨rfl, hw1⟩; rw [hw1]; clear hw1 w1))
        go_ret
        exact ⟨retInt (by rw [he2.out]; simp), rfl⟩
end Go.Proofs.YtgojdlbidjnmmabGreat
namespace Go.Proofs.YtgojdlbidjnmmabGreat
open Go.ChangeShapes Go.WideShapes Go.ChangeAt Go.RowKit
set_option linter.unusedSimpArgs false
set_option linter.unusedVariables false

theorem like_as (y : Int) : like y = if sideB (asB y) = true then asB y else 0 := by
  unfold like asB sideB
  by_cases h1 : y = 1
  · simp [h1]
  · by_cases h2 : y = 2
    · simp [h2]
    · by_cases h4 : y = 4 ∨ y = 7
      · rcases h4 with h4 | h4 <;> simp [h4]
      · simp [h1, h2, h4]
set_option maxHeartbeats 2000000 in
theorem specInside (g n cp a b : Nat) (x : Nat → Int) (o : Int) (w : World) (hx : Hid (∀ j, j < n → w.cell? ⟨g, j, none⟩ = some (.int .i64 (x j)))) (hn : n ≤ 1000) (ha : a < b) (hb : b ≤ n) (ho : o = 1 ∨ o = 2) :
    Calls Tryz.prog 66 #[.slice (some ⟨g, 0, none⟩) n cp, .int .i64 (a : Int), .int .i64 (b : Int), .int .i64 o] w fun e w' => e = .returned (.tuple #[.bool (ownIn x o a (b - (a + 1))), .bool (othIn x o a (b - (a + 1)))]) ∧ w' = w := by
  have HO : Hid (o = 1 ∨ o = 2) := ho
  clear ho
  go_enter Tryz.func66, Tryz.ntmps66
  go_wp2_with fail
  go_loop [10, 11, 12] (fun s t z => ∃ (k : Nat) (s0 t0 : Bool), z = .int .i64 ((a + 1 + k : Nat) : Int) ∧ a + 1 + k ≤ b ∧ s = .bool s0 ∧ t = .bool t0 ∧ Hid (ownIn x o a k = s0) ∧ Hid (othIn x o a k = t0)) (fun _ _ z => b - (intOf z).toNat)
  case atStart => exact ⟨0, false, false, by go_num, by omega, rfl, rfl, rfl, rfl⟩
  case round =>
    obtain ⟨k, s0, t0, rfl, hk, rfl, rfl, hs, ht⟩ := hrel
    obtain ⟨p, hp⟩ : ∃ p, a + 1 + k = p := ⟨_, rfl⟩
    rw [hp] at hk ⊢
    have HP : Hid (a + 1 + k = p) := hp
    clear hp
    by_cases hlt : p < b
    · have hpi : (p : Int) < (b : Int) := by omega
      have hpn : (p : Int) < (n : Int) := by omega
      have cx := hx.out p (by omega)
      obtain ⟨y, hy⟩ : ∃ y, x p = y := ⟨_, rfl⟩
      rw [hy] at cx
      have hlk := like_as y
      obtain ⟨z, hz⟩ : ∃ z, asB y = z := ⟨_, rfl⟩
      obtain ⟨q, hq⟩ : ∃ q, sideB z = q := ⟨_, rfl⟩
      rw [hz, hq] at hlk
      have HAS : Hid (∀ W, Calls Tryz.prog 69 #[.int .i64 y] W fun e w' => e = .returned (.int .i64 z) ∧ w' = W) := fun W => by rw [← hz]; exact specAs y W
      have HSI : Hid (∀ W, Calls Tryz.prog 70 #[.int .i64 z] W fun e w' => e = .returned (.bool q) ∧ w' = W) := fun W => by rw [← hq]; exact specSide? z W
      have hzr : q = true → z ≠ 0 := fun e => by rw [e] at hq; unfold sideB at hq; have := of_decide_eq_true hq; omega
      have hn1 : Hid (ownIn x o a (k + 1) = (s0 || (like y == o)) ∧ othIn x o a (k + 1) = (t0 || (!(like y == 0) && !(like y == o)))) := by
        have e1 : ownIn x o a (k + 1) = (ownIn x o a k || (like (x (a + 1 + k)) == o)) := rfl
        have e2 : othIn x o a (k + 1) = (othIn x o a k || (!(like (x (a + 1 + k)) == 0) && !(like (x (a + 1 + k)) == o))) := rfl
        unfold Hid
        rw [e1, e2, hs.out, ht.out, HP.out, hy]; exact ⟨rfl, rfl⟩
      have HL : Hid (like y = if q = true then z else 0) := hlk
      have HZR : Hid (q = true → z ≠ 0) := hzr
      clear hs ht hy hz hq hlk hzr
      cases q
      · have H2 : Hid (ownIn x o a (k + 1) = s0 ∧ othIn x o a (k + 1) = t0) := by
          have e : like y = 0 := by rw [HL.out]; simp
          have ho := HO.out
          unfold Hid
          rw [hn1.out.1, hn1.out.2, e]
          have : ((0 : Int) == o) = false := by simp; omega
          rw [this]; simp
        clear hn1
        go_wp2_with (first | (go_at_call 69; refine (HAS.out _).mono ?_; rintro e w1 ⟨rfl, hw1⟩; rw [hw1]; clear hw1 w1) | (go_at_call 70; refine (HSI.out _).mono ?_; rintro e w1 ⟨rfl, hw1⟩; rw [hw1]; clear hw1 w1))
        go_round
        case rel => exact ⟨k + 1, s0, t0, by rw [show a + 1 + (k + 1) = p + 1 by have := HP.out; omega]; go_num, by have := HP.out; omega, rfl, rfl, H2.out.1, H2.out.2⟩
        case measure => simp only [intOf]; omega
      · by_cases hzo : z = o
        · subst hzo
          have H2 : Hid (ownIn x z a (k + 1) = true ∧ othIn x z a (k + 1) = t0) := by
            have e : like y = z := by rw [HL.out]; simp
            unfold Hid
            rw [hn1.out.1, hn1.out.2, e]; simp
          clear hn1
          go_wp2_with (first | (go_at_call 69; refine (HAS.out _).mono ?_; rintro e w1 ⟨rfl, hw1⟩; rw [hw1]; clear hw1 w1) | (go_at_call 70; refine (HSI.out _).mono ?_; rintro e w1 ⟨rfl, hw1⟩; rw [hw1]; clear hw1 w1))
          go_round
          case rel => exact ⟨k + 1, true, t0, by rw [show a + 1 + (k + 1) = p + 1 by have := HP.out; omega]; go_num, by have := HP.out; omega, rfl, rfl, H2.out.1, H2.out.2⟩
          case measure => simp only [intOf]; omega
        · have hzb : (z == o) = false := by simpa using hzo
          have hzb2 : (z != o) = true := by simpa using hzo
          have H2 : Hid (ownIn x o a (k + 1) = s0 ∧ othIn x o a (k + 1) = true) := by
            have e : like y = z := by rw [HL.out]; simp
            have := HZR.out rfl
            unfold Hid
            rw [hn1.out.1, hn1.out.2, e, hzb]; simp [this]
          clear hn1
          go_wp2_with (first | (go_at_call 69; refine (HAS.out _).mono ?_; rintro e w1 ⟨rfl, hw1⟩; rw [hw1]; clear hw1 w1) | (go_at_call 70; refine (HSI.out _).mono ?_; rintro e w1 ⟨rfl, hw1⟩; rw [hw1]; clear hw1 w1))
          go_round
          case rel => exact ⟨k + 1, s0, true, by rw [show a + 1 + (k + 1) = p + 1 by have := HP.out; omega]; go_num, by have := HP.out; omega, rfl, rfl, H2.out.1, H2.out.2⟩
          case measure => simp only [intOf]; omega
    · have H2 : Hid (ownIn x o a (b - (a + 1)) = s0 ∧ othIn x o a (b - (a + 1)) = t0) := by
        have e : b - (a + 1) = k := by have := HP.out; omega
        unfold Hid; rw [e]; exact ⟨hs.out, ht.out⟩
      clear hs ht
      go_wp2_with fail
      go_ret2
      exact ⟨by rw [H2.out.1, H2.out.2]; rfl, rfl⟩
set_option maxHeartbeats 1000000 in
theorem specRise (lvl c : Int) (w : World) (h0 : 0 ≤ lvl) (h1 : lvl ≤ 22) (r : Int) (hr : Hid (lvl + moreF lvl c = r)) : Calls Tryz.prog 43 #[.int .i64 lvl, .int .i64 c] w fun e w' => e = .returned (.int .i64 r) ∧ w' = w := by
  have ht : Int.tmod lvl 2 = lvl % 2 := Int.tmod_eq_emod_of_nonneg h0
  rcases Int.emod_two_eq lvl with hm | hm
  · have h2 : Int.tmod lvl 2 = 0 := by omega
    have hrr : Hid (r = if c = 2 then lvl + 1 else if c = 1 then lvl else lvl + 2) := by
      unfold Hid; rw [← hr.out]; unfold moreF ownOf; simp only [hm]; by_cases a1 : c = 2
      · subst a1; simp
      · by_cases a2 : c = 1
        · subst a2; simp
        · simp [a1, a2]
    clear hr ht hm
    by_cases a1 : c = 2
    · have hr2 : Hid (r = lvl + 1) := by unfold Hid; rw [hrr.out, if_pos a1]
      subst a1
      clear hrr
      go_enter Tryz.func43, Tryz.ntmps43
      go_wp2_with fail
      go_ret
      exact ⟨retInt hr2.out.symm, rfl⟩
    · by_cases a2 : c = 1
      · have hr2 : Hid (r = lvl) := by unfold Hid; rw [hrr.out, if_neg a1, if_pos a2]
        subst a2
        clear hrr
        go_enter Tryz.func43, Tryz.ntmps43
        go_wp2_with fail
        go_ret
        exact ⟨retInt hr2.out.symm, rfl⟩
      · have hr2 : Hid (r = lvl + 2) := by unfold Hid; rw [hrr.out, if_neg a1, if_neg a2]
        have a3 : (c == 2) = false := by simpa using a1
        have a4 : (c != 1) = true := by simpa using a2
        clear hrr
        go_enter Tryz.func43, Tryz.ntmps43
        go_wp2_with fail
        go_ret
        exact ⟨retInt hr2.out.symm, rfl⟩
  · have h2 : Int.tmod lvl 2 = 1 := by omega
    have hrr : Hid (r = if c = 2 then lvl else lvl + 1) := by
      unfold Hid; rw [← hr.out]; unfold moreF ownOf; simp only [hm]; by_cases a1 : c = 2
      · subst a1; simp
      · simp [a1]
    clear hr ht hm
    by_cases a1 : c = 2
    · have hr2 : Hid (r = lvl) := by unfold Hid; rw [hrr.out, if_pos a1]
      subst a1
      clear hrr
      go_enter Tryz.func43, Tryz.ntmps43
      go_wp2_with fail
      go_ret
      exact ⟨retInt hr2.out.symm, rfl⟩
    · have hr2 : Hid (r = lvl + 1) := by unfold Hid; rw [hrr.out, if_neg a1]
      have a3 : (c != 2) = true := by simpa using a1
      clear hrr
      go_enter Tryz.func43, Tryz.ntmps43
      go_wp2_with fail
      go_ret
      exact ⟨retInt hr2.out.symm, rfl⟩
end Go.Proofs.YtgojdlbidjnmmabGreat
namespace Go.Proofs.YtgojdlbidjnmmabGreat
open Go.ChangeShapes Go.WideShapes Go.ChangeAt Go.RowKit
set_option linter.unusedSimpArgs false
set_option linter.unusedVariables false

theorem aftL_skip {lv : Nat → Int} {n : Nat} {base : Int} : ∀ (d p : Nat), p + d ≤ n → (∀ x, p ≤ x → x < p + d → lv x < 0) → aftL lv n base (n - p) = aftL lv n base (n - (p + d))
  | 0, p, _, _ => rfl
  | d + 1, p, h1, h2 => by
    rw [aftL_step (by omega) (h2 p (Nat.le_refl _) (by omega)), aftL_skip d (p + 1) (by omega) (fun x h3 h4 => h2 x (by omega) (by omega)), show p + 1 + d = p + (d + 1) by omega]
theorem aftL_at {lv : Nat → Int} {n : Nat} {base : Int} {p k : Nat} (h1 : p ≤ k) (h2 : k ≤ n) (h3 : ∀ x, p ≤ x → x < k → lv x < 0) (h4 : k < n → 0 ≤ lv k) : aftL lv n base (n - p) = if k = n then base else lv k := by
  have := aftL_skip (lv := lv) (n := n) (base := base) (k - p) p (by omega) (fun x a b => h3 x a (by omega))
  rw [this, show p + (k - p) = k by omega]
  split
  · rename_i e; rw [e, Nat.sub_self]; rfl
  · exact aftL_hit (by omega) (h4 (by omega))
set_option maxHeartbeats 2000000 in
theorem specBehind (b off cap b2 off2 cap2 n at_ : Nat) (l L : List Int) (mt : Nat → Nat) (base : Int) (w : World) (hn : l.length = n) (hnL : L.length = n) (hb : b < w.heap.size) (hb2 : b2 < w.heap.size) (hat : At w b off l) (hatL : At w b2 off2 L) (hl : n ≤ 1000) (hmt : Hid (MateFn (cl l) n mt)) (ha : at_ < n) :
    Calls Tryz.prog 39 #[.slice (some ⟨b, off, none⟩) n cap, .slice (some ⟨b2, off2, none⟩) n cap2, .int .i64 (at_ : Int), .int .i64 base] w fun e w' => e = .returned (.int .i64 (behF (cl l) (fn L) n mt base at_)) ∧ Below w.heap.size w w' := by
  have hai : (at_ : Int) < (n : Int) := by omega
  have cx := hat at_ (by omega)
  obtain ⟨y, hy⟩ : ∃ y, fn l at_ = y := ⟨_, rfl⟩
  rw [hy] at cx
  obtain ⟨c, hc⟩ : ∃ c, cl l at_ = c := ⟨_, rfl⟩
  have hcy : bidi y = c := by rw [← hc, ← hy]; rfl
  have HCY : Hid _ := hcy
  obtain ⟨q, hq⟩ : ∃ q, opensB c = q := ⟨_, rfl⟩
  have HQ : Hid _ := hq
  have HAT : Hid (At w b off l) := hat
  have HAL : Hid (At w b2 off2 L) := hatL
  have HN : Hid _ := hn
  have HNL : Hid _ := hnL
  have HLF : Hid (∀ V, Below w.heap.size w V → Calls Tryz.prog 54 #[.slice (some ⟨b2, off2, none⟩) n cap2, .int .i64 ((at_ : Int) + 1)] V fun e w' => (∃ k : Nat, e = .returned (.int .i64 k) ∧ at_ + 1 ≤ k ∧ k ≤ n ∧ (∀ x, at_ + 1 ≤ x → x < k → fn L x < 0) ∧ (k < n → 0 ≤ fn L k)) ∧ w' = V) := fun V hV => specLeft b2 off2 cap2 n L (at_ + 1) _ V hnL (hatL.below hV hb2) (by omega) (by omega) (by omega)
  have HCELL : Hid (∀ V, Below w.heap.size w V → ∀ k, k < n → V.cell? ⟨b2, off2 + k, none⟩ = some (.int .i64 (fn L k))) := fun V hV k hk => hatL.below hV hb2 k (by omega)
  cases q
  · have HB : Hid (behF (cl l) (fn L) n mt base at_ = aftL (fn L) n base (n - (at_ + 1))) := by
      unfold Hid behF; rw [hc, hq]; simp
    clear hq hcy hc hy hat hatL hn hnL hmt
    go_enter Tryz.func39, Tryz.ntmps39
    go_wp2_with (first | (go_at_call 33; refine (specBidi _ _).mono ?_; rintro e w1 ⟨rfl, b1⟩; rw [HCY.out]) | (go_at_call 59; refine (specOpens _ _).mono ?_; rintro e w2 ⟨rfl, rfl⟩; rw [HQ.out]))
    refine (HLF.out _ b1).mono ?_
    rintro e w3 ⟨⟨k, rfl, k1, k2, k3, k4⟩, hw3⟩
    rw [hw3]
    clear hw3 w3
    have K3 : Hid _ := k3
    have K4 : Hid (k < n → 0 ≤ fn L k) := k4
    clear k3 k4
    have hres := aftL_at (base := base) k1 k2 K3.out K4.out
    by_cases e : k = n
    · subst e
      have H2 : Hid (behF (cl l) (fn L) k mt base at_ = base) := by unfold Hid; rw [HB.out, hres]; simp
      clear hres
      go_wp2_with fail
      go_ret
      exact ⟨retInt H2.out.symm, b1⟩
    · have hki : (k : Int) < (n : Int) := by omega
      have cl2 := HCELL.out _ b1 k (by omega)
      have H2 : Hid (behF (cl l) (fn L) n mt base at_ = fn L k) := by unfold Hid; rw [HB.out, hres, if_neg e]
      clear hres
      go_wp2_with fail
      go_ret
      exact ⟨retInt H2.out.symm, b1⟩
  · have hmle : mt at_ ≤ n := by
      rcases hmt.out at_ ha (by rw [hc]; exact hq) with ⟨a, _⟩ | ⟨a, _⟩ <;> omega
    have HML : Hid (∀ V, Below w.heap.size w V → Calls Tryz.prog 60 #[.slice (some ⟨b, off, none⟩) n cap, .int .i64 (at_ : Int)] V fun e w' => e = .returned (.int .i64 (mt at_ : Int)) ∧ Below V.heap.size V w') := fun V hV => specMateL b off cap n l mt _ at_ V hn (Nat.lt_of_lt_of_le hb hV.size) (hat.below hV hb) (by omega) hmt rfl ha (by rw [hc]; exact hq)
    have HB : Hid (behF (cl l) (fn L) n mt base at_ = if n ≤ mt at_ then base else aftL (fn L) n base (n - (at_ + 1))) := by
      unfold Hid behF; rw [hc, hq]; simp
    obtain ⟨m, hm⟩ : ∃ m, mt at_ = m := ⟨_, rfl⟩
    rw [hm] at hmle HML HB
    clear hq hcy hc hy hat hatL hn hnL hmt hm
    by_cases hmn : m = n
    · subst hmn
      have H2 : Hid (behF (cl l) (fn L) m mt base at_ = base) := by unfold Hid; rw [HB.out]; simp
      clear HB
      go_enter Tryz.func39, Tryz.ntmps39
      go_wp2_with (first | (go_at_call 33; refine (specBidi _ _).mono ?_; rintro e w1 ⟨rfl, b1⟩; rw [HCY.out]) | (go_at_call 59; refine (specOpens _ _).mono ?_; rintro e w2 ⟨rfl, rfl⟩; rw [HQ.out]) | (go_at_call 60; refine (HML.out _ b1).mono ?_; rintro e w3 ⟨rfl, b3⟩; have b13 := bstep b1 b3; clear b3))
      go_ret
      exact ⟨retInt H2.out.symm, b13⟩
    · have hmi : (m : Int) < (n : Int) := by omega
      have H1 : Hid (behF (cl l) (fn L) n mt base at_ = aftL (fn L) n base (n - (at_ + 1))) := by unfold Hid; rw [HB.out, if_neg (by omega)]
      clear HB
      go_enter Tryz.func39, Tryz.ntmps39
      go_wp2_with (first | (go_at_call 33; refine (specBidi _ _).mono ?_; rintro e w1 ⟨rfl, b1⟩; rw [HCY.out]) | (go_at_call 59; refine (specOpens _ _).mono ?_; rintro e w2 ⟨rfl, rfl⟩; rw [HQ.out]) | (go_at_call 60; refine (HML.out _ b1).mono ?_; rintro e w3 ⟨rfl, b3⟩; have b13 := bstep b1 b3; clear b3))
      refine (HLF.out _ b13).mono ?_
      rintro e w5 ⟨⟨k, rfl, k1, k2, k3, k4⟩, hw5⟩
      rw [hw5]
      clear hw5 w5
      have K3 : Hid _ := k3
      have K4 : Hid (k < n → 0 ≤ fn L k) := k4
      clear k3 k4
      have hres := aftL_at (base := base) k1 k2 K3.out K4.out
      by_cases e : k = n
      · subst e
        have H2 : Hid (behF (cl l) (fn L) k mt base at_ = base) := by unfold Hid; rw [H1.out, hres]; simp
        clear hres
        go_wp2_with fail
        go_ret
        exact ⟨retInt H2.out.symm, b13⟩
      · have hki : (k : Int) < (n : Int) := by omega
        have cl2 := HCELL.out _ b13 k (by omega)
        have H2 : Hid (behF (cl l) (fn L) n mt base at_ = fn L k) := by unfold Hid; rw [H1.out, hres, if_neg e]
        clear hres
        go_wp2_with fail
        go_ret
        exact ⟨retInt H2.out.symm, b13⟩
end Go.Proofs.YtgojdlbidjnmmabGreat
