import Derived.Test.YtkdmfjnaajedhaaMg16
import Derived.Test.YtkdmfjnaajedhaaMg13
import Derived.Deep.RegionLaw
import Derived.BigRegion
import Derived.Test.YtkdmfjnaajedhaaMg8
import Derived.Lib.SliceRun
namespace Go.Proofs.Ytkdmfjnaajedhaa
open Go.ChangeShapes Go.WideShapes Go.ChangeAt Go.RowKit Go.Deep
set_option linter.unusedSimpArgs false
set_option linter.unusedVariables false

/-- What a piece and all that goes on with it is. -/
def restN (c lv : Nat → Int) (n : Nat) (mt : Nat → Nat) (b : Nat) : List Nat := match scN c lv n mt b with | some j => chainN c lv n mt j | none => []

def molM (n : Nat) (x : Value) : Nat := if intOf x < 0 then 0 else n + 1 - (intOf x).toNat
theorem molM_neg (n : Nat) : molM n (.int .i64 (-1)) = 0 := rfl
theorem molM_nat (n j : Nat) : molM n (.int .i64 (j : Int)) = n + 1 - j := by
  show (if (j : Int) < 0 then 0 else n + 1 - ((j : Int)).toNat) = _
  rw [if_neg (by omega)]; rfl

set_option maxRecDepth 10000 in
set_option maxHeartbeats 8000000 in
theorem implTogether {B T gm gq gl gc n : Nat} {base : Int} {cs M L cls : List Int} {c : Nat → Int} {mt : Nat → Nat} (w : World) (h : TT w B T gm gq gl gc n base cs M L cls) (hn80 : n ≤ 1000) (hcs : ∀ j, j < n → fn cs j = c j) (ht : Txt c (fn L) n mt) (hm : MatesIs c n mt M) :
    Calls Try.prog 23 #[.pointer (some ⟨T, 0, none⟩)] w fun e w' => (∃ v P, e = .returned v ∧ PR w' (w.heap.size + 1) v P (natR (runsTo c (fn L) n mt n)) ∧ P.map (·.2) = (stN c (fn L) mt n).map (fn L)) ∧ Below w.heap.size w w' := by
  have HTT : Hid (TT w B T gm gq gl gc n base cs M L cls) := h
  have HTX : Hid (Txt c (fn L) n mt) := ht
  have HSM : Hid (SameMates c n mt M) := hm.same
  have HCL : Hid (ClosTo c n M) := hm.clos
  have HCS : Hid (∀ j, j < n → fn cs j = c j) := hcs
  clear h ht hm hcs
  go_enter Try.func23, Try.ntmps23
  go_wp2_with (go_at_call 43; refine (implPieces w HTT.out hn80).mono ?_; rintro e w1 ⟨⟨v, gn, P, N, rfl, rfl, pr, lev, on, nx⟩, b1⟩; obtain ⟨av, cv, rfl⟩ := pr.slc)
  obtain ⟨np, hnp⟩ : ∃ np, (begN (fn L) n).length = np := ⟨_, rfl⟩
  have hnp2 : (natR (pcsN (fn L) n)).length = np := by rw [pcs_len, hnp]
  rw [hnp2] at pr ⊢
  have hnpn : np ≤ n := by rw [← hnp]; exact begN_len _ _
  have PRR : Hid (PR w1 (w.heap.size + 1) (.slice av np cv) P (natR (pcsN (fn L) n))) := pr
  have LEV : Hid (levTo (fn L) n P) := lev
  have ON : Hid (OwnI w1 w.heap.size (.slice (some ⟨w.heap.size, 0, none⟩) n n) N) := on
  have NX : Hid (nextTo (fn L) n N) := nx
  have B1 : Hid (Below w.heap.size w w1) := b1
  have HNP : Hid ((begN (fn L) n).length = np) := hnp
  have HNP2 : Hid ((natR (pcsN (fn L) n)).length = np) := hnp2
  have hw1 : w.heap.size + 1 ≤ w1.heap.size := (on.lt w.heap.size rfl).2
  clear pr lev on nx b1 hnp hnp2
  go_loopw [5, 16] (fun vw x wr => ∃ (q bq : Nat) (Pw : List (Value × Int)), q ≤ np ∧ x = .int .i64 q ∧ bq ≤ n ∧ Hid ((begN (fn L) bq).length = q) ∧ Hid (TG wr (w.heap.size + 1) (.slice av np cv) P (natR (pcsN (fn L) n)) q vw Pw (natR ((stN c (fn L) mt bq).map (chainN c (fn L) n mt)))) ∧ Hid (Pw.map (·.2) = (stN c (fn L) mt bq).map (fn L)) ∧ Hid (Below (w.heap.size + 1) w1 wr) ∧ w.heap.size + 1 ≤ wr.heap.size) (fun _ x _ => np - (intOf x).toNat)
  case atStart => exact ⟨0, 0, [], Nat.zero_le _, rfl, Nat.zero_le _, rfl, TG.start PRR.out, rfl, Below.refl _ _, hw1⟩
  case round =>
    obtain ⟨q, bq, Pw, hq, rfl, hbq, hbl, hTG, hlv, hbel, hsz⟩ := hrel
    rename World => wo
    by_cases hlt : q < np
    · have hqi : (q : Int) < (np : Int) := by omega
      obtain ⟨b, hbn, hb, hbi⟩ := begN_at (lv := fn L) (n := n) (q := q) (by rw [HNP.out]; exact hlt)
      have hbb : bq ≤ b := by
        rcases Nat.lt_or_ge b bq with h | h
        · have := begN_order hb h; have := hbl.out; omega
        · exact h
      have hst : Hid (stN c (fn L) mt b = stN c (fn L) mt bq) := stN_to hbb (by rw [hbi, hbl.out])
      obtain ⟨g, cp, hvv, _⟩ := hTG.out.ll.own.form1 (by rw [HNP2.out]; omega)
      simp only [Value.slice.injEq] at hvv
      obtain ⟨rfl, hzz, rfl⟩ := hvv
      clear hzz
      obtain ⟨hcu, hcx⟩ := hTG.out.ll.cellAt q hlt
      have hrow := hTG.out.ll.row q (Nat.le_refl _) (by rw [HNP2.out]; exact hlt)
      rw [← hbi, pcs_at hb hbn, hbi] at hrow
      have hlvq : (pN P q).2 = fn L b := by rw [← hbi]; exact lev_at LEV.out hb hbn
      rw [hlvq] at hcx
      obtain ⟨u, hu⟩ : ∃ u, (pN P q).1 = u := ⟨_, rfl⟩
      rw [hu] at hcu hrow
      obtain ⟨gu, cu, hue, _⟩ := OwnI.form1 hrow (natL_ne (piece_ne hb hbn))
      obtain ⟨k0, hk0⟩ : ∃ k0, (natL (pieceN (fn L) b n)).length = k0 + 1 := by
        obtain ⟨r, hr⟩ := piece_head hb hbn
        exact ⟨r.length, by rw [natL_len, hr]; rfl⟩
      rw [hk0] at hue
      subst hue
      have HU : Hid ((pN P q).1 = .slice (some ⟨gu, 0, none⟩) (k0 + 1) cu) := hu
      have HROW : Hid (OwnI wo (w.heap.size + 1) (.slice (some ⟨gu, 0, none⟩) (k0 + 1) cu) (natL (pieceN (fn L) b n))) := hrow
      have HB : Hid (begB (fn L) b = true) := hb
      have HBI : Hid ((begN (fn L) b).length = q) := hbi
      have HLVQ : Hid (Pw.map (·.2) = (stN c (fn L) mt bq).map (fn L)) := hlv.out
      have hgu := (hrow.lt gu rfl).2
      have hkn : k0 < n := by have := hk0; rw [natL_len] at this; unfold pieceN at this; have h2 := List.length_filter_le (ofB (fn L) b) (List.range n); rw [List.length_range] at h2; omega
      have hfst : wo.cell? ⟨gu, 0, none⟩ = some (.int .i64 (b : Int)) := by
        rw [hrow.cellN 0 (by omega)]
        obtain ⟨r, hr⟩ := piece_head hb hbn
        rw [hr]; rfl
      have HIN0 : Hid (Inn wo (wo.alloc (.cells #[.slice (some ⟨gu, 0, none⟩) (k0 + 1) cu, .int .i64 (fn L b)] 47)) (w.heap.size + 1) wo.heap.size (pN P q).1.ownBlock (.slice (some ⟨gu, 0, none⟩) (k0 + 1) cu) (natL (pieceN (fn L) b n)) (fn L b)) := by rw [hu]; exact Inn.start hrow
      obtain ⟨W, hW⟩ : ∃ W, wo.alloc (.cells #[.slice (some ⟨gu, 0, none⟩) (k0 + 1) cu, .int .i64 (fn L b)] 47) = W := ⟨_, rfl⟩
      have HW : Hid _ := hW
      rw [hW] at HIN0
      have hBW : Below wo.heap.size wo W := by rw [← hW]; exact (Below.refl _ _).alloc (Nat.le_refl _) _
      have hWs : W.heap.size = wo.heap.size + 1 := by rw [← hW]; simp
      have hBww : Below w.heap.size w W := (B1.out.trans (hbel.out.mono (by omega))).trans (hBW.mono (by omega))
      have hTW := HTT.out.below hBww
      have HTW : Hid (TT W B T gm gq gl gc n base cs M L cls) := hTW
      have HTQ : Hid (∀ q, TT (W.drewN q) B T gm gq gl gc n base cs M L cls) := fun q => hTW.below (below_draws W q)
      have HINQ : Hid (∀ z, Inn wo (W.drewN z) (w.heap.size + 1) wo.heap.size (pN P q).1.ownBlock (.slice (some ⟨gu, 0, none⟩) (k0 + 1) cu) (natL (pieceN (fn L) b n)) (fn L b)) := fun z => HIN0.out.below (below_draws W z)
      have HBQ : Hid (∀ q w4, Below (W.drewN q).heap.size (W.drewN q) w4 → Below (w.heap.size + 1) w1 w4) := fun q w4 h4 => ((hbel.out.trans (hBW.mono (by omega))).trans ((below_draws W q).mono (by omega))).trans (h4.mono (by show w.heap.size + 1 ≤ W.heap.size; omega))
      have c1 := hTW.c1
      have c2 := hTW.c2
      have b0 := HIN0.out.c0
      have b1w := HIN0.out.c1
      have hcx2 : W.cell? ⟨gm, b, none⟩ = some (.int .i64 (c b)) := by rw [hTW.om.cellN b hbn, HCS.out b hbn]
      have hqx : W.cell? ⟨gq, b, none⟩ = some (.int .i64 (fn M b)) := hTW.oq.cellN b hbn
      have hfW : W.cell? ⟨gu, 0, none⟩ = some (.int .i64 (b : Int)) := (World.cell?_of_block (hBW.block gu hgu)).trans hfst
      have hbi2 : (b : Int) < (n : Int) := by omega
      have HF : Hid (∀ q, Calls Try.prog 44 #[.slice (some ⟨gu, 0, none⟩) (k0 + 1) cu] (W.drewN q) fun e w' => e = .returned (.int .i64 (b : Int)) ∧ w' = W.drewN q) := fun q => placesFirst gu (k0 + 1) cu (b : Int) (W.drewN q) hfW (by omega)
      have HLN : Hid (lastP (fn L) b n < n) := (last_spec hb hbn).2.1
      have HLC : Hid (∀ q, (W.drewN q).cell? ⟨gu, k0, none⟩ = some (.int .i64 ((lastP (fn L) b n : Nat) : Int))) := by
        intro q
        obtain ⟨p, hp⟩ := piece_last hb n hbn
        have hpl : p.length = k0 := by have := hk0; rw [natL_len, hp] at this; simpa using this
        show W.cell? ⟨gu, k0, none⟩ = _
        rw [World.cell?_of_block (hBW.block gu hgu), hrow.cellN k0 (by omega), hp, ← hpl, fn_natL_last]
      have HGU : Hid (gu < W.heap.size) := by unfold Hid; omega
      clear hb hbi hbb hrow hlvq hu hk0 hW hTW hBW hWs hfst hBww HIN0
      by_cases h22 : c b = 22
      · have hq22 : (c b == 22) = true := by simpa using h22
        by_cases hge : 0 ≤ fn M b
        · have hd : decide (0 ≤ fn M b) = true := by simpa using hge
          have hno : startN c (fn L) mt b = false := by rw [start_22 HB.out h22, ← clos_ge HTX.out HSM.out HCL.out hbn h22, hd]; rfl
          have HST2 : Hid (stN c (fn L) mt (b + 1) = stN c (fn L) mt bq) := by
            unfold Hid
            rw [stN_succ, if_neg (by rw [hno]; simp), List.append_nil, hst.out]
          have HTG2 : Hid (∀ z, TG (W.drewN z) (w.heap.size + 1) (.slice (some ⟨g, 0, none⟩) np cv) P (natR (pcsN (fn L) n)) (q + 1) u5 Pw (natR ((stN c (fn L) mt (b + 1)).map (chainN c (fn L) n mt)))) := fun z => by
            rw [HST2.out]
            have hz : Below wo.heap.size wo (W.drewN z) := by rw [← HW.out]; exact ((Below.refl _ _).alloc (Nat.le_refl _) _).trans ((below_draws _ z).mono (by simp))
            exact (hTG.out.skip).below hz
          have HLV2 : Hid (Pw.map (·.2) = (stN c (fn L) mt (b + 1)).map (fn L)) := by unfold Hid; rw [HST2.out]; exact HLVQ.out
          have HBE2 : Hid (∀ z, Below (w.heap.size + 1) w1 (W.drewN z)) := fun z => HBQ.out z _ (Below.refl _ _)
          have hbl1 : Hid ((begN (fn L) (b + 1)).length = q + 1) := by
            unfold Hid
            rw [begN_succ, if_pos HB.out, List.length_append, HBI.out]; rfl
          have hs8 : w.heap.size + 1 ≤ W.heap.size := by rw [← HW.out]; simp; omega
          clear hge h22 hno
          go_upto_region 6 with fail
          rw [HW.out]
          go_quiet ((go_at_call 44; with_reducible exact Calls.quiet_of_same (HF.out _)))
          go_wp2_with fail
          go_roundw
          case rel => exact ⟨q + 1, b + 1, Pw, by omega, by go_num, by omega, hbl1.out, HTG2.out _, HLV2.out, HBE2.out _, hs8⟩
          case measure => simp only [intOf]; omega
        · have hd : decide (0 ≤ fn M b) = false := by simpa using hge
          have HSTART : Hid (startN c (fn L) mt b = true) := by unfold Hid; rw [start_22 HB.out h22, ← clos_ge HTX.out HSM.out HCL.out hbn h22, hd]; rfl
          clear hge h22
          go_upto_region 6 with fail
          rw [HW.out]
          go_quiet ((go_at_call 44; with_reducible exact Calls.quiet_of_same (HF.out _)))
          go_wp2_with (go_at_call 45; refine (implMol gu k0 cu (lastP (fn L) b n) (fn L b) _ (HTQ.out _) hn80 (HLC.out _) (by omega) HLN.out HGU.out HCS.out).mono ?_; rintro e w4 ⟨rfl, b4⟩; have B4 : Hid (Below (W.drewN nq).heap.size (W.drewN nq) w4) := b4; clear b4)
          go_loopw [8] (fun x wr => ∃ (b' : Nat) (cur : List Nat) (u : Value), b' < n ∧ x = .int .i64 (molF c M (lastP (fn L) b' n)) ∧ Hid (begB (fn L) b' = true) ∧ Hid (Inn wo wr (w.heap.size + 1) wo.heap.size (pN P q).1.ownBlock u (natL cur) (fn L b)) ∧ Hid (chainN c (fn L) n mt b = cur ++ restN c (fn L) n mt b') ∧ Hid (∃ p, cur = p ++ [lastP (fn L) b' n]) ∧ Hid (b ≤ b') ∧ Hid (Below (w.heap.size + 1) w1 wr)) (fun x _ => molM n x)
          case atStart => exact ⟨b, pieceN (fn L) b n, _, hbn, rfl, HB.out, (HINQ.out nq).below B4.out, chain_eq HTX.out HB.out hbn, piece_last HB.out n hbn, Nat.le_refl _, HBQ.out _ _ B4.out⟩
          case round =>
            obtain ⟨b', cur, u, hbn', rfl, hbb', hin, hch, hcl, hble, hbel2⟩ := hrel
            obtain ⟨sc, hsc⟩ : ∃ sc, scN c (fn L) n mt b' = sc := ⟨_, rfl⟩
            cases sc with
            | some j =>
              obtain ⟨ho, hmt, hjn, hbj, hlt2, _⟩ := sc_some HTX.out hbb'.out hbn' hsc
              have hlb := (last_spec hbb'.out hbn').2.1
              rw [mol_some HSM.out hlb ho hmt hjn]
              have hbj2 : b < j := by have := hble.out; omega
              obtain ⟨i, hi⟩ : ∃ i, (begN (fn L) j).length = i := ⟨_, rfl⟩
              have hiq : q + 1 ≤ i := by have := begN_order HB.out hbj2; have := HBI.out; omega
              have hin2 : i < np := by have := begN_lt hbj hjn; have := HNP.out; omega
              have hgr := TG.grown hTG.out (by rw [HNP2.out]; exact hlt) hin.out.grow
              obtain ⟨hcj, _⟩ := hgr.ll.cellAt i hin2
              have hrj := hgr.ll.row i hiq (by rw [HNP2.out]; exact hin2)
              rw [← hi, pcs_at hbj hjn, hi] at hrj
              obtain ⟨uj, huj⟩ : ∃ uj, (pN P i).1 = uj := ⟨_, rfl⟩
              rw [huj] at hcj hrj
              obtain ⟨gj, cj, hje, _⟩ := OwnI.form1 hrj (natL_ne (piece_ne hbj hjn))
              obtain ⟨kj, hkj⟩ : ∃ kj, (natL (pieceN (fn L) j n)).length = kj + 1 := by
                obtain ⟨r, hr⟩ := piece_head hbj hjn
                exact ⟨r.length, by rw [natL_len, hr]; rfl⟩
              rw [hkj] at hje
              subst hje
              have hcn : wr.cell? ⟨w.heap.size, j, none⟩ = some (.int .i64 (i : Int)) := by
                rw [World.cell?_of_block (hbel2.out.block w.heap.size (by omega)), ON.out.cellN j hjn, NX.out j hjn, if_pos hbj, hi]
              have hx0 := hin.out.c0
              have hx1 := hin.out.c1
              have hxf := hin.out.fz
              have hxl := hin.out.lt
              have hj0 : (0 : Int) ≤ (j : Int) := by omega
              have hjn3 : (j : Int) < (n : Int) := by omega
              have hi0 : (0 : Int) ≤ (i : Int) := by omega
              have hin3 : (i : Int) < (np : Int) := by omega
              obtain ⟨lc, hlc⟩ : ∃ lc, (natL cur).length = lc := ⟨_, rfl⟩
              have hlen : lc + (kj + 1) ≤ 1000 := by
                have h1 := hch.out
                have h2 : restN c (fn L) n mt b' = pieceN (fn L) j n ++ restN c (fn L) n mt j := by unfold restN; rw [hsc]; exact chain_eq HTX.out hbj hjn
                obtain ⟨h3, h4⟩ := chain_len HTX.out (n - b) b HB.out hbn (Nat.le_refl _)
                have h5 := inc_len h3 h4
                rw [h1, h2, List.length_append, List.length_append] at h5
                rw [natL_len] at hlc hkj
                omega
              have HRJ : Hid (OwnI wr (w.heap.size + 1) (.slice (some ⟨gj, 0, none⟩) (kj + 1) cj) (natL (pieceN (fn L) j n))) := hrj
              have HLC2 : Hid ((natL cur).length = lc) := hlc
              have HCH : Hid (chainN c (fn L) n mt b = (cur ++ pieceN (fn L) j n) ++ restN c (fn L) n mt j) := by
                unfold Hid
                rw [hch.out, List.append_assoc]
                congr 1
                show restN c (fn L) n mt b' = _
                unfold restN; rw [hsc]; exact chain_eq HTX.out hbj hjn
              have HLJ : Hid (∃ p, cur ++ pieceN (fn L) j n = p ++ [lastP (fn L) j n] ∧ p.length = lc + kj) := by
                obtain ⟨p, hp⟩ := piece_last hbj n hjn
                refine ⟨cur ++ p, by rw [hp, List.append_assoc], ?_⟩
                rw [natL_len] at hlc hkj
                rw [hp] at hkj
                simp at hkj ⊢; omega
              have HBJ : Hid (begB (fn L) j = true) := hbj
              have HMZ : Hid (molF c M (lastP (fn L) j n) = -1 ∨ ∃ j2 : Nat, molF c M (lastP (fn L) j n) = (j2 : Int) ∧ j < j2 ∧ j2 < n) := by
                cases hs2 : scN c (fn L) n mt j with
                | none => exact .inl (mol_none HSM.out hbj hjn hs2)
                | some j2 =>
                  obtain ⟨ho2, hmt2, hjn2, _, hlt3, _⟩ := sc_some HTX.out hbj hjn hs2
                  exact .inr ⟨j2, mol_some HSM.out (last_spec hbj hjn).2.1 ho2 hmt2 hjn2, hlt3, hjn2⟩
              have HLJN : Hid (lastP (fn L) j n < n) := (last_spec hbj hjn).2.1
              have HKEEP : Hid (∀ w5 : World, wr.grownBy w5 u.ownBlock → w5.cell? ⟨wo.heap.size, 0, none⟩ = some u ∧ w5.cell? ⟨wo.heap.size, 1, none⟩ = some (.int .i64 (fn L b)) ∧ w5.frozen? ⟨wo.heap.size, 0, none⟩ = false) := fun w5 h5 => by
                have e := h5.block wo.heap.size hxl (fun e => hin.out.ne e.symm)
                exact ⟨(World.cell?_of_block e).trans hx0, (World.cell?_of_block e).trans hx1, (World.frozen?_of_block e).trans hxf⟩
              clear hgr hrj hlc hi huj hkj hbj hsc ho hmt hch hcl hlb
              go_upto_region 10 with fail
              go_region_law ((refine step_appendR (.tmp 58) (.tmp 66) Try.underlying45 (show OwnI _ _ _ _ from hin.out.own) (show OwnI _ _ _ _ from HRJ.out) (by omega) (by rw [HLC2.out]; omega) (by show w.heap.size + 1 ≤ wr.heap.size; omega) rfl rfl rfl rfl ?_; intro g5 c5 w5 ho5 hg5 hn5; rw [HLC2.out] at ho5 ⊢; have HO5 : Hid (OwnI w5 (w.heap.size + 1) (.slice (some ⟨g5, 0, none⟩) (lc + (kj + 1)) c5) (natL cur ++ natL (pieceN (fn L) j n))) := ho5; have HG5 : Hid (wr.grownBy w5 u.ownBlock) := ⟨hg5.os, hg5.tape, hg5.output, hg5.size, hg5.block⟩; have HN5 : Hid (u.ownBlock = some g5 ∨ g5 = wr.heap.size) := hn5; obtain ⟨k5, k5b, f5⟩ := HKEEP.out w5 HG5.out; clear ho5 hg5 hn5))
              all_goals
                have hin6 := Inn.step hin.out (u' := .slice (some ⟨g5, 0, none⟩) (lc + (kj + 1)) c5) (cur' := natL (cur ++ pieceN (fn L) j n)) (by rw [natL_app]; exact HO5.out) HG5.out (by rcases HN5.out with e | e; exact .inl e.symm; exact .inr (by rw [e]; rfl))
                obtain ⟨w6, hw6⟩ : ∃ w6, w5.setCell ⟨wo.heap.size, 0, none⟩ (.slice (some ⟨g5, 0, none⟩) (lc + (kj + 1)) c5) = w6 := ⟨_, rfl⟩
                have hbel6 : Below (w.heap.size + 1) w1 w6 := by
                  rw [← hw6]
                  exact (hbel2.out.grown HG5.out (by omega) (fun z hz => (hin.out.own.lt z hz).1)).setCell (by show w.heap.size + 1 ≤ wo.heap.size; exact hsz) _
                have HW6 : Hid _ := hw6
                rw [hw6] at hin6
                have hb60 := hin6.c0
                have hb61 := hin6.c1
                have HIN6 : Hid (Inn wo w6 (w.heap.size + 1) wo.heap.size (pN P q).1.ownBlock (.slice (some ⟨g5, 0, none⟩) (lc + (kj + 1)) c5) (natL (cur ++ pieceN (fn L) j n)) (fn L b)) := hin6
                have HT6 : Hid (TT w6 B T gm gq gl gc n base cs M L cls) := HTT.out.below (B1.out.trans (hbel6.mono (by omega)))
                have HG6 : Hid (g5 < w6.heap.size) := (hin6.own.lt g5 rfl).2
                have HL6 : Hid (w6.cell? ⟨g5, lc + kj, none⟩ = some (.int .i64 ((lastP (fn L) j n : Nat) : Int))) := by
                  obtain ⟨p, hp, hpl⟩ := HLJ.out
                  unfold Hid
                  have hh := hin6.own
                  rw [hp] at hh
                  rw [hh.cellN (lc + kj) (by omega), ← hpl, fn_natL_last]
                have HB6 : Hid (∀ w7, Below w6.heap.size w6 w7 → Below (w.heap.size + 1) w1 w7) := fun w7 h7 => hbel6.trans (h7.mono (by have := hin6.lt; omega))
                clear hw6 hbel6 hin6
                go_wp2_with fail
                rw [HW6.out]
                go_wp2_with (go_at_call 45; refine (implMol g5 (lc + kj) c5 (lastP (fn L) j n) (fn L b) _ HT6.out hn80 HL6.out (by omega) HLJN.out HG6.out HCS.out).mono ?_; rintro e w7 ⟨rfl, b7⟩; have B7 : Hid (Below w6.heap.size w6 w7) := b7; clear b7)
                go_roundw
                case rel => exact ⟨j, cur ++ pieceN (fn L) j n, _, hjn, rfl, HBJ.out, HIN6.out.below B7.out, HCH.out, by obtain ⟨p, hp, _⟩ := HLJ.out; exact ⟨p, hp⟩, by have := hble.out; unfold Hid; omega, HB6.out _ B7.out⟩
                case measure =>
                  rcases HMZ.out with e | ⟨j2, e, h1, h2⟩
                  · rw [e, molM_neg, molM_nat]; omega
                  · rw [e, molM_nat, molM_nat]; omega
            | none =>
              rw [mol_none HSM.out hbb'.out hbn' hsc]
              have hcc : cur = chainN c (fn L) n mt b := by
                have h1 := hch.out
                unfold restN at h1
                rw [hsc] at h1
                simpa using h1.symm
              have hne : natL cur ≠ [] := by
                obtain ⟨p, hp⟩ := hcl.out
                rw [hp]; exact natL_ne (by simp)
              obtain ⟨gx, cx, hxe, _⟩ := OwnI.form1 hin.out.own hne
              obtain ⟨lx, hlx⟩ : ∃ lx, (natL cur).length = lx := ⟨_, rfl⟩
              rw [hlx] at hxe
              subst hxe
              have HIN2 : Hid (Inn wo wr (w.heap.size + 1) wo.heap.size (pN P q).1.ownBlock (.slice (some ⟨gx, 0, none⟩) lx cx) (natL cur) (fn L b)) := hin.out
              have hx0 := hin.out.c0
              have hx1 := hin.out.c1
              have hxl := hin.out.lt
              have hwh := (TG.grown hTG.out (by rw [HNP2.out]; exact hlt) hin.out.grow).wh
              obtain ⟨c5, hc5⟩ : ∃ c5, (natR ((stN c (fn L) mt bq).map (chainN c (fn L) n mt))).length = c5 := ⟨_, rfl⟩
              have hc5n : c5 ≤ 1000 := by
                rw [natR_len, List.length_map] at hc5
                have := stN_len (c := c) (lv := fn L) (mt := mt) bq
                omega
              have HOW : Hid (OwnV 47 2 wr (w.heap.size + 1) u5 c5 (pcells Pw)) := by have := hwh.own; rw [hc5] at this; exact this
              have HC5 : Hid (_ = c5) := hc5
              have hrn : Hid (natR ((stN c (fn L) mt (b + 1)).map (chainN c (fn L) n mt)) = natR ((stN c (fn L) mt bq).map (chainN c (fn L) n mt)) ++ [natL cur]) := by
                unfold Hid
                rw [stN_succ, if_pos HSTART.out, hst.out, List.map_append, natR_app, hcc]; rfl
              have hln : Hid (∀ z : Value, (Pw ++ [(z, fn L b)]).map (·.2) = (stN c (fn L) mt (b + 1)).map (fn L)) := fun z => by
                rw [stN_succ, if_pos HSTART.out, hst.out, List.map_append, List.map_append, HLVQ.out]; rfl
              have hbl1 : Hid ((begN (fn L) (b + 1)).length = q + 1) := by
                unfold Hid
                rw [begN_succ, if_pos HB.out, List.length_append, HBI.out]; rfl
              clear hcc hne hch hcl hsc hlx hwh hc5
              go_wp2_with (at_builtin; refine own_appendV (k := 2) (b := 32) (T := 47) (TS := 43) (.tmp 69) (.tmp 71) rfl rowRT Try.underlying43 HOW.out (by omega) (by omega) (by omega) (by omega) rfl (by simp [Value.oneCell']) rfl rfl rfl rfl ?_; intro v8 w8 ho8 hg8 hv8; have HO8 : Hid (OwnV 47 2 w8 (w.heap.size + 1) v8 (c5 + 1) (pcells Pw ++ [.slice (some ⟨gx, 0, none⟩) lx cx, .int .i64 (fn L b)])) := ho8; have HG8 : Hid (wr.grownBy w8 (Value.ownBlock u5)) := hg8; have HV8 : Hid (v8.ownBlock = u5.ownBlock ∨ v8.ownBlock = some (wr.heap.size + 1)) := hv8; clear ho8 hg8 hv8)
              have hadd := TG.add HC5.out hTG.out (by rw [HNP2.out]; exact hlt) HIN2.out.sz HIN2.out.grow HIN2.out.own (by rcases HIN2.out.ub with e | ⟨H, e, h2⟩; exact .inl e; exact .inr ⟨H, e, by omega⟩) HO8.out HG8.out HV8.out
              have HADD : Hid (TG w8 (w.heap.size + 1) (.slice (some ⟨g, 0, none⟩) np cv) P (natR (pcsN (fn L) n)) (q + 1) v8 (Pw ++ [(.slice (some ⟨gx, 0, none⟩) lx cx, fn L b)]) (natR ((stN c (fn L) mt (b + 1)).map (chainN c (fn L) n mt)))) := by unfold Hid; rw [hrn.out]; exact hadd
              have HBE8 : Hid (Below (w.heap.size + 1) w1 w8) := hbel2.out.grown HG8.out (by omega) (fun z hz => (HOW.out.lt z hz).1)
              have hs8 : w.heap.size + 1 ≤ w8.heap.size := by have := HG8.out.size; omega
              clear hadd
              go_roundw
              case rel => exact ⟨q + 1, b + 1, Pw ++ [(Value.slice (some ⟨gx, 0, none⟩) lx cx, fn L b)], by omega, by go_num, by omega, hbl1.out, HADD.out, hln.out _, HBE8.out, hs8⟩
              case measure => simp only [intOf]; omega
      · have hq22 : (c b == 22) = false := by simpa using h22
        have HSTART : Hid (startN c (fn L) mt b = true) := start_no22 HB.out h22
        clear h22
        go_upto_region 6 with fail
        rw [HW.out]
        go_quiet ((go_at_call 44; with_reducible exact Calls.quiet_of_same (HF.out _)))
        go_wp2_with (go_at_call 45; refine (implMol gu k0 cu (lastP (fn L) b n) (fn L b) _ (HTQ.out _) hn80 (HLC.out _) (by omega) HLN.out HGU.out HCS.out).mono ?_; rintro e w4 ⟨rfl, b4⟩; have B4 : Hid (Below (W.drewN nq).heap.size (W.drewN nq) w4) := b4; clear b4)
        go_loopw [8] (fun x wr => ∃ (b' : Nat) (cur : List Nat) (u : Value), b' < n ∧ x = .int .i64 (molF c M (lastP (fn L) b' n)) ∧ Hid (begB (fn L) b' = true) ∧ Hid (Inn wo wr (w.heap.size + 1) wo.heap.size (pN P q).1.ownBlock u (natL cur) (fn L b)) ∧ Hid (chainN c (fn L) n mt b = cur ++ restN c (fn L) n mt b') ∧ Hid (∃ p, cur = p ++ [lastP (fn L) b' n]) ∧ Hid (b ≤ b') ∧ Hid (Below (w.heap.size + 1) w1 wr)) (fun x _ => molM n x)
        case atStart => exact ⟨b, pieceN (fn L) b n, _, hbn, rfl, HB.out, (HINQ.out nq).below B4.out, chain_eq HTX.out HB.out hbn, piece_last HB.out n hbn, Nat.le_refl _, HBQ.out _ _ B4.out⟩
        case round =>
          obtain ⟨b', cur, u, hbn', rfl, hbb', hin, hch, hcl, hble, hbel2⟩ := hrel
          obtain ⟨sc, hsc⟩ : ∃ sc, scN c (fn L) n mt b' = sc := ⟨_, rfl⟩
          cases sc with
          | some j =>
            obtain ⟨ho, hmt, hjn, hbj, hlt2, _⟩ := sc_some HTX.out hbb'.out hbn' hsc
            have hlb := (last_spec hbb'.out hbn').2.1
            rw [mol_some HSM.out hlb ho hmt hjn]
            have hbj2 : b < j := by have := hble.out; omega
            obtain ⟨i, hi⟩ : ∃ i, (begN (fn L) j).length = i := ⟨_, rfl⟩
            have hiq : q + 1 ≤ i := by have := begN_order HB.out hbj2; have := HBI.out; omega
            have hin2 : i < np := by have := begN_lt hbj hjn; have := HNP.out; omega
            have hgr := TG.grown hTG.out (by rw [HNP2.out]; exact hlt) hin.out.grow
            obtain ⟨hcj, _⟩ := hgr.ll.cellAt i hin2
            have hrj := hgr.ll.row i hiq (by rw [HNP2.out]; exact hin2)
            rw [← hi, pcs_at hbj hjn, hi] at hrj
            obtain ⟨uj, huj⟩ : ∃ uj, (pN P i).1 = uj := ⟨_, rfl⟩
            rw [huj] at hcj hrj
            obtain ⟨gj, cj, hje, _⟩ := OwnI.form1 hrj (natL_ne (piece_ne hbj hjn))
            obtain ⟨kj, hkj⟩ : ∃ kj, (natL (pieceN (fn L) j n)).length = kj + 1 := by
              obtain ⟨r, hr⟩ := piece_head hbj hjn
              exact ⟨r.length, by rw [natL_len, hr]; rfl⟩
            rw [hkj] at hje
            subst hje
            have hcn : wr.cell? ⟨w.heap.size, j, none⟩ = some (.int .i64 (i : Int)) := by
              rw [World.cell?_of_block (hbel2.out.block w.heap.size (by omega)), ON.out.cellN j hjn, NX.out j hjn, if_pos hbj, hi]
            have hx0 := hin.out.c0
            have hx1 := hin.out.c1
            have hxf := hin.out.fz
            have hxl := hin.out.lt
            have hj0 : (0 : Int) ≤ (j : Int) := by omega
            have hjn3 : (j : Int) < (n : Int) := by omega
            have hi0 : (0 : Int) ≤ (i : Int) := by omega
            have hin3 : (i : Int) < (np : Int) := by omega
            obtain ⟨lc, hlc⟩ : ∃ lc, (natL cur).length = lc := ⟨_, rfl⟩
            have hlen : lc + (kj + 1) ≤ 1000 := by
              have h1 := hch.out
              have h2 : restN c (fn L) n mt b' = pieceN (fn L) j n ++ restN c (fn L) n mt j := by unfold restN; rw [hsc]; exact chain_eq HTX.out hbj hjn
              obtain ⟨h3, h4⟩ := chain_len HTX.out (n - b) b HB.out hbn (Nat.le_refl _)
              have h5 := inc_len h3 h4
              rw [h1, h2, List.length_append, List.length_append] at h5
              rw [natL_len] at hlc hkj
              omega
            have HRJ : Hid (OwnI wr (w.heap.size + 1) (.slice (some ⟨gj, 0, none⟩) (kj + 1) cj) (natL (pieceN (fn L) j n))) := hrj
            have HLC2 : Hid ((natL cur).length = lc) := hlc
            have HCH : Hid (chainN c (fn L) n mt b = (cur ++ pieceN (fn L) j n) ++ restN c (fn L) n mt j) := by
              unfold Hid
              rw [hch.out, List.append_assoc]
              congr 1
              show restN c (fn L) n mt b' = _
              unfold restN; rw [hsc]; exact chain_eq HTX.out hbj hjn
            have HLJ : Hid (∃ p, cur ++ pieceN (fn L) j n = p ++ [lastP (fn L) j n] ∧ p.length = lc + kj) := by
              obtain ⟨p, hp⟩ := piece_last hbj n hjn
              refine ⟨cur ++ p, by rw [hp, List.append_assoc], ?_⟩
              rw [natL_len] at hlc hkj
              rw [hp] at hkj
              simp at hkj ⊢; omega
            have HBJ : Hid (begB (fn L) j = true) := hbj
            have HMZ : Hid (molF c M (lastP (fn L) j n) = -1 ∨ ∃ j2 : Nat, molF c M (lastP (fn L) j n) = (j2 : Int) ∧ j < j2 ∧ j2 < n) := by
              cases hs2 : scN c (fn L) n mt j with
              | none => exact .inl (mol_none HSM.out hbj hjn hs2)
              | some j2 =>
                obtain ⟨ho2, hmt2, hjn2, _, hlt3, _⟩ := sc_some HTX.out hbj hjn hs2
                exact .inr ⟨j2, mol_some HSM.out (last_spec hbj hjn).2.1 ho2 hmt2 hjn2, hlt3, hjn2⟩
            have HLJN : Hid (lastP (fn L) j n < n) := (last_spec hbj hjn).2.1
            have HKEEP : Hid (∀ w5 : World, wr.grownBy w5 u.ownBlock → w5.cell? ⟨wo.heap.size, 0, none⟩ = some u ∧ w5.cell? ⟨wo.heap.size, 1, none⟩ = some (.int .i64 (fn L b)) ∧ w5.frozen? ⟨wo.heap.size, 0, none⟩ = false) := fun w5 h5 => by
              have e := h5.block wo.heap.size hxl (fun e => hin.out.ne e.symm)
              exact ⟨(World.cell?_of_block e).trans hx0, (World.cell?_of_block e).trans hx1, (World.frozen?_of_block e).trans hxf⟩
            clear hgr hrj hlc hi huj hkj hbj hsc ho hmt hch hcl hlb
            go_upto_region 10 with fail
            go_region_law ((refine step_appendR (.tmp 58) (.tmp 66) Try.underlying45 (show OwnI _ _ _ _ from hin.out.own) (show OwnI _ _ _ _ from HRJ.out) (by omega) (by rw [HLC2.out]; omega) (by show w.heap.size + 1 ≤ wr.heap.size; omega) rfl rfl rfl rfl ?_; intro g5 c5 w5 ho5 hg5 hn5; rw [HLC2.out] at ho5 ⊢; have HO5 : Hid (OwnI w5 (w.heap.size + 1) (.slice (some ⟨g5, 0, none⟩) (lc + (kj + 1)) c5) (natL cur ++ natL (pieceN (fn L) j n))) := ho5; have HG5 : Hid (wr.grownBy w5 u.ownBlock) := ⟨hg5.os, hg5.tape, hg5.output, hg5.size, hg5.block⟩; have HN5 : Hid (u.ownBlock = some g5 ∨ g5 = wr.heap.size) := hn5; obtain ⟨k5, k5b, f5⟩ := HKEEP.out w5 HG5.out; clear ho5 hg5 hn5))
            all_goals
              have hin6 := Inn.step hin.out (u' := .slice (some ⟨g5, 0, none⟩) (lc + (kj + 1)) c5) (cur' := natL (cur ++ pieceN (fn L) j n)) (by rw [natL_app]; exact HO5.out) HG5.out (by rcases HN5.out with e | e; exact .inl e.symm; exact .inr (by rw [e]; rfl))
              obtain ⟨w6, hw6⟩ : ∃ w6, w5.setCell ⟨wo.heap.size, 0, none⟩ (.slice (some ⟨g5, 0, none⟩) (lc + (kj + 1)) c5) = w6 := ⟨_, rfl⟩
              have hbel6 : Below (w.heap.size + 1) w1 w6 := by
                rw [← hw6]
                exact (hbel2.out.grown HG5.out (by omega) (fun z hz => (hin.out.own.lt z hz).1)).setCell (by show w.heap.size + 1 ≤ wo.heap.size; exact hsz) _
              have HW6 : Hid _ := hw6
              rw [hw6] at hin6
              have hb60 := hin6.c0
              have hb61 := hin6.c1
              have HIN6 : Hid (Inn wo w6 (w.heap.size + 1) wo.heap.size (pN P q).1.ownBlock (.slice (some ⟨g5, 0, none⟩) (lc + (kj + 1)) c5) (natL (cur ++ pieceN (fn L) j n)) (fn L b)) := hin6
              have HT6 : Hid (TT w6 B T gm gq gl gc n base cs M L cls) := HTT.out.below (B1.out.trans (hbel6.mono (by omega)))
              have HG6 : Hid (g5 < w6.heap.size) := (hin6.own.lt g5 rfl).2
              have HL6 : Hid (w6.cell? ⟨g5, lc + kj, none⟩ = some (.int .i64 ((lastP (fn L) j n : Nat) : Int))) := by
                obtain ⟨p, hp, hpl⟩ := HLJ.out
                unfold Hid
                have hh := hin6.own
                rw [hp] at hh
                rw [hh.cellN (lc + kj) (by omega), ← hpl, fn_natL_last]
              have HB6 : Hid (∀ w7, Below w6.heap.size w6 w7 → Below (w.heap.size + 1) w1 w7) := fun w7 h7 => hbel6.trans (h7.mono (by have := hin6.lt; omega))
              clear hw6 hbel6 hin6
              go_wp2_with fail
              rw [HW6.out]
              go_wp2_with (go_at_call 45; refine (implMol g5 (lc + kj) c5 (lastP (fn L) j n) (fn L b) _ HT6.out hn80 HL6.out (by omega) HLJN.out HG6.out HCS.out).mono ?_; rintro e w7 ⟨rfl, b7⟩; have B7 : Hid (Below w6.heap.size w6 w7) := b7; clear b7)
              go_roundw
              case rel => exact ⟨j, cur ++ pieceN (fn L) j n, _, hjn, rfl, HBJ.out, HIN6.out.below B7.out, HCH.out, by obtain ⟨p, hp, _⟩ := HLJ.out; exact ⟨p, hp⟩, by have := hble.out; unfold Hid; omega, HB6.out _ B7.out⟩
              case measure =>
                rcases HMZ.out with e | ⟨j2, e, h1, h2⟩
                · rw [e, molM_neg, molM_nat]; omega
                · rw [e, molM_nat, molM_nat]; omega
          | none =>
            rw [mol_none HSM.out hbb'.out hbn' hsc]
            have hcc : cur = chainN c (fn L) n mt b := by
              have h1 := hch.out
              unfold restN at h1
              rw [hsc] at h1
              simpa using h1.symm
            have hne : natL cur ≠ [] := by
              obtain ⟨p, hp⟩ := hcl.out
              rw [hp]; exact natL_ne (by simp)
            obtain ⟨gx, cx, hxe, _⟩ := OwnI.form1 hin.out.own hne
            obtain ⟨lx, hlx⟩ : ∃ lx, (natL cur).length = lx := ⟨_, rfl⟩
            rw [hlx] at hxe
            subst hxe
            have HIN2 : Hid (Inn wo wr (w.heap.size + 1) wo.heap.size (pN P q).1.ownBlock (.slice (some ⟨gx, 0, none⟩) lx cx) (natL cur) (fn L b)) := hin.out
            have hx0 := hin.out.c0
            have hx1 := hin.out.c1
            have hxl := hin.out.lt
            have hwh := (TG.grown hTG.out (by rw [HNP2.out]; exact hlt) hin.out.grow).wh
            obtain ⟨c5, hc5⟩ : ∃ c5, (natR ((stN c (fn L) mt bq).map (chainN c (fn L) n mt))).length = c5 := ⟨_, rfl⟩
            have hc5n : c5 ≤ 1000 := by
              rw [natR_len, List.length_map] at hc5
              have := stN_len (c := c) (lv := fn L) (mt := mt) bq
              omega
            have HOW : Hid (OwnV 47 2 wr (w.heap.size + 1) u5 c5 (pcells Pw)) := by have := hwh.own; rw [hc5] at this; exact this
            have HC5 : Hid (_ = c5) := hc5
            have hrn : Hid (natR ((stN c (fn L) mt (b + 1)).map (chainN c (fn L) n mt)) = natR ((stN c (fn L) mt bq).map (chainN c (fn L) n mt)) ++ [natL cur]) := by
              unfold Hid
              rw [stN_succ, if_pos HSTART.out, hst.out, List.map_append, natR_app, hcc]; rfl
            have hln : Hid (∀ z : Value, (Pw ++ [(z, fn L b)]).map (·.2) = (stN c (fn L) mt (b + 1)).map (fn L)) := fun z => by
              rw [stN_succ, if_pos HSTART.out, hst.out, List.map_append, List.map_append, HLVQ.out]; rfl
            have hbl1 : Hid ((begN (fn L) (b + 1)).length = q + 1) := by
              unfold Hid
              rw [begN_succ, if_pos HB.out, List.length_append, HBI.out]; rfl
            clear hcc hne hch hcl hsc hlx hwh hc5
            go_wp2_with (at_builtin; refine own_appendV (k := 2) (b := 32) (T := 47) (TS := 43) (.tmp 69) (.tmp 71) rfl rowRT Try.underlying43 HOW.out (by omega) (by omega) (by omega) (by omega) rfl (by simp [Value.oneCell']) rfl rfl rfl rfl ?_; intro v8 w8 ho8 hg8 hv8; have HO8 : Hid (OwnV 47 2 w8 (w.heap.size + 1) v8 (c5 + 1) (pcells Pw ++ [.slice (some ⟨gx, 0, none⟩) lx cx, .int .i64 (fn L b)])) := ho8; have HG8 : Hid (wr.grownBy w8 (Value.ownBlock u5)) := hg8; have HV8 : Hid (v8.ownBlock = u5.ownBlock ∨ v8.ownBlock = some (wr.heap.size + 1)) := hv8; clear ho8 hg8 hv8)
            have hadd := TG.add HC5.out hTG.out (by rw [HNP2.out]; exact hlt) HIN2.out.sz HIN2.out.grow HIN2.out.own (by rcases HIN2.out.ub with e | ⟨H, e, h2⟩; exact .inl e; exact .inr ⟨H, e, by omega⟩) HO8.out HG8.out HV8.out
            have HADD : Hid (TG w8 (w.heap.size + 1) (.slice (some ⟨g, 0, none⟩) np cv) P (natR (pcsN (fn L) n)) (q + 1) v8 (Pw ++ [(.slice (some ⟨gx, 0, none⟩) lx cx, fn L b)]) (natR ((stN c (fn L) mt (b + 1)).map (chainN c (fn L) n mt)))) := by unfold Hid; rw [hrn.out]; exact hadd
            have HBE8 : Hid (Below (w.heap.size + 1) w1 w8) := hbel2.out.grown HG8.out (by omega) (fun z hz => (HOW.out.lt z hz).1)
            have hs8 : w.heap.size + 1 ≤ w8.heap.size := by have := HG8.out.size; omega
            clear hadd
            go_roundw
            case rel => exact ⟨q + 1, b + 1, Pw ++ [(Value.slice (some ⟨gx, 0, none⟩) lx cx, fn L b)], by omega, by go_num, by omega, hbl1.out, HADD.out, hln.out _, HBE8.out, hs8⟩
            case measure => simp only [intOf]; omega
    · have e : q = np := by omega
      subst e
      go_wp2_with fail
      go_ret
      have hst : stN c (fn L) mt n = stN c (fn L) mt bq := stN_to hbq (by rw [hbl.out, HNP.out])
      have hru : runsTo c (fn L) n mt n = (stN c (fn L) mt bq).map (chainN c (fn L) n mt) := by rw [runsTo_st, hst]
      rw [hst, hru]
      exact ⟨⟨_, Pw, rfl, hTG.out.wh, hlv.out⟩, B1.out.trans (hbel.out.mono (by omega))⟩
end Go.Proofs.Ytkdmfjnaajedhaa
namespace Go.Proofs.Ytkdmfjnaajedhaa
open Go.ChangeShapes Go.WideShapes Go.ChangeAt Go.RowKit
set_option linter.unusedSimpArgs false

set_option maxHeartbeats 1000000 in
theorem clone_row (b off n cap : Nat) (l : List Int) (w : World) (hn : l.length = n) (hl : n ≤ 1048576) (hat : At w b off l) (hb : b < w.heap.size) :
    Calls Try.prog 24 #[.slice (some ⟨b, off, none⟩) n cap] w fun e w' => (∃ v', e = .returned v' ∧ OwnI w' w.heap.size v' l) ∧ Below w.heap.size w w' := by
  have HN : Hid _ := hn
  clear hn
  have hnil := fun (w : World) (a : Option Addr) (n c : Nat) => Lib.run_eql_slice_nil (P := Try.prog) w 22 3 a n c 0 0 Try.underlying22
  go_enter Try.func24, Try.ntmps24
  have ho := own_empty w w.heap.size 3 (Nat.le_refl _) rfl
  have hat2 : At (w.alloc (.cells #[] 3)) b off l := hat.below (B := w.heap.size) ((Below.refl _ _).alloc (Nat.le_refl _) _) hb
  go_wp2_with (at_builtin; refine own_appendAll (.tmp 5) (.tmp 6) ho HN.out (by simp; omega) (by simp) hat2 rfl rfl rfl rfl ?_; intro v5 w5 hown5 hgr5)
  go_ret
  refine ⟨⟨_, rfl, by simpa using hown5⟩, ?_⟩
  refine ((Below.refl _ _).alloc (Nat.le_refl _) _).grown hgr5 (by simp) (fun k hk => ?_)
  simp [Value.ownBlock] at hk
  omega

set_option maxHeartbeats 1000000 in
theorem clone_any (v : Value) (l : List Int) (w : World) (hv : Arg w v l) (hl : l.length ≤ 1048576) :
    Calls Try.prog 24 #[v] w fun e w' => (∃ v', e = .returned v' ∧ OwnI w' w.heap.size v' l) ∧ Below w.heap.size w w' := by
  rcases hv with ⟨a, cap, rfl, rfl⟩ | ⟨b, off, cap, rfl, hb, hlc, hcm, hat⟩
  · cases a with
    | none =>
      have hnil := fun (w : World) (a : Option Addr) (n c : Nat) => Lib.run_eql_slice_nil (P := Try.prog) w 22 3 a n c 0 0 Try.underlying22
      go_enter Try.func24, Try.ntmps24
      go_wp2
      go_ret
      exact ⟨⟨_, rfl, OwnI.nil _ _⟩, Below.refl _ _⟩
    | some ad =>
      have hnil := fun (w : World) (a : Option Addr) (n c : Nat) => Lib.run_eql_slice_nil (P := Try.prog) w 22 3 a n c 0 0 Try.underlying22
      go_enter Try.func24, Try.ntmps24
      have ho := own_empty w w.heap.size 3 (Nat.le_refl _) rfl
      go_wp2
      go_ret
      exact ⟨⟨_, rfl, ho⟩, by go_grown⟩
  · exact clone_row b off l.length cap l w rfl hl hat hb
end Go.Proofs.Ytkdmfjnaajedhaa
namespace Go.Proofs.Ytkdmfjnaajedhaa
open Go.ChangeShapes Go.WideShapes Go.ChangeAt Go.RowKit Go.Deep
set_option linter.unusedSimpArgs false
set_option linter.unusedVariables false

theorem rN_mem {R : List (List Int)} {j : Nat} (h : j < R.length) : rN R j ∈ R := by simp [rN, h]
theorem rN_take {R : List (List Int)} {q : Nat} (h : q < R.length) : R.take (q + 1) = R.take q ++ [rN R q] := by
  rw [List.take_add_one, List.getElem?_eq_getElem h]
  simp [rN, h]
/-- Of runs: each has a letter, and no more than there are. -/
theorem runs_row {c lv : Nat → Int} {n : Nat} {mt : Nat → Nat} (ht : Txt c lv n mt) {q : Nat} (h : q < (natR (runsTo c lv n mt n)).length) : rN (natR (runsTo c lv n mt n)) q ≠ [] ∧ (rN (natR (runsTo c lv n mt n)) q).length ≤ n := by
  have hm := rN_mem h
  unfold natR runsTo at hm
  rw [List.map_map, List.mem_map] at hm
  obtain ⟨b, hb, e⟩ := hm
  rw [List.mem_filter, List.mem_range] at hb
  have hbb := start_beg hb.2
  have e2 : rN (natR (runsTo c lv n mt n)) q = natL (chainN c lv n mt b) := by unfold natR runsTo; rw [List.map_map]; exact e.symm
  rw [e2]
  obtain ⟨h3, h4⟩ := chain_len ht (n - b) b hbb hb.1 (Nat.le_refl _)
  have h5 := inc_len h3 h4
  refine ⟨?_, by rw [natL_len]; omega⟩
  apply natL_ne
  rw [chain_eq ht hbb hb.1]
  have := piece_ne hbb hb.1
  simp [this]
theorem RR.mono {w : World} {B B' : Nat} {v : Value} {vs : List Value} {rows : List (List Int)} (h : RR w B v vs rows) (hB : B' ≤ B) : RR w B' v vs rows :=
  ⟨h.len, h.own.mono hB, fun j hj => (h.row j hj).mono hB, h.apv, h.app⟩
theorem TT.opened (l : List Int) (j : Nat) (h : j < l.length) : fn (clsL l) j = cl l j := fn_clsL h

set_option maxHeartbeats 4000000 in
theorem implLevelRuns (v : Value) (l : List Int) (mt : Nat → Nat) (base : Int) (w : World) (a : Option Addr) (cap : Nat) (hva : v = .slice a l.length cap) (hv : Arg w v l) (hl : l.length ≤ 1048576) (hmt : Hid (MateFn (cl l) l.length mt)) :
    Calls Try.prog 13 #[v, .int .i64 base] w fun e w' => (∃ v', e = .returned v' ∧ RRX w' w.heap.size v' (runsR l mt base)) ∧ Below w.heap.size w w' := by
  obtain ⟨q, hq⟩ : ∃ q, okT l base = q := ⟨_, rfl⟩
  unfold runsR
  rw [hq]
  cases q
  · rw [if_neg (by simp)]
    have HQ : Hid ((okF (fn l) l.length && baseB base) = false) := hq
    clear hq hva
    go_enter Try.func13, Try.ntmps13
    go_wp2_with (go_at_call 21; refine (tellLevels_no v l base _ hv (by omega) HQ.out).mono ?_; rintro e w1 ⟨rfl, rfl⟩)
    go_ret
    exact ⟨⟨_, rfl, [], RR.nil _ _⟩, Below.refl _ _⟩
  · obtain ⟨hok, hb01, h80⟩ := okT_out hq
    rw [if_pos rfl]
    have HOK : Hid _ := hok
    clear hq hok
    subst hva
    obtain ⟨n, hn⟩ : ∃ n, l.length = n := ⟨_, rfl⟩
    have HT : Hid (Txt (cl l) (fn (lvL (cl l) (fsF (cl l) mt) base n)) n mt) := by rw [← hn]; exact txt_told l mt hb01 hmt.out
    have HCL : Hid (∀ j, j < n → fn (clsL l) j = cl l j) := fun j hj => fn_clsL (by omega)
    rw [hn] at hl h80 hv hmt ⊢
    obtain ⟨R, hR⟩ : ∃ R, natR (runsTo (cl l) (fn (lvL (cl l) (fsF (cl l) mt) base n)) n mt n) = R := ⟨_, rfl⟩
    have HRW : Hid (∀ q, q < R.length → rN R q ≠ [] ∧ (rN R q).length ≤ n) := fun q hq => by
      rw [← hR] at hq ⊢; exact runs_row HT.out hq
    rw [hR]
    have HRE : Hid _ := hR
    have hR2 : R.length ≤ n := by rw [← hR, natR_len]; exact runs_len n
    clear hR
    have HN : Hid _ := hn
    have HV : Hid _ := hv
    clear hn hv
    go_enter Try.func13, Try.ntmps13
    go_wp2_with fail
    refine (tellLevels_yes _ l mt base n _ a cap HN.out rfl HV.out HOK h80 hmt hb01).mono ?_
    rintro e w1 ⟨⟨T, gm, gq, gl, gc, M, rfl, h, hm⟩, b1⟩
    go_wp2_with fail
    refine (implTogether _ h (by omega) HCL.out HT.out hm).mono ?_
    rintro e w2 ⟨⟨vp, P, rfl, hp, _⟩, b2⟩
    rw [HRE.out] at hp
    obtain ⟨av, cv, rfl⟩ := hp.slc
    obtain ⟨np, hnp⟩ : ∃ np, R.length = np := ⟨_, rfl⟩
    have HP : Hid (PR w2 (w1.heap.size + 1) (.slice av R.length cv) P R) := hp
    rw [hnp] at hR2 ⊢
    have B2 : Hid (Below w.heap.size w w2) := bstep b1 b2
    have HNP : Hid (R.length = np) := hnp
    clear hp b1 b2 h hm hnp
    go_wp2_with fail
    go_loopw [6, 17] (fun vr x wr => ∃ (q : Nat) (vs : List Value), q ≤ np ∧ x = .int .i64 q ∧ Hid (RR wr w2.heap.size vr vs (R.take q)) ∧ Hid (Below w2.heap.size w2 wr)) (fun _ x _ => np - (intOf x).toNat)
    case atStart => exact ⟨0, [], Nat.zero_le _, rfl, by rw [List.take_zero]; exact RR.nil _ _, Below.refl _ _⟩
    case round =>
      obtain ⟨q, vs, hq, rfl, hRR, hbel⟩ := hrel
      by_cases hlt : q < np
      · have hqi : (q : Int) < (np : Int) := by omega
        have hpw := HP.out.below hbel.out
        rw [HNP.out] at hpw
        obtain ⟨g, cp, hvv, _⟩ := hpw.own.form1 (by rw [HNP.out]; omega)
        simp only [Value.slice.injEq] at hvv
        obtain ⟨rfl, hzz, rfl⟩ := hvv
        clear hzz
        obtain ⟨hcu, hcx⟩ := hpw.cellAt q (by rw [HNP.out]; exact hlt)
        have hrow := hpw.row q (by rw [HNP.out]; exact hlt)
        obtain ⟨u, hu⟩ : ∃ u, (pN P q).1 = u := ⟨_, rfl⟩
        obtain ⟨lx, hlx⟩ : ∃ lx, (pN P q).2 = lx := ⟨_, rfl⟩
        rw [hu] at hcu hrow
        rw [hlx] at hcx
        obtain ⟨hne, hrl⟩ := HRW.out q (by rw [HNP.out]; exact hlt)
        obtain ⟨r, hr⟩ : ∃ r, rN R q = r := ⟨_, rfl⟩
        rw [hr] at hrow hne hrl
        have HR : Hid (R.take (q + 1) = R.take q ++ [r]) := by unfold Hid; rw [rN_take (by rw [HNP.out]; exact hlt), hr]
        obtain ⟨gu, cu, hue, _⟩ := OwnI.form1 hrow hne
        subst hue
        have HTL : Hid ((R.take q).length = q) := by unfold Hid; rw [List.length_take, HNP.out]; omega
        obtain ⟨W, hW⟩ : ∃ W, wr.alloc (.cells #[.slice (some ⟨gu, 0, none⟩) r.length cu, .int .i64 lx] 47) = W := ⟨_, rfl⟩
        have HW : Hid _ := hW
        have hBW : Below wr.heap.size wr W := by rw [← hW]; exact (Below.refl _ _).alloc (Nat.le_refl _) _
        have b0 : W.cell? ⟨wr.heap.size, 0, none⟩ = _ := cell_of_row W wr.heap.size 0 _ _ (0, 0) (by rw [← hW]; exact heap_alloc_new wr _)
        simp only [Array.getElem?_toList, List.getElem?_toArray, List.getElem?_cons_zero] at b0
        have HAR : Hid (Arg W (.slice (some ⟨gu, 0, none⟩) r.length cu) r) := (hrow.below hBW).arg
        have HRR : Hid (RR W w2.heap.size u6 vs (R.take q)) := hRR.out.below hBW
        have HBW : Hid (Below w2.heap.size w2 W) := bstep hbel.out hBW
        have HNE : Hid (r ≠ []) := hne
        clear hpw hrow hu hlx hr hW hBW hRR hbel hne
        go_upto_region 8 with fail
        rw [HW.out]
        go_wp2_with (first | (go_at_call 24; refine (clone_any _ r _ HAR.out (by omega)).mono ?_; rintro e w6 ⟨⟨v6, rfl, o6⟩, b6⟩; obtain ⟨g6, c6, e6, _⟩ := OwnI.form1 o6 HNE.out; subst e6; have O6 : Hid (OwnI w6 W.heap.size (.slice (some ⟨g6, 0, none⟩) r.length c6) r) := o6; have B6 : Hid (Below W.heap.size W w6) := b6; have BB6 : Hid (Below w2.heap.size w2 w6) := bstep HBW.out b6; have RV : Hid (OwnV 22 1 w6 w2.heap.size u6 q vs) := by (have := (HRR.out.below b6).own; rw [HTL.out] at this; exact this)) | (at_builtin; refine own_appendV (k := 1) (b := 24) (T := 22) (TS := 29) (.tmp 21) (.tmp 25) rfl rowSS Try.underlying29 RV.out (by omega) BB6.out.size (by omega) (by omega) rfl (by simp [Value.oneCell']) rfl rfl rfl rfl ?_; intro v8 w8 ho8 hgr8 hv8; rw [← HTL.out] at ho8; have RR8 : Hid (RR w8 w2.heap.size v8 (vs ++ [.slice (some ⟨g6, 0, none⟩) r.length c6]) (R.take q ++ [r])) := HRR.out.snoc HBW.out.size B6.out O6.out ho8 hgr8 hv8; have B8 : Hid (Below w2.heap.size w2 w8) := BB6.out.grown hgr8 BB6.out.size (fun q hq => (HRR.out.lt q hq).1); clear ho8 hgr8 hv8))
        go_roundw
        case rel => exact ⟨q + 1, _, by omega, by go_num, by rw [HR.out]; exact RR8.out, B8.out⟩
        case measure => simp only [intOf]; omega
      · have e : q = np := by omega
        subst e
        go_wp2_with fail
        go_ret
        have hfin := hRR.out
        rw [List.take_of_length_le (by rw [HNP.out]; exact Nat.le_refl _)] at hfin
        exact ⟨⟨_, rfl, vs, hfin.mono B2.out.size⟩, bstep B2.out hbel.out⟩
end Go.Proofs.Ytkdmfjnaajedhaa
