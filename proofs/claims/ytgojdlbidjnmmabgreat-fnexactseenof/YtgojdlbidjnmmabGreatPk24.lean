import Derived.Test.YtgojdlbidjnmmabGreatPk22
import Derived.Test.YtgojdlbidjnmmabGreatPk20
import Derived.Test.YtgojdlbidjnmmabGreatPk23
import Derived.Test.YtgojdlbidjnmmabGreatPk1
namespace Go.Proofs.YtgojdlbidjnmmabGreat
open Go.ChangeShapes Go.WideShapes Go.ChangeAt Go.RowKit Go.Deep
set_option linter.unusedSimpArgs false
set_option linter.unusedVariables false

theorem behF_bd {c lv : Nat → Int} {n : Nat} {mt : Nat → Nat} {base : Int} (hb : 0 ≤ base ∧ base ≤ 22) (hl : ∀ j, lv j ≤ 22) (t : Nat) : 0 ≤ behF c lv n mt base t := by
  unfold behF; split
  · exact hb.1
  · exact (aftL_bd hb hl _).1
set_option maxRecDepth 10000 in
set_option maxHeartbeats 8000000 in
theorem specLevels1 (bl ol cap n : Nat) (l : List Int) (mt : Nat → Nat) (base : Int) (w : World) (hn : l.length = n) (hn0 : 0 < n) (h80 : n ≤ 80) (hok : okF (fn l) n = true) (hb01 : 0 ≤ base ∧ base ≤ 1) (hbl : bl < w.heap.size) (hat : At w bl ol l) (hv : Arg w (.slice (some ⟨bl, ol, none⟩) n cap) l) (hmt : Hid (MateFn (cl l) n mt)) :
    Calls Tryz.prog 19 #[.slice (some ⟨bl, ol, none⟩) n cap, .int .i64 base] w fun e w' => (∃ v', e = .returned v' ∧ OwnI w' w.heap.size v' (levsF l mt base)) ∧ Below w.heap.size w w' := by
  have ht : Txt (cl l) (fn (lvL (cl l) (fsF (cl l) mt) base n)) n mt := by rw [← hn]; exact txt_told l mt hb01 (by rw [hn]; exact hmt.out)
  have hrk := runs_okk (mt := mt) hn hb01 hok h80 ht
  have hbd22 := lvL_bd (c := cl l) (fs := fsF (cl l) mt) hb01 n
  have hLl := lvL_len (cl l) (fsF (cl l) mt) base n
  have hSA := specAll_any (.slice (some ⟨bl, ol, none⟩) n cap) l mt base w (some ⟨bl, ol, none⟩) cap (by rw [hn]) hv (by omega) (by rw [hn]; exact hmt) hb01
  unfold levsF
  rw [hn] at hSA ⊢
  have hSR := fun gl V (hb2 : gl < V.heap.size) (hbV : bl < V.heap.size) (h1 : At V bl ol l) (h2 : At V gl 0 (lvL (cl l) (fsF (cl l) mt) base n)) => specRuns bl ol cap gl 0 n n l _ mt V hn hLl hbV hb2 h1 h2 (by omega) ht
  obtain ⟨R, hR⟩ : ∃ R, runsTo (cl l) (fn (lvL (cl l) (fsF (cl l) mt) base n)) n mt n = R := ⟨_, rfl⟩
  rw [hR] at hrk hSR ⊢
  obtain ⟨L, hL⟩ : ∃ L, lvL (cl l) (fsF (cl l) mt) base n = L := ⟨_, rfl⟩
  obtain ⟨C, hC⟩ : ∃ C, clL (cl l) (fsF (cl l) mt) base n = C := ⟨_, rfl⟩
  rw [hL] at hrk hSA hSR hbd22 hLl ⊢
  rw [hC] at hrk hSA ⊢
  have HSA : Hid _ := hSA
  have HSR : Hid _ := hSR
  have HRK : Hid (RunsOk l L C n R) := hrk
  have HLL : Hid (L.length = n) := hLl
  have HLB : Hid (∀ j, fn L j ≤ 22) := hbd22
  have HN : Hid (l.length = n) := hn
  have HAT : Hid (At w bl ol l) := hat
  have hRn := hrk.len
  clear hok hn ht hrk hbd22 hLl hR hL hC hSA hSR hv hat
  go_enter Tryz.func19, Tryz.ntmps19
  go_wp2_with fail
  refine Calls.mono HSA.out ?_
  rintro e w2 ⟨⟨W, gl, gc, vs, s, al, rfl, h⟩, b2⟩
  have HW0 : Hid (WIn w2 w.heap.size W gl gc n (.slice (some ⟨bl, ol, none⟩) n cap) vs L C s al) := h
  have HB2 : Hid (Below w.heap.size w w2) := b2
  have c1 := h.c1
  have ho := own_empty w2 w2.heap.size 3 (Nat.le_refl _) rfl
  have hbe : Below w2.heap.size w2 (w2.alloc (.cells #[] 3)) := (Below.refl _ _).alloc (Nat.le_refl _) _
  have hat2 : At (w2.alloc (.cells #[] 3)) gl 0 L := At.below (B := w2.heap.size) (fun j hj => by rw [Nat.zero_add]; exact h.ol.cellN j (by have := HLL.out; omega)) hbe (h.ol.lt gl rfl).2
  have hsz2 := b2.size
  have ca1 : (w2.alloc (.cells #[] 3)).cell? ⟨W, 1, none⟩ = some (.slice (some ⟨gl, 0, none⟩) n n) := (hbe.cell (p := ⟨W, 1, none⟩) h.lt).trans c1
  have HC4 : Hid (∀ V, (w2.alloc (.cells #[] 3)).grownBy V (some w2.heap.size) → V.cell? ⟨W, 1, none⟩ = some (.slice (some ⟨gl, 0, none⟩) n n)) := fun V hV => (World.cell?_of_block (hV.block W (Nat.lt_of_lt_of_le h.lt hbe.size) (fun e => by have := h.lt; simp at e; omega))).trans ca1
  clear h b2
  go_wp2_with (at_builtin; refine own_appendAll (.tmp 22) (.tmp 26) ho HLL.out (by simp; omega) (by simp) hat2 rfl rfl rfl rfl ?_; intro v4 w4 o4 gr4; have c14 := HC4.out w4 gr4)
  have b24 : Below w2.heap.size w2 w4 := by
    refine hbe.grown gr4 (by simp) (fun k hk => ?_)
    simp [Value.ownBlock] at hk
    omega
  simp only [List.nil_append] at o4
  obtain ⟨g6, c6, rfl, hg6, hg6w, hnc6⟩ : ∃ g cp, v4 = .slice (some ⟨g, 0, none⟩) n cp ∧ w2.heap.size ≤ g ∧ g < w4.heap.size ∧ n ≤ cp := by
    rcases o4.forms with ⟨_, e⟩ | ⟨g, cp, e, e1, e2, e3, _⟩
    · exfalso; have := HLL.out; rw [e] at this; simp at this; omega
    · rw [HLL.out] at e e3; exact ⟨g, cp, e, e1, e2, e3⟩
  have O64 : Hid (OwnI w4 w2.heap.size (.slice (some ⟨g6, 0, none⟩) n c6) L) := o4
  have B24 : Hid (Below w2.heap.size w2 w4) := b24
  have HW4 : Hid (WIn w4 w.heap.size W gl gc n (.slice (some ⟨bl, ol, none⟩) n cap) vs L C s al) := HW0.out.kept b24.size (b24.block _ HW0.out.lt) (b24.block _ (HW0.out.ol.lt gl rfl).2) (b24.block _ (HW0.out.oc.lt gc rfl).2) (fun k hk => b24.block _ (HW0.out.os.lt k hk).2)
  have hbl4 : bl < w4.heap.size := Nat.lt_of_lt_of_le hbl (Nat.le_trans hsz2 b24.size)
  have hat4 : At w4 bl ol l := (HAT.out.below HB2.out hbl).below b24 (Nat.lt_of_lt_of_le hbl hsz2)
  have hatL4 : At w4 gl 0 L := fun j hj => by rw [Nat.zero_add]; exact HW4.out.ol.cellN j (by have := HLL.out; omega)
  have HR4 := HSR.out gl w4 (HW4.out.ol.lt gl rfl).2 hbl4 hat4 hatL4
  have HRX : Hid _ := HR4
  have HATS : Hid (At w4 bl ol l ∧ At w4 gl 0 L) := ⟨hat4, hatL4⟩
  clear ho hbe hat2 gr4 o4 b24 hat4 hatL4 HR4 c1 HAT HSR HSA c14 ca1 HC4
  refine Calls.mono HRX.out ?_
  rintro e w5 ⟨⟨v7, rfl, vs7, hr7⟩, b5⟩
  obtain ⟨av, cv, rfl⟩ := hr7.slc
  rw [natR_len] at hr7 ⊢
  obtain ⟨np, hnp⟩ : ∃ np, R.length = np := ⟨_, rfl⟩
  rw [hnp] at hr7 hRn ⊢
  have HNP : Hid (R.length = np) := hnp
  have B45 : Hid (Below w4.heap.size w4 w5) := b5
  have HR7 : Hid (RR w5 w4.heap.size (.slice av np cv) vs7 (natR R)) := hr7
  have hs24 := B24.out.size
  have hs45 := b5.size
  have HF : Hid (∀ V, w5.grownBy V (some g6) → V.cell? ⟨W, 1, none⟩ = some (.slice (some ⟨gl, 0, none⟩) n n) ∧ V.cell? ⟨W, 2, none⟩ = some (.slice (some ⟨gc, 0, none⟩) n n) ∧ At V gl 0 L ∧ At V bl ol l ∧ (∀ j, j < n → V.cell? ⟨gc, j, none⟩ = some (.int .i64 (fn C j))) ∧ w5.heap.size ≤ V.heap.size ∧ W < V.heap.size ∧ gl < V.heap.size ∧ bl < V.heap.size) := fun V hV => by
    have hk : ∀ b, b < w2.heap.size → V.heap[b]? = w4.heap[b]? := fun b hb => (hV.block b (by omega) (fun e => by simp at e; omega)).trans (b5.block b (by omega))
    have hcell : ∀ b j, b < w2.heap.size → V.cell? ⟨b, j, none⟩ = w4.cell? ⟨b, j, none⟩ := fun b j hb => World.cell?_of_block (hk b hb)
    have hW := HW0.out.lt
    have hl := (HW0.out.ol.lt gl rfl).2
    have hc := (HW0.out.oc.lt gc rfl).2
    have hVs := hV.size
    refine ⟨(hcell W 1 hW).trans HW4.out.c1, (hcell W 2 hW).trans HW4.out.c2, fun j hj => (hcell gl _ hl).trans (HATS.out.2 j hj), fun j hj => (hcell bl _ (by omega)).trans (HATS.out.1 j hj), fun j hj => (hcell gc _ hc).trans (HW4.out.oc.cellN j hj), hVs, by omega, by omega, by omega⟩
  have HRO : Hid (∀ V, w5.grownBy V (some g6) → RR V w4.heap.size (.slice av np cv) vs7 (natR R)) := fun V hV => HR7.out.kept (fun b hb => hV.block b (by
      rcases hb with hb | ⟨j, hj, hb⟩
      · exact (HR7.out.lt b hb).2
      · exact ((HR7.out.row j hj).lt b hb).2) (fun e => by
      simp at e
      rcases hb with hb | ⟨j, hj, hb⟩
      · have := (HR7.out.lt b hb).1; omega
      · have := ((HR7.out.row j hj).lt b hb).1; omega))
  have O65 : Hid (OwnI w5 w2.heap.size (.slice (some ⟨g6, 0, none⟩) n c6) L) := O64.out.below b5
  have HB5 : Hid (Below w.heap.size w w5) := bstep (bstep HB2.out B24.out) b5
  clear hr7 b5 hnp HW4 HATS HRX O64
  go_wp2_with fail
  go_loopw [8] (fun x wr => ∃ q : Nat, q ≤ np ∧ x = .int .i64 q ∧ Hid (OwnI wr w2.heap.size (.slice (some ⟨g6, 0, none⟩) n c6) (lvsTo (cl l) l L C n mt base R q)) ∧ Hid (w5.grownBy wr (some g6))) (fun x _ => np - (intOf x).toNat)
  case atStart => exact ⟨0, Nat.zero_le _, rfl, O65.out, grownB_refl _ _⟩
  case round =>
    obtain ⟨q, hq, rfl, hO, hgr⟩ := hrel
    rename World => wr
    by_cases hlt : q < np
    · have hqi : (q : Int) < (np : Int) := by omega
      have hqR : q < R.length := by rw [HNP.out]; exact hlt
      have hnl : (natR R).length = np := by rw [natR_len, HNP.out]
      have hR5 := HRO.out w5 (grownB_refl _ _)
      have hRr := HRO.out wr hgr.out
      obtain ⟨gr, cr, hvv, _⟩ := hRr.own.form1 (by rw [hnl]; omega)
      simp only [Value.slice.injEq] at hvv
      obtain ⟨rfl, hzz, rfl⟩ := hvv
      clear hzz
      have hcr := cellB hRr q hlt
      have hrow := hR5.row q (by rw [hnl]; exact hlt)
      obtain ⟨r, hr⟩ : ∃ r, R.getD q [] = r := ⟨_, rfl⟩
      have hre : R[q] = r := by rw [← hr]; simp [hqR]
      have hrm : r ∈ R := by rw [← hre]; exact List.getElem_mem _
      have hrr : rN (natR R) q = natL r := by rw [← hre]; simp [rN, natR, hqR]
      rw [hrr] at hrow
      obtain ⟨u, hu⟩ : ∃ u, vN vs7 q = u := ⟨_, rfl⟩
      rw [hu] at hcr hrow
      obtain ⟨m, hm⟩ : ∃ m, r.length = m + 1 := ⟨r.length - 1, by have := List.length_pos_iff.2 (HRK.out.ne r hrm); omega⟩
      have hrok := HRK.out.ok r hrm m hm
      obtain ⟨gu, cu, hue, _⟩ := OwnI.form1 hrow (natL_ne (HRK.out.ne r hrm))
      rw [natL_len, hm] at hue
      subst hue
      have hgu := hrow.lt gu rfl
      obtain ⟨lx, hlx⟩ : ∃ lx, fn L (r.headD 0) = lx := ⟨_, rfl⟩
      rw [hlx] at hrok
      have HROW : Hid (∀ V, w5.grownBy V (some g6) → ∀ k, k < m + 1 → V.cell? ⟨gu, k, none⟩ = some (.int .i64 ((r.getD k 0 : Nat) : Int))) := fun V hV k hk => by
        refine (World.cell?_of_block (hV.block gu hgu.2 (fun e => by simp at e; omega))).trans ?_
        rw [hrow.cellN k hk, fn_natL (by omega)]; simp [show k < r.length by omega]
      have hinn : ∀ k, k < m + 1 → r.getD k 0 < n := fun k hk => hrok.inn _ (by rw [show r.getD k 0 = r[k]'(by omega) by simp [show k < r.length by omega]]; exact List.getElem_mem _)
      have HIN : Hid (∀ k, k < m + 1 → r.getD k 0 < n) := hinn
      obtain ⟨f, hf⟩ : ∃ f, r.headD 0 = f := ⟨_, rfl⟩
      obtain ⟨t, ht⟩ : ∃ t, r.getLastD 0 = t := ⟨_, rfl⟩
      have hf0 : r.getD 0 0 = f := by rw [← hf]; cases r with
        | nil => simp at hm
        | cons a z => rfl
      have htm : r.getD m 0 = t := by
        rw [← ht, List.getLastD_eq_getLast?, List.getLast?_eq_getElem?, show r.length - 1 = m by omega]; simp [hm]
      have hfn : f < n := by rw [← hf0]; exact hinn 0 (by omega)
      have htn : t < n := by rw [← htm]; exact hinn m (by omega)
      have HR0 : Hid (∀ V, w5.grownBy V (some g6) → V.cell? ⟨gu, 0, none⟩ = some (.int .i64 (f : Int)) ∧ V.cell? ⟨gu, m, none⟩ = some (.int .i64 (t : Int))) := fun V hV => by
        have a1 := HROW.out V hV 0 (by omega)
        have a2 := HROW.out V hV m (by omega)
        rw [hf0] at a1; rw [htm] at a2
        exact ⟨a1, a2⟩
      -- the sides and what the run becomes
      obtain ⟨be, hbe⟩ : ∃ be, befL (fn L) base f = be := ⟨_, rfl⟩
      obtain ⟨ae, hae⟩ : ∃ ae, behF (cl l) (fn L) n mt base t = ae := ⟨_, rfl⟩
      have hbe0 : 0 ≤ be := by rw [← hbe]; exact (befL_bd ⟨hb01.1, by omega⟩ HLB.out f).1
      have hae0 : 0 ≤ ae := by rw [← hae]; exact behF_bd ⟨hb01.1, by omega⟩ HLB.out t
      have hlv0 := hrok.lv0
      have hlv22 := hrok.lv22
      have hm80 := hrok.m80
      obtain ⟨bf, hbf⟩ : ∃ bf, ownOf (maxI lx be) = bf := ⟨_, rfl⟩
      obtain ⟨af, haf⟩ : ∃ af, ownOf (maxI lx ae) = af := ⟨_, rfl⟩
      have HBF : Hid (sideB bf = true) := by rw [← hbf]; exact ownOf_side _
      have HAF : Hid (sideB af = true) := by rw [← haf]; exact ownOf_side _
      have HED1 : Hid (∀ V, Calls Tryz.prog 37 #[.int .i64 lx, .int .i64 be] V fun e w' => e = .returned (.int .i64 bf) ∧ w' = V) := fun V => by rw [← hbf]; exact specEdge lx be V hlv0 hbe0
      have HED2 : Hid (∀ V, Calls Tryz.prog 37 #[.int .i64 lx, .int .i64 ae] V fun e w' => e = .returned (.int .i64 af) ∧ w' = V) := fun V => by rw [← haf]; exact specEdge lx ae V hlv0 hae0
      have HBE : Hid (∀ V, w5.grownBy V (some g6) → Calls Tryz.prog 38 #[.slice (some ⟨gl, 0, none⟩) n n, .int .i64 (f : Int), .int .i64 base] V fun e w' => e = .returned (.int .i64 be) ∧ w' = V) := fun V hV => by
        obtain ⟨_, _, h3, _, _, _, _, h8, _⟩ := HF.out V hV
        rw [← hbe]; exact specBefore gl 0 n n f L base V HLL.out h8 h3 (by omega) (by omega)
      have HBH : Hid (∀ V, w5.grownBy V (some g6) → Calls Tryz.prog 39 #[.slice (some ⟨bl, ol, none⟩) n cap, .slice (some ⟨gl, 0, none⟩) n n, .int .i64 (t : Int), .int .i64 base] V fun e w' => e = .returned (.int .i64 ae) ∧ Below V.heap.size V w') := fun V hV => by
        obtain ⟨_, _, h3, h4, _, _, _, h8, h9⟩ := HF.out V hV
        rw [← hae]; exact specBehind bl ol cap gl 0 n n t l L mt base V HN.out HLL.out h9 h8 h4 h3 (by omega) hmt htn
      obtain ⟨X, hX⟩ : ∃ X, runL (cl l) l L C n mt base r = X := ⟨_, rfl⟩
      have hXr : X = resF l C bf af lx r := by rw [← hX]; unfold runL sidA sidB; rw [hf, ht, show fn L f = lx by rw [← hf]; exact hlx, hbe, hae, hbf, haf]
      have hXl : X.length = m + 1 := by rw [hXr, resF_len, hm]
      have HXR : Hid _ := hXr
      have HXL : Hid (X.length = m + 1) := hXl
      obtain ⟨Z, hZ⟩ : ∃ Z, lvsTo (cl l) l L C n mt base R q = Z := ⟨_, rfl⟩
      have HZ1 : Hid (lvsTo (cl l) l L C n mt base R (q + 1) = putTo Z r lx (fn X) (m + 1)) := by
        unfold Hid; simp only [lvsTo]; rw [hr, hlx, hX, hm, hZ]
      have HCU : Hid (∀ k, k < m + 1 → fn (putTo Z r lx (fn X) k) (r.getD k 0) = lx) := fun k hk => by
        have hmem : r.getD k 0 ∈ r := by rw [show r.getD k 0 = r[k]'(by omega) by simp [show k < r.length by omega]]; exact List.getElem_mem _
        have := put_cur (c := cl l) (l := l) (L := L) (C := C) (n := n) (mt := mt) (base := base) HRK.out.nod hqR (k := k) (by rw [hr]; omega) lx (fn X)
        rw [hr, hZ] at this
        rw [this, HRK.out.lv r hrm _ hmem, hlx]
      rw [hZ] at hO
      have HRL : Hid (r.length = m + 1) := hm
      have HLF : Hid (fn L f = lx) := by rw [← hf]; exact hlx
      obtain ⟨u1, u2, u3, u4, u5, u6, u7, u8, u9⟩ := HF.out wr hgr.out
      have u0 := (HR0.out wr hgr.out).1
      have uL := u3 f (by have := HLL.out; omega)
      rw [Nat.zero_add, HLF.out] at uL
      clear hR5 hRr hrow hre hrm hrr hu hrok hlx hinn hf ht hf0 htm hbe hae hbe0 hae0 hbf haf hX hXr hXl hZ hm hr u3 u4 u5
      have hfi : (f : Int) < (n : Int) := by omega
      have HG : Hid (∀ V, Below wr.heap.size wr V → w5.grownBy V (some g6)) := fun V hb => grownB_tr hgr.out ⟨hb.os, hb.tape, hb.output, hb.size, fun j hj _ => hb.block j hj⟩
      have hw5r := hgr.out.size
      go_wp2_with fail
      go_quiet (fail)
      go_wp2_with fail
      go_loopw [11, 12, 13] (fun xc xs z wx => ∃ (k : Nat) (vc vs : Value), xc = vc ∧ xs = vs ∧ k ≤ m + 1 ∧ z = .int .i64 k ∧ Hid (OwnI wx wr.heap.size vc ((pickL r C).take k)) ∧ Hid (OwnI wx wr.heap.size vs ((pickL r l).take k)) ∧ Hid (Apart vc vs) ∧ Hid (Below wr.heap.size wr wx)) (fun _ _ z _ => m + 1 - (intOf z).toNat)
      case atStart =>
        refine ⟨0, _, _, rfl, rfl, Nat.zero_le _, rfl, ?_, ?_, ?_, ?_⟩
        · rw [List.take_zero]
          exact World.ownsRow.alloc (own_empty (wr.drewN _) wr.heap.size 3 (Nat.le_refl _) rfl) _
        · rw [List.take_zero]
          have := own_empty ((wr.drewN nq).alloc (.cells #[] 3)) wr.heap.size 3 (by simp) rfl
          simp at this
          exact this
        · intro b h1 h2
          simp [Value.ownBlock] at h1 h2
          omega
        · exact ((below_draws wr _).alloc (Nat.le_refl _) _).alloc (by simp) _
      case round =>
        obtain ⟨k, vc, vs, e11, e12, hk, rfl, hVC, hVS, hap, hbx⟩ := hrel
        rename World => wx
        rw [e11, e12]
        clear e11 e12
        by_cases hkm : k < m + 1
        · have hki : (k : Int) < ((m + 1 : Nat) : Int) := by omega
          obtain ⟨at_, hat⟩ : ∃ at_, r.getD k 0 = at_ := ⟨_, rfl⟩
          have hin : at_ < n := by rw [← hat]; exact HIN.out k hkm
          have hai : (at_ : Int) < (n : Int) := by omega
          have HGX : w5.grownBy wx (some g6) := HG.out wx hbx.out
          obtain ⟨_, x2, _, _, x5, _⟩ := HF.out wx HGX
          have x1 := HROW.out wx HGX k hkm
          have x3 := x5 at_ hin
          rw [hat] at x1
          have htC : Hid ((pickL r C).take (k + 1) = (pickL r C).take k ++ [fn C at_]) := by unfold Hid; rw [take_pick (by rw [HRL.out]; exact hkm), hat]
          have htl : Hid ((pickL r l).take (k + 1) = (pickL r l).take k ++ [fn l at_]) := by unfold Hid; rw [take_pick (by rw [HRL.out]; exact hkm), hat]
          have hsx := hbx.out.size
          have hlcs : ((pickL r C).take k).length + 1 ≤ 1048576 := by rw [List.length_take, pickL_len, HRL.out]; omega
          have hll : ((pickL r l).take k).length ≤ 1073741824 := by rw [List.length_take, pickL_len, HRL.out]; omega
          obtain ⟨lc, hlc⟩ : ∃ lc, (pickL r C).take k = lc := ⟨_, rfl⟩
          obtain ⟨ls, hls⟩ : ∃ ls, (pickL r l).take k = ls := ⟨_, rfl⟩
          rw [hlc] at hVC htC hlcs
          rw [hls] at hVS htl hll
          have HROWk : Hid (∀ V, Below wr.heap.size wr V → V.cell? ⟨gu, k, none⟩ = some (.int .i64 (at_ : Int)) ∧ V.cell? ⟨bl, ol + at_, none⟩ = some (.int .i64 (fn l at_))) := fun V hb => by
            have h1 := HROW.out V (HG.out V hb) k hkm
            rw [hat] at h1
            obtain ⟨_, _, _, h4, _⟩ := HF.out V (HG.out V hb)
            exact ⟨h1, h4 at_ (by rw [HN.out]; exact hin)⟩
          obtain ⟨xv, hxv⟩ : ∃ xv, fn C at_ = xv := ⟨_, rfl⟩
          rw [hxv] at x3 htC
          have HOA : Hid (OwnI ((wx.drewN 1).alloc (.cells #[.int .i64 xv] 3)) wr.heap.size vc lc) := litO hVC.out
          have HLT : Hid (OwnI ((wx.drewN 1).alloc (.cells #[.int .i64 xv] 3)) wx.heap.size (.slice (some ⟨wx.heap.size, 0, none⟩) 1 1) [xv]) := litL wx
          have hsB : Hid (((wx.drewN 1).alloc (.cells #[.int .i64 xv] 3)).heap.size = wx.heap.size + 1) := litS wx
          have hsA : wr.heap.size ≤ ((wx.drewN 1).alloc (.cells #[.int .i64 xv] 3)).heap.size := by rw [litS]; omega
          clear hat x5 hlc hls
          go_upto_region 14 with fail
          go_region_law ((refine step_appendR (B := wr.heap.size) (.tmp 61) (.tmp 72) Tryz.underlying22 (show OwnI _ _ _ _ from HOA.out) (show OwnI _ _ _ _ from HLT.out) (by omega) hlcs hsA rfl rfl rfl rfl ?_; intro g7 c7 w7 o7 g7' n7; have O7 : Hid (OwnI w7 wr.heap.size (.slice (some ⟨g7, 0, none⟩) (lc.length + 1) c7) (lc ++ [xv])) := o7; have HAP7 : Hid (Apart (.slice (some ⟨g7, 0, none⟩) (lc.length + 1) c7) vs) := litP hVS.out hap.out (by rw [← hsB.out]; exact n7); have HG7 : Hid (((wx.drewN 1).alloc (.cells #[.int .i64 xv] 3)).grownBy w7 vc.ownBlock) := ⟨g7'.os, g7'.tape, g7'.output, g7'.size, g7'.block⟩; clear o7 g7' n7))
          all_goals
            have HB7 : Hid (Below wr.heap.size wr w7) := (litA hbx.out hVC.out hVS.out hap.out HG7.out).1
            have OS7 := (litA hbx.out hVC.out hVS.out hap.out HG7.out).2
            obtain ⟨y1, y2⟩ := HROWk.out w7 HB7.out
            have hs7 := HB7.out.size
            go_wp2_with (at_builtin; refine own_append_at (.tmp 74) (.tmp 82) OS7 hll hs7 rfl rfl rfl rfl ?_; intro v8 w8 o8 g8 h8)
            go_roundw
            case rel =>
              exact ⟨k + 1, _, _, rfl, rfl, by omega, by go_num, by rw [htC.out]; exact O7.out.apart g8 HAP7.out.symm, by rw [htl.out]; exact o8, (Apart.next HAP7.out.symm O7.out h8).symm, Below.grown HB7.out g8 hs7 (fun b hb => (OS7.lt b hb).1)⟩
            case measure => simp only [intOf]; omega
        · have e : k = m + 1 := by omega
          subst e
          have hpc : (pickL r C).length = m + 1 := by rw [pickL_len]; exact HRL.out
          have hpl : (pickL r l).length = m + 1 := by rw [pickL_len]; exact HRL.out
          rw [List.take_of_length_le (by omega)] at hVC hVS
          obtain ⟨gx, cx, e1, _⟩ := OwnI.form1 hVC.out (fun e => by rw [e] at hpc; simp at hpc)
          obtain ⟨gs, cs, e2, _⟩ := OwnI.form1 hVS.out (fun e => by rw [e] at hpl; simp at hpl)
          rw [hpc] at e1
          rw [hpl] at e2
          subst e1 e2
          have hgx := hVC.out.lt gx rfl
          have hgs := hVS.out.lt gs rfl
          have HPC : Hid ((pickL r C).length = m + 1) := hpc
          have HPL : Hid ((pickL r l).length = m + 1) := hpl
          have HGX : Hid (∀ q, w5.grownBy (wx.drewN q) (some g6)) := fun q => HG.out _ (hbx.out.trans ((below_draws wx q).mono hbx.out.size))
          have HBE1 : Hid (∀ q, Calls Tryz.prog 38 #[.slice (some ⟨gl, 0, none⟩) n n, .int .i64 (f : Int), .int .i64 base] (wx.drewN q) fun e w' => e = .returned (.int .i64 be) ∧ w' = wx.drewN q) := fun q => HBE.out _ (HGX.out q)
          obtain ⟨x1, x2, _, _, _, _⟩ := HF.out wx (HGX.out 0)
          obtain ⟨x3, x4⟩ := HR0.out wx (HGX.out 0)
          obtain ⟨Wk, hWk⟩ : ∃ Wk, weakL (pickL r C) bf = Wk := ⟨_, rfl⟩
          have hWl : Wk.length = m + 1 := by rw [← hWk, weakL_len, hpc]
          obtain ⟨Rs, hRs⟩ : ∃ Rs, resTo (fn (pickL r C)) (m + 1) (ownOf lx) bf Wk (srtB (stB (fn (pickL r l)) (fn Wk) mate (m + 1)).2) = Rs := ⟨_, rfl⟩
          have hRl : Rs.length = m + 1 := by rw [← hRs, resTo_len, hWl]
          have hXP : plainL Rs bf af lx = X := by rw [HXR.out]; unfold resF; rw [HRL.out, hWk, hRs]
          have hb12 : bf = 1 ∨ bf = 2 := by have := HBF.out; unfold sideB at this; exact of_decide_eq_true this
          have hsxr := hbx.out.size
          have HVC : Hid (OwnI wx wr.heap.size (.slice (some ⟨gx, 0, none⟩) (m + 1) cx) (pickL r C)) := hVC.out
          have HVS : Hid (OwnI wx wr.heap.size (.slice (some ⟨gs, 0, none⟩) (m + 1) cs) (pickL r l)) := hVS.out
          have HWK : Hid (∀ V, Below wx.heap.size wx V → Calls Tryz.prog 40 #[.slice (some ⟨gx, 0, none⟩) (m + 1) cx, .int .i64 bf] V fun e w' => (∃ gw cw, e = .returned (.slice (some ⟨gw, 0, none⟩) (m + 1) cw) ∧ OwnI w' V.heap.size (.slice (some ⟨gw, 0, none⟩) (m + 1) cw) Wk) ∧ Below V.heap.size V w') := fun V hV => by
            have oV := HVC.out.below hV
            refine (specWeak_row gx 0 cx (m + 1) (pickL r C) bf V HPC (by omega) hm80 (oV.lt gx rfl).2 (fun j hj => by rw [Nat.zero_add]; exact oV.cellN j (by have := HPC.out; omega)) HBF).mono ?_
            rintro e w' ⟨⟨v', rfl, ov⟩, bv⟩
            rw [hWk] at ov
            obtain ⟨gw, cw, e, _⟩ := OwnI.form1 ov (fun e => by rw [e] at hWl; simp at hWl)
            rw [hWl] at e
            subst e
            exact ⟨⟨gw, cw, rfl, ov⟩, bv⟩
          have HPR : Hid (∀ V gw cw, Below wx.heap.size wx V → wx.heap.size ≤ gw → OwnI V 0 (.slice (some ⟨gw, 0, none⟩) (m + 1) cw) Wk → Calls Tryz.prog 41 #[.slice (some ⟨gs, 0, none⟩) (m + 1) cs, .slice (some ⟨gx, 0, none⟩) (m + 1) cx, .slice (some ⟨gw, 0, none⟩) (m + 1) cw, .int .i64 bf, .int .i64 lx] V fun e w' => e = .returned (.tuple #[]) ∧ OwnI w' 0 (.slice (some ⟨gw, 0, none⟩) (m + 1) cw) Rs ∧ V.grownBy w' (some gw)) := fun V gw cw hV hgw oW => by
            have oC := HVC.out.below hV
            have oS := HVS.out.below hV
            have := specPairs gs 0 cs gx 0 cx gw (m + 1) cw (pickL r l) (pickL r C) Wk bf lx (ownOf lx) V HPL.out HPC.out (by omega) hm80 (oS.lt gs rfl).2 (oC.lt gx rfl).2 (fun j hj => by rw [Nat.zero_add]; exact oS.cellN j (by have := HPL.out; omega)) (fun j hj => by rw [Nat.zero_add]; exact oC.cellN j (by have := HPC.out; omega)) oW (by omega) hlv0 rfl hb12
            rw [hRs] at this
            exact this
          have HPN : Hid (∀ V gw cw, OwnI V 0 (.slice (some ⟨gw, 0, none⟩) (m + 1) cw) Rs → Calls Tryz.prog 42 #[.slice (some ⟨gw, 0, none⟩) (m + 1) cw, .int .i64 bf, .int .i64 af, .int .i64 lx] V fun e w' => (∃ gp cp, e = .returned (.slice (some ⟨gp, 0, none⟩) (m + 1) cp) ∧ OwnI w' V.heap.size (.slice (some ⟨gp, 0, none⟩) (m + 1) cp) X) ∧ Below V.heap.size V w') := fun V gw cw oV => by
            refine (specPlain_row gw 0 cw (m + 1) Rs bf af lx V hRl (by omega) hm80 (oV.lt gw rfl).2 (fun j hj => by rw [Nat.zero_add]; exact oV.cellN j (by omega)) HBF HAF hlv0 hlv22).mono ?_
            rintro e w' ⟨⟨v', rfl, ov⟩, bv⟩
            rw [hXP] at ov
            obtain ⟨gp, cp, e, _⟩ := OwnI.form1 ov (fun e => by have := HXL.out; rw [e] at this; simp at this)
            rw [HXL.out] at e
            subst e
            exact ⟨⟨gp, cp, rfl, ov⟩, bv⟩
          have HOZ : Hid (∀ V, Below wx.heap.size wx V → OwnI V w2.heap.size (.slice (some ⟨g6, 0, none⟩) n c6) Z ∧ w5.grownBy V (some g6) ∧ (∀ k, k < m + 1 → V.cell? ⟨gu, k, none⟩ = some (.int .i64 ((r.getD k 0 : Nat) : Int)))) := fun V hV => by
            have hb := hbx.out.trans (hV.mono hsxr)
            exact ⟨hO.out.below hb, HG.out V hb, HROW.out V (HG.out V hb)⟩
          have hg6r := (hO.out.lt g6 rfl).2
          clear hpc hpl hap hWk hWl hRs hRl hXP hb12 hVC hVS
          go_wp2_with fail
          go_quiet ((first | (go_at_call 38; with_reducible exact Calls.quiet_of_same (HBE1.out _)) | (go_at_call 37; with_reducible exact Calls.quiet_of_same (HED1.out _))))
          have hmi1 : IntKind.i64.wrap (m : Int) = (m : Int) := by rw [IntKind.wrap_i64]; omega
          have hmi2 : (m : Int) < (m : Int) + 1 := by omega
          have hmi3 : ¬ ((m : Int) < 0) := by omega
          have hmi4 : (0 : Int) ≤ (m : Int) := by omega
          go_upto_region 17 with fail
          go_region_with (first | (go_at_call 39; refine (HBH.out _ (by first | exact grownB_tr (HGX.out _) (grownB_draws _ _ _) | exact HGX.out _)).mono ?_; rintro e w8 ⟨rfl, b8⟩; have HB8 : Hid (Below wx.heap.size wx w8) := ⟨b8.os, b8.tape, b8.output, b8.size, b8.block⟩; clear b8) | (go_at_call 37; refine (HED2.out _).mono ?_; rintro e w9 ⟨rfl, hw9⟩; rw [hw9]; clear hw9 w9))
          all_goals
            go_wp2_with fail
            refine Calls.mono (HWK.out _ HB8.out) ?_
            rintro e w10 ⟨⟨gw, cw, rfl, o10⟩, b10⟩
            have hgw := o10.lt gw rfl
            have hs8 := HB8.out.size
            have hgwx : wx.heap.size ≤ gw := by omega
            have HB10 : Hid (Below wx.heap.size wx w10) := bstep HB8.out b10
            have O10 : Hid (OwnI w10 0 (.slice (some ⟨gw, 0, none⟩) (m + 1) cw) Wk) := o10.mono (Nat.zero_le _)
            clear o10 b10
            go_wp2_with fail
            refine Calls.mono (HPR.out _ _ _ HB10.out hgwx O10.out) ?_
            rintro e w11 ⟨rfl, o11, g11⟩
            have HB11 : Hid (Below wx.heap.size wx w11) := HB10.out.grown g11 HB10.out.size (fun b hb => by simp at hb; omega)
            have O11 : Hid (OwnI w11 0 (.slice (some ⟨gw, 0, none⟩) (m + 1) cw) Rs) := o11
            clear o11 g11
            go_wp2_with fail
            refine Calls.mono (HPN.out _ _ _ O11.out) ?_
            rintro e w12 ⟨⟨gp, cp, rfl, o12⟩, b12⟩
            have HB12 : Hid (Below wx.heap.size wx w12) := bstep HB11.out b12
            have O12 : Hid (OwnI w12 w11.heap.size (.slice (some ⟨gp, 0, none⟩) (m + 1) cp) X) := o12
            have hgp := o12.lt gp rfl
            have hs11 := HB11.out.size
            obtain ⟨oz, gz, rz⟩ := HOZ.out w12 HB12.out
            have OZ : Hid (OwnI w12 w2.heap.size (.slice (some ⟨g6, 0, none⟩) n c6) Z) := oz
            have GZ : Hid (w5.grownBy w12 (some g6)) := gz
            have RZ12 : Hid (∀ k, k < m + 1 → w12.cell? ⟨gu, k, none⟩ = some (.int .i64 ((r.getD k 0 : Nat) : Int))) := rz
            clear o12 b12 oz gz rz
            go_wp2_with fail
            go_loopw [18] (fun x wy => ∃ k : Nat, k ≤ m + 1 ∧ x = .int .i64 k ∧ Hid (OwnI wy w2.heap.size (.slice (some ⟨g6, 0, none⟩) n c6) (putTo Z r lx (fn X) k)) ∧ Hid (w12.grownBy wy (some g6))) (fun x _ => m + 1 - (intOf x).toNat)
            case atStart => exact ⟨0, Nat.zero_le _, rfl, OZ.out, grownB_refl _ _⟩
            case round =>
              obtain ⟨k, hk, rfl, hOx, hgx⟩ := hrel
              rename World => wy
              by_cases hkm : k < m + 1
              · have hki : (k : Int) < ((m + 1 : Nat) : Int) := by omega
                have hin := HIN.out k hkm
                have hcur := HCU.out k hkm
                obtain ⟨at_, hat⟩ : ∃ at_, r.getD k 0 = at_ := ⟨_, rfl⟩
                have hgx0 : ∀ b j, b ≠ g6 → b < w12.heap.size → wy.cell? ⟨b, j, none⟩ = w12.cell? ⟨b, j, none⟩ := fun b j hb hlt => World.cell?_of_block (hgx.out.block b hlt (fun e => hb (Option.some.inj e)))
                have hs12 := HB12.out.size
                have z1 := (hgx0 gu k (by omega) (by omega)).trans (RZ12.out k hkm)
                have z2 := (hgx0 gp k (by omega) hgp.2).trans (O12.out.cellN k hkm)
                have z4 := hOx.out.cellN _ hin
                have f4 : wy.frozen? ⟨g6, r.getD k 0, none⟩ = false := hOx.out.frozenN _
                rw [hcur] at z4
                obtain ⟨y, hy⟩ : ∃ y, fn X k = y := ⟨_, rfl⟩
                rw [hy] at z2
                rw [hat] at z1 z4 f4 hin
                obtain ⟨rs, hrs⟩ : ∃ rs, lx + moreF lx y = rs := ⟨_, rfl⟩
                have HRS : Hid (∀ V, Calls Tryz.prog 43 #[.int .i64 lx, .int .i64 y] V fun e w' => e = .returned (.int .i64 rs) ∧ w' = V) := fun V => specRise lx y V hlv0 hlv22 rs hrs
                have hai : (at_ : Int) < (n : Int) := by omega
                have HP1 : Hid (putTo Z r lx (fn X) (k + 1) = (putTo Z r lx (fn X) k).set at_ rs) := by
                  unfold Hid; simp only [putTo]; rw [hat, hy, hrs]
                clear hcur hat hy hrs hgx0
                go_upto_region 24 with fail
                go_region_with (go_at_call 43; refine (HRS.out _).mono ?_; rintro e w14 ⟨rfl, hw14⟩; rw [hw14]; clear hw14 w14)
                all_goals
                  go_wp2_with fail
                  go_roundw
                  case rel => exact ⟨k + 1, by omega, by go_num, by rw [HP1.out]; exact (hOx.out.below (below_draws wy 1)).storedN _ _, grownB_tr hgx.out (grownB_tr (grownB_draws wy 1 _) (grownB_set _ _ _ _))⟩
                  case measure => simp only [intOf]; omega
              · have e : k = m + 1 := by omega
                subst e
                go_wp2_with fail
                go_roundw
                case rel => exact ⟨q + 1, by omega, by go_num, by rw [HZ1.out]; exact hOx.out, grownB_tr GZ.out hgx.out⟩
                case measure => simp only [intOf]; omega
    · have e : q = np := by omega
      subst e
      have hB : Hid (Below w.heap.size w wr) := HB5.out.grown hgr.out HB5.out.size (fun j hj => by simp at hj; omega)
      go_wp2_with fail
      go_ret
      exact ⟨⟨_, rfl, by rw [HNP.out]; exact hO.out.mono hsz2⟩, hB.out⟩
end Go.Proofs.YtgojdlbidjnmmabGreat
namespace Go.Proofs.YtgojdlbidjnmmabGreat
open Go.ChangeShapes Go.WideShapes Go.ChangeAt Go.RowKit Go.Deep
set_option linter.unusedSimpArgs false
set_option linter.unusedVariables false

set_option maxRecDepth 10000 in
set_option maxHeartbeats 4000000 in
theorem specLevels0 (a : Option Addr) (cap : Nat) (mt : Nat → Nat) (base : Int) (w : World) (hv : Arg w (.slice a 0 cap) []) (hb01 : 0 ≤ base ∧ base ≤ 1) (hmt : Hid (MateFn (cl []) 0 mt)) :
    Calls Tryz.prog 19 #[.slice a 0 cap, .int .i64 base] w fun e w' => (∃ v', e = .returned v' ∧ OwnI w' w.heap.size v' []) ∧ Below w.heap.size w w' := by
  have hSA := specAll_any (.slice a 0 cap) [] mt base w a cap rfl hv (by simp) hmt hb01
  have HSA : Hid _ := hSA
  clear hSA hv
  go_enter Tryz.func19, Tryz.ntmps19
  go_wp2_with fail
  refine Calls.mono HSA.out ?_
  rintro e w2 ⟨⟨W, gl, gc, vs, s, al, rfl, h⟩, b2⟩
  have h' : WIn w2 w.heap.size W gl gc 0 (.slice a 0 cap) vs _ _ s al := h
  have c1 := h'.c1
  have HB2 : Hid (Below w.heap.size w w2) := b2
  have ho := own_empty w2 w2.heap.size 3 (Nat.le_refl _) rfl
  have hbe : Below w2.heap.size w2 (w2.alloc (.cells #[] 3)) := (Below.refl _ _).alloc (Nat.le_refl _) _
  have hat2 : At (w2.alloc (.cells #[] 3)) gl 0 [] := fun j hj => by simp at hj
  have ca1 : (w2.alloc (.cells #[] 3)).cell? ⟨W, 1, none⟩ = some (.slice (some ⟨gl, 0, none⟩) 0 0) := (hbe.cell (p := ⟨W, 1, none⟩) h'.lt).trans c1
  have HC4 : Hid (∀ V, (w2.alloc (.cells #[] 3)).grownBy V (some w2.heap.size) → V.cell? ⟨W, 1, none⟩ = some (.slice (some ⟨gl, 0, none⟩) 0 0)) := fun V hV => (World.cell?_of_block (hV.block W (Nat.lt_of_lt_of_le h'.lt hbe.size) (fun e => by have := h'.lt; simp at e; omega))).trans ca1
  have hsz2 := b2.size
  clear h h' b2
  go_wp2_with (at_builtin; refine own_appendAll (.tmp 22) (.tmp 26) ho (m := []) rfl (by simp) (by simp) hat2 rfl rfl rfl rfl ?_; intro v4 w4 o4 gr4; have c14 := HC4.out w4 gr4)
  have b24 : Below w2.heap.size w2 w4 := by
    refine hbe.grown gr4 (by simp) (fun k hk => ?_)
    simp [Value.ownBlock] at hk
    omega
  have O4 : Hid (OwnI w4 w2.heap.size v4 []) := o4
  have HB4 : Hid (Below w.heap.size w w4) := bstep HB2.out b24
  clear gr4 o4 b24
  refine (specRuns0 _ _ _ _ _).mono ?_
  rintro e w5 ⟨⟨v7, rfl, vs7, r7⟩, b5⟩
  obtain ⟨av, cv, rfl⟩ := r7.slc
  have O5 : Hid (OwnI w5 w2.heap.size v4 []) := O4.out.below b5
  have HB5 : Hid (Below w.heap.size w w5) := bstep HB4.out b5
  clear r7 b5
  go_wp2_with fail
  go_rounds 1
  go_ret
  exact ⟨⟨_, rfl, O5.out.mono hsz2⟩, HB5.out⟩
end Go.Proofs.YtgojdlbidjnmmabGreat
namespace Go.Proofs.YtgojdlbidjnmmabGreat
open Go.ChangeShapes Go.WideShapes Go.ChangeAt Go.RowKit
set_option linter.unusedSimpArgs false

theorem infoInt : (Tryz.prog.info? 3).map (fun i => (i.zero, i.size, i.bytes)) = some (some (.int .i64 0), 1, 8) := by kernel_rfl

theorem made_own {w : World} {B g n : Nat} (h : w.ownsRow B 3 1 (.slice (some ⟨g, 0, none⟩) n n) n (madeCells (Value.cells (.int .i64 0)) (n * 1)).toList) :
    OwnI w B (.slice (some ⟨g, 0, none⟩) n n) (List.replicate n 0) := by
  have e : (madeCells (Value.cells (.int .i64 0)) (n * 1)).toList = (List.replicate n (0 : Int)).map (Value.int .i64) := by
    rw [Nat.mul_one, show Value.cells (.int .i64 0) = #[.int .i64 0] from rfl, toList_madeCells_one]; simp
  rw [e] at h
  unfold OwnI
  rw [List.length_replicate]
  exact h

set_option maxHeartbeats 2000000 in
theorem toInt_any (v : Value) (l : List Int) (w : World) (hv : Arg w v l) (hl : l.length ≤ 1048576) :
    Calls Tryz.prog 5 #[v] w fun e w' => (∃ g, e = .returned (.slice (some ⟨g, 0, none⟩) l.length l.length) ∧ OwnI w' w.heap.size (.slice (some ⟨g, 0, none⟩) l.length l.length) l) ∧ Below w.heap.size w w' := by
  obtain ⟨i0, hi, hz0, hz1, hz2⟩ := info_parts infoInt
  rcases hv with ⟨a0, c0, rfl, rfl⟩ | ⟨b, off, cap, rfl, hb, hlc, hcm, hat⟩
  · go_enter Tryz.func5, Tryz.ntmps5
    go_wp2_with (first | (at_make; refine wpList_make_full _ rfl _ _ 22 rfl w.heap.size 3 i0 (.int .i64 0) 1 Tryz.underlying22 hi hz0 hz1 _ _ _ _ 0 rfl rfl rfl rfl (by omega) (by unfold maxLen; omega) (Nat.le_refl _) ?_; intro w1 hown hgrow))
    go_rounds 1
    go_ret
    exact ⟨⟨_, rfl, made_own hown⟩, (Below.refl _ _).grown hgrow (Nat.le_refl _) (by simp)⟩
  · generalize hn : l.length = n at *
    go_enter Tryz.func5, Tryz.ntmps5
    go_wp2_with (first | (at_make; refine wpList_make_full _ rfl _ _ 22 rfl w.heap.size 3 i0 (.int .i64 0) 1 Tryz.underlying22 hi hz0 hz1 _ _ _ _ n rfl rfl rfl rfl (by rw [hz2]; omega) (by unfold maxLen; omega) (Nat.le_refl _) ?_; intro w1 hown hgrow))
    have hB : Below w.heap.size w w1 := (Below.refl _ _).grown hgrow (Nat.le_refl _) (by simp)
    have ho : OwnI w1 w.heap.size (.slice (some ⟨w.heap.size, 0, none⟩) n n) (List.replicate n 0) := made_own hown
    clear hown hgrow
    go_loopw [4] (fun i wr => ∃ (k : Nat) (l' : List Int), k ≤ n ∧ i = .int .i64 k ∧ OwnI wr w.heap.size (.slice (some ⟨w.heap.size, 0, none⟩) n n) l' ∧ Hid (∀ j, j < k → fn l' j = fn l j) ∧ Below w.heap.size w wr) (fun i _ => n - (intOf i).toNat)
    case atStart => exact ⟨0, _, Nat.zero_le _, rfl, ho, fun j hj => by omega, hB⟩
    case round =>
      obtain ⟨k, l', hk, rfl, hown, hsame, hbel⟩ := hrel
      by_cases hlt : k < n
      · have hcell : wr.cell? ⟨b, off + k, none⟩ = some (.int .i64 (fn l k)) := (hbel.cell (p := ⟨b, off + k, none⟩) hb).trans (hat k (by omega))
        have hf : wr.frozen? ⟨w.heap.size, k, none⟩ = false := hown.frozenN k
        have hc2 : wr.cell? ⟨w.heap.size, k, none⟩ = some (.int .i64 (fn l' k)) := hown.cellN k hlt
        go_wp2
        go_roundw
        case rel =>
          refine ⟨k + 1, l'.set k (fn l k), by omega, by go_num, hown.storedN k _, fun j hj => ?_, hbel.setCell (Nat.le_refl _) _⟩
          have e := hown.len
          by_cases ej : j = k
          · subst ej; exact fn_set_same (by omega)
          · rw [fn_set_other (by omega)]; exact hsame.out j (by omega)
        case measure => simp only [intOf]; omega
      · have e : k = n := by omega
        subst e
        go_wp2
        go_ret
        have e := hown.len
        have el : l' = l := ext_fn (by omega) (fun j hj => hsame.out j (by omega))
        rw [el] at hown
        exact ⟨⟨_, rfl, hown⟩, hbel⟩

def eqB (a b : List Int) : Bool := decide (a = b)
theorem eqB_self (a : List Int) : eqB a a = true := by simp [eqB]
theorem eqB_no {a b : List Int} (h : a ≠ b) : eqB a b = false := by simp [eqB, h]

set_option maxHeartbeats 2000000 in
theorem eqInt_any (v1 v2 : Value) (l1 l2 : List Int) (w : World) (h1 : Arg w v1 l1) (h2 : Arg w v2 l2) (hl : l1.length ≤ 4194304) :
    Calls Tryz.prog 7 #[v1, v2] w fun e w' => e = .returned (.bool (eqB l1 l2)) ∧ ∃ n, w' = w.drewN n := by
  by_cases hn : l1.length = l2.length
  · rcases h1 with ⟨a1, c1, rfl, rfl⟩ | ⟨b, off, cap, rfl, hb, hlc, hcm, hat⟩
    · have e2 : l2 = [] := List.eq_nil_of_length_eq_zero hn.symm
      subst e2
      rcases h2 with ⟨a2, c2, rfl, _⟩ | ⟨b', off', cap', rfl, hb', hlc', hcm', hat'⟩
      all_goals
        go_enter Tryz.func7, Tryz.ntmps7
        go_wp2
        go_rounds 1
        go_ret
        exact ⟨rfl, 0, rfl⟩
    · rcases h2 with ⟨a2, c2, rfl, rfl⟩ | ⟨b', off', cap', rfl, hb', hlc', hcm', hat'⟩
      · have e1 : l1 = [] := List.eq_nil_of_length_eq_zero hn
        subst e1
        go_enter Tryz.func7, Tryz.ntmps7
        go_wp2
        go_rounds 1
        go_ret
        exact ⟨rfl, 0, rfl⟩
      · obtain ⟨n, hn1⟩ : ∃ n, l1.length = n := ⟨_, rfl⟩
        have hn2 : l2.length = n := by omega
        have hnn : n ≤ 4194304 := by omega
        rw [hn1, hn2]
        clear hn
        go_enter Tryz.func7, Tryz.ntmps7
        go_wp2
        go_loopw [5] (fun i wr => ∃ (k m : Nat), k ≤ n ∧ i = .int .i64 k ∧ wr = w.drewN m ∧ Hid (∀ j, j < k → fn l1 j = fn l2 j)) (fun i _ => n - (intOf i).toNat)
        case atStart => exact ⟨0, 0, Nat.zero_le _, rfl, rfl, fun j hj => by omega⟩
        case round =>
          obtain ⟨k, m, hk, rfl, rfl, hsame⟩ := hrel
          by_cases hlt : k < n
          · have hc1 : w.cell? ⟨b, off + k, none⟩ = some (.int .i64 (fn l1 k)) := hat k (by omega)
            have hc2 : w.cell? ⟨b', off' + k, none⟩ = some (.int .i64 (fn l2 k)) := hat' k (by omega)
            have hki : (k : Int) < (n : Int) := by omega
            by_cases hq : fn l1 k = fn l2 k
            · have hq2 : (fn l1 k == fn l2 k) = true := by simpa using hq
              have HQ : Hid _ := hq
              clear hq
              go_wp2
              go_quiet (fail)
              go_wp2
              go_roundw
              case rel =>
                refine ⟨k + 1, _, by omega, by go_num, by first | rfl | rw [World.drewN_drewN], fun j hj => ?_⟩
                by_cases ej : j = k
                · subst ej; exact HQ.out
                · exact hsame.out j (by omega)
              case measure => simp only [intOf]; omega
            · have hq2 : (fn l1 k == fn l2 k) = false := by simpa using hq
              go_wp2
              go_quiet (fail)
              go_wp2
              go_ret
              exact ⟨retBool (eqB_no (fun h => hq (by rw [h]))).symm, _, by first | rfl | rw [World.drewN_drewN]⟩
          · have e : k = n := by omega
            subst e
            go_wp2
            go_ret
            refine ⟨retBool ?_, _, rfl⟩
            rw [ext_fn (l := l1) (r := l2) (by omega) (fun j hj => hsame.out j (by omega)), eqB_self]
  · have hfin := eqB_no (a := l1) (b := l2) (fun h => hn (by rw [h]))
    have HF : Hid _ := hfin
    have hne : ((l1.length : Int) != (l2.length : Int)) = true := by simp; omega
    clear hfin
    rcases h1 with ⟨a1, c1, rfl, e1⟩ | ⟨b, off, cap, rfl, hb, hlc, hcm, hat⟩
    all_goals
      rcases h2 with ⟨a2, c2, rfl, e2⟩ | ⟨b', off', cap', rfl, hb', hlc', hcm', hat'⟩
    · exact absurd (by rw [e1, e2]) hn
    · have hz : ((0 : Int) != (l2.length : Int)) = true := by rw [e1] at hne; exact hne
      clear hne
      go_enter Tryz.func7, Tryz.ntmps7
      go_wp2
      go_ret
      exact ⟨retBool HF.out.symm, 0, rfl⟩
    · have hz : ((l1.length : Int) != (0 : Int)) = true := by rw [e2] at hne; exact hne
      clear hne
      go_enter Tryz.func7, Tryz.ntmps7
      go_wp2
      go_ret
      exact ⟨retBool HF.out.symm, 0, rfl⟩
    · go_enter Tryz.func7, Tryz.ntmps7
      go_wp2
      go_ret
      exact ⟨retBool HF.out.symm, 0, rfl⟩
end Go.Proofs.YtgojdlbidjnmmabGreat
namespace Go.Proofs.YtgojdlbidjnmmabGreat
open Go.ChangeShapes Go.WideShapes Go.ChangeAt Go.RowKit
set_option linter.unusedSimpArgs false

def marks (k : Int) (n : Nat) : List Int := (List.range n).map fun (j : Nat) => k + (j : Int)
theorem marks_len (k : Int) (n : Nat) : (marks k n).length = n := by simp [marks]
theorem fn_marks {k : Int} {n j : Nat} (h : j < n) : fn (marks k n) j = k + (j : Int) := by simp [fn, marks, h]

set_option maxHeartbeats 2000000 in
theorem mark_any (v : Value) (l : List Int) (B : Nat) (k : Int) (w : World) (hv : OwnI w B v l) (hl : l.length ≤ 1048576) (hk0 : 0 ≤ k) (hk1 : k ≤ 1000000000000) :
    Calls Tryz.prog 8 #[v, .int .i64 k] w fun e w' => e = .returned (.int .i64 (k + (l.length : Int))) ∧ OwnI w' B v (marks k l.length) ∧ w.grownBy w' v.ownBlock ∧ w'.heap.size = w.heap.size := by
  rcases hv.forms with ⟨rfl, rfl⟩ | ⟨g, cap, rfl, hg, hgw, hlc, hcm, hat⟩
  · go_enter Tryz.func8, Tryz.ntmps8
    go_wp2
    go_rounds 1
    go_ret
    exact ⟨retInt (by simp), OwnI.nil _ _, ⟨rfl, rfl, rfl, Nat.le_refl _, fun _ _ _ => rfl⟩, rfl⟩
  · obtain ⟨n, hn⟩ : ∃ n, l.length = n := ⟨_, rfl⟩
    rw [hn] at hv hl ⊢
    clear hat
    go_enter Tryz.func8, Tryz.ntmps8
    go_wp2
    go_loopw [1, 5] (fun q i wr => ∃ (m : Nat) (l' : List Int), m ≤ n ∧ i = .int .i64 m ∧ q = .int .i64 (k + (m : Int)) ∧ OwnI wr B (.slice (some ⟨g, 0, none⟩) n cap) l' ∧ Hid (∀ j, j < m → fn l' j = k + (j : Int)) ∧ w.grownBy wr (some g) ∧ Hid (wr.heap.size = w.heap.size)) (fun _ i _ => n - (intOf i).toNat)
    case atStart => exact ⟨0, l, Nat.zero_le _, rfl, by go_num, hv, fun j hj => by omega, ⟨rfl, rfl, rfl, Nat.le_refl _, fun _ _ _ => rfl⟩, rfl⟩
    case round =>
      obtain ⟨m, l', hm, rfl, rfl, hown, hsame, hgr, hsz⟩ := hrel
      by_cases hlt : m < n
      · have hf : wr.frozen? ⟨g, m, none⟩ = false := hown.frozenN m
        have hc2 : wr.cell? ⟨g, m, none⟩ = some (.int .i64 (fn l' m)) := hown.cellN m hlt
        go_wp2
        go_roundw
        case rel =>
          refine ⟨m + 1, l'.set m (k + (m : Int)), by omega, by go_num, by go_num, hown.storedN m _, fun j hj => ?_, ?_, ?_⟩
          · have e := hown.len
            by_cases ej : j = m
            · subst ej; exact fn_set_same (by omega)
            · rw [fn_set_other (by omega)]; exact hsame.out j (by omega)
          · exact ⟨hgr.os, hgr.tape, hgr.output, by simpa using hgr.size, fun i hi hne => (heap_setCell_other wr ⟨g, m, none⟩ i _ (fun e => hne (by rw [e]))).trans (hgr.block i hi hne)⟩
          · show (wr.setCell _ _).heap.size = w.heap.size
            rw [World.size_setCell]; exact hsz.out
        case measure => simp only [intOf]; omega
      · have e : m = n := by omega
        subst e
        go_wp2
        go_ret
        have e := hown.len
        have el : l' = marks k m := ext_fn (by rw [marks_len]; exact e) (fun j hj => by rw [hsame.out j (by omega), fn_marks (by omega)])
        rw [el] at hown
        exact ⟨rfl, hown, hgr, hsz.out⟩
end Go.Proofs.YtgojdlbidjnmmabGreat
