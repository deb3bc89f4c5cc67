import Derived.Deep.LoopGhost
import Derived.Test.YtgojdlbidjnmmabGreatPk12
import Derived.Test.YtgojdlbidjnmmabGreatPk14
import Derived.Test.YtgojdlbidjnmmabGreatPk16
import Derived.Test.YtgojdlbidjnmmabGreatPk5
import Derived.Test.YtgojdlbidjnmmabGreatPk7
import Derived.Test.YtgojdlbidjnmmabGreatPk9
namespace Go.Proofs.YtgojdlbidjnmmabGreat
open Go.ChangeShapes Go.WideShapes Go.ChangeAt Go.RowKit Go.Deep
set_option linter.unusedSimpArgs false
set_option linter.unusedVariables false

theorem rrmono {w : World} {B B' : Nat} {v : Value} {vs : List Value} {rows : List (List Int)} (h : RR w B v vs rows) (hB : B' ≤ B) : RR w B' v vs rows :=
  ⟨h.len, h.own.mono hB, fun j hj => (h.row j hj).mono hB, h.apv, h.app⟩
theorem cellB {w : World} {B : Nat} {vs : List Value} {rows : List (List Int)} {g n cap : Nat} (h : RR w B (.slice (some ⟨g, 0, none⟩) n cap) vs rows) (j : Nat) (hj : j < n) : w.cell? ⟨g, j, none⟩ = some (vN vs j) := by
  have hown := h.own
  obtain ⟨a, c, e⟩ := hown.slc
  simp only [Value.slice.injEq] at e
  obtain ⟨rfl, rfl, rfl⟩ := e
  have hl := h.len
  rw [hown.cell j (by omega)]
  simp [vN, show j < vs.length by omega]
theorem bt_made (V : World) (T : TypeId) {g9 gw m cw B9 BW : Nat} {bf o : Int} {X Wk : List Int} (h9 : OwnI V B9 (.slice (some ⟨g9, 0, none⟩) (m + 1) (m + 1)) X) (hw : OwnI V BW (.slice (some ⟨gw, 0, none⟩) (m + 1) cw) Wk) (hne : gw ≠ g9) :
    BT (V.alloc (.cells #[.slice (some ⟨g9, 0, none⟩) (m + 1) (m + 1), .slice (some ⟨gw, 0, none⟩) (m + 1) cw, .int .i64 bf, .int .i64 o] T)) V.heap.size g9 gw (m + 1) cw bf o X Wk := by
  have hb : Below V.heap.size V (V.alloc (.cells #[.slice (some ⟨g9, 0, none⟩) (m + 1) (m + 1), .slice (some ⟨gw, 0, none⟩) (m + 1) cw, .int .i64 bf, .int .i64 o] T)) := (Below.refl _ _).alloc (Nat.le_refl _) _
  have t0 := heap_alloc_new V (.cells #[.slice (some ⟨g9, 0, none⟩) (m + 1) (m + 1), .slice (some ⟨gw, 0, none⟩) (m + 1) cw, .int .i64 bf, .int .i64 o] T)
  exact ⟨by simp, cell_of_row _ _ 0 _ _ (0, 0) t0, cell_of_row _ _ 1 _ _ (0, 0) t0, cell_of_row _ _ 2 _ _ (0, 0) t0, cell_of_row _ _ 3 _ _ (0, 0) t0, (h9.below hb).mono (Nat.zero_le _), (hw.below hb).mono (Nat.zero_le _), hne, fun e => by have := (hw.lt gw rfl).2; omega⟩
theorem BT.kept {w w' : World} {K gt g n cp : Nat} {bf o : Int} {td x : List Int} (h : BT w K gt g n cp bf o td x) (hb : Below w.heap.size w w') : BT w' K gt g n cp bf o td x := h.below hb
theorem clsL_ok {x : List Int} {n : Nat} (h : ClsL x) (hx : x.length = n) (hn : n ≤ 80) : clsOk (fn x) n = true := by
  rw [clsOk_yes (fun j hj => h j (by omega))]; simpa using hn
theorem weakL_cls {x : List Int} {b : Int} (h : ClsL x) (hb : b = 1 ∨ b = 2) : ClsL (weakL x b) := fun j hj => by
  rw [weakL_len] at hj
  exact (weak_is hb (fun k hk => h k hk) hj).cls
/-- What is wanted of a run. -/
structure RunOk (l cls : List Int) (n m : Nat) (lvl : Int) (r : List Nat) : Prop where
  len : r.length = m + 1
  m80 : m + 1 ≤ 80
  inn : ∀ x ∈ r, x < n
  ok : okF (fn (pickL r l)) (m + 1) = true
  cls : ClsL (pickL r cls)
  lv0 : 0 ≤ lvl
  lv22 : lvl ≤ 22

set_option maxRecDepth 10000 in
set_option maxHeartbeats 8000000 in
theorem implResolve (g m cap bl ol cl' : Nat) (r : List Nat) (l : List Int) (lvl : Int) {B T gm gq gl gc n : Nat} {base : Int} {cs M L cls : List Int} {c : Nat → Int} {mt : Nat → Nat} (w : World) (h : TT w B T gm gq gl gc n base cs M L cls) (hn80 : n ≤ 80) (hr : RunOk l cls n m lvl r) (hg : g < w.heap.size) (hgr : At w g 0 (natL r)) (hbl : bl < w.heap.size) (hl : At w bl ol l) (hln : l.length = n) (hcs : ∀ j, j < n → fn cs j = c j) (hsm : SameMates c n mt M) (hbd : 0 ≤ base ∧ base ≤ 22) (hlv : ∀ j, fn L j ≤ 22) :
    Calls Tryz.prog 46 #[.pointer (some ⟨T, 0, none⟩), .agg #[.slice (some ⟨g, 0, none⟩) (m + 1) cap, .int .i64 lvl], .slice (some ⟨bl, ol, none⟩) n cl'] w fun e w' => (∃ v, e = .returned v ∧ OwnI w' w.heap.size v (resF l cls (sidA (fn L) base lvl (r.headD 0)) (sidB c (fn L) n mt base lvl (r.getLastD 0)) lvl r)) ∧ Below w.heap.size w w' := by
  obtain ⟨W, hW⟩ : ∃ W, w.alloc (.cells #[.slice (some ⟨g, 0, none⟩) (m + 1) cap, .int .i64 lvl] 57) = W := ⟨_, rfl⟩
  have hBW : Below w.heap.size w W := by rw [← hW]; exact (Below.refl _ _).alloc (Nat.le_refl _) _
  have hWs : W.heap.size = w.heap.size + 1 := by rw [← hW]; simp
  have t0 : W.heap[w.heap.size]? = some (.cells #[.slice (some ⟨g, 0, none⟩) (m + 1) cap, .int .i64 lvl] 57) := by rw [← hW]; exact heap_alloc_new _ _
  have hf0 : w.cell? ⟨g, 0, none⟩ = some (.int .i64 ((r.headD 0 : Nat) : Int)) := by
    have := hgr 0 (by rw [natL_len, hr.len]; omega)
    rw [Nat.zero_add] at this
    rw [this]
    have hl0 := hr.len
    cases r with
    | nil => simp at hl0
    | cons a t => rfl
  have hfm : w.cell? ⟨g, m, none⟩ = some (.int .i64 ((r.getLastD 0 : Nat) : Int)) := by
    have := hgr m (by rw [natL_len, hr.len]; omega)
    rw [Nat.zero_add] at this
    rw [this, fn_natL (by rw [hr.len]; omega)]
    have hl0 := hr.len
    have e : r.getLastD 0 = r[m]'(by omega) := by
      rw [List.getLastD_eq_getLast?, List.getLast?_eq_getElem?, show r.length - 1 = m by omega]; simp [hl0]
    rw [e]
  have hfn : r.headD 0 < n := by
    have hl0 := hr.len
    cases r with
    | nil => simp at hl0
    | cons a t => exact hr.inn a (by simp)
  have hln2 : r.getLastD 0 < n := by
    have hl0 := hr.len
    have e : r.getLastD 0 = r[m]'(by omega) := by
      rw [List.getLastD_eq_getLast?, List.getLast?_eq_getElem?, show r.length - 1 = m by omega]; simp [hl0]
    rw [e]; exact hr.inn _ (List.getElem_mem _)
  obtain ⟨f, hf⟩ : ∃ f, r.headD 0 = f := ⟨_, rfl⟩
  obtain ⟨t, ht⟩ : ∃ t, r.getLastD 0 = t := ⟨_, rfl⟩
  rw [hf] at hf0 hfn ⊢
  rw [ht] at hfm hln2 ⊢
  have hSD := implSides g m cap f t lvl (c := c) (mt := mt) W (h.below hBW) hn80 hr.lv0 hr.lv22 ((World.cell?_of_block (hBW.block g hg)).trans hf0) ((World.cell?_of_block (hBW.block g hg)).trans hfm) (by have := hr.m80; omega) hfn hln2 (Nat.lt_of_lt_of_le hg hBW.size) hcs hsm hbd hlv
  obtain ⟨bf, hbf⟩ : ∃ bf, sidA (fn L) base lvl f = bf := ⟨_, rfl⟩
  obtain ⟨af, haf⟩ : ∃ af, sidB c (fn L) n mt base lvl t = af := ⟨_, rfl⟩
  have hbfs : sideB bf = true := by rw [← hbf]; exact ownOf_side _
  have hafs : sideB af = true := by rw [← haf]; exact ownOf_side _
  rw [hbf, haf] at hSD ⊢
  have HSD : Hid _ := hSD
  have HW : Hid _ := hW
  have HT : Hid (TT w B T gm gq gl gc n base cs M L cls) := h
  have HBW : Hid (Below w.heap.size w W) := hBW
  have HR : Hid (RunOk l cls n m lvl r) := hr
  have HG : Hid (At w g 0 (natL r)) := hgr
  have HL : Hid (At w bl ol l) := hl
  have HLN : Hid (l.length = n) := hln
  have HBX : Hid (∀ V, Below W.heap.size W V → V.cell? ⟨w.heap.size, 0, none⟩ = some (.slice (some ⟨g, 0, none⟩) (m + 1) cap) ∧ V.cell? ⟨w.heap.size, 1, none⟩ = some (.int .i64 lvl)) := fun V hV => by
    have hb := (hV.block w.heap.size (by omega)).trans t0
    exact ⟨cell_of_row V w.heap.size 0 _ _ (0, 0) hb, cell_of_row V w.heap.size 1 _ _ (0, 0) hb⟩
  have HBF : Hid (sideB bf = true) := hbfs
  have HAF : Hid (sideB af = true) := hafs
  have HWs : Hid (W.heap.size = w.heap.size + 1) := hWs
  obtain ⟨b0, b1⟩ := HBX.out W (Below.refl _ _)
  have hm80 := hr.m80
  clear h hBW t0 hf0 hfm hfn hln2 hf ht hSD hbf haf hbfs hafs hW hr hgr hl hln hcs hsm hbd hlv
  go_enter Tryz.func46, Tryz.ntmps46
  go_upto_region 1 with fail
  rw [HW.out]
  go_wp2_with (go_at_call 78; refine Calls.mono HSD.out ?_; rintro e w2 ⟨rfl, b2⟩; have B2 : Hid (Below W.heap.size W w2) := b2; obtain ⟨c0, c1⟩ := HBX.out w2 b2; have c4 := ((HT.out.below HBW.out).below b2).c4; clear b2)
  have HPK : Hid (∀ V, Below w.heap.size w V → ∀ v ls, ((v = .slice (some ⟨gc, 0, none⟩) n n ∧ ls = cls) ∨ (v = .slice (some ⟨bl, ol, none⟩) n cl' ∧ ls = l)) → Calls Tryz.prog 79 #[.slice (some ⟨g, 0, none⟩) (m + 1) cap, v] V fun e w' => (∃ g', e = .returned (.slice (some ⟨g', 0, none⟩) (m + 1) (m + 1)) ∧ OwnI w' V.heap.size (.slice (some ⟨g', 0, none⟩) (m + 1) (m + 1)) (pickL r ls)) ∧ Below V.heap.size V w') := fun V hV v ls hv => by
    have hTV := HT.out.below hV
    rcases hv with ⟨rfl, rfl⟩ | ⟨rfl, rfl⟩
    · refine implPick g (m + 1) cap gc 0 n n r ls V HR.out.len (by have := HR.out.m80; omega) (by omega) (Nat.lt_of_lt_of_le hg hV.size) (HG.out.below hV hg) (hTV.oc.lt gc rfl).2 ?_ hTV.oc.len HR.out.inn
      intro j hj
      rw [Nat.zero_add]; exact hTV.oc.cellN j (by rw [← hTV.oc.len]; exact hj)
    · exact implPick g (m + 1) cap bl ol n cl' r ls V HR.out.len (by have := HR.out.m80; omega) (by omega) (Nat.lt_of_lt_of_le hg hV.size) (HG.out.below hV hg) (Nat.lt_of_lt_of_le hbl hV.size) (HL.out.below hV hbl) HLN.out HR.out.inn
  have HB02 : Hid (Below w.heap.size w w2) := HBW.out.trans (B2.out.mono (by have := HWs.out; omega))
  go_cut [9] from 19 to 25 (fun s9 wx => ∃ g9, s9 = .slice (some ⟨g9, 0, none⟩) (m + 1) (m + 1) ∧ Hid (OwnI wx w2.heap.size (.slice (some ⟨g9, 0, none⟩) (m + 1) (m + 1)) (pickL r cls)) ∧ Hid (Below w2.heap.size w2 wx))
  case first =>
    go_region_with (go_at_call 79; refine (HPK.out _ (HB02.out.trans ((below_draws w2 1).mono HB02.out.size)) _ cls (.inl ⟨rfl, rfl⟩)).mono ?_; rintro e w3 ⟨⟨g9, rfl, o9⟩, b3⟩)
    all_goals
      go_wp2_with fail
      go_meet
      exact ⟨g9, rfl, o9, bstep (below_draws w2 1) b3⟩
  case rest =>
    obtain ⟨g9, rfl, o9, b3⟩ := hcut
    rename World => w3
    have HB03 : Hid (Below w.heap.size w w3) := HB02.out.trans (b3.out.mono HB02.out.size)
    have HBW3 : Hid (Below W.heap.size W w3) := B2.out.trans (b3.out.mono B2.out.size)
    obtain ⟨d0, d1⟩ := HBX.out w3 HBW3.out
    obtain ⟨X, hX⟩ : ∃ X, pickL r cls = X := ⟨_, rfl⟩
    have hXl : X.length = m + 1 := by rw [← hX, pickL_len, HR.out.len]
    have hXc : ClsL X := by rw [← hX]; exact HR.out.cls
    rw [hX] at o9
    have HX : Hid (pickL r cls = X) := hX
    have hb12 : bf = 1 ∨ bf = 2 := by have := HBF.out; unfold sideB at this; exact of_decide_eq_true this
    obtain ⟨Wk, hWk⟩ : ∃ Wk, weakL X bf = Wk := ⟨_, rfl⟩
    have hWl : Wk.length = m + 1 := by rw [← hWk, weakL_len, hXl]
    have hWc : ClsL Wk := by rw [← hWk]; exact weakL_cls hXc hb12
    have HWE : Hid (weakL X bf = Wk) := hWk
    obtain ⟨o, ho⟩ : ∃ o, ownOf lvl = o := ⟨_, rfl⟩
    have HOE : Hid (ownOf lvl = o) := ho
    have ho12 : o = 1 ∨ o = 2 := by rw [← ho]; unfold ownOf; split <;> simp
    have O9 : Hid (OwnI w3 w2.heap.size (.slice (some ⟨g9, 0, none⟩) (m + 1) (m + 1)) X) := o9
    have HWK : Hid (∀ V, Below w3.heap.size w3 V → Calls Tryz.prog 80 #[.slice (some ⟨g9, 0, none⟩) (m + 1) (m + 1), .int .i64 bf] V fun e w' => (∃ gw cw, e = .returned (.slice (some ⟨gw, 0, none⟩) (m + 1) cw) ∧ m + 1 ≤ cw ∧ OwnI w' V.heap.size (.slice (some ⟨gw, 0, none⟩) (m + 1) cw) Wk) ∧ Below V.heap.size V w') := fun V hV => by
      have o9V := O9.out.below hV
      refine (implWeak_row g9 0 (m + 1) (m + 1) X bf V hXl (by omega) (by omega) (Nat.le_refl _) (by unfold maxLen; omega) (o9V.lt g9 rfl).2 (fun j hj => by rw [Nat.zero_add]; exact o9V.cellN j (by omega)) (clsL_ok hXc hXl (by omega)) HBF).mono ?_
      rintro e w' ⟨⟨v', rfl, ov⟩, bv⟩
      rw [hWk] at ov
      obtain ⟨gw, cw, e, hcw⟩ := OwnI.form1 ov (by intro e; rw [e] at hWl; simp at hWl)
      rw [hWl] at e hcw
      subst e
      exact ⟨⟨gw, cw, rfl, hcw, ov⟩, bv⟩
    have HOW : Hid (∀ V, Calls Tryz.prog 81 #[.int .i64 lvl] V fun e w' => e = .returned (.int .i64 o) ∧ w' = V) := fun V => by rw [← ho]; exact implOwn lvl V HR.out.lv0
    have hg9 : g9 < w3.heap.size := (o9.out.lt g9 rfl).2
    clear hX hWk ho o9
    go_wp2_with fail
    go_cut [10] from 26 to 35 (fun s10 wx => ∃ K gw cw, s10 = .pointer (some ⟨K, 0, none⟩) ∧ m + 1 ≤ cw ∧ w3.heap.size ≤ gw ∧ Hid (BT wx K g9 gw (m + 1) cw bf o X Wk) ∧ Hid (Below w3.heap.size w3 wx))
    case first =>
      go_region_with (first | (go_at_call 80; refine (HWK.out _ (below_draws w3 1)).mono ?_; rintro e w4 ⟨⟨gw, cw, rfl, hcw, o4⟩, b4⟩; obtain ⟨e0, e1⟩ := HBX.out w4 (HBW3.out.trans ((bstep (below_draws w3 1) b4).mono HBW3.out.size))) | (go_at_call 81; refine (HOW.out _).mono ?_; rintro e w5 ⟨rfl, hw5⟩; rw [hw5]; clear hw5 w5))
      all_goals
        go_wp2_with fail
        go_meet
        refine ⟨_, gw, cw, rfl, hcw, (o4.lt gw rfl).1, bt_made w4 _ ((O9.out.below (below_draws w3 1)).below b4) o4 (by have := (o4.lt gw rfl).1; have e : (w3.drewN 1).heap.size = w3.heap.size := rfl; omega), ?_⟩
        exact (bstep (below_draws w3 1) b4).trans (((Below.refl _ _).alloc (Nat.le_refl _) _).mono b4.size)
    case rest =>
      obtain ⟨K, gw, cw, rfl, hcw, hgw3, BT4, b4⟩ := hcut
      rename World => w4
      have HB04 : Hid (Below w.heap.size w w4) := HB03.out.trans (b4.out.mono HB03.out.size)
      have HBW4 : Hid (Below W.heap.size W w4) := HBW3.out.trans (b4.out.mono HBW3.out.size)
      obtain ⟨e0, e1⟩ := HBX.out w4 HBW4.out
      have k1 := BT4.out.c1
      obtain ⟨Rn, hRn⟩ : ∃ Rn, pickL r l = Rn := ⟨_, rfl⟩
      have hRl : Rn.length = m + 1 := by rw [← hRn, pickL_len, HR.out.len]
      have hRok : okF (fn Rn) Rn.length = true := by rw [hRl, ← hRn]; exact HR.out.ok
      have HRN : Hid (pickL r l = Rn) := hRn
      obtain ⟨Ls, hLs⟩ : ∃ Ls, srtB (stB (fn Rn) (fn Wk) mate (m + 1)).2 = Ls := ⟨_, rfl⟩
      have hmr : mateR Rn Wk = rowsP Ls := by rw [mateR_yes hRok (clsL_ok hWc rfl (by omega)) (by rw [hRl, hWl]), hRl, hLs]
      have hLgood : ∀ p ∈ Ls, p.1 < p.2 ∧ p.2 < m + 1 := fun p hp => by
        rw [← hLs] at hp
        exact (good_st (fn Rn) (fn Wk) mate (m + 1)).lt2 p ((srt_perm _).mem_iff.1 hp)
      have hLl : Ls.length ≤ 80 := by rw [← hLs, srt_len]; have := (st_len (fn Rn) (fn Wk) mate (m + 1)).2; omega
      obtain ⟨N, hN⟩ : ∃ N, Ls.length = N := ⟨_, rfl⟩
      have HMT : Hid (∀ V, Below w4.heap.size w4 V → ∀ g' Bg, OwnI V Bg (.slice (some ⟨g', 0, none⟩) (m + 1) (m + 1)) Rn → Calls Tryz.prog 82 #[.slice (some ⟨g', 0, none⟩) (m + 1) (m + 1), .slice (some ⟨gw, 0, none⟩) (m + 1) cw] V fun e w' => (∃ ap cp up, e = .returned (.slice ap N cp) ∧ RR w' V.heap.size (.slice ap N cp) up (rowsP Ls)) ∧ Below V.heap.size V w') := fun V hV g' Bg og => by
        have ha1 : Arg V (.slice (some ⟨g', 0, none⟩) Rn.length (m + 1)) Rn := by rw [hRl]; exact og.arg
        have ha2 : Arg V (.slice (some ⟨gw, 0, none⟩) Wk.length cw) Wk := by rw [hWl]; exact (BT4.out.ox.below hV).arg
        have hc := implMates Rn Wk V _ _ _ _ ha1 ha2 (by omega) (by omega)
        rw [hRl, hWl] at hc
        refine hc.mono ?_
        rintro e w' ⟨⟨v, rfl, up, rr⟩, bv⟩
        rw [hmr] at rr
        obtain ⟨ap, cp, e⟩ := rr.slc
        rw [rowsP_len, hN] at e
        subst e
        exact ⟨⟨ap, cp, up, rfl, rr⟩, bv⟩
      have HLS : Hid (srtB (stB (fn Rn) (fn Wk) mate (m + 1)).2 = Ls) := hLs
      have HLG : Hid (∀ p ∈ Ls, p.1 < p.2 ∧ p.2 < m + 1) := hLgood
      have HN : Hid (Ls.length = N) := hN
      have hN80 : N ≤ 80 := by omega
      have HWC : Hid (ClsL Wk) := hWc
      have HWL : Hid (Wk.length = m + 1) := hWl
      clear hRn hRl hRok hLs hmr hLgood hLl hN hWc hWl hXl hXc
      go_wp2_with fail
      go_cut [44, 45, 46] from 36 to 46 (fun s44 s45 s46 wx => ∃ ap cp up, s44 = .slice ap N cp ∧ s45 = .int .i64 (N : Int) ∧ s46 = .int .i64 0 ∧ Hid (RR wx w4.heap.size (.slice ap N cp) up (rowsP Ls)) ∧ Hid (Below w4.heap.size w4 wx))
      case first =>
        go_region_with (first | (go_at_call 79; refine (HPK.out _ (HB04.out.trans ((below_draws w4 1).mono HB04.out.size)) _ l (.inr ⟨rfl, rfl⟩)).mono ?_; rintro e w5 ⟨⟨g5, rfl, o5⟩, b5⟩; rw [HRN.out] at o5; have k15 := (BT4.out.below (bstep (below_draws w4 1) b5)).c1) | (go_at_call 82; refine (HMT.out _ (bstep (below_draws w4 1) b5) _ _ o5).mono ?_; rintro e w6 ⟨⟨ap, cp, up, rfl, rr⟩, b6⟩))
        all_goals
          go_wp2_with fail
          go_meet
          exact ⟨ap, cp, up, rfl, rfl, rfl, rrmono rr (bstep (below_draws w4 1) b5).size, bstep (bstep (below_draws w4 1) b5) b6⟩
      case rest =>
        obtain ⟨ap, cp, up, rfl, rfl, rfl, rr5, b5⟩ := hcut
        rename World => w5
        have BT5 : Hid (BT w5 K g9 gw (m + 1) cw bf o X Wk) := BT4.out.below b5.out
        have hgw4 : gw < w4.heap.size := (BT4.out.ox.lt gw rfl).2
        have HB05 : Hid (Below w.heap.size w w5) := HB04.out.trans (b5.out.mono HB04.out.size)
        have HW05 : Hid (Below W.heap.size W w5) := HBW4.out.trans (b5.out.mono HBW4.out.size)
        have hwgw : w.heap.size < gw := by have := HBW3.out.size; have := HWs.out; omega
        have HFIN : Hid (resF l cls bf af lvl r = plainL (resTo (fn X) (m + 1) o bf Wk Ls) bf af lvl) := by
          unfold Hid resF
          rw [HX.out, HWE.out, HRN.out, HOE.out, HR.out.len, HLS.out]
        have HBX5 : Hid (∀ wr q, w5.grownBy wr (some gw) → (wr.drewN q).cell? ⟨w.heap.size, 1, none⟩ = some (.int .i64 lvl)) := fun wr q hgr => by
          have hlt : w.heap.size < w5.heap.size := by have := HW05.out.size; have := HWs.out; omega
          exact (World.cell?_of_block (hgr.block w.heap.size hlt (fun e => by simp at e; omega))).trans (HBX.out w5 HW05.out).2
        clear c0 c1 c4 d0 d1 e0 e1 k1
        go_wp2_with fail
        go_loopw [46] (fun i wr => ∃ k : Nat, k ≤ N ∧ i = .int .i64 k ∧ Hid (BT wr K g9 gw (m + 1) cw bf o X (resTo (fn X) (m + 1) o bf Wk (Ls.take k))) ∧ Hid (w5.grownBy wr (some gw))) (fun i _ => N - (intOf i).toNat)
        case atStart => exact ⟨0, Nat.zero_le _, rfl, BT5.out, grownB_refl _ _⟩
        case round =>
          obtain ⟨k, hk, rfl, hBT, hgr⟩ := hrel
          by_cases hlt : k < N
          · have hki : (k : Int) < (N : Int) := by omega
            have hkL : k < Ls.length := by rw [HN.out]; exact hlt
            have rr6 := rr5.out.kept (w' := wr) (fun b hb => hgr.out.block b (by
                rcases hb with hb | ⟨j, hj, hb⟩
                · exact (rr5.out.lt b hb).2
                · exact ((rr5.out.row j hj).lt b hb).2) (fun e => by
                simp at e
                rcases hb with hb | ⟨j, hj, hb⟩
                · have := (rr5.out.lt b hb).1; omega
                · have := ((rr5.out.row j hj).lt b hb).1; omega))
            obtain ⟨g1, c1', e1, _⟩ := rr6.own.form1 (by rw [rowsP_len]; omega)
            simp only [Value.slice.injEq] at e1
            obtain ⟨rfl, hz1', rfl⟩ := e1
            clear hz1'
            have q1 := cellB rr6 k hlt
            have row1 := rr6.row k (by rw [rowsP_len]; exact hkL)
            rw [rowsP_at hkL] at row1
            obtain ⟨gk, ck, eq0, _⟩ := OwnI.form1 row1 (by simp [rowP])
            rw [show (rowP Ls[k]).length = 2 from rfl] at eq0
            rw [eq0] at q1 row1
            obtain ⟨p1, p2⟩ := HLG.out _ (List.getElem_mem hkL)
            obtain ⟨A, hA⟩ : ∃ A, (Ls[k]).1 = A := ⟨_, rfl⟩
            obtain ⟨dd, hdd⟩ : ∃ dd, (Ls[k]).2 = A + 1 + dd := ⟨(Ls[k]).2 - (A + 1), by omega⟩
            have q2 : wr.cell? ⟨gk, 0, none⟩ = some (.int .i64 (A : Int)) := by rw [row1.cellN 0 (by omega), ← hA]; rfl
            have q3 : wr.cell? ⟨gk, 1, none⟩ = some (.int .i64 ((A + 1 + dd : Nat) : Int)) := by rw [row1.cellN 1 (by omega), ← hdd]; rfl
            have hpair : Ls[k] = (A, A + 1 + dd) := Prod.ext hA hdd
            have hnext : Hid (resTo (fn X) (m + 1) o bf Wk (Ls.take (k + 1)) = resP (fn X) (m + 1) o bf (resTo (fn X) (m + 1) o bf Wk (Ls.take k)) (A, A + 1 + dd)) := by
              unfold Hid; rw [resTo_take hkL, hpair]
            have HRP : Hid (∀ V q, V = wr.drewN q → Calls Tryz.prog 83 #[.pointer (some ⟨K, 0, none⟩), .int .i64 (A : Int), .int .i64 ((A + 1 + dd : Nat) : Int)] V fun e w' => e = .returned (.tuple #[]) ∧ BT w' K g9 gw (m + 1) cw bf o X (resTo (fn X) (m + 1) o bf Wk (Ls.take (k + 1))) ∧ V.grownBy w' (some gw)) := fun V q hV => by
              rw [hnext.out, hV]
              exact implResolvePair A dd _ (hBT.out.drewN q) (by omega) (by omega) hcw
            obtain ⟨Z, hZ⟩ : ∃ Z, A + 1 + dd = Z := ⟨_, rfl⟩
            rw [hZ] at q3 HRP
            clear row1 eq0 p1 p2 hA hdd hpair rr6 hZ
            go_wp2_with fail
            go_region_with (go_at_call 83; refine (HRP.out _ 1 rfl).mono ?_; rintro e w6 ⟨rfl, bt6, gr6⟩)
            all_goals
              go_wp2_with fail
              go_roundw
              case rel => exact ⟨k + 1, by omega, by go_num, bt6, grownB_tr hgr.out (grownB_tr (grownB_draws wr 1 _) gr6)⟩
              case measure => simp only [intOf]; omega
          · have e : k = N := by omega
            subst e
            have hfull : Ls.take k = Ls := List.take_of_length_le (by rw [HN.out]; exact Nat.le_refl _)
            rw [hfull] at hBT
            obtain ⟨xf, hxf⟩ : ∃ xf, resTo (fn X) (m + 1) o bf Wk Ls = xf := ⟨_, rfl⟩
            have hxl : xf.length = m + 1 := by rw [← hxf, resTo_len, HWL.out]
            have hxc : ClsL xf := by rw [← hxf]; exact resTo_cls Ls HWC.out ho12 hb12
            rw [hxf] at hBT
            have HPL : Hid (∀ V q, V = wr.drewN q → Calls Tryz.prog 84 #[.slice (some ⟨gw, 0, none⟩) (m + 1) cw, .int .i64 bf, .int .i64 af, .int .i64 lvl] V fun e w' => (∃ v', e = .returned v' ∧ OwnI w' V.heap.size v' (resF l cls bf af lvl r)) ∧ Below V.heap.size V w') := fun V q hV => by
              rw [HFIN.out, hxf, ← plainR_yes (l := xf) ⟨clsL_ok hxc rfl (by omega), HBF.out, HAF.out, by unfold lvB; exact decide_eq_true ⟨HR.out.lv0, HR.out.lv22⟩⟩, hV]
              exact implPlain _ xf bf af lvl (wr.drewN q) (some ⟨gw, 0, none⟩) cw (by rw [hxl]) (hBT.out.drewN q).ox.arg (by omega)
            have x1 := hBT.out.c1
            have x2 := HBX5.out wr 0 hgr.out
            have x3 : wr.cell? ⟨w.heap.size, 1, none⟩ = some (.int .i64 lvl) := x2
            have HBE : Hid (Below w.heap.size w wr) := HB05.out.grown hgr.out HB05.out.size (fun j hj => by simp at hj; omega)
            clear x2 hxf hxl hxc hfull
            go_wp2_with fail
            go_region_with (go_at_call 84; refine (HPL.out _ 1 rfl).mono ?_; rintro e w7 ⟨⟨v7, rfl, o7⟩, b7⟩)
            all_goals
              go_wp2_with fail
              go_ret
              exact ⟨⟨v7, rfl, o7.mono HBE.out.size⟩, HBE.out.trans ((bstep (below_draws wr 1) b7).mono HBE.out.size)⟩
end Go.Proofs.YtgojdlbidjnmmabGreat
namespace Go.Proofs.YtgojdlbidjnmmabGreat
open Go.ChangeShapes Go.WideShapes Go.ChangeAt Go.RowKit
set_option linter.unusedSimpArgs false
set_option linter.unusedVariables false

set_option maxHeartbeats 2000000 in
theorem specLeft (b off cap n : Nat) (L : List Int) (p : Nat) (a : Int) (w : World) (hn : L.length = n) (hat : At w b off L) (hl : n ≤ 1048576) (hp : p ≤ n) (ha : a = (p : Int)) :
    Calls Tryz.prog 54 #[.slice (some ⟨b, off, none⟩) n cap, .int .i64 a] w fun e w' => (∃ k : Nat, e = .returned (.int .i64 k) ∧ p ≤ k ∧ k ≤ n ∧ (∀ x, p ≤ x → x < k → fn L x < 0) ∧ (k < n → 0 ≤ fn L k)) ∧ w' = w := by
  subst ha
  have HN : Hid _ := hn
  clear hn
  go_enter Tryz.func54, Tryz.ntmps54
  go_wp2
  go_loop [1] (fun q => ∃ k : Nat, p ≤ k ∧ k ≤ n ∧ q = .int .i64 k ∧ Hid (∀ x, p ≤ x → x < k → fn L x < 0)) (fun q => n - (intOf q).toNat)
  case atStart => exact ⟨p, Nat.le_refl _, hp, rfl, fun x h1 h2 => by omega⟩
  case round =>
    obtain ⟨k, hpk, hkn, rfl, hall⟩ := hrel
    by_cases hlt : k < n
    · have hki : (k : Int) < (n : Int) := by omega
      have hc : w.cell? ⟨b, off + k, none⟩ = some (.int .i64 (fn L k)) := hat k (by have := HN.out; omega)
      by_cases hq : fn L k < 0
      · have hq2 : decide (fn L k < 0) = true := by simpa using hq
        have HQ : Hid _ := hq
        clear hq
        go_wp2
        go_round
        case rel => exact ⟨k + 1, by omega, by omega, by go_num, fun x h1 h2 => by
          by_cases e : x = k
          · subst e; exact HQ.out
          · exact hall.out x h1 (by omega)⟩
        case measure => simp only [intOf]; omega
      · have hq2 : decide (fn L k < 0) = false := by simpa using hq
        have HQ : Hid (0 ≤ fn L k) := by show _ ≤ _; omega
        clear hq
        go_wp2
        go_ret
        exact ⟨⟨k, rfl, hpk, hkn, hall.out, fun _ => by have := HQ.out; omega⟩, rfl⟩
    · have e : k = n := by omega
      subst e
      go_wp2
      go_ret
      exact ⟨⟨k, rfl, hpk, hkn, hall.out, fun h => by omega⟩, rfl⟩

set_option maxHeartbeats 4000000 in
theorem specRun (b off cap n : Nat) (L : List Int) (p : Nat) (a : Int) (w : World) (hn : L.length = n) (hb : b < w.heap.size) (hat : At w b off L) (hl : n ≤ 1000) (hp : p < n) (ha : a = (p : Int)) (hbeg : begB (fn L) p = true) :
    Calls Tryz.prog 55 #[.slice (some ⟨b, off, none⟩) n cap, .int .i64 a] w fun e w' => (∃ v, e = .returned v ∧ OwnI w' w.heap.size v (natL (pieceN (fn L) p n))) ∧ Below w.heap.size w w' := by
  subst ha
  have HN : Hid _ := hn
  have ho := own_empty w w.heap.size 3 (Nat.le_refl _) rfl
  have hb0 : Below w.heap.size w (w.alloc (.cells #[] 3)) := (Below.refl _ _).alloc (Nat.le_refl _) _
  have HO : Hid (OwnI (w.alloc (.cells #[] 3)) w.heap.size (.slice (some ⟨w.heap.size, 0, none⟩) 0 0) []) := ho
  have HBB : Hid _ := hb0
  have HBG : Hid _ := hbeg
  have hpi : (p : Int) < (n : Int) := by omega
  clear hn ho hb0 hbeg
  go_enter Tryz.func55, Tryz.ntmps55
  go_wp2_with fail
  go_loopw [5, 6] (fun v i wr => ∃ k : Nat, p ≤ k ∧ k ≤ n ∧ i = .int .i64 k ∧ Hid (OwnI wr w.heap.size v (natL (pieceN (fn L) p k))) ∧ Hid (∀ x, p ≤ x → x < k → 0 ≤ fn L x → fn L x = fn L p) ∧ Hid (Below w.heap.size w wr)) (fun _ i _ => n - (intOf i).toNat)
  case atStart => exact ⟨p, Nat.le_refl _, by omega, rfl, by rw [piece_at _ HBG.out]; exact HO.out, fun x h1 h2 => by omega, HBB.out⟩
  case round =>
    obtain ⟨k, hpk, hkn, rfl, hv, hall, hbel⟩ := hrel
    -- all seen so far are of the piece
    have hof : ∀ x, p ≤ x → x < k → 0 ≤ fn L x → ofB (fn L) p x = true := by
      have hbg : ∀ d, p + 1 + d ≤ k → bgL (fn L) (p + 1 + d) = p ∧ pvL (fn L) (p + 1 + d) = fn L p := by
        intro d
        induction d with
        | zero => intro _; exact ⟨bg_beg HBG.out, by show pvL (fn L) (p + 1) = _; simp only [pvL]; rw [if_pos (beg_seen HBG.out)]⟩
        | succ d ih =>
          intro hd
          obtain ⟨i1, i2⟩ := ih (by omega)
          by_cases hs : 0 ≤ fn L (p + 1 + d)
          · have e := hall.out (p + 1 + d) (by omega) (by omega) hs
            have hnb : begB (fn L) (p + 1 + d) = false := by simp [begB, hs, i2, e]
            exact ⟨by show bgL (fn L) (p + 1 + d + 1) = p; rw [bg_stay hnb]; exact i1, by show pvL (fn L) (p + 1 + d + 1) = _; simp only [pvL]; rw [if_pos hs, e]⟩
          · exact ⟨by show bgL (fn L) (p + 1 + d + 1) = p; rw [bg_stay (bg_unseen (by omega))]; exact i1, by show pvL (fn L) (p + 1 + d + 1) = _; simp only [pvL]; rw [if_neg hs]; exact i2⟩
      intro x h1 h2 hs
      have := (hbg (x - p) (by omega)).1
      rw [show p + 1 + (x - p) = x + 1 by omega] at this
      exact of_mk hs this
    have HOF : Hid _ := hof
    clear hof
    by_cases hlt : k < n
    · have hki : (k : Int) < (n : Int) := by omega
      have hck : wr.cell? ⟨b, off + k, none⟩ = some (.int .i64 (fn L k)) := (hbel.out.cell (p := ⟨b, off + k, none⟩) hb).trans (hat k (by have := HN.out; omega))
      have hcp : wr.cell? ⟨b, off + p, none⟩ = some (.int .i64 (fn L p)) := (hbel.out.cell (p := ⟨b, off + p, none⟩) hb).trans (hat p (by have := HN.out; omega))
      by_cases hneg : fn L k < 0
      · have hq2 : decide (fn L k < 0) = true := by simpa using hneg
        have hq3 : decide (fn L k ≥ 0) = false := by simp; omega
        have HQ : Hid _ := hneg
        clear hneg
        go_wp2_with fail
        go_quiet (fail)
        go_wp2_with fail
        go_roundw
        case rel => exact ⟨k + 1, by omega, by omega, by go_num, by rw [piece_succ, if_neg (by rw [show ofB (fn L) p k = false by simp [ofB, HQ.out]; have := HQ.out; omega]; simp), List.append_nil]; exact hv.out.drewN _, fun x h1 h2 h3 => by
          by_cases e : x = k
          · subst e; have := HQ.out; omega
          · exact hall.out x h1 (by omega) h3, hbel.out.trans ((below_draws _ _).mono hbel.out.size)⟩
        case measure => simp only [intOf]; omega
      · have hq2 : decide (fn L k < 0) = false := by simpa using hneg
        have hq3 : decide (fn L k ≥ 0) = true := by simp; omega
        by_cases heq : fn L k = fn L p
        · have he2 : (fn L k == fn L p) = true := by simpa using heq
          have HE : Hid _ := heq
          have HQ : Hid (0 ≤ fn L k) := by show _ ≤ _; omega
          have hln : (natL (pieceN (fn L) p k)).length ≤ 1073741824 := by
            rw [natL_len]; unfold pieceN; have := List.length_filter_le (ofB (fn L) p) (List.range k); rw [List.length_range] at this; omega
          clear heq hneg
          go_wp2_with fail
          go_quiet (fail)
          go_wp2_with (at_builtin; refine own_append (.tmp 38) (.tmp 40) (hv.out.drewN _) hln hbel.out.size rfl rfl rfl rfl ?_; intro v5 w5 hown5 hgr5)
          go_roundw
          case rel =>
            refine ⟨k + 1, by omega, by omega, by go_num, ?_, fun x h1 h2 h3 => ?_, ?_⟩
            · have hofk : ofB (fn L) p k = true := by
                by_cases e : k = p
                · subst e; exact of_b HBG.out
                · have h1 := HOF.out
                  -- the letter at k goes on with the piece
                  have hpv : ∀ d, p + 1 + d ≤ k → bgL (fn L) (p + 1 + d) = p ∧ pvL (fn L) (p + 1 + d) = fn L p := by
                    intro d
                    induction d with
                    | zero => intro _; exact ⟨bg_beg HBG.out, by show pvL (fn L) (p + 1) = _; simp only [pvL]; rw [if_pos (beg_seen HBG.out)]⟩
                    | succ d ih =>
                      intro hd
                      obtain ⟨i1, i2⟩ := ih (by omega)
                      by_cases hs : 0 ≤ fn L (p + 1 + d)
                      · have e2 := hall.out (p + 1 + d) (by omega) (by omega) hs
                        have hnb : begB (fn L) (p + 1 + d) = false := by simp [begB, hs, i2, e2]
                        exact ⟨by show bgL (fn L) (p + 1 + d + 1) = p; rw [bg_stay hnb]; exact i1, by show pvL (fn L) (p + 1 + d + 1) = _; simp only [pvL]; rw [if_pos hs, e2]⟩
                      · exact ⟨by show bgL (fn L) (p + 1 + d + 1) = p; rw [bg_stay (bg_unseen (by omega))]; exact i1, by show pvL (fn L) (p + 1 + d + 1) = _; simp only [pvL]; rw [if_neg hs]; exact i2⟩
                  obtain ⟨i1, i2⟩ := hpv (k - (p + 1)) (by omega)
                  rw [show p + 1 + (k - (p + 1)) = k by omega] at i1 i2
                  have hs : 0 ≤ fn L k := by have := HQ.out; omega
                  have hnb : begB (fn L) k = false := by simp [begB, hs, i2, HE.out]
                  exact of_mk hs (by rw [bg_stay hnb]; exact i1)
              rw [piece_succ, if_pos hofk, natL_app]; exact hown5
            · by_cases e : x = k
              · subst e; exact HE.out
              · exact hall.out x h1 (by omega) h3
            · exact grown_below (hbel.out.trans ((below_draws _ _).mono hbel.out.size)) hgr5 (hv.out.drewN _) (Nat.le_refl _) hbel.out.size
          case measure => simp only [intOf]; omega
        · have he2 : (fn L k == fn L p) = false := by simpa using heq
          have HE : Hid _ := heq
          have HQ : Hid (0 ≤ fn L k) := by show _ ≤ _; omega
          clear heq hneg
          go_wp2_with fail
          go_quiet (fail)
          go_wp2_with fail
          go_ret
          refine ⟨⟨_, rfl, ?_⟩, hbel.out.trans ((below_draws _ _).mono hbel.out.size)⟩
          have : pieceN (fn L) p n = pieceN (fn L) p k := by
            refine piece_more (by omega) (fun x h1 h2 => ?_)
            cases hc : ofB (fn L) p x with
            | false => rfl
            | true =>
              exfalso
              have hkp : p < k := by
                rcases Nat.lt_or_ge p k with q | q
                · exact q
                · have : k = p := by omega
                  subst this; exact absurd rfl HE.out
              -- at k something else begins
              have hs : 0 ≤ fn L k := by have := HQ.out; omega
              have m1 := bg_mono (lv := fn L) (show p + 1 ≤ k + 1 by omega)
              have m2 := bg_mono (lv := fn L) (show k + 1 ≤ x + 1 by omega)
              rw [bg_beg HBG.out] at m1
              rw [(of_seen hc).2] at m2
              have := of_beg (of_mk hs (show bgL (fn L) (k + 1) = p by omega))
              exact HE.out this.2
          rw [this]; exact hv.out.drewN _
    · have e : k = n := by omega
      subst e
      go_wp2_with fail
      go_quiet (fail)
      go_wp2_with fail
      go_ret
      exact ⟨⟨_, rfl, hv.out.drewN _⟩, hbel.out.trans ((below_draws _ _).mono hbel.out.size)⟩
end Go.Proofs.YtgojdlbidjnmmabGreat
namespace Go.Proofs.YtgojdlbidjnmmabGreat
open Go.ChangeShapes Go.WideShapes Go.ChangeAt Go.RowKit
set_option linter.unusedSimpArgs false
set_option linter.unusedVariables false

theorem clos_no {c : Nat → Int} {mt : Nat → Nat} {b : Nat} (h : ∀ i, i < b → (opensB (c i) && mt i == b) = false) : closN c mt b = false := by
  unfold closN
  rw [List.any_eq_false]
  intro i hi
  rw [List.mem_range] at hi
  simpa using h i hi
theorem clos_yes {c : Nat → Int} {mt : Nat → Nat} {b i : Nat} (hi : i < b) (ho : opensB (c i) = true) (hm : mt i = b) : closN c mt b = true := by
  unfold closN
  rw [List.any_eq_true]
  exact ⟨i, by rw [List.mem_range]; exact hi, by simp [ho, hm]⟩

set_option maxHeartbeats 4000000 in
theorem specCloses (b off cap n : Nat) (l : List Int) (mt : Nat → Nat) (p : Nat) (a : Int) (w : World) (hn : l.length = n) (hb : b < w.heap.size) (hat : At w b off l) (hl : n ≤ 1000) (hmt : Hid (MateFn (cl l) n mt)) (hp : p < n) (ha : a = (p : Int)) :
    Calls Tryz.prog 56 #[.slice (some ⟨b, off, none⟩) n cap, .int .i64 a] w fun e w' => e = .returned (.bool (closN (cl l) mt p)) ∧ Below w.heap.size w w' := by
  subst ha
  have HN : Hid _ := hn
  have HA : Hid (∀ w', Below w.heap.size w w' → At w' b off l) := fun w' hw => hat.below hw hb
  clear hn hat
  have hl4 : n ≤ 4194304 := by omega
  go_enter Tryz.func56, Tryz.ntmps56
  go_wp2_with fail
  go_loopw [5] (fun q wr => ∃ i : Nat, i ≤ p ∧ q = .int .i64 i ∧ Hid (∀ x, x < i → (opensB (cl l x) && mt x == p) = false) ∧ Hid (Below w.heap.size w wr)) (fun q _ => p - (intOf q).toNat)
  case atStart => exact ⟨0, Nat.zero_le _, rfl, fun x hx => by omega, Below.refl _ _⟩
  case round =>
    obtain ⟨i, hip, rfl, hall, hbel⟩ := hrel
    by_cases hlt : i < p
    · have hii : (i : Int) < (p : Int) := by omega
      have hin : (i : Int) < (n : Int) := by omega
      have hc : wr.cell? ⟨b, off + i, none⟩ = some (.int .i64 (fn l i)) := HA.out wr hbel.out i (by have := HN.out; omega)
      obtain ⟨ck, hck⟩ : ∃ ck, bidi (fn l i) = ck := ⟨_, rfl⟩
      have HCK : Hid _ := hck
      have hcl : Hid (cl l i = ck) := hck
      clear hck
      cases ho : opensB ck
      · have HO : Hid _ := ho
        clear ho
        go_wp2_with (first | (go_at_call 33; refine (specBidi _ _).mono ?_; rintro e w1 ⟨rfl, b1⟩; rw [HCK.out]) | (go_at_call 59; refine (specOpens _ _).mono ?_; rintro e w2 ⟨rfl, rfl⟩; rw [HO.out]))
        go_roundw
        case rel => exact ⟨i + 1, by omega, by go_num, fun x hx => by
          by_cases e : x = i
          · subst e; rw [hcl.out, HO.out]; rfl
          · exact hall.out x (by omega), bstep hbel.out b1⟩
        case measure => simp only [intOf]; omega
      · have HO : Hid _ := ho
        have HOP : Hid (opensB (cl l i) = true) := by rw [hcl.out]; exact ho
        clear ho
        by_cases hq : mt i = p
        · have hqb : ((mt i : Int) == (p : Int)) = true := by simp [hq]
          have HQ : Hid _ := hq
          have HQB : Hid _ := hqb
          clear hq hqb
          go_wp2_with (first | (go_at_call 33; refine (specBidi _ _).mono ?_; rintro e w1 ⟨rfl, b1⟩; rw [HCK.out]) | (go_at_call 59; refine (specOpens _ _).mono ?_; rintro e w2 ⟨rfl, rfl⟩; rw [HO.out]) | (go_at_call 60; refine (specMateL b off cap n l mt _ i _ HN.out (Nat.lt_of_lt_of_le hb (bstep hbel.out b1).size) (HA.out _ (bstep hbel.out b1)) hl4 hmt rfl (by omega) HOP.out).mono ?_; rintro e w3 ⟨rfl, b3⟩; rw [HQ.out]))
          go_ret
          exact ⟨retBool (clos_yes hlt HOP.out HQ.out).symm, bstep (bstep hbel.out b1) b3⟩
        · have hqb : ((mt i : Int) == (p : Int)) = false := by simp; omega
          have HQ : Hid _ := hq
          clear hq
          go_wp2_with (first | (go_at_call 33; refine (specBidi _ _).mono ?_; rintro e w1 ⟨rfl, b1⟩; rw [HCK.out]) | (go_at_call 59; refine (specOpens _ _).mono ?_; rintro e w2 ⟨rfl, rfl⟩; rw [HO.out]) | (go_at_call 60; refine (specMateL b off cap n l mt _ i _ HN.out (Nat.lt_of_lt_of_le hb (bstep hbel.out b1).size) (HA.out _ (bstep hbel.out b1)) hl4 hmt rfl (by omega) HOP.out).mono ?_; rintro e w3 ⟨rfl, b3⟩))
          go_roundw
          case rel => exact ⟨i + 1, by omega, by go_num, fun x hx => by
            by_cases e : x = i
            · subst e; rw [HOP.out]; simpa using HQ.out
            · exact hall.out x (by omega), bstep (bstep hbel.out b1) b3⟩
          case measure => simp only [intOf]; omega
    · have e : i = p := by omega
      subst e
      go_wp2_with fail
      go_ret
      exact ⟨retBool (clos_no hall.out).symm, hbel.out⟩

theorem sc_none {c lv : Nat → Int} {n : Nat} {mt : Nat → Nat} {b : Nat} (h : opensB (c (lastP lv b n)) = false ∨ mt (lastP lv b n) = n) : scN c lv n mt b = none := by
  unfold scN
  rw [if_neg]
  rintro ⟨h1, h2⟩
  rcases h with h | h
  · rw [h] at h1; cases h1
  · omega
theorem sc_is {c lv : Nat → Int} {n : Nat} {mt : Nat → Nat} {b : Nat} (h1 : opensB (c (lastP lv b n)) = true) (h2 : mt (lastP lv b n) < n) : scN c lv n mt b = some (mt (lastP lv b n)) := by
  unfold scN; rw [if_pos ⟨h1, h2⟩]
theorem chain_len {c lv : Nat → Int} {n : Nat} {mt : Nat → Nat} (ht : Txt c lv n mt) : ∀ d b, begB lv b = true → b < n → n - b ≤ d → (chainN c lv n mt b).Pairwise (· < ·) ∧ ∀ x ∈ chainN c lv n mt b, b ≤ x ∧ x < n := by
  intro d
  induction d with
  | zero => intro b hb hbn h; omega
  | succ d ih =>
    intro b hb hbn h
    rw [chain_eq ht hb hbn]
    have hp : (pieceN lv b n).Pairwise (· < ·) := by
      unfold pieceN
      exact (List.pairwise_lt_range).filter _
    cases hs : scN c lv n mt b with
    | none =>
      simp only [List.append_nil]
      exact ⟨hp, fun x hx => by rw [piece_mem] at hx; exact ⟨of_le hx.2, hx.1⟩⟩
    | some j =>
      obtain ⟨h1, h2, hj, hbj, hlt, hm, _⟩ := sc_some ht hb hbn hs
      obtain ⟨i1, i2⟩ := ih j hbj hj (by omega)
      simp only
      refine ⟨List.pairwise_append.2 ⟨hp, i1, fun x hx y hy => ?_⟩, fun x hx => ?_⟩
      · have hy2 := (i2 y hy).1
        rw [piece_mem] at hx
        have h3 := hm.lt
        obtain ⟨a1, a2, a3⟩ := last_spec hb hbn
        have : x ≤ lastP lv b n := by
          rcases Nat.lt_or_ge (lastP lv b n) x with q | q
          · have := a3 x q hx.1; rw [hx.2] at this; cases this
          · exact q
        omega
      · rcases List.mem_append.1 hx with hx | hx
        · rw [piece_mem] at hx; exact ⟨of_le hx.2, hx.1⟩
        · have := i2 x hx; exact ⟨by omega, this.2⟩
theorem inc_len {l : List Nat} {n b : Nat} (h : l.Pairwise (· < ·)) (hb : ∀ x ∈ l, b ≤ x ∧ x < n) : l.length ≤ n - b := by
  induction l generalizing b with
  | nil => simp
  | cons x r ih =>
    have h1 := hb x (by simp)
    have h2 := ih (b := x + 1) (List.pairwise_cons.1 h).2 (fun y hy => ⟨(List.pairwise_cons.1 h).1 y hy, (hb y (by simp [hy])).2⟩)
    simp only [List.length_cons]; omega

set_option maxHeartbeats 8000000 in
theorem specChain (b off cap b2 off2 cap2 n : Nat) (l L : List Int) (mt : Nat → Nat) (p : Nat) (v : Value) (w : World) (hn : l.length = n) (hnL : L.length = n) (hb : b < w.heap.size) (hb2 : b2 < w.heap.size) (hat : At w b off l) (hatL : At w b2 off2 L) (hl : n ≤ 1000)
    (ht : Hid (Txt (cl l) (fn L) n mt)) (hp : p < n) (hbeg : begB (fn L) p = true) (B0 : Nat) (hv : OwnI w B0 v (natL (pieceN (fn L) p n))) :
    Calls Tryz.prog 57 #[.slice (some ⟨b, off, none⟩) n cap, .slice (some ⟨b2, off2, none⟩) n cap2, v] w fun e w' => (∃ v', e = .returned v' ∧ OwnI w' w.heap.size v' (natL (chainN (cl l) (fn L) n mt p))) ∧ Below w.heap.size w w' := by
  have HN : Hid _ := hn
  have HNL : Hid _ := hnL
  have HA : Hid (∀ w', Below w.heap.size w w' → At w' b off l) := fun w' hw => hat.below hw hb
  have HAL : Hid (∀ w', Below w.heap.size w w' → At w' b2 off2 L) := fun w' hw => hatL.below hw hb2
  have hmt : Hid (MateFn (cl l) n mt) := ht.out.mates
  have ho := own_empty w w.heap.size 3 (Nat.le_refl _) rfl
  have HO : Hid (OwnI (w.alloc (.cells #[] 3)) w.heap.size (.slice (some ⟨w.heap.size, 0, none⟩) 0 0) []) := ho
  have HV : Hid (OwnI (w.alloc (.cells #[] 3)) B0 v (natL (pieceN (fn L) p n))) := hv.below ((Below.refl _ _).alloc (Nat.le_refl _) _)
  have HB0 : Hid (Below w.heap.size w (w.alloc (.cells #[] 3))) := (Below.refl _ _).alloc (Nat.le_refl _) _
  have HBG : Hid _ := hbeg
  have hpl : (natL (pieceN (fn L) p n)).length ≤ 1000 := by
    rw [natL_len]; unfold pieceN; have := List.length_filter_le (ofB (fn L) p) (List.range n); rw [List.length_range] at this; omega
  have hl4 : n ≤ 4194304 := by omega
  clear hn hnL hat hatL ho hv hbeg
  have hwsz : w.heap.size ≤ (w.alloc (.cells #[] 3)).heap.size := by simp
  go_enter Tryz.func57, Tryz.ntmps57
  go_wp2_with (at_builtin; refine own_appendOwn (.tmp 10) (.tmp 11) HO.out HV.out (by simp; omega) hwsz rfl rfl rfl rfl ?_; intro v1 w1 hown1 hgr1)
  have H1 : Hid (OwnI w1 w.heap.size v1 (natL (pieceN (fn L) p n))) := by show OwnI _ _ _ _; simpa using hown1
  have HB1 : Hid (Below w.heap.size w w1) := grown_below HB0.out hgr1 HO.out (Nat.le_refl _) hwsz
  clear hown1 hgr1 HO HV
  go_loopg [7] n (fun g x7 wr => ∃ (uv : Value) (pre : List Nat) (q : Nat), x7 = uv ∧ Hid (OwnI wr w.heap.size uv (natL (pre ++ pieceN (fn L) q n))) ∧ Hid (begB (fn L) q = true ∧ q < n ∧ chainN (cl l) (fn L) n mt p = pre ++ chainN (cl l) (fn L) n mt q) ∧ n - q ≤ g ∧ Hid (Below w.heap.size w wr))
  case atStart => exact ⟨v1, [], p, rfl, H1.out, ⟨HBG.out, hp, rfl⟩, by omega, HB1.out⟩
  case round =>
    obtain ⟨uv, pre, q, e7, hv, hq, hg, hbel⟩ := hrel
    rw [e7]
    clear e7
    obtain ⟨hq1, hq2, hq3⟩ := hq.out
    obtain ⟨pp, hpp⟩ := piece_last hq1 n hq2
    obtain ⟨a1, a2, a3⟩ := last_spec hq1 hq2
    obtain ⟨lp, hlp⟩ : ∃ lp, lastP (fn L) q n = lp := ⟨_, rfl⟩
    rw [hlp] at hpp a2
    have hlst : pre ++ pieceN (fn L) q n = (pre ++ pp) ++ [lp] := by rw [hpp, List.append_assoc]
    have HLP : Hid _ := hlp
    have hlenc := chain_len ht.out n p HBG.out hp (by omega)
    have hcl := inc_len hlenc.1 hlenc.2
    have hcq := chain_eq ht.out hq1 hq2
    have hlen : (pre ++ pieceN (fn L) q n).length ≤ 1000 := by
      rw [hq3, hcq] at hcl
      simp only [List.length_append] at hcl ⊢; omega
    obtain ⟨m, hm⟩ : ∃ m, (pre ++ pp).length = m := ⟨_, rfl⟩
    have hvv := hv.out
    rw [hlst] at hvv
    have hll : (natL (pre ++ pp ++ [lp])).length = m + 1 := by rw [natL_len, List.length_append, hm]; rfl
    obtain ⟨g, cp, hvf, hgm⟩ : ∃ g cp, uv = .slice (some ⟨g, 0, none⟩) (m + 1) cp ∧ m + 1 ≤ cp := by
      rcases hvv.forms with ⟨_, e⟩ | ⟨g, cp, e, _, _, e2, _⟩
      · exfalso; rw [e] at hll; simp at hll
      · rw [hll] at e e2; exact ⟨g, cp, e, e2⟩
    have hcl0 : wr.cell? ⟨g, m, none⟩ = some (.int .i64 (lp : Int)) := by
      rw [hvf] at hvv
      rw [hvv.cellN m (by omega), ← hm, fn_natL_last]
    have HV3 : Hid (OwnI wr w.heap.size uv (natL (pre ++ pieceN (fn L) q n))) := hv.out
    rw [hvf] at HV3
    have hmb : m ≤ 1000 := by have := hlen; rw [hlst, List.length_append, hm] at this; simp at this; omega
    have hn1000 : (natL (pre ++ pieceN (fn L) q n)).length ≤ 1000 := by rw [natL_len]; exact hlen
    have HCQ : Hid (chainN (cl l) (fn L) n mt q = pieceN (fn L) q n ++ (match scN (cl l) (fn L) n mt q with | some j => chainN (cl l) (fn L) n mt j | none => [])) := hcq
    have HQ3 : Hid (chainN (cl l) (fn L) n mt p = pre ++ chainN (cl l) (fn L) n mt q) := hq3
    have HQ1 : Hid _ := hq1
    have hc : wr.cell? ⟨b, off + lp, none⟩ = some (.int .i64 (fn l lp)) := HA.out wr hbel.out lp (by have := HN.out; omega)
    have hlpi : (lp : Int) < (n : Int) := by omega
    obtain ⟨ck, hck⟩ : ∃ ck, bidi (fn l lp) = ck := ⟨_, rfl⟩
    have HCK : Hid _ := hck
    have hclk : Hid (cl l lp = ck) := hck
    clear hck hq1 hq3 hcq hlst hpp hlp hvv hll hm hlen hcl hlenc a1 a3 hv hq
    subst hvf
    cases ho : opensB ck
    · have HOP : Hid _ := ho
      have hend : Hid (chainN (cl l) (fn L) n mt p = pre ++ pieceN (fn L) q n) := by
        show _ = _
        rw [HQ3.out, HCQ.out, sc_none (.inl (by rw [HLP.out, hclk.out]; exact ho))]
        simp
      clear ho
      go_wp2_with (first | (go_at_call 33; refine (specBidi _ _).mono ?_; rintro e w3 ⟨rfl, b3⟩; rw [HCK.out]) | (go_at_call 59; refine (specOpens _ _).mono ?_; rintro e w4 ⟨rfl, rfl⟩; rw [HOP.out]))
      go_ret
      exact ⟨⟨_, rfl, by rw [hend.out]; exact HV3.out.below b3⟩, bstep hbel.out b3⟩
    · have HOP : Hid _ := ho
      have HOC : Hid (opensB (cl l lp) = true) := by rw [hclk.out]; exact ho
      have hml := mt_gt hmt.out a2 HOC.out
      clear ho
      by_cases hmn : mt lp = n
      · have hend : Hid (chainN (cl l) (fn L) n mt p = pre ++ pieceN (fn L) q n) := by
          show _ = _
          rw [HQ3.out, HCQ.out, sc_none (.inr (by rw [HLP.out]; exact hmn))]
          simp
        have HMN : Hid _ := hmn
        clear hmn hml
        go_wp2_with (first | (go_at_call 33; refine (specBidi _ _).mono ?_; rintro e w3 ⟨rfl, b3⟩; rw [HCK.out]) | (go_at_call 59; refine (specOpens _ _).mono ?_; rintro e w4 ⟨rfl, rfl⟩; rw [HOP.out]) | (go_at_call 60; refine (specMateL b off cap n l mt _ lp _ HN.out (Nat.lt_of_lt_of_le hb (bstep hbel.out b3).size) (HA.out _ (bstep hbel.out b3)) hl4 hmt rfl a2 HOC.out).mono ?_; rintro e w5 ⟨rfl, b5⟩; rw [HMN.out]))
        go_ret
        exact ⟨⟨_, rfl, by rw [hend.out]; exact (HV3.out.below b3).below b5⟩, bstep (bstep hbel.out b3) b5⟩
      · have hmlt : mt lp < n := by omega
        have hsc := sc_is (c := cl l) (lv := fn L) (n := n) (mt := mt) (b := q) (by rw [HLP.out]; exact HOC.out) (by rw [HLP.out]; exact hmlt)
        rw [HLP.out] at hsc
        obtain ⟨_, _, _, hbj, hlt, _⟩ := sc_some ht.out HQ1.out hq2 hsc
        obtain ⟨j, hj⟩ : ∃ j, mt lp = j := ⟨_, rfl⟩
        have hcc : Hid (chainN (cl l) (fn L) n mt p = (pre ++ pieceN (fn L) q n) ++ chainN (cl l) (fn L) n mt j) := by
          show _ = _
          rw [HQ3.out, HCQ.out, hsc, List.append_assoc, hj]
        rw [hj] at hbj hlt hmlt
        have HJ : Hid _ := hj
        have HBJ : Hid _ := hbj
        have hne : ((j : Int) == (n : Int)) = false := by simp; omega
        have hlenJ : (natL (pieceN (fn L) j n)).length ≤ 1000 := by
          rw [natL_len]; unfold pieceN; have := List.length_filter_le (ofB (fn L) j) (List.range n); rw [List.length_range] at this; omega
        clear hj hsc hbj hml hmn
        go_wp2_with (first | (go_at_call 33; refine (specBidi _ _).mono ?_; rintro e w3 ⟨rfl, b3⟩; rw [HCK.out]) | (go_at_call 59; refine (specOpens _ _).mono ?_; rintro e w4 ⟨rfl, rfl⟩; rw [HOP.out]) | (go_at_call 60; refine (specMateL b off cap n l mt _ lp _ HN.out (Nat.lt_of_lt_of_le hb (bstep hbel.out b3).size) (HA.out _ (bstep hbel.out b3)) hl4 hmt rfl a2 HOC.out).mono ?_; rintro e w5 ⟨rfl, b5⟩; rw [HJ.out]) | (go_at_call 55; refine (specRun b2 off2 cap2 n L j _ _ HNL.out (Nat.lt_of_lt_of_le hb2 (bstep (bstep hbel.out b3) b5).size) (HAL.out _ (bstep (bstep hbel.out b3) b5)) hl hmlt rfl HBJ.out).mono ?_; rintro e w6 ⟨⟨v6, rfl, o6⟩, b6⟩; have H6 : Hid (OwnI w6 w.heap.size (.slice (some ⟨g, 0, none⟩) (m + 1) cp) (natL (pre ++ pieceN (fn L) q n))) := ((HV3.out.below b3).below b5).below b6; have O6 : Hid (OwnI w6 w5.heap.size v6 (natL (pieceN (fn L) j n))) := o6; have HB6 : Hid (Below w.heap.size w w6) := bstep (bstep (bstep hbel.out b3) b5) b6; clear o6) | (at_builtin; refine own_appendOwn (.tmp 35) (.tmp 38) H6.out O6.out (by omega) HB6.out.size rfl rfl rfl rfl ?_; intro v7 w7 hown7 hgr7))
        go_roundg (gk - 1)
        case measure => omega
        case rel =>
          refine ⟨_, pre ++ pieceN (fn L) q n, j, rfl, ?_, ⟨HBJ.out, hmlt, hcc.out⟩, by omega, grown_below HB6.out hgr7 H6.out (Nat.le_refl _) HB6.out.size⟩
          rw [natL_app (pre ++ pieceN (fn L) q n)]; exact hown7
end Go.Proofs.YtgojdlbidjnmmabGreat
namespace Go.Proofs.YtgojdlbidjnmmabGreat
set_option linter.unusedSimpArgs false
set_option linter.unusedVariables false

section
variable {c lv : Nat → Int} {n : Nat} {mt : Nat → Nat}
theorem start_nopred (ht : Txt c lv n mt) {b b1 : Nat} (hs : startN c lv mt b = true) (hb : begB lv b1 = true) (hbn : b1 < n) (h : scN c lv n mt b1 = some b) : False := by
  obtain ⟨_, _, _, _, _, _, h22, hcl⟩ := sc_some ht hb hbn h
  unfold startN at hs
  rw [hcl] at hs
  simp [h22] at hs
theorem pred_inj (ht : Txt c lv n mt) {j b1 b2 : Nat} (hb1 : begB lv b1 = true) (hn1 : b1 < n) (h1 : scN c lv n mt b1 = some j) (hb2 : begB lv b2 = true) (hn2 : b2 < n) (h2 : scN c lv n mt b2 = some j) : b1 = b2 := by
  obtain ⟨_, _, _, _, _, m1, _⟩ := sc_some ht hb1 hn1 h1
  obtain ⟨_, _, _, _, _, m2, _⟩ := sc_some ht hb2 hn2 h2
  have e := mate_inj m1 m2
  have e1 := (of_seen (last_spec hb1 hn1).1).2
  have e2 := (of_seen (last_spec hb2 hn2).1).2
  rw [e] at e1
  exact e1.symm.trans e2
theorem has_pred (ht : Txt c lv n mt) {b : Nat} (hb : begB lv b = true) (hbn : b < n) (hs : startN c lv mt b = false) : ∃ b1, begB lv b1 = true ∧ b1 < b ∧ scN c lv n mt b1 = some b := by
  unfold startN at hs
  rw [hb] at hs
  simp only [Bool.true_and, Bool.not_eq_false', Bool.and_eq_true, decide_eq_true_eq] at hs
  obtain ⟨_, hcl⟩ := hs
  unfold closN at hcl
  rw [List.any_eq_true] at hcl
  obtain ⟨i, hi, h2⟩ := hcl
  rw [List.mem_range] at hi
  simp only [Bool.and_eq_true, beq_iff_eq] at h2
  obtain ⟨ho, rfl⟩ := h2
  obtain ⟨q1, q2⟩ := mate_last (ht.win i (by omega) ho hbn) hi hbn hb
  refine ⟨_, q1, by have := bg_lt lv i; omega, ?_⟩
  unfold scN
  rw [q2, if_pos ⟨ho, hbn⟩]
/-- One piece comes, by others, of another one. -/
def rch (c lv : Nat → Int) (n : Nat) (mt : Nat → Nat) : Nat → Nat → Nat → Prop
  | 0, s, b => s = b
  | d + 1, s, b => s = b ∨ ∃ b1, begB lv b1 = true ∧ b1 < n ∧ scN c lv n mt b1 = some b ∧ rch c lv n mt d s b1
theorem rch_pre {s j : Nat} (hs : begB lv s = true) (hn : s < n) (h : scN c lv n mt s = some j) : ∀ d b, rch c lv n mt d j b → rch c lv n mt (d + 1) s b
  | 0, b, e => by
    have e : j = b := e
    subst e
    exact .inr ⟨s, hs, hn, h, rfl⟩
  | d + 1, b, e => by
    rcases e with e | ⟨b1, h1, h2, h3, h4⟩
    · subst e; exact .inr ⟨s, hs, hn, h, .inl rfl⟩
    · exact .inr ⟨b1, h1, h2, h3, rch_pre hs hn h d b1 h4⟩
theorem chain_in (ht : Txt c lv n mt) : ∀ e s, begB lv s = true → s < n → n - s ≤ e → ∀ x, x ∈ chainN c lv n mt s → ∃ d b, rch c lv n mt d s b ∧ begB lv b = true ∧ b < n ∧ x ∈ pieceN lv b n := by
  intro e
  induction e with
  | zero => intro s _ h1 h2; omega
  | succ e ih =>
    intro s hs hn he x hx
    rw [chain_eq ht hs hn, List.mem_append] at hx
    rcases hx with hx | hx
    · exact ⟨0, s, rfl, hs, hn, hx⟩
    · cases hsc : scN c lv n mt s with
      | none => rw [hsc] at hx; simp at hx
      | some j =>
        rw [hsc] at hx
        obtain ⟨_, _, hj, hbj, hlt, _⟩ := sc_some ht hs hn hsc
        obtain ⟨d, b, h1, h2, h3, h4⟩ := ih j hbj hj (by omega) x hx
        exact ⟨d + 1, b, rch_pre hs hn hsc d b h1, h2, h3, h4⟩
theorem rch_one (ht : Txt c lv n mt) : ∀ e b, b ≤ e → ∀ d d' s s', startN c lv mt s = true → startN c lv mt s' = true → rch c lv n mt d s b → rch c lv n mt d' s' b → s = s' := by
  intro e
  induction e with
  | zero =>
    intro b hb d d' s s' h1 h2 r1 r2
    have key : ∀ d s, startN c lv mt s = true → rch c lv n mt d s b → s = b := fun d s hs r => by
      cases d with
      | zero => exact r
      | succ d =>
        rcases r with r | ⟨b1, q1, q2, q3, _⟩
        · exact r
        · obtain ⟨_, _, _, _, hlt, _⟩ := sc_some ht q1 q2 q3; omega
    rw [key d s h1 r1, key d' s' h2 r2]
  | succ e ih =>
    intro b hb d d' s s' h1 h2 r1 r2
    have key : ∀ d s, rch c lv n mt d s b → s = b ∨ ∃ d1 b1, begB lv b1 = true ∧ b1 < n ∧ scN c lv n mt b1 = some b ∧ rch c lv n mt d1 s b1 := fun d s r => by
      cases d with
      | zero => exact .inl r
      | succ d =>
        rcases r with r | ⟨b1, q1, q2, q3, q4⟩
        · exact .inl r
        · exact .inr ⟨d, b1, q1, q2, q3, q4⟩
    rcases key d s r1 with rfl | ⟨d1, b1, q1, q2, q3, q4⟩ <;> rcases key d' s' r2 with rfl | ⟨d2, b2, p1, p2, p3, p4⟩
    · rfl
    · exact (start_nopred ht h1 p1 p2 p3).elim
    · exact (start_nopred ht h2 q1 q2 q3).elim
    · have e12 := pred_inj ht q1 q2 q3 p1 p2 p3
      subst e12
      obtain ⟨_, _, _, _, hlt, _⟩ := sc_some ht q1 q2 q3
      exact ih b1 (by omega) d1 d2 s s' h1 h2 q4 p4
theorem cover (ht : Txt c lv n mt) : ∀ e b, b ≤ e → begB lv b = true → b < n → ∃ s, s < n ∧ startN c lv mt s = true ∧ ∃ p, chainN c lv n mt s = p ++ chainN c lv n mt b := by
  intro e
  induction e with
  | zero =>
    intro b hb hbb hbn
    cases hs : startN c lv mt b with
    | true => exact ⟨b, hbn, hs, [], rfl⟩
    | false => obtain ⟨b1, _, h2, _⟩ := has_pred ht hbb hbn hs; omega
  | succ e ih =>
    intro b hb hbb hbn
    cases hs : startN c lv mt b with
    | true => exact ⟨b, hbn, hs, [], rfl⟩
    | false =>
      obtain ⟨b1, h1, h2, h3⟩ := has_pred ht hbb hbn hs
      obtain ⟨s, hsn, hst, p, hp⟩ := ih b1 (by omega) h1 (by omega)
      refine ⟨s, hsn, hst, p ++ pieceN lv b1 n, ?_⟩
      rw [hp, chain_eq ht h1 (by omega), h3, List.append_assoc]
/-- A place in a run is seen, and is of the level of its first one. -/
theorem chain_lv (ht : Txt c lv n mt) : ∀ e s, begB lv s = true → s < n → n - s ≤ e → ∀ x, x ∈ chainN c lv n mt s → 0 ≤ lv x ∧ x < n ∧ lv x = lv s := by
  intro e
  induction e with
  | zero => intro s _ h1 h2; omega
  | succ e ih =>
    intro s hs hn he x hx
    rw [chain_eq ht hs hn, List.mem_append] at hx
    rcases hx with hx | hx
    · obtain ⟨h1, h2⟩ := piece_mem.1 hx
      exact ⟨(of_seen h2).1, h1, (of_beg h2).2⟩
    · cases hsc : scN c lv n mt s with
      | none => rw [hsc] at hx; simp at hx
      | some j =>
        rw [hsc] at hx
        obtain ⟨ho, hmj, hj, hbj, hlt, _⟩ := sc_some ht hs hn hsc
        obtain ⟨h1, h2, h3⟩ := ih j hbj hj (by omega) x hx
        have hl := last_spec hs hn
        have hw := ht.win _ hl.2.1 ho (by rw [hmj]; exact hj)
        rw [hmj] at hw
        have h4 := (of_beg hl.1).2
        exact ⟨h1, h2, by rw [h3, ← h4]; exact hw.same⟩
theorem runs_nodup (ht : Txt c lv n mt) : (runsTo c lv n mt n).flatten.Nodup := by
  unfold List.Nodup
  rw [List.pairwise_flatten]
  refine ⟨fun l hl => ?_, ?_⟩
  · unfold runsTo at hl
    rw [List.mem_map] at hl
    obtain ⟨s, hs, rfl⟩ := hl
    rw [List.mem_filter, List.mem_range] at hs
    exact (chain_len ht (n - s) s (start_beg hs.2) hs.1 (Nat.le_refl _)).1.imp (fun h => by omega)
  · unfold runsTo
    rw [List.pairwise_map]
    have hp : ((List.range n).filter (startN c lv mt)).Pairwise (fun a b => a < b) := List.pairwise_lt_range.sublist List.filter_sublist
    rw [List.pairwise_iff_getElem] at hp ⊢
    intro i j hi hj hij x hx y hy e
    subst e
    have m1 := List.getElem_mem hi
    have m2 := List.getElem_mem hj
    rw [List.mem_filter, List.mem_range] at m1 m2
    obtain ⟨d1, b1, r1, _, _, p1⟩ := chain_in ht n _ (start_beg m1.2) m1.1 (by omega) x hx
    obtain ⟨d2, b2, r2, _, _, p2⟩ := chain_in ht n _ (start_beg m2.2) m2.1 (by omega) x hy
    have e1 := (of_seen (piece_mem.1 p1).2).2
    have e2 := (of_seen (piece_mem.1 p2).2).2
    rw [e1] at e2
    subst e2
    have := rch_one ht b1 b1 (Nat.le_refl _) d1 d2 _ _ m1.2 m2.2 r1 r2
    have := hp i j hi hj hij
    omega
theorem runs_mem (ht : Txt c lv n mt) (x : Nat) : x ∈ (runsTo c lv n mt n).flatten ↔ x < n ∧ 0 ≤ lv x := by
  rw [List.mem_flatten]
  constructor
  · rintro ⟨l, hl, hx⟩
    unfold runsTo at hl
    rw [List.mem_map] at hl
    obtain ⟨s, hs, rfl⟩ := hl
    rw [List.mem_filter, List.mem_range] at hs
    obtain ⟨h1, h2, _⟩ := chain_lv ht n s (start_beg hs.2) hs.1 (by omega) x hx
    exact ⟨h2, h1⟩
  · rintro ⟨hx, h0⟩
    obtain ⟨h1, h2, _⟩ := of_self h0
    have hlt := bg_lt lv x
    obtain ⟨s, hsn, hst, p, hp⟩ := cover ht n (bgL lv (x + 1)) (by omega) h2 (by omega)
    refine ⟨chainN c lv n mt s, ?_, ?_⟩
    · unfold runsTo; rw [List.mem_map]; exact ⟨s, by rw [List.mem_filter, List.mem_range]; exact ⟨hsn, hst⟩, rfl⟩
    · rw [hp, chain_eq ht h2 (by omega)]
      simp only [List.mem_append]
      exact .inr (.inl (piece_mem.2 ⟨hx, h1⟩))
theorem runs_count (ht : Txt c lv n mt) (x : Nat) (hx : x < n) : (runsTo c lv n mt n).flatten.count x = if 0 ≤ lv x then 1 else 0 := by
  by_cases h : 0 ≤ lv x
  · rw [if_pos h]
    have hm := (runs_mem ht x).2 ⟨hx, h⟩
    have h1 := (List.nodup_iff_count.1 (runs_nodup ht)) x
    have h2 := List.count_pos_iff.2 hm
    omega
  · rw [if_neg h]
    exact List.count_eq_zero.2 (fun hm => h ((runs_mem ht x).1 hm).2)
end
end Go.Proofs.YtgojdlbidjnmmabGreat
