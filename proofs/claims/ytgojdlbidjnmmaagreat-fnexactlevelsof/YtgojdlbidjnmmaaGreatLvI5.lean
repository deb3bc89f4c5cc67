import Derived.Test.YtgojdlbidjnmmaaGreatLvI4
import Derived.Test.YtgojdlbidjnmmaaGreatMtL
import Derived.Test.YtgojdlbidjnmmaaGreatWeakTop
import Derived.Test.YtgojdlbidjnmmaaGreatPlainTopI
namespace Go.Proofs.YtgojdlbidjnmmaaGreat
open Go.ChangeShapes Go.WideShapes Go.ChangeAt Go.RowKit Go.Deep
set_option linter.unusedSimpArgs false
set_option linter.unusedVariables false

theorem rrmono {w : World} {B B' : Nat} {v : Value} {vs : List Value} {rows : List (List Int)} (h : RR w B v vs rows) (hB : B' ≤ B) : RR w B' v vs rows :=
  ⟨h.len, h.own.mono hB, fun j hj => (h.row j hj).mono hB, h.apv, h.app⟩
theorem cellB {w : World} {B : Nat} {vs : List Value} {rows : List (List Int)} {g n cap : Nat} (h : RR w B (.slice (some ⟨g, 0, none⟩) n cap) vs rows) (j : Nat) (hj : j < n) : w.cell? ⟨g, j, none⟩ = some (vN vs j) := by
  have hown := h.own
  obtain ⟨a, c, e⟩ := hown.slc
  simp only [Value.slice.injEq] at e
  obtain ⟨rfl, rfl, rfl⟩ := e
  have hl := h.len
  rw [hown.cell j (by omega)]
  simp [vN, show j < vs.length by omega]
theorem bt_made (V : World) (T : TypeId) {g9 gw m cw B9 BW : Nat} {bf o : Int} {X Wk : List Int} (h9 : OwnI V B9 (.slice (some ⟨g9, 0, none⟩) (m + 1) (m + 1)) X) (hw : OwnI V BW (.slice (some ⟨gw, 0, none⟩) (m + 1) cw) Wk) (hne : gw ≠ g9) :
    BT (V.alloc (.cells #[.slice (some ⟨g9, 0, none⟩) (m + 1) (m + 1), .slice (some ⟨gw, 0, none⟩) (m + 1) cw, .int .i64 bf, .int .i64 o] T)) V.heap.size g9 gw (m + 1) cw bf o X Wk := by
  have hb : Below V.heap.size V (V.alloc (.cells #[.slice (some ⟨g9, 0, none⟩) (m + 1) (m + 1), .slice (some ⟨gw, 0, none⟩) (m + 1) cw, .int .i64 bf, .int .i64 o] T)) := (Below.refl _ _).alloc (Nat.le_refl _) _
  have t0 := heap_alloc_new V (.cells #[.slice (some ⟨g9, 0, none⟩) (m + 1) (m + 1), .slice (some ⟨gw, 0, none⟩) (m + 1) cw, .int .i64 bf, .int .i64 o] T)
  exact ⟨by simp, cell_of_row _ _ 0 _ _ (0, 0) t0, cell_of_row _ _ 1 _ _ (0, 0) t0, cell_of_row _ _ 2 _ _ (0, 0) t0, cell_of_row _ _ 3 _ _ (0, 0) t0, (h9.below hb).mono (Nat.zero_le _), (hw.below hb).mono (Nat.zero_le _), hne, fun e => by have := (hw.lt gw rfl).2; omega⟩
theorem BT.kept {w w' : World} {K gt g n cp : Nat} {bf o : Int} {td x : List Int} (h : BT w K gt g n cp bf o td x) (hb : Below w.heap.size w w') : BT w' K gt g n cp bf o td x := h.below hb
theorem clsL_ok {x : List Int} {n : Nat} (h : ClsL x) (hx : x.length = n) (hn : n ≤ 80) : clsOk (fn x) n = true := by
  rw [clsOk_yes (fun j hj => h j (by omega))]; simpa using hn
theorem weakL_cls {x : List Int} {b : Int} (h : ClsL x) (hb : b = 1 ∨ b = 2) : ClsL (weakL x b) := fun j hj => by
  rw [weakL_len] at hj
  exact (weak_is hb (fun k hk => h k hk) hj).cls
/-- What is wanted of a run. -/
structure RunOk (l cls : List Int) (n m : Nat) (lvl : Int) (r : List Nat) : Prop where
  len : r.length = m + 1
  m80 : m + 1 ≤ 80
  inn : ∀ x ∈ r, x < n
  ok : okF (fn (pickL r l)) (m + 1) = true
  cls : ClsL (pickL r cls)
  lv0 : 0 ≤ lvl
  lv22 : lvl ≤ 22

set_option maxRecDepth 10000 in
set_option maxHeartbeats 8000000 in
theorem implResolve (g m cap bl ol cl' : Nat) (r : List Nat) (l : List Int) (lvl : Int) {B T gm gq gl gc n : Nat} {base : Int} {cs M L cls : List Int} {c : Nat → Int} {mt : Nat → Nat} (w : World) (h : TT w B T gm gq gl gc n base cs M L cls) (hn80 : n ≤ 80) (hr : RunOk l cls n m lvl r) (hg : g < w.heap.size) (hgr : At w g 0 (natL r)) (hbl : bl < w.heap.size) (hl : At w bl ol l) (hln : l.length = n) (hcs : ∀ j, j < n → fn cs j = c j) (hsm : SameMates c n mt M) (hbd : 0 ≤ base ∧ base ≤ 22) (hlv : ∀ j, fn L j ≤ 22) :
    Calls Tryz.prog 34 #[.pointer (some ⟨T, 0, none⟩), .agg #[.slice (some ⟨g, 0, none⟩) (m + 1) cap, .int .i64 lvl], .slice (some ⟨bl, ol, none⟩) n cl'] w fun e w' => (∃ v, e = .returned v ∧ OwnI w' w.heap.size v (resF l cls (sidA (fn L) base lvl (r.headD 0)) (sidB c (fn L) n mt base lvl (r.getLastD 0)) lvl r)) ∧ Below w.heap.size w w' := by
  obtain ⟨W, hW⟩ : ∃ W, w.alloc (.cells #[.slice (some ⟨g, 0, none⟩) (m + 1) cap, .int .i64 lvl] 49) = W := ⟨_, rfl⟩
  have hBW : Below w.heap.size w W := by rw [← hW]; exact (Below.refl _ _).alloc (Nat.le_refl _) _
  have hWs : W.heap.size = w.heap.size + 1 := by rw [← hW]; simp
  have t0 : W.heap[w.heap.size]? = some (.cells #[.slice (some ⟨g, 0, none⟩) (m + 1) cap, .int .i64 lvl] 49) := by rw [← hW]; exact heap_alloc_new _ _
  have hf0 : w.cell? ⟨g, 0, none⟩ = some (.int .i64 ((r.headD 0 : Nat) : Int)) := by
    have := hgr 0 (by rw [natL_len, hr.len]; omega)
    rw [Nat.zero_add] at this
    rw [this]
    have hl0 := hr.len
    cases r with
    | nil => simp at hl0
    | cons a t => rfl
  have hfm : w.cell? ⟨g, m, none⟩ = some (.int .i64 ((r.getLastD 0 : Nat) : Int)) := by
    have := hgr m (by rw [natL_len, hr.len]; omega)
    rw [Nat.zero_add] at this
    rw [this, fn_natL (by rw [hr.len]; omega)]
    have hl0 := hr.len
    have e : r.getLastD 0 = r[m]'(by omega) := by
      rw [List.getLastD_eq_getLast?, List.getLast?_eq_getElem?, show r.length - 1 = m by omega]; simp [hl0]
    rw [e]
  have hfn : r.headD 0 < n := by
    have hl0 := hr.len
    cases r with
    | nil => simp at hl0
    | cons a t => exact hr.inn a (by simp)
  have hln2 : r.getLastD 0 < n := by
    have hl0 := hr.len
    have e : r.getLastD 0 = r[m]'(by omega) := by
      rw [List.getLastD_eq_getLast?, List.getLast?_eq_getElem?, show r.length - 1 = m by omega]; simp [hl0]
    rw [e]; exact hr.inn _ (List.getElem_mem _)
  obtain ⟨f, hf⟩ : ∃ f, r.headD 0 = f := ⟨_, rfl⟩
  obtain ⟨t, ht⟩ : ∃ t, r.getLastD 0 = t := ⟨_, rfl⟩
  rw [hf] at hf0 hfn ⊢
  rw [ht] at hfm hln2 ⊢
  have hSD := implSides g m cap f t lvl (c := c) (mt := mt) W (h.below hBW) hn80 hr.lv0 hr.lv22 ((World.cell?_of_block (hBW.block g hg)).trans hf0) ((World.cell?_of_block (hBW.block g hg)).trans hfm) (by have := hr.m80; omega) hfn hln2 (Nat.lt_of_lt_of_le hg hBW.size) hcs hsm hbd hlv
  obtain ⟨bf, hbf⟩ : ∃ bf, sidA (fn L) base lvl f = bf := ⟨_, rfl⟩
  obtain ⟨af, haf⟩ : ∃ af, sidB c (fn L) n mt base lvl t = af := ⟨_, rfl⟩
  have hbfs : sideB bf = true := by rw [← hbf]; exact ownOf_side _
  have hafs : sideB af = true := by rw [← haf]; exact ownOf_side _
  rw [hbf, haf] at hSD ⊢
  have HSD : Hid _ := hSD
  have HW : Hid _ := hW
  have HT : Hid (TT w B T gm gq gl gc n base cs M L cls) := h
  have HBW : Hid (Below w.heap.size w W) := hBW
  have HR : Hid (RunOk l cls n m lvl r) := hr
  have HG : Hid (At w g 0 (natL r)) := hgr
  have HL : Hid (At w bl ol l) := hl
  have HLN : Hid (l.length = n) := hln
  have HBX : Hid (∀ V, Below W.heap.size W V → V.cell? ⟨w.heap.size, 0, none⟩ = some (.slice (some ⟨g, 0, none⟩) (m + 1) cap) ∧ V.cell? ⟨w.heap.size, 1, none⟩ = some (.int .i64 lvl)) := fun V hV => by
    have hb := (hV.block w.heap.size (by omega)).trans t0
    exact ⟨cell_of_row V w.heap.size 0 _ _ (0, 0) hb, cell_of_row V w.heap.size 1 _ _ (0, 0) hb⟩
  have HBF : Hid (sideB bf = true) := hbfs
  have HAF : Hid (sideB af = true) := hafs
  have HWs : Hid (W.heap.size = w.heap.size + 1) := hWs
  obtain ⟨b0, b1⟩ := HBX.out W (Below.refl _ _)
  have hm80 := hr.m80
  clear h hBW t0 hf0 hfm hfn hln2 hf ht hSD hbf haf hbfs hafs hW hr hgr hl hln hcs hsm hbd hlv
  go_enter Tryz.func34, Tryz.ntmps34
  go_upto_region 1 with fail
  rw [HW.out]
  go_wp2_with (go_at_call 63; refine Calls.mono HSD.out ?_; rintro e w2 ⟨rfl, b2⟩; have B2 : Hid (Below W.heap.size W w2) := b2; obtain ⟨c0, c1⟩ := HBX.out w2 b2; have c4 := ((HT.out.below HBW.out).below b2).c4; clear b2)
  have HPK : Hid (∀ V, Below w.heap.size w V → ∀ v ls, ((v = .slice (some ⟨gc, 0, none⟩) n n ∧ ls = cls) ∨ (v = .slice (some ⟨bl, ol, none⟩) n cl' ∧ ls = l)) → Calls Tryz.prog 64 #[.slice (some ⟨g, 0, none⟩) (m + 1) cap, v] V fun e w' => (∃ g', e = .returned (.slice (some ⟨g', 0, none⟩) (m + 1) (m + 1)) ∧ OwnI w' V.heap.size (.slice (some ⟨g', 0, none⟩) (m + 1) (m + 1)) (pickL r ls)) ∧ Below V.heap.size V w') := fun V hV v ls hv => by
    have hTV := HT.out.below hV
    rcases hv with ⟨rfl, rfl⟩ | ⟨rfl, rfl⟩
    · refine implPick g (m + 1) cap gc 0 n n r ls V HR.out.len (by have := HR.out.m80; omega) (by omega) (Nat.lt_of_lt_of_le hg hV.size) (HG.out.below hV hg) (hTV.oc.lt gc rfl).2 ?_ hTV.oc.len HR.out.inn
      intro j hj
      rw [Nat.zero_add]; exact hTV.oc.cellN j (by rw [← hTV.oc.len]; exact hj)
    · exact implPick g (m + 1) cap bl ol n cl' r ls V HR.out.len (by have := HR.out.m80; omega) (by omega) (Nat.lt_of_lt_of_le hg hV.size) (HG.out.below hV hg) (Nat.lt_of_lt_of_le hbl hV.size) (HL.out.below hV hbl) HLN.out HR.out.inn
  have HB02 : Hid (Below w.heap.size w w2) := HBW.out.trans (B2.out.mono (by have := HWs.out; omega))
  go_cut [9] from 19 to 25 (fun s9 wx => ∃ g9, s9 = .slice (some ⟨g9, 0, none⟩) (m + 1) (m + 1) ∧ Hid (OwnI wx w2.heap.size (.slice (some ⟨g9, 0, none⟩) (m + 1) (m + 1)) (pickL r cls)) ∧ Hid (Below w2.heap.size w2 wx))
  case first =>
    go_region_with (go_at_call 64; refine (HPK.out _ (HB02.out.trans ((below_draws w2 1).mono HB02.out.size)) _ cls (.inl ⟨rfl, rfl⟩)).mono ?_; rintro e w3 ⟨⟨g9, rfl, o9⟩, b3⟩)
    all_goals
      go_wp2_with fail
      go_meet
      exact ⟨g9, rfl, o9, bstep (below_draws w2 1) b3⟩
  case rest =>
    obtain ⟨g9, rfl, o9, b3⟩ := hcut
    rename World => w3
    have HB03 : Hid (Below w.heap.size w w3) := HB02.out.trans (b3.out.mono HB02.out.size)
    have HBW3 : Hid (Below W.heap.size W w3) := B2.out.trans (b3.out.mono B2.out.size)
    obtain ⟨d0, d1⟩ := HBX.out w3 HBW3.out
    obtain ⟨X, hX⟩ : ∃ X, pickL r cls = X := ⟨_, rfl⟩
    have hXl : X.length = m + 1 := by rw [← hX, pickL_len, HR.out.len]
    have hXc : ClsL X := by rw [← hX]; exact HR.out.cls
    rw [hX] at o9
    have HX : Hid (pickL r cls = X) := hX
    have hb12 : bf = 1 ∨ bf = 2 := by have := HBF.out; unfold sideB at this; exact of_decide_eq_true this
    obtain ⟨Wk, hWk⟩ : ∃ Wk, weakL X bf = Wk := ⟨_, rfl⟩
    have hWl : Wk.length = m + 1 := by rw [← hWk, weakL_len, hXl]
    have hWc : ClsL Wk := by rw [← hWk]; exact weakL_cls hXc hb12
    have HWE : Hid (weakL X bf = Wk) := hWk
    obtain ⟨o, ho⟩ : ∃ o, ownOf lvl = o := ⟨_, rfl⟩
    have HOE : Hid (ownOf lvl = o) := ho
    have ho12 : o = 1 ∨ o = 2 := by rw [← ho]; unfold ownOf; split <;> simp
    have O9 : Hid (OwnI w3 w2.heap.size (.slice (some ⟨g9, 0, none⟩) (m + 1) (m + 1)) X) := o9
    have HWK : Hid (∀ V, Below w3.heap.size w3 V → Calls Tryz.prog 65 #[.slice (some ⟨g9, 0, none⟩) (m + 1) (m + 1), .int .i64 bf] V fun e w' => (∃ gw cw, e = .returned (.slice (some ⟨gw, 0, none⟩) (m + 1) cw) ∧ m + 1 ≤ cw ∧ OwnI w' V.heap.size (.slice (some ⟨gw, 0, none⟩) (m + 1) cw) Wk) ∧ Below V.heap.size V w') := fun V hV => by
      have o9V := O9.out.below hV
      refine (implWeak_row g9 0 (m + 1) (m + 1) X bf V hXl (by omega) (by omega) (Nat.le_refl _) (by unfold maxLen; omega) (o9V.lt g9 rfl).2 (fun j hj => by rw [Nat.zero_add]; exact o9V.cellN j (by omega)) (clsL_ok hXc hXl (by omega)) HBF).mono ?_
      rintro e w' ⟨⟨v', rfl, ov⟩, bv⟩
      rw [hWk] at ov
      obtain ⟨gw, cw, e, hcw⟩ := OwnI.form1 ov (by intro e; rw [e] at hWl; simp at hWl)
      rw [hWl] at e hcw
      subst e
      exact ⟨⟨gw, cw, rfl, hcw, ov⟩, bv⟩
    have HOW : Hid (∀ V, Calls Tryz.prog 66 #[.int .i64 lvl] V fun e w' => e = .returned (.int .i64 o) ∧ w' = V) := fun V => by rw [← ho]; exact implOwn lvl V HR.out.lv0
    have hg9 : g9 < w3.heap.size := (o9.out.lt g9 rfl).2
    clear hX hWk ho o9
    go_wp2_with fail
    go_cut [10] from 26 to 35 (fun s10 wx => ∃ K gw cw, s10 = .pointer (some ⟨K, 0, none⟩) ∧ m + 1 ≤ cw ∧ w3.heap.size ≤ gw ∧ Hid (BT wx K g9 gw (m + 1) cw bf o X Wk) ∧ Hid (Below w3.heap.size w3 wx))
    case first =>
      go_region_with (first | (go_at_call 65; refine (HWK.out _ (below_draws w3 1)).mono ?_; rintro e w4 ⟨⟨gw, cw, rfl, hcw, o4⟩, b4⟩; obtain ⟨e0, e1⟩ := HBX.out w4 (HBW3.out.trans ((bstep (below_draws w3 1) b4).mono HBW3.out.size))) | (go_at_call 66; refine (HOW.out _).mono ?_; rintro e w5 ⟨rfl, hw5⟩; rw [hw5]; clear hw5 w5))
      all_goals
        go_wp2_with fail
        go_meet
        refine ⟨_, gw, cw, rfl, hcw, (o4.lt gw rfl).1, bt_made w4 _ ((O9.out.below (below_draws w3 1)).below b4) o4 (by have := (o4.lt gw rfl).1; have e : (w3.drewN 1).heap.size = w3.heap.size := rfl; omega), ?_⟩
        exact (bstep (below_draws w3 1) b4).trans (((Below.refl _ _).alloc (Nat.le_refl _) _).mono b4.size)
    case rest =>
      obtain ⟨K, gw, cw, rfl, hcw, hgw3, BT4, b4⟩ := hcut
      rename World => w4
      have HB04 : Hid (Below w.heap.size w w4) := HB03.out.trans (b4.out.mono HB03.out.size)
      have HBW4 : Hid (Below W.heap.size W w4) := HBW3.out.trans (b4.out.mono HBW3.out.size)
      obtain ⟨e0, e1⟩ := HBX.out w4 HBW4.out
      have k1 := BT4.out.c1
      obtain ⟨Rn, hRn⟩ : ∃ Rn, pickL r l = Rn := ⟨_, rfl⟩
      have hRl : Rn.length = m + 1 := by rw [← hRn, pickL_len, HR.out.len]
      have hRok : okF (fn Rn) Rn.length = true := by rw [hRl, ← hRn]; exact HR.out.ok
      have HRN : Hid (pickL r l = Rn) := hRn
      obtain ⟨Ls, hLs⟩ : ∃ Ls, srtB (stB (fn Rn) (fn Wk) mate (m + 1)).2 = Ls := ⟨_, rfl⟩
      have hmr : mateR Rn Wk = rowsP Ls := by rw [mateR_yes hRok (clsL_ok hWc rfl (by omega)) (by rw [hRl, hWl]), hRl, hLs]
      have hLgood : ∀ p ∈ Ls, p.1 < p.2 ∧ p.2 < m + 1 := fun p hp => by
        rw [← hLs] at hp
        exact (good_st (fn Rn) (fn Wk) mate (m + 1)).lt2 p ((srt_perm _).mem_iff.1 hp)
      have hLl : Ls.length ≤ 80 := by rw [← hLs, srt_len]; have := (st_len (fn Rn) (fn Wk) mate (m + 1)).2; omega
      obtain ⟨N, hN⟩ : ∃ N, Ls.length = N := ⟨_, rfl⟩
      have HMT : Hid (∀ V, Below w4.heap.size w4 V → ∀ g' Bg, OwnI V Bg (.slice (some ⟨g', 0, none⟩) (m + 1) (m + 1)) Rn → Calls Tryz.prog 67 #[.slice (some ⟨g', 0, none⟩) (m + 1) (m + 1), .slice (some ⟨gw, 0, none⟩) (m + 1) cw] V fun e w' => (∃ ap cp up, e = .returned (.slice ap N cp) ∧ RR w' V.heap.size (.slice ap N cp) up (rowsP Ls)) ∧ Below V.heap.size V w') := fun V hV g' Bg og => by
        have ha1 : Arg V (.slice (some ⟨g', 0, none⟩) Rn.length (m + 1)) Rn := by rw [hRl]; exact og.arg
        have ha2 : Arg V (.slice (some ⟨gw, 0, none⟩) Wk.length cw) Wk := by rw [hWl]; exact (BT4.out.ox.below hV).arg
        have hc := implMates Rn Wk V _ _ _ _ ha1 ha2 (by omega) (by omega)
        rw [hRl, hWl] at hc
        refine hc.mono ?_
        rintro e w' ⟨⟨v, rfl, up, rr⟩, bv⟩
        rw [hmr] at rr
        obtain ⟨ap, cp, e⟩ := rr.slc
        rw [rowsP_len, hN] at e
        subst e
        exact ⟨⟨ap, cp, up, rfl, rr⟩, bv⟩
      have HLS : Hid (srtB (stB (fn Rn) (fn Wk) mate (m + 1)).2 = Ls) := hLs
      have HLG : Hid (∀ p ∈ Ls, p.1 < p.2 ∧ p.2 < m + 1) := hLgood
      have HN : Hid (Ls.length = N) := hN
      have hN80 : N ≤ 80 := by omega
      have HWC : Hid (ClsL Wk) := hWc
      have HWL : Hid (Wk.length = m + 1) := hWl
      clear hRn hRl hRok hLs hmr hLgood hLl hN hWc hWl hXl hXc
      go_wp2_with fail
      go_cut [44, 45, 46] from 36 to 46 (fun s44 s45 s46 wx => ∃ ap cp up, s44 = .slice ap N cp ∧ s45 = .int .i64 (N : Int) ∧ s46 = .int .i64 0 ∧ Hid (RR wx w4.heap.size (.slice ap N cp) up (rowsP Ls)) ∧ Hid (Below w4.heap.size w4 wx))
      case first =>
        go_region_with (first | (go_at_call 64; refine (HPK.out _ (HB04.out.trans ((below_draws w4 1).mono HB04.out.size)) _ l (.inr ⟨rfl, rfl⟩)).mono ?_; rintro e w5 ⟨⟨g5, rfl, o5⟩, b5⟩; rw [HRN.out] at o5; have k15 := (BT4.out.below (bstep (below_draws w4 1) b5)).c1) | (go_at_call 67; refine (HMT.out _ (bstep (below_draws w4 1) b5) _ _ o5).mono ?_; rintro e w6 ⟨⟨ap, cp, up, rfl, rr⟩, b6⟩))
        all_goals
          go_wp2_with fail
          go_meet
          exact ⟨ap, cp, up, rfl, rfl, rfl, rrmono rr (bstep (below_draws w4 1) b5).size, bstep (bstep (below_draws w4 1) b5) b6⟩
      case rest =>
        obtain ⟨ap, cp, up, rfl, rfl, rfl, rr5, b5⟩ := hcut
        rename World => w5
        have BT5 : Hid (BT w5 K g9 gw (m + 1) cw bf o X Wk) := BT4.out.below b5.out
        have hgw4 : gw < w4.heap.size := (BT4.out.ox.lt gw rfl).2
        have HB05 : Hid (Below w.heap.size w w5) := HB04.out.trans (b5.out.mono HB04.out.size)
        have HW05 : Hid (Below W.heap.size W w5) := HBW4.out.trans (b5.out.mono HBW4.out.size)
        have hwgw : w.heap.size < gw := by have := HBW3.out.size; have := HWs.out; omega
        have HFIN : Hid (resF l cls bf af lvl r = plainL (resTo (fn X) (m + 1) o bf Wk Ls) bf af lvl) := by
          unfold Hid resF
          rw [HX.out, HWE.out, HRN.out, HOE.out, HR.out.len, HLS.out]
        have HBX5 : Hid (∀ wr q, w5.grownBy wr (some gw) → (wr.drewN q).cell? ⟨w.heap.size, 1, none⟩ = some (.int .i64 lvl)) := fun wr q hgr => by
          have hlt : w.heap.size < w5.heap.size := by have := HW05.out.size; have := HWs.out; omega
          exact (World.cell?_of_block (hgr.block w.heap.size hlt (fun e => by simp at e; omega))).trans (HBX.out w5 HW05.out).2
        clear c0 c1 c4 d0 d1 e0 e1 k1
        go_wp2_with fail
        go_loopw [46] (fun i wr => ∃ k : Nat, k ≤ N ∧ i = .int .i64 k ∧ Hid (BT wr K g9 gw (m + 1) cw bf o X (resTo (fn X) (m + 1) o bf Wk (Ls.take k))) ∧ Hid (w5.grownBy wr (some gw))) (fun i _ => N - (intOf i).toNat)
        case atStart => exact ⟨0, Nat.zero_le _, rfl, BT5.out, grownB_refl _ _⟩
        case round =>
          obtain ⟨k, hk, rfl, hBT, hgr⟩ := hrel
          by_cases hlt : k < N
          · have hki : (k : Int) < (N : Int) := by omega
            have hkL : k < Ls.length := by rw [HN.out]; exact hlt
            have rr6 := rr5.out.kept (w' := wr) (fun b hb => hgr.out.block b (by
                rcases hb with hb | ⟨j, hj, hb⟩
                · exact (rr5.out.lt b hb).2
                · exact ((rr5.out.row j hj).lt b hb).2) (fun e => by
                simp at e
                rcases hb with hb | ⟨j, hj, hb⟩
                · have := (rr5.out.lt b hb).1; omega
                · have := ((rr5.out.row j hj).lt b hb).1; omega))
            obtain ⟨g1, c1', e1, _⟩ := rr6.own.form1 (by rw [rowsP_len]; omega)
            simp only [Value.slice.injEq] at e1
            obtain ⟨rfl, hz1', rfl⟩ := e1
            clear hz1'
            have q1 := cellB rr6 k hlt
            have row1 := rr6.row k (by rw [rowsP_len]; exact hkL)
            rw [rowsP_at hkL] at row1
            obtain ⟨gk, ck, eq0, _⟩ := OwnI.form1 row1 (by simp [rowP])
            rw [show (rowP Ls[k]).length = 2 from rfl] at eq0
            rw [eq0] at q1 row1
            obtain ⟨p1, p2⟩ := HLG.out _ (List.getElem_mem hkL)
            obtain ⟨A, hA⟩ : ∃ A, (Ls[k]).1 = A := ⟨_, rfl⟩
            obtain ⟨dd, hdd⟩ : ∃ dd, (Ls[k]).2 = A + 1 + dd := ⟨(Ls[k]).2 - (A + 1), by omega⟩
            have q2 : wr.cell? ⟨gk, 0, none⟩ = some (.int .i64 (A : Int)) := by rw [row1.cellN 0 (by omega), ← hA]; rfl
            have q3 : wr.cell? ⟨gk, 1, none⟩ = some (.int .i64 ((A + 1 + dd : Nat) : Int)) := by rw [row1.cellN 1 (by omega), ← hdd]; rfl
            have hpair : Ls[k] = (A, A + 1 + dd) := Prod.ext hA hdd
            have hnext : Hid (resTo (fn X) (m + 1) o bf Wk (Ls.take (k + 1)) = resP (fn X) (m + 1) o bf (resTo (fn X) (m + 1) o bf Wk (Ls.take k)) (A, A + 1 + dd)) := by
              unfold Hid; rw [resTo_take hkL, hpair]
            have HRP : Hid (∀ V q, V = wr.drewN q → Calls Tryz.prog 68 #[.pointer (some ⟨K, 0, none⟩), .int .i64 (A : Int), .int .i64 ((A + 1 + dd : Nat) : Int)] V fun e w' => e = .returned (.tuple #[]) ∧ BT w' K g9 gw (m + 1) cw bf o X (resTo (fn X) (m + 1) o bf Wk (Ls.take (k + 1))) ∧ V.grownBy w' (some gw)) := fun V q hV => by
              rw [hnext.out, hV]
              exact implResolvePair A dd _ (hBT.out.drewN q) (by omega) (by omega) hcw
            obtain ⟨Z, hZ⟩ : ∃ Z, A + 1 + dd = Z := ⟨_, rfl⟩
            rw [hZ] at q3 HRP
            clear row1 eq0 p1 p2 hA hdd hpair rr6 hZ
            go_wp2_with fail
            go_region_with (go_at_call 68; refine (HRP.out _ 1 rfl).mono ?_; rintro e w6 ⟨rfl, bt6, gr6⟩)
            all_goals
              go_wp2_with fail
              go_roundw
              case rel => exact ⟨k + 1, by omega, by go_num, bt6, grownB_tr hgr.out (grownB_tr (grownB_draws wr 1 _) gr6)⟩
              case measure => simp only [intOf]; omega
          · have e : k = N := by omega
            subst e
            have hfull : Ls.take k = Ls := List.take_of_length_le (by rw [HN.out]; exact Nat.le_refl _)
            rw [hfull] at hBT
            obtain ⟨xf, hxf⟩ : ∃ xf, resTo (fn X) (m + 1) o bf Wk Ls = xf := ⟨_, rfl⟩
            have hxl : xf.length = m + 1 := by rw [← hxf, resTo_len, HWL.out]
            have hxc : ClsL xf := by rw [← hxf]; exact resTo_cls Ls HWC.out ho12 hb12
            rw [hxf] at hBT
            have HPL : Hid (∀ V q, V = wr.drewN q → Calls Tryz.prog 69 #[.slice (some ⟨gw, 0, none⟩) (m + 1) cw, .int .i64 bf, .int .i64 af, .int .i64 lvl] V fun e w' => (∃ v', e = .returned v' ∧ OwnI w' V.heap.size v' (resF l cls bf af lvl r)) ∧ Below V.heap.size V w') := fun V q hV => by
              rw [HFIN.out, hxf, ← plainR_yes (l := xf) ⟨clsL_ok hxc rfl (by omega), HBF.out, HAF.out, by unfold lvB; exact decide_eq_true ⟨HR.out.lv0, HR.out.lv22⟩⟩, hV]
              exact implPlain _ xf bf af lvl (wr.drewN q) (some ⟨gw, 0, none⟩) cw (by rw [hxl]) (hBT.out.drewN q).ox.arg (by omega)
            have x1 := hBT.out.c1
            have x2 := HBX5.out wr 0 hgr.out
            have x3 : wr.cell? ⟨w.heap.size, 1, none⟩ = some (.int .i64 lvl) := x2
            have HBE : Hid (Below w.heap.size w wr) := HB05.out.grown hgr.out HB05.out.size (fun j hj => by simp at hj; omega)
            clear x2 hxf hxl hxc hfull
            go_wp2_with fail
            go_region_with (go_at_call 69; refine (HPL.out _ 1 rfl).mono ?_; rintro e w7 ⟨⟨v7, rfl, o7⟩, b7⟩)
            all_goals
              go_wp2_with fail
              go_ret
              exact ⟨⟨v7, rfl, o7.mono HBE.out.size⟩, HBE.out.trans ((bstep (below_draws wr 1) b7).mono HBE.out.size)⟩
end Go.Proofs.YtgojdlbidjnmmaaGreat
