import Derived.Test.YtbeecmcgdlnakaaMg20
import Derived.Test.YtbeecmcgdlnakaaMg15
import Derived.Test.YtbeecmcgdlnakaaMg11
namespace Go.Proofs.Ytbeecmcgdlnakaa
open Go.ChangeShapes Go.WideShapes Go.ChangeAt Go.RowKit Go.Deep
set_option linter.unusedSimpArgs false
set_option linter.unusedVariables false

theorem rN_mem {R : List (List Int)} {j : Nat} (h : j < R.length) : rN R j ∈ R := by simp [rN, h]
theorem rN_take {R : List (List Int)} {q : Nat} (h : q < R.length) : R.take (q + 1) = R.take q ++ [rN R q] := by
  rw [List.take_add_one, List.getElem?_eq_getElem h]
  simp [rN, h]
/-- Of runs: each has a letter, and no more than there are. -/
theorem runs_row {c lv : Nat → Int} {n : Nat} {mt : Nat → Nat} (ht : Txt c lv n mt) {q : Nat} (h : q < (natR (runsTo c lv n mt n)).length) : rN (natR (runsTo c lv n mt n)) q ≠ [] ∧ (rN (natR (runsTo c lv n mt n)) q).length ≤ n := by
  have hm := rN_mem h
  unfold natR runsTo at hm
  rw [List.map_map, List.mem_map] at hm
  obtain ⟨b, hb, e⟩ := hm
  rw [List.mem_filter, List.mem_range] at hb
  have hbb := start_beg hb.2
  have e2 : rN (natR (runsTo c lv n mt n)) q = natL (chainN c lv n mt b) := by unfold natR runsTo; rw [List.map_map]; exact e.symm
  rw [e2]
  obtain ⟨h3, h4⟩ := chain_len ht (n - b) b hbb hb.1 (Nat.le_refl _)
  have h5 := inc_len h3 h4
  refine ⟨?_, by rw [natL_len]; omega⟩
  apply natL_ne
  rw [chain_eq ht hbb hb.1]
  have := piece_ne hbb hb.1
  simp [this]
theorem RR.mono {w : World} {B B' : Nat} {v : Value} {vs : List Value} {rows : List (List Int)} (h : RR w B v vs rows) (hB : B' ≤ B) : RR w B' v vs rows :=
  ⟨h.len, h.own.mono hB, fun j hj => (h.row j hj).mono hB, h.apv, h.app⟩
theorem TT.opened (l : List Int) (j : Nat) (h : j < l.length) : fn (clsL l) j = cl l j := fn_clsL h

set_option maxHeartbeats 4000000 in
theorem implLevelRuns (v : Value) (l : List Int) (mt : Nat → Nat) (base : Int) (w : World) (a : Option Addr) (cap : Nat) (hva : v = .slice a l.length cap) (hv : Arg w v l) (hl : l.length ≤ 1048576) (hmt : Hid (MateFn (cl l) l.length mt)) :
    Calls Try.prog 16 #[v, .int .i64 base] w fun e w' => (∃ v', e = .returned v' ∧ RRX w' w.heap.size v' (runsR l mt base)) ∧ Below w.heap.size w w' := by
  obtain ⟨q, hq⟩ : ∃ q, okT l base = q := ⟨_, rfl⟩
  unfold runsR
  rw [hq]
  cases q
  · rw [if_neg (by simp)]
    have HQ : Hid ((okF (fn l) l.length && baseB base) = false) := hq
    clear hq hva
    go_enter Try.func16, Try.ntmps16
    go_wp2_with (go_at_call 33; refine (tellLevels_no v l base _ hv (by omega) HQ.out).mono ?_; rintro e w1 ⟨rfl, rfl⟩)
    go_ret
    exact ⟨⟨_, rfl, [], RR.nil _ _⟩, Below.refl _ _⟩
  · obtain ⟨hok, hb01, h80⟩ := okT_out hq
    rw [if_pos rfl]
    have HOK : Hid _ := hok
    clear hq hok
    subst hva
    obtain ⟨n, hn⟩ : ∃ n, l.length = n := ⟨_, rfl⟩
    have HT : Hid (Txt (cl l) (fn (lvL (cl l) (fsF (cl l) mt) base n)) n mt) := by rw [← hn]; exact txt_told l mt hb01 hmt.out
    have HCL : Hid (∀ j, j < n → fn (clsL l) j = cl l j) := fun j hj => fn_clsL (by omega)
    rw [hn] at hl h80 hv hmt ⊢
    obtain ⟨R, hR⟩ : ∃ R, natR (runsTo (cl l) (fn (lvL (cl l) (fsF (cl l) mt) base n)) n mt n) = R := ⟨_, rfl⟩
    have HRW : Hid (∀ q, q < R.length → rN R q ≠ [] ∧ (rN R q).length ≤ n) := fun q hq => by
      rw [← hR] at hq ⊢; exact runs_row HT.out hq
    rw [hR]
    have HRE : Hid _ := hR
    have hR2 : R.length ≤ n := by rw [← hR, natR_len]; exact runs_len n
    clear hR
    have HN : Hid _ := hn
    have HV : Hid _ := hv
    clear hn hv
    go_enter Try.func16, Try.ntmps16
    go_wp2_with fail
    refine (tellLevels_yes _ l mt base n _ a cap HN.out rfl HV.out HOK h80 hmt hb01).mono ?_
    rintro e w1 ⟨⟨T, gm, gq, gl, gc, M, rfl, h, hm⟩, b1⟩
    go_wp2_with fail
    refine (implTogether _ h (by omega) HCL.out HT.out hm).mono ?_
    rintro e w2 ⟨⟨vp, P, rfl, hp, _⟩, b2⟩
    rw [HRE.out] at hp
    obtain ⟨av, cv, rfl⟩ := hp.slc
    obtain ⟨np, hnp⟩ : ∃ np, R.length = np := ⟨_, rfl⟩
    have HP : Hid (PR w2 (w1.heap.size + 1) (.slice av R.length cv) P R) := hp
    rw [hnp] at hR2 ⊢
    have B2 : Hid (Below w.heap.size w w2) := bstep b1 b2
    have HNP : Hid (R.length = np) := hnp
    clear hp b1 b2 h hm hnp
    go_wp2_with fail
    go_loopw [6, 17] (fun vr x wr => ∃ (q : Nat) (vs : List Value), q ≤ np ∧ x = .int .i64 q ∧ Hid (RR wr w2.heap.size vr vs (R.take q)) ∧ Hid (Below w2.heap.size w2 wr)) (fun _ x _ => np - (intOf x).toNat)
    case atStart => exact ⟨0, [], Nat.zero_le _, rfl, by rw [List.take_zero]; exact RR.nil _ _, Below.refl _ _⟩
    case round =>
      obtain ⟨q, vs, hq, rfl, hRR, hbel⟩ := hrel
      by_cases hlt : q < np
      · have hqi : (q : Int) < (np : Int) := by omega
        have hpw := HP.out.below hbel.out
        rw [HNP.out] at hpw
        obtain ⟨g, cp, hvv, _⟩ := hpw.own.form1 (by rw [HNP.out]; omega)
        simp only [Value.slice.injEq] at hvv
        obtain ⟨rfl, hzz, rfl⟩ := hvv
        clear hzz
        obtain ⟨hcu, hcx⟩ := hpw.cellAt q (by rw [HNP.out]; exact hlt)
        have hrow := hpw.row q (by rw [HNP.out]; exact hlt)
        obtain ⟨u, hu⟩ : ∃ u, (pN P q).1 = u := ⟨_, rfl⟩
        obtain ⟨lx, hlx⟩ : ∃ lx, (pN P q).2 = lx := ⟨_, rfl⟩
        rw [hu] at hcu hrow
        rw [hlx] at hcx
        obtain ⟨hne, hrl⟩ := HRW.out q (by rw [HNP.out]; exact hlt)
        obtain ⟨r, hr⟩ : ∃ r, rN R q = r := ⟨_, rfl⟩
        rw [hr] at hrow hne hrl
        have HR : Hid (R.take (q + 1) = R.take q ++ [r]) := by unfold Hid; rw [rN_take (by rw [HNP.out]; exact hlt), hr]
        obtain ⟨gu, cu, hue, _⟩ := OwnI.form1 hrow hne
        subst hue
        have HTL : Hid ((R.take q).length = q) := by unfold Hid; rw [List.length_take, HNP.out]; omega
        obtain ⟨W, hW⟩ : ∃ W, wr.alloc (.cells #[.slice (some ⟨gu, 0, none⟩) r.length cu, .int .i64 lx] 58) = W := ⟨_, rfl⟩
        have HW : Hid _ := hW
        have hBW : Below wr.heap.size wr W := by rw [← hW]; exact (Below.refl _ _).alloc (Nat.le_refl _) _
        have b0 : W.cell? ⟨wr.heap.size, 0, none⟩ = _ := cell_of_row W wr.heap.size 0 _ _ (0, 0) (by rw [← hW]; exact heap_alloc_new wr _)
        simp only [Array.getElem?_toList, List.getElem?_toArray, List.getElem?_cons_zero] at b0
        have HAR : Hid (Arg W (.slice (some ⟨gu, 0, none⟩) r.length cu) r) := (hrow.below hBW).arg
        have HRR : Hid (RR W w2.heap.size u6 vs (R.take q)) := hRR.out.below hBW
        have HBW : Hid (Below w2.heap.size w2 W) := bstep hbel.out hBW
        have HNE : Hid (r ≠ []) := hne
        clear hpw hrow hu hlx hr hW hBW hRR hbel hne
        go_upto_region 8 with fail
        rw [HW.out]
        go_wp2_with (first | (go_at_call 39; refine (clone_any _ r _ HAR.out (by omega)).mono ?_; rintro e w6 ⟨⟨v6, rfl, o6⟩, b6⟩; obtain ⟨g6, c6, e6, _⟩ := OwnI.form1 o6 HNE.out; subst e6; have O6 : Hid (OwnI w6 W.heap.size (.slice (some ⟨g6, 0, none⟩) r.length c6) r) := o6; have B6 : Hid (Below W.heap.size W w6) := b6; have BB6 : Hid (Below w2.heap.size w2 w6) := bstep HBW.out b6; have RV : Hid (OwnV 23 1 w6 w2.heap.size u6 q vs) := by (have := (HRR.out.below b6).own; rw [HTL.out] at this; exact this)) | (at_builtin; refine own_appendV (k := 1) (b := 24) (T := 23) (TS := 32) (.tmp 21) (.tmp 25) rfl rowSS Try.underlying32 RV.out (by omega) BB6.out.size (by omega) (by omega) rfl (by simp [Value.oneCell']) rfl rfl rfl rfl ?_; intro v8 w8 ho8 hgr8 hv8; rw [← HTL.out] at ho8; have RR8 : Hid (RR w8 w2.heap.size v8 (vs ++ [.slice (some ⟨g6, 0, none⟩) r.length c6]) (R.take q ++ [r])) := HRR.out.snoc HBW.out.size B6.out O6.out ho8 hgr8 hv8; have B8 : Hid (Below w2.heap.size w2 w8) := BB6.out.grown hgr8 BB6.out.size (fun q hq => (HRR.out.lt q hq).1); clear ho8 hgr8 hv8))
        go_roundw
        case rel => exact ⟨q + 1, _, by omega, by go_num, by rw [HR.out]; exact RR8.out, B8.out⟩
        case measure => simp only [intOf]; omega
      · have e : q = np := by omega
        subst e
        go_wp2_with fail
        go_ret
        have hfin := hRR.out
        rw [List.take_of_length_le (by rw [HNP.out]; exact Nat.le_refl _)] at hfin
        exact ⟨⟨_, rfl, vs, hfin.mono B2.out.size⟩, bstep B2.out hbel.out⟩
end Go.Proofs.Ytbeecmcgdlnakaa
namespace Go.Proofs.Ytbeecmcgdlnakaa
set_option linter.unusedSimpArgs false
set_option linter.unusedVariables false

/-- As long as nothing was told all have the level of all. -/
theorem told_none {c fs : Nat → Int} {base : Int} {k : Nat} (h : ∀ j, j < k → c j < 14) : told c fs base k = ⟨[⟨base, 0, false⟩], 0, 0⟩ := by
  induction k with
  | zero => rfl
  | succ k ih =>
    have hc := h k (by omega)
    simp only [told]
    rw [ih (fun j hj => h j (by omega))]
    have ho : opensB (c k) = false := by unfold opensB; simp; omega
    unfold stepT
    rw [ho, if_neg (by simp), if_neg (by omega), if_neg (by omega), if_neg (by omega), if_neg (by omega), if_neg (by omega), if_neg (by omega)]
theorem lvAt_none {c fs : Nat → Int} {base : Int} {k : Nat} (h : ∀ j, j < k → c j < 14) (ht : tellsB (c k) = false) : lvAt c fs base k = base := by
  unfold lvAt lvT
  rw [ht, if_neg (by simp), told_none h]
  unfold atT
  split
  · rfl
  · rfl
theorem tells_yes {c : Int} : tellsB c = true ↔ c = 10 ∨ (14 ≤ c ∧ c ≤ 18) := by unfold tellsB; exact decide_eq_true_iff
theorem tells_no {c : Int} : tellsB c = false ↔ ¬ (c = 10 ∨ (14 ≤ c ∧ c ≤ 18)) := by unfold tellsB; exact decide_eq_false_iff_not
theorem toldL_yes {l : List Int} {mt : Nat → Nat} {base : Int} (h : okT l base = true) : toldL l mt base = lvL (cl l) (fsF (cl l) mt) base l.length ∧ toldC l mt base = clL (cl l) (fsF (cl l) mt) base l.length := by
  unfold toldL toldC; rw [if_pos h, if_pos h]; exact ⟨rfl, rfl⟩
theorem toldL_no {l : List Int} {mt : Nat → Nat} {base : Int} (h : ¬ okT l base = true) : toldL l mt base = [] ∧ toldC l mt base = [] := by
  unfold toldL toldC; rw [if_neg h, if_neg h]; exact ⟨rfl, rfl⟩
/-- What is said of a letter. -/
theorem told_is {l : List Int} {mt : Nat → Nat} {base : Int} (h : okT l base = true) {k : Nat} (hk : k < l.length) :
    ((cl l k = 10 ∨ (14 ≤ cl l k ∧ cl l k ≤ 18)) ∧ fn (toldL l mt base) k = -1) ∨ (¬ (cl l k = 10 ∨ (14 ≤ cl l k ∧ cl l k ≤ 18)) ∧ 0 ≤ fn (toldL l mt base) k ∧ fn (toldL l mt base) k ≤ 20 ∧ ((∀ j, j < k → cl l j < 14) → fn (toldL l mt base) k = base)) := by
  obtain ⟨_, hb, _⟩ := okT_out h
  rw [(toldL_yes h).1, fn_lvL hk]
  rcases lvAt_bd (cl l) (fsF (cl l) mt) hb k with ⟨h1, h2⟩ | ⟨h1, h2, h3⟩
  · exact .inl ⟨tells_yes.1 h1, h2⟩
  · exact .inr ⟨tells_no.1 h1, by omega, h3, fun hj => lvAt_none hj h1⟩
end Go.Proofs.Ytbeecmcgdlnakaa
namespace Go.Proofs.Ytbeecmcgdlnakaa
open Go.ChangeShapes Go.WideShapes Go.ChangeAt Go.RowKit
set_option linter.unusedSimpArgs false

/-- What came in as a row of bytes can be read. -/
theorem bytesRow {w : World} {a : Option Addr} {len cap : Nat} {zs : List Int}
    (h : (a = none ∧ len = 0 ∧ cap = 0 ∧ zs = []) ∨ ∃ x, a = some x ∧ len ≤ cap ∧ cap ≤ maxLen ∧ zs.length = cap ∧ (∀ i, i < zs.length → w.cell? (x.add i) = some (.int .u8 (zs.getD i 0))) ∧ ∀ n ∈ zs, (Lit.int .u8 n).wf = true) :
    Bytes w a len cap := by
  rcases h with ⟨rfl, rfl, rfl, rfl⟩ | ⟨x, rfl, h1, h2, h3, h4, h5⟩
  · exact ⟨Nat.le_refl _, Nat.zero_le _, .inl rfl⟩
  · refine ⟨h1, h2, ?_⟩
    by_cases h0 : len = 0
    · exact .inl h0
    · right
      obtain ⟨b, off, spot⟩ := x
      have hc := h4 0 (by omega)
      have hspot : spot = none := by simpa [Addr.add] using World.cell?_spot hc
      subst hspot
      have hb := World.block_lt_of_cell? _ _ hc
      refine ⟨b, off, rfl, by simpa [Addr.add] using hb, fun j hj => ?_⟩
      have h6 := h4 j (by omega)
      have hadd : (⟨b, off, none⟩ : Addr).add j = ⟨b, off + j, none⟩ := by unfold Addr.add; split <;> simp_all
      rw [hadd] at h6
      refine ⟨_, h6, ?_⟩
      have h7 := h5 (zs.getD j 0) (by simp [List.getD, show j < zs.length by omega])
      exact bounds_u8 h7
end Go.Proofs.Ytbeecmcgdlnakaa
