import Derived.Deep.RegionLaw
import Derived.BigRegion
import Derived.Test.YtgojdlbidjnmmabGreatPk17
import Derived.Test.YtgojdlbidjnmmabGreatPk19
import Derived.Test.YtgojdlbidjnmmabGreatPk18
import Derived.Test.YtgojdlbidjnmmabGreatPk10
import Derived.Test.YtgojdlbidjnmmabGreatPk16
namespace Go.Proofs.YtgojdlbidjnmmabGreat
open Go.ChangeShapes Go.WideShapes Go.ChangeAt Go.RowKit
set_option linter.unusedSimpArgs false
set_option linter.unusedVariables false

theorem natL_ne {l : List Nat} (h : l ≠ []) : natL l ≠ [] := by
  intro e; apply h; have := congrArg List.length e; rw [natL_len] at this; exact List.eq_nil_of_length_eq_zero this
theorem runs_len {c lv : Nat → Int} {n : Nat} {mt : Nat → Nat} (k : Nat) : (runsTo c lv n mt k).length ≤ k := by
  unfold runsTo; rw [List.length_map]; have := List.length_filter_le (startN c lv mt) (List.range k); rw [List.length_range] at this; exact this
theorem start_no22 {c lv : Nat → Int} {mt : Nat → Nat} {k : Nat} (h : begB lv k = true) (h2 : c k ≠ 22) : startN c lv mt k = true := by simp [startN, h, h2]
theorem start_22 {c lv : Nat → Int} {mt : Nat → Nat} {k : Nat} (h : begB lv k = true) (h2 : c k = 22) : startN c lv mt k = !closN c mt k := by simp [startN, h, h2]
/-- From a piece on to the next one. -/
theorem runs_next {c lv : Nat → Int} {n : Nat} {mt : Nat → Nat} {k k2 lp : Nat} (hk : begB lv k = true) (hkn : k < n) (hlp : lastP lv k n = lp) (h1 : lp + 1 ≤ k2) (hno : ∀ x, lp + 1 ≤ x → x < k2 → lv x < 0) : runsTo c lv n mt k2 = runsTo c lv n mt (k + 1) := by
  subst hlp
  obtain ⟨a1, a2, a3⟩ := last_spec hk hkn
  have hle := of_le a1
  refine runs_more (by omega) (fun x x1 x2 => no_start ?_)
  rcases Nat.lt_or_ge (lastP lv k n) x with q | q
  · exact bg_unseen (hno x (by omega) x2)
  · exact no_beg_in hk hkn (by omega) q

set_option maxHeartbeats 8000000 in
theorem specRuns (b off cap b2 off2 cap2 n : Nat) (l L : List Int) (mt : Nat → Nat) (w : World) (hn : l.length = n) (hnL : L.length = n) (hb : b < w.heap.size) (hb2 : b2 < w.heap.size) (hat : At w b off l) (hatL : At w b2 off2 L) (hl : n ≤ 1000)
    (ht : Hid (Txt (cl l) (fn L) n mt)) :
    Calls Tryz.prog 36 #[.slice (some ⟨b, off, none⟩) n cap, .slice (some ⟨b2, off2, none⟩) n cap2] w fun e w' => (∃ v, e = .returned v ∧ RRX w' w.heap.size v (natR (runsTo (cl l) (fn L) n mt n))) ∧ Below w.heap.size w w' := by
  have HN : Hid _ := hn
  have HNL : Hid _ := hnL
  have HA : Hid (∀ w', Below w.heap.size w w' → At w' b off l) := fun w' hw => hat.below hw hb
  have HAL : Hid (∀ w', Below w.heap.size w w' → At w' b2 off2 L) := fun w' hw => hatL.below hw hb2
  have hmt : Hid (MateFn (cl l) n mt) := ht.out.mates
  have ho := RR.empty w w.heap.size 22 (Nat.le_refl _) rfl
  have HO : Hid (RR (w.alloc (.cells #[] 22)) w.heap.size (.slice (some ⟨w.heap.size, 0, none⟩) 0 0) [] []) := ho
  have HB0 : Hid (Below w.heap.size w (w.alloc (.cells #[] 22))) := (Below.refl _ _).alloc (Nat.le_refl _) _
  have hl4 : n ≤ 1048576 := by omega
  clear hn hnL hat hatL ho
  go_enter Tryz.func36, Tryz.ntmps36
  go_wp2_with (go_at_call 54; refine (specLeft b2 off2 cap2 n L 0 _ _ HNL.out (HAL.out _ HB0.out) hl4 (Nat.zero_le _) rfl).mono ?_; rintro e w1 ⟨⟨k0, rfl, hk0, hk0n, hk0a, hk0s⟩, rfl⟩)
  have hst : k0 = n ∨ begB (fn L) k0 = true := by
    rcases Nat.lt_or_ge k0 n with q | q
    · right
      rcases pv_inv (fn L) k0 with ⟨e, _⟩ | ⟨e1, e2, e3, e4⟩
      · have := hk0s q; simp [begB, this, e]; omega
      · have h1 := hk0a (bgL (fn L) k0) (Nat.zero_le _) e4
        have := beg_seen e3; omega
    · left; omega
  have hr0 : runsTo (cl l) (fn L) n mt k0 = [] := by
    rw [runs_more (c := cl l) (mt := mt) (n := n) (Nat.zero_le k0) (fun x _ hx => no_start (bg_unseen (hk0a x (Nat.zero_le _) hx)))]; rfl
  have HST : Hid _ := hst
  have HR0 : Hid _ := hr0
  clear hk0a hk0s hst hr0
  go_loopg [5, 6] n (fun g x5 x6 wr => ∃ (vo : Value) (vs : List Value) (k : Nat), x5 = vo ∧ x6 = .int .i64 k ∧ k ≤ n ∧ Hid (k = n ∨ begB (fn L) k = true) ∧ Hid (RR wr w.heap.size vo vs (natR (runsTo (cl l) (fn L) n mt k))) ∧ n - k ≤ g ∧ Hid (Below w.heap.size w wr))
  case atStart => exact ⟨_, [], k0, rfl, rfl, hk0n, HST.out, by rw [HR0.out]; exact HO.out, by omega, HB0.out⟩
  case round =>
    obtain ⟨vo, vs, k, e5, rfl, hkn, hk, hR, hg, hbel⟩ := hrel
    rw [e5]
    clear e5
    obtain ⟨av, cv, rfl⟩ := hR.out.slc
    by_cases hlt : k < n
    · have hbk : begB (fn L) k = true := by
        rcases hk.out with e | e
        · omega
        · exact e
      have HBK : Hid _ := hbk
      have hki : (k : Int) < (n : Int) := by omega
      have hrl := runs_len (c := cl l) (lv := fn L) (n := n) (mt := mt) k
      obtain ⟨R, hRR⟩ : ∃ R, natR (runsTo (cl l) (fn L) n mt k) = R := ⟨_, rfl⟩
      have hRl : R.length ≤ 1000 := by rw [← hRR, natR_len]; omega
      have HRR : Hid _ := hRR
      have HR : Hid (RR wr w.heap.size (.slice av R.length cv) vs R) := by rw [← hRR]; exact hR.out
      rw [hRR]
      clear hrl hRR hR hk
      obtain ⟨pp, hpp⟩ := piece_last hbk n hlt
      obtain ⟨a1, a2, a3⟩ := last_spec hbk hlt
      obtain ⟨lp, hlp⟩ : ∃ lp, lastP (fn L) k n = lp := ⟨_, rfl⟩
      rw [hlp] at hpp a2 a1
      have hle := of_le a1
      obtain ⟨m, hm⟩ : ∃ m, pp.length = m := ⟨_, rfl⟩
      have hmb : m ≤ 1000 := by
        have : (pieceN (fn L) k n).length ≤ n := by unfold pieceN; have := List.length_filter_le (ofB (fn L) k) (List.range n); rw [List.length_range] at this; exact this
        rw [hpp, List.length_append, hm] at this; simp at this; omega
      have HPP : Hid _ := hpp
      have HM : Hid _ := hm
      have HLP : Hid _ := hlp
      have hchl := chain_len ht.out n k hbk hlt (by omega)
      have hcl := inc_len hchl.1 hchl.2
      have hch1 : natL (chainN (cl l) (fn L) n mt k) ≠ [] := by
        refine natL_ne ?_
        rw [chain_eq ht.out hbk hlt]
        have := piece_ne hbk hlt
        intro e; exact this (List.append_eq_nil_iff.1 e).1
      obtain ⟨C, hC⟩ : ∃ C, natL (chainN (cl l) (fn L) n mt k) = C := ⟨_, rfl⟩
      have HC : Hid _ := hC
      rw [hC] at hch1
      have HCH : Hid _ := hch1
      obtain ⟨ck, hck⟩ : ∃ ck, bidi (fn l k) = ck := ⟨_, rfl⟩
      have HCK : Hid _ := hck
      have hclk : Hid (cl l k = ck) := hck
      have hck2 : ck = 22 ∨ ck ≠ 22 := by omega
      clear hpp hm hlp a1 a3 hchl hcl hch1 hC hck hbk
      -- the run, its last one
      go_wp2_with fail
      refine (specRun b2 off2 cap2 n L k _ _ HNL.out (Nat.lt_of_lt_of_le hb2 hbel.out.size) (HAL.out _ hbel.out) hl hlt rfl HBK.out).mono ?_
      rintro e w2 ⟨⟨v2, rfl, o2⟩, b2'⟩
      have hB2 : Below w.heap.size w w2 := bstep hbel.out b2'
      have h7 := o2
      rw [HPP.out] at h7
      obtain ⟨g2, c2, e2, _⟩ := h7.form1 (natL_ne (by simp))
      have hl7 : (natL (pp ++ [lp])).length = m + 1 := by rw [natL_len, List.length_append, HM.out]; rfl
      rw [hl7] at e2
      have hcell7 : w2.cell? ⟨g2, m, none⟩ = some (.int .i64 (lp : Int)) := by
        rw [e2] at h7
        rw [h7.cellN m (by omega), ← HM.out, fn_natL_last]
      have O2 : Hid (OwnI w2 wr.heap.size (.slice (some ⟨g2, 0, none⟩) (m + 1) c2) (natL (pieceN (fn L) k n))) := by rw [← e2]; exact o2
      have HR2 : Hid (RR w2 w.heap.size (.slice av R.length cv) vs R) := HR.out.below b2'
      have HB2 : Hid (Below w.heap.size w w2) := hB2
      have hck0 : w2.cell? ⟨b, off + k, none⟩ = some (.int .i64 (fn l k)) := HA.out w2 hB2 k (by have := HN.out; omega)
      rw [e2]
      clear e2 h7 hl7 o2 hB2 b2' HR
      rcases hck2 with hck2 | hck2
      · subst hck2
        obtain ⟨cb, hcb⟩ : ∃ cb, closN (cl l) mt k = cb := ⟨_, rfl⟩
        have HCLS : Hid _ := hcb
        have hsta : startN (cl l) (fn L) mt k = !cb := by rw [start_22 HBK.out hclk.out, hcb]
        clear hcb
        cases cb
        · have HSTA : Hid (startN (cl l) (fn L) mt k = true) := hsta
          clear hsta
          go_wp2_with (first | (go_at_call 33; refine (specBidi _ _).mono ?_; rintro e w3 ⟨rfl, b3⟩; rw [HCK.out]) | (go_at_call 56; refine (specCloses b off cap n l mt k _ _ HN.out (Nat.lt_of_lt_of_le hb (bstep HB2.out b3).size) (HA.out _ (bstep HB2.out b3)) hl hmt hlt rfl).mono ?_; rintro e w4 ⟨rfl, b4⟩; rw [HCLS.out]) | (go_at_call 57; refine (specChain b off cap b2 off2 cap2 n l L mt k _ _ HN.out HNL.out (Nat.lt_of_lt_of_le hb (bstep (bstep HB2.out b3) b4).size) (Nat.lt_of_lt_of_le hb2 (bstep (bstep HB2.out b3) b4).size) (HA.out _ (bstep (bstep HB2.out b3) b4)) (HAL.out _ (bstep (bstep HB2.out b3) b4)) hl ht hlt HBK.out _ ((O2.out.below b3).below b4)).mono ?_; rintro e w6 ⟨⟨v6, rfl, o6⟩, b6⟩; rw [HC.out] at o6; obtain ⟨g6, c6, e6, _⟩ := o6.form1 HCH.out; subst e6; have O6 : Hid (OwnI w6 w4.heap.size (.slice (some ⟨g6, 0, none⟩) C.length c6) C) := o6; have R6 : Hid (RR w4 w.heap.size (.slice av R.length cv) vs R) := ((HR2.out.below b3).below b4); have B6 : Hid (Below w4.heap.size w4 w6) := b6; have BB6 : Hid (Below w.heap.size w w6) := bstep (bstep (bstep HB2.out b3) b4) b6; have RV : Hid (OwnV 22 1 w6 w.heap.size (.slice av R.length cv) R.length vs) := (((HR2.out.below b3).below b4).below b6).own; clear o6) | (at_builtin; refine own_appendV (k := 1) (b := 24) (T := 22) (TS := 44) (.tmp 37) (.tmp 42) rfl rowSS Tryz.underlying44 RV.out (by omega) BB6.out.size (by omega) (by omega) rfl (by simp [Value.oneCell']) rfl rfl rfl rfl ?_; intro v8 w8 ho8 hgr8 hv8; have RR8 : Hid (RR w8 w.heap.size v8 (vs ++ [.slice (some ⟨g6, 0, none⟩) C.length c6]) (R ++ [C])) := R6.out.snoc (bstep (bstep HB2.out b3) b4).size B6.out O6.out ho8 hgr8 hv8; have B8 : Hid (Below w.heap.size w w8) := BB6.out.grown hgr8 BB6.out.size (fun q hq => (R6.out.lt q hq).1); clear ho8 hgr8 hv8) | (go_at_call 54; refine (specLeft b2 off2 cap2 n L (lp + 1) _ _ HNL.out (HAL.out _ B8.out) hl4 (by omega) (by omega)).mono ?_; rintro e w9 ⟨⟨k2, rfl, hk2, hk2n, hk2a, hk2s⟩, rfl⟩))
          go_roundg (n - k2)
          case measure => omega
          case rel =>
            have hrn := runs_next (c := cl l) (mt := mt) HBK.out hlt HLP.out hk2 hk2a
            rw [runs_succ, if_pos HSTA.out] at hrn
            refine ⟨_, vs ++ [.slice (some ⟨g6, 0, none⟩) C.length c6], k2, rfl, rfl, hk2n, ?_, ?_, Nat.le_refl _, B8.out⟩
            · rcases Nat.lt_or_ge k2 n with q | q
              · exact .inr (next_beg HBK.out hlt (by rw [HLP.out]; omega) q (fun x x1 x2 => hk2a x (by rw [HLP.out] at x1; omega) x2) (hk2s q))
              · exact .inl (by omega)
            · rw [hrn, natR_app, HRR.out]
              show RR _ _ _ _ (R ++ [natL (chainN (cl l) (fn L) n mt k)])
              rw [HC.out]; exact RR8.out
        · have HSTA : Hid (startN (cl l) (fn L) mt k = false) := hsta
          clear hsta
          go_wp2_with (first | (go_at_call 33; refine (specBidi _ _).mono ?_; rintro e w3 ⟨rfl, b3⟩; rw [HCK.out]) | (go_at_call 56; refine (specCloses b off cap n l mt k _ _ HN.out (Nat.lt_of_lt_of_le hb (bstep HB2.out b3).size) (HA.out _ (bstep HB2.out b3)) hl hmt hlt rfl).mono ?_; rintro e w4 ⟨rfl, b4⟩; rw [HCLS.out]) | (go_at_call 54; refine (specLeft b2 off2 cap2 n L (lp + 1) _ _ HNL.out (HAL.out _ (bstep (bstep HB2.out b3) b4)) hl4 (by omega) (by omega)).mono ?_; rintro e w9 ⟨⟨k2, rfl, hk2, hk2n, hk2a, hk2s⟩, rfl⟩))
          go_roundg (n - k2)
          case measure => omega
          case rel =>
            have hrn := runs_next (c := cl l) (mt := mt) HBK.out hlt HLP.out hk2 hk2a
            rw [runs_succ, if_neg (by rw [HSTA.out]; simp)] at hrn
            refine ⟨_, vs, k2, rfl, rfl, hk2n, ?_, ?_, Nat.le_refl _, bstep (bstep HB2.out b3) b4⟩
            · rcases Nat.lt_or_ge k2 n with q | q
              · exact .inr (next_beg HBK.out hlt (by rw [HLP.out]; omega) q (fun x x1 x2 => hk2a x (by rw [HLP.out] at x1; omega) x2) (hk2s q))
              · exact .inl (by omega)
            · rw [hrn, natR_app, HRR.out]
              rw [show natR [] = ([] : List (List Int)) from rfl, List.append_nil]
              exact (HR2.out.below b3).below b4
      · have hne : (ck != 22) = true := by simpa using hck2
        have HSTA : Hid (startN (cl l) (fn L) mt k = true) := start_no22 HBK.out (by rw [hclk.out]; exact hck2)
        clear hck2
        go_wp2_with (first | (go_at_call 33; refine (specBidi _ _).mono ?_; rintro e w3 ⟨rfl, b3⟩; rw [HCK.out]) | (go_at_call 57; refine (specChain b off cap b2 off2 cap2 n l L mt k _ _ HN.out HNL.out (Nat.lt_of_lt_of_le hb (bstep HB2.out b3).size) (Nat.lt_of_lt_of_le hb2 (bstep HB2.out b3).size) (HA.out _ (bstep HB2.out b3)) (HAL.out _ (bstep HB2.out b3)) hl ht hlt HBK.out _ (O2.out.below b3)).mono ?_; rintro e w6 ⟨⟨v6, rfl, o6⟩, b6⟩; rw [HC.out] at o6; obtain ⟨g6, c6, e6, _⟩ := o6.form1 HCH.out; subst e6; have O6 : Hid (OwnI w6 w3.heap.size (.slice (some ⟨g6, 0, none⟩) C.length c6) C) := o6; have R6 : Hid (RR w3 w.heap.size (.slice av R.length cv) vs R) := (HR2.out.below b3); have B6 : Hid (Below w3.heap.size w3 w6) := b6; have BB6 : Hid (Below w.heap.size w w6) := bstep (bstep HB2.out b3) b6; have RV : Hid (OwnV 22 1 w6 w.heap.size (.slice av R.length cv) R.length vs) := ((HR2.out.below b3).below b6).own; clear o6) | (at_builtin; refine own_appendV (k := 1) (b := 24) (T := 22) (TS := 44) (.tmp 37) (.tmp 42) rfl rowSS Tryz.underlying44 RV.out (by omega) BB6.out.size (by omega) (by omega) rfl (by simp [Value.oneCell']) rfl rfl rfl rfl ?_; intro v8 w8 ho8 hgr8 hv8; have RR8 : Hid (RR w8 w.heap.size v8 (vs ++ [.slice (some ⟨g6, 0, none⟩) C.length c6]) (R ++ [C])) := R6.out.snoc (bstep HB2.out b3).size B6.out O6.out ho8 hgr8 hv8; have B8 : Hid (Below w.heap.size w w8) := BB6.out.grown hgr8 BB6.out.size (fun q hq => (R6.out.lt q hq).1); clear ho8 hgr8 hv8) | (go_at_call 54; refine (specLeft b2 off2 cap2 n L (lp + 1) _ _ HNL.out (HAL.out _ B8.out) hl4 (by omega) (by omega)).mono ?_; rintro e w9 ⟨⟨k2, rfl, hk2, hk2n, hk2a, hk2s⟩, rfl⟩))
        go_roundg (n - k2)
        case measure => omega
        case rel =>
          have hrn := runs_next (c := cl l) (mt := mt) HBK.out hlt HLP.out hk2 hk2a
          rw [runs_succ, if_pos HSTA.out] at hrn
          refine ⟨_, vs ++ [.slice (some ⟨g6, 0, none⟩) C.length c6], k2, rfl, rfl, hk2n, ?_, ?_, Nat.le_refl _, B8.out⟩
          · rcases Nat.lt_or_ge k2 n with q | q
            · exact .inr (next_beg HBK.out hlt (by rw [HLP.out]; omega) q (fun x x1 x2 => hk2a x (by rw [HLP.out] at x1; omega) x2) (hk2s q))
            · exact .inl (by omega)
          · rw [hrn, natR_app, HRR.out]
            show RR _ _ _ _ (R ++ [natL (chainN (cl l) (fn L) n mt k)])
            rw [HC.out]; exact RR8.out
    · have e : k = n := by omega
      subst e
      go_wp2_with fail
      go_ret
      exact ⟨⟨_, rfl, vs, hR.out⟩, hbel.out⟩

/-- What letters and what is told of them are together. -/
theorem txt_told (l : List Int) (mt : Nat → Nat) {base : Int} (hb : 0 ≤ base ∧ base ≤ 1) (hmt : MateFn (cl l) l.length mt) : Txt (cl l) (fn (lvL (cl l) (fsF (cl l) mt) base l.length)) l.length mt := by
  refine ⟨hmt, fun i hi ho hm => ?_⟩
  have hM : MateIs (cl l) i (mt i) := by
    rcases hmt i hi ho with ⟨q, _⟩ | ⟨q, _⟩
    · exact q
    · omega
  obtain ⟨⟨h1, h2, h3⟩, _⟩ := win_at (cl l) (fsF (cl l) mt) hb ho hM
  have hlt := hM.lt
  refine ⟨by rw [fn_lvL hm, fn_lvL hi]; exact h1, by rw [fn_lvL hi]; exact h2, ?_⟩
  rcases h3 with h3 | h3
  · exact .inl fun p p1 p2 p3 => by rw [fn_lvL (j := p) (by omega)] at p3 ⊢; rw [fn_lvL hi]; exact h3 p p1 p2 p3
  · exact .inr fun p p1 p2 p3 => by rw [fn_lvL (j := p) (by omega)] at p3 ⊢; rw [fn_lvL hi]; exact h3 p p1 p2 p3
/-- The runs of letters. -/
def runsR (l : List Int) (mt : Nat → Nat) (base : Int) : List (List Int) :=
  if okT l base = true then natR (runsTo (cl l) (fn (lvL (cl l) (fsF (cl l) mt) base l.length)) l.length mt l.length) else []

set_option maxHeartbeats 2000000 in
theorem specRuns0 (a a2 : Option Addr) (cap cap2 : Nat) (w : World) :
    Calls Tryz.prog 36 #[.slice a 0 cap, .slice a2 0 cap2] w fun e w' => (∃ v, e = .returned v ∧ RRX w' w.heap.size v []) ∧ Below w.heap.size w w' := by
  have ho := RR.empty w w.heap.size 22 (Nat.le_refl _) rfl
  have HO : Hid (RR (w.alloc (.cells #[] 22)) w.heap.size (.slice (some ⟨w.heap.size, 0, none⟩) 0 0) [] []) := ho
  have HB0 : Hid (Below w.heap.size w (w.alloc (.cells #[] 22))) := (Below.refl _ _).alloc (Nat.le_refl _) _
  have hleft : ∀ w1 : World, Calls Tryz.prog 54 #[.slice a2 0 cap2, .int .i64 0] w1 fun e w' => e = .returned (.int .i64 0) ∧ w' = w1 := by
    intro w1
    go_enter Tryz.func54, Tryz.ntmps54
    go_wp2
    go_rounds 1
    go_ret
    exact ⟨rfl, rfl⟩
  have HL : Hid _ := hleft
  clear ho hleft
  go_enter Tryz.func36, Tryz.ntmps36
  go_wp2_with (go_at_call 54; refine (HL.out _).mono ?_; rintro e w1 ⟨rfl, rfl⟩)
  go_rounds 1
  go_ret
  exact ⟨⟨_, rfl, [], HO.out⟩, HB0.out⟩

end Go.Proofs.YtgojdlbidjnmmabGreat
namespace Go.Proofs.YtgojdlbidjnmmabGreat
set_option linter.unusedSimpArgs false
set_option linter.unusedVariables false

def SdOk (s : List Tl) : Prop := ∀ x ∈ s, 0 ≤ x.side ∧ x.side ≤ 2
theorem sd_push {s : TS} (h : SdOk s.st) (right : Bool) (side : Int) (alone : Bool) (hs : 0 ≤ side ∧ side ≤ 2) : SdOk (pushT s right side alone).st := by
  unfold pushT
  split
  · intro x hx
    rcases List.mem_cons.1 hx with e | e
    · subst e; exact hs
    · exact h x e
  · split
    · exact h
    · split <;> exact h
theorem sd_end {s : TS} (h : SdOk s.st) : SdOk (endT s).st := by
  unfold endT
  split
  · exact h
  · split
    · intro x hx
      obtain ⟨p, hp⟩ := cutA_suffix s.st
      exact h x (by rw [hp]; exact List.mem_append_right _ hx)
    · exact h
theorem sd_drop {s : TS} (h : SdOk s.st) : SdOk (dropT s).st := by
  unfold dropT
  split
  · exact h
  · split
    · exact h
    · rcases dropL_cases s.st with e | ⟨x, y, r, e, _, e2⟩
      · intro z hz
        have hz2 : z ∈ dropL s.st := hz
        rw [e] at hz2; exact h z hz2
      · intro z hz
        have hz2 : z ∈ dropL s.st := hz
        rw [e2] at hz2; exact h z (by rw [e]; exact List.mem_cons_of_mem _ hz2)
theorem sd_step {s : TS} (h : SdOk s.st) (c f : Int) : SdOk (stepT c f s).st := by
  unfold stepT
  repeat' split
  all_goals first | exact sd_push h _ _ _ (by omega) | exact sd_end h | exact sd_drop h | exact h
theorem sd_told (c fs : Nat → Int) (base : Int) (k : Nat) : SdOk (told c fs base k).st := by
  induction k with
  | zero => intro x hx; simp only [told, List.mem_singleton] at hx; subst hx; exact ⟨Int.le_refl _, by show (0 : Int) ≤ 2; decide⟩
  | succ k ih => exact sd_step ih _ _
theorem sd_at {s : TS} (h : SdOk s.st) (c : Int) : SdOk (atT c s).st := by
  unfold atT; split
  · exact sd_end h
  · exact h
theorem clAt_bd {c fs : Nat → Int} {base : Int} {k : Nat} (hc : 1 ≤ c k ∧ c k ≤ 22) (ht : tellsB (c k) = false) : 1 ≤ clAt c fs base k ∧ clAt c fs base k ≤ 22 := by
  have hs := sd_at (sd_told c fs base k) (c k)
  unfold clAt clT
  rw [ht, if_neg (by simp)]
  unfold sdT topS
  generalize (atT (c k) (told c fs base k)).st = st at hs ⊢
  match st with
  | [] => simpa using hc
  | x :: r =>
    have := hs x (by simp)
    by_cases e : x.side = 0
    · simpa [e] using hc
    · simp only [e, ne_eq, not_false_eq_true, if_true]; omega
theorem lvAt_told {c fs : Nat → Int} {base : Int} (hb : 0 ≤ base ∧ base ≤ 1) (k : Nat) : lvAt c fs base k ≤ 20 ∧ (0 ≤ lvAt c fs base k → tellsB (c k) = false) := by
  rcases lvAt_bd c fs hb k with ⟨h1, h2⟩ | ⟨h1, h2, h3⟩
  · exact ⟨by omega, fun h => by omega⟩
  · exact ⟨h3, fun _ => h1⟩
theorem lvL_bd {c fs : Nat → Int} {base : Int} (hb : 0 ≤ base ∧ base ≤ 1) (n j : Nat) : fn (lvL c fs base n) j ≤ 22 := by
  by_cases h : j < n
  · rw [fn_lvL h]; have := (lvAt_told (c := c) (fs := fs) hb j).1; omega
  · have : fn (lvL c fs base n) j = 0 := by unfold fn; rw [List.getD_eq_getElem?_getD, List.getElem?_eq_none (by rw [lvL_len]; omega)]; rfl
    omega
/-- Each run is fit to be resolved. -/
theorem run_ok {l : List Int} {mt : Nat → Nat} {base : Int} {n : Nat} (hn : l.length = n) (hb : 0 ≤ base ∧ base ≤ 1) (hok : okF (fn l) n = true) (h80 : n ≤ 80) (ht : Txt (cl l) (fn (lvL (cl l) (fsF (cl l) mt) base n)) n mt) {r : List Nat} (hr : r ∈ runsTo (cl l) (fn (lvL (cl l) (fsF (cl l) mt) base n)) n mt n) {m : Nat} (hm : r.length = m + 1) :
    RunOk l (clL (cl l) (fsF (cl l) mt) base n) n m (fn (lvL (cl l) (fsF (cl l) mt) base n) (r.headD 0)) r := by
  unfold runsTo at hr
  rw [List.mem_map] at hr
  obtain ⟨b, hb1, e⟩ := hr
  rw [List.mem_filter, List.mem_range] at hb1
  have hbb := start_beg hb1.2
  have hlv := chain_lv ht (n - b) b hbb hb1.1 (Nat.le_refl _)
  rw [e] at hlv
  obtain ⟨h3, h4⟩ := chain_len ht (n - b) b hbb hb1.1 (Nat.le_refl _)
  have h5 := inc_len h3 h4
  rw [e] at h5
  have hin : ∀ x ∈ r, x < n := fun x hx => (hlv x hx).2.1
  have hhd : r.headD 0 ∈ r := by
    cases r with
    | nil => simp at hm
    | cons a q => simp
  have hpk : ∀ (X : List Int) j, (hj : j < r.length) → fn (pickL r X) j = fn X (r[j]) := fun X j hj => fn_pickL hj
  refine ⟨hm, by omega, hin, ?_, ?_, (hlv _ hhd).1, lvL_bd hb n _⟩
  · rw [okF_all (fun j hj => by
      rw [hpk l j (by omega)]
      exact okF_get hok (hin _ (List.getElem_mem _)))]
    simp; omega
  · intro j hj
    rw [pickL_len] at hj
    rw [hpk _ j hj]
    have hx := hlv _ (List.getElem_mem hj)
    rw [fn_clL hx.2.1]
    apply clAt_bd (bidi_rng _)
    have := hx.1
    rw [fn_lvL hx.2.1] at this
    exact (lvAt_told hb _).2 this
end Go.Proofs.YtgojdlbidjnmmabGreat
namespace Go.Proofs.YtgojdlbidjnmmabGreat
open Go.ChangeShapes Go.WideShapes Go.ChangeAt Go.RowKit Go.Deep
set_option linter.unusedSimpArgs false
set_option linter.unusedVariables false

/-- What a piece and all that goes on with it is. -/
def restN (c lv : Nat → Int) (n : Nat) (mt : Nat → Nat) (b : Nat) : List Nat := match scN c lv n mt b with | some j => chainN c lv n mt j | none => []

def molM (n : Nat) (x : Value) : Nat := if intOf x < 0 then 0 else n + 1 - (intOf x).toNat
theorem molM_neg (n : Nat) : molM n (.int .i64 (-1)) = 0 := rfl
theorem molM_nat (n j : Nat) : molM n (.int .i64 (j : Int)) = n + 1 - j := by
  show (if (j : Int) < 0 then 0 else n + 1 - ((j : Int)).toNat) = _
  rw [if_neg (by omega)]; rfl

set_option maxRecDepth 10000 in
set_option maxHeartbeats 8000000 in
theorem implTogether {B T gm gq gl gc n : Nat} {base : Int} {cs M L cls : List Int} {c : Nat → Int} {mt : Nat → Nat} (w : World) (h : TT w B T gm gq gl gc n base cs M L cls) (hn80 : n ≤ 1000) (hcs : ∀ j, j < n → fn cs j = c j) (ht : Txt c (fn L) n mt) (hm : MatesIs c n mt M) :
    Calls Tryz.prog 45 #[.pointer (some ⟨T, 0, none⟩)] w fun e w' => (∃ v P, e = .returned v ∧ PR w' (w.heap.size + 1) v P (natR (runsTo c (fn L) n mt n)) ∧ P.map (·.2) = (stN c (fn L) mt n).map (fn L)) ∧ Below w.heap.size w w' := by
  have HTT : Hid (TT w B T gm gq gl gc n base cs M L cls) := h
  have HTX : Hid (Txt c (fn L) n mt) := ht
  have HSM : Hid (SameMates c n mt M) := hm.same
  have HCL : Hid (ClosTo c n M) := hm.clos
  have HCS : Hid (∀ j, j < n → fn cs j = c j) := hcs
  clear h ht hm hcs
  go_enter Tryz.func45, Tryz.ntmps45
  go_wp2_with (go_at_call 75; refine (implPieces w HTT.out hn80).mono ?_; rintro e w1 ⟨⟨v, gn, P, N, rfl, rfl, pr, lev, on, nx⟩, b1⟩; obtain ⟨av, cv, rfl⟩ := pr.slc)
  obtain ⟨np, hnp⟩ : ∃ np, (begN (fn L) n).length = np := ⟨_, rfl⟩
  have hnp2 : (natR (pcsN (fn L) n)).length = np := by rw [pcs_len, hnp]
  rw [hnp2] at pr ⊢
  have hnpn : np ≤ n := by rw [← hnp]; exact begN_len _ _
  have PRR : Hid (PR w1 (w.heap.size + 1) (.slice av np cv) P (natR (pcsN (fn L) n))) := pr
  have LEV : Hid (levTo (fn L) n P) := lev
  have ON : Hid (OwnI w1 w.heap.size (.slice (some ⟨w.heap.size, 0, none⟩) n n) N) := on
  have NX : Hid (nextTo (fn L) n N) := nx
  have B1 : Hid (Below w.heap.size w w1) := b1
  have HNP : Hid ((begN (fn L) n).length = np) := hnp
  have HNP2 : Hid ((natR (pcsN (fn L) n)).length = np) := hnp2
  have hw1 : w.heap.size + 1 ≤ w1.heap.size := (on.lt w.heap.size rfl).2
  clear pr lev on nx b1 hnp hnp2
  go_loopw [5, 16] (fun vw x wr => ∃ (q bq : Nat) (Pw : List (Value × Int)), q ≤ np ∧ x = .int .i64 q ∧ bq ≤ n ∧ Hid ((begN (fn L) bq).length = q) ∧ Hid (TG wr (w.heap.size + 1) (.slice av np cv) P (natR (pcsN (fn L) n)) q vw Pw (natR ((stN c (fn L) mt bq).map (chainN c (fn L) n mt)))) ∧ Hid (Pw.map (·.2) = (stN c (fn L) mt bq).map (fn L)) ∧ Hid (Below (w.heap.size + 1) w1 wr) ∧ w.heap.size + 1 ≤ wr.heap.size) (fun _ x _ => np - (intOf x).toNat)
  case atStart => exact ⟨0, 0, [], Nat.zero_le _, rfl, Nat.zero_le _, rfl, TG.start PRR.out, rfl, Below.refl _ _, hw1⟩
  case round =>
    obtain ⟨q, bq, Pw, hq, rfl, hbq, hbl, hTG, hlv, hbel, hsz⟩ := hrel
    rename World => wo
    by_cases hlt : q < np
    · have hqi : (q : Int) < (np : Int) := by omega
      obtain ⟨b, hbn, hb, hbi⟩ := begN_at (lv := fn L) (n := n) (q := q) (by rw [HNP.out]; exact hlt)
      have hbb : bq ≤ b := by
        rcases Nat.lt_or_ge b bq with h | h
        · have := begN_order hb h; have := hbl.out; omega
        · exact h
      have hst : Hid (stN c (fn L) mt b = stN c (fn L) mt bq) := stN_to hbb (by rw [hbi, hbl.out])
      obtain ⟨g, cp, hvv, _⟩ := hTG.out.ll.own.form1 (by rw [HNP2.out]; omega)
      simp only [Value.slice.injEq] at hvv
      obtain ⟨rfl, hzz, rfl⟩ := hvv
      clear hzz
      obtain ⟨hcu, hcx⟩ := hTG.out.ll.cellAt q hlt
      have hrow := hTG.out.ll.row q (Nat.le_refl _) (by rw [HNP2.out]; exact hlt)
      rw [← hbi, pcs_at hb hbn, hbi] at hrow
      have hlvq : (pN P q).2 = fn L b := by rw [← hbi]; exact lev_at LEV.out hb hbn
      rw [hlvq] at hcx
      obtain ⟨u, hu⟩ : ∃ u, (pN P q).1 = u := ⟨_, rfl⟩
      rw [hu] at hcu hrow
      obtain ⟨gu, cu, hue, _⟩ := OwnI.form1 hrow (natL_ne (piece_ne hb hbn))
      obtain ⟨k0, hk0⟩ : ∃ k0, (natL (pieceN (fn L) b n)).length = k0 + 1 := by
        obtain ⟨r, hr⟩ := piece_head hb hbn
        exact ⟨r.length, by rw [natL_len, hr]; rfl⟩
      rw [hk0] at hue
      subst hue
      have HU : Hid ((pN P q).1 = .slice (some ⟨gu, 0, none⟩) (k0 + 1) cu) := hu
      have HROW : Hid (OwnI wo (w.heap.size + 1) (.slice (some ⟨gu, 0, none⟩) (k0 + 1) cu) (natL (pieceN (fn L) b n))) := hrow
      have HB : Hid (begB (fn L) b = true) := hb
      have HBI : Hid ((begN (fn L) b).length = q) := hbi
      have HLVQ : Hid (Pw.map (·.2) = (stN c (fn L) mt bq).map (fn L)) := hlv.out
      have hgu := (hrow.lt gu rfl).2
      have hkn : k0 < n := by have := hk0; rw [natL_len] at this; unfold pieceN at this; have h2 := List.length_filter_le (ofB (fn L) b) (List.range n); rw [List.length_range] at h2; omega
      have hfst : wo.cell? ⟨gu, 0, none⟩ = some (.int .i64 (b : Int)) := by
        rw [hrow.cellN 0 (by omega)]
        obtain ⟨r, hr⟩ := piece_head hb hbn
        rw [hr]; rfl
      have HIN0 : Hid (Inn wo (wo.alloc (.cells #[.slice (some ⟨gu, 0, none⟩) (k0 + 1) cu, .int .i64 (fn L b)] 57)) (w.heap.size + 1) wo.heap.size (pN P q).1.ownBlock (.slice (some ⟨gu, 0, none⟩) (k0 + 1) cu) (natL (pieceN (fn L) b n)) (fn L b)) := by rw [hu]; exact Inn.start hrow
      obtain ⟨W, hW⟩ : ∃ W, wo.alloc (.cells #[.slice (some ⟨gu, 0, none⟩) (k0 + 1) cu, .int .i64 (fn L b)] 57) = W := ⟨_, rfl⟩
      have HW : Hid _ := hW
      rw [hW] at HIN0
      have hBW : Below wo.heap.size wo W := by rw [← hW]; exact (Below.refl _ _).alloc (Nat.le_refl _) _
      have hWs : W.heap.size = wo.heap.size + 1 := by rw [← hW]; simp
      have hBww : Below w.heap.size w W := (B1.out.trans (hbel.out.mono (by omega))).trans (hBW.mono (by omega))
      have hTW := HTT.out.below hBww
      have HTW : Hid (TT W B T gm gq gl gc n base cs M L cls) := hTW
      have HTQ : Hid (∀ q, TT (W.drewN q) B T gm gq gl gc n base cs M L cls) := fun q => hTW.below (below_draws W q)
      have HINQ : Hid (∀ z, Inn wo (W.drewN z) (w.heap.size + 1) wo.heap.size (pN P q).1.ownBlock (.slice (some ⟨gu, 0, none⟩) (k0 + 1) cu) (natL (pieceN (fn L) b n)) (fn L b)) := fun z => HIN0.out.below (below_draws W z)
      have HBQ : Hid (∀ q w4, Below (W.drewN q).heap.size (W.drewN q) w4 → Below (w.heap.size + 1) w1 w4) := fun q w4 h4 => ((hbel.out.trans (hBW.mono (by omega))).trans ((below_draws W q).mono (by omega))).trans (h4.mono (by show w.heap.size + 1 ≤ W.heap.size; omega))
      have c1 := hTW.c1
      have c2 := hTW.c2
      have b0 := HIN0.out.c0
      have b1w := HIN0.out.c1
      have hcx2 : W.cell? ⟨gm, b, none⟩ = some (.int .i64 (c b)) := by rw [hTW.om.cellN b hbn, HCS.out b hbn]
      have hqx : W.cell? ⟨gq, b, none⟩ = some (.int .i64 (fn M b)) := hTW.oq.cellN b hbn
      have hfW : W.cell? ⟨gu, 0, none⟩ = some (.int .i64 (b : Int)) := (World.cell?_of_block (hBW.block gu hgu)).trans hfst
      have hbi2 : (b : Int) < (n : Int) := by omega
      have HF : Hid (∀ q, Calls Tryz.prog 76 #[.slice (some ⟨gu, 0, none⟩) (k0 + 1) cu] (W.drewN q) fun e w' => e = .returned (.int .i64 (b : Int)) ∧ w' = W.drewN q) := fun q => placesFirst gu (k0 + 1) cu (b : Int) (W.drewN q) hfW (by omega)
      have HLN : Hid (lastP (fn L) b n < n) := (last_spec hb hbn).2.1
      have HLC : Hid (∀ q, (W.drewN q).cell? ⟨gu, k0, none⟩ = some (.int .i64 ((lastP (fn L) b n : Nat) : Int))) := by
        intro q
        obtain ⟨p, hp⟩ := piece_last hb n hbn
        have hpl : p.length = k0 := by have := hk0; rw [natL_len, hp] at this; simpa using this
        show W.cell? ⟨gu, k0, none⟩ = _
        rw [World.cell?_of_block (hBW.block gu hgu), hrow.cellN k0 (by omega), hp, ← hpl, fn_natL_last]
      have HGU : Hid (gu < W.heap.size) := by unfold Hid; omega
      clear hb hbi hbb hrow hlvq hu hk0 hW hTW hBW hWs hfst hBww HIN0
      by_cases h22 : c b = 22
      · have hq22 : (c b == 22) = true := by simpa using h22
        by_cases hge : 0 ≤ fn M b
        · have hd : decide (0 ≤ fn M b) = true := by simpa using hge
          have hno : startN c (fn L) mt b = false := by rw [start_22 HB.out h22, ← clos_ge HTX.out HSM.out HCL.out hbn h22, hd]; rfl
          have HST2 : Hid (stN c (fn L) mt (b + 1) = stN c (fn L) mt bq) := by
            unfold Hid
            rw [stN_succ, if_neg (by rw [hno]; simp), List.append_nil, hst.out]
          have HTG2 : Hid (∀ z, TG (W.drewN z) (w.heap.size + 1) (.slice (some ⟨g, 0, none⟩) np cv) P (natR (pcsN (fn L) n)) (q + 1) u5 Pw (natR ((stN c (fn L) mt (b + 1)).map (chainN c (fn L) n mt)))) := fun z => by
            rw [HST2.out]
            have hz : Below wo.heap.size wo (W.drewN z) := by rw [← HW.out]; exact ((Below.refl _ _).alloc (Nat.le_refl _) _).trans ((below_draws _ z).mono (by simp))
            exact (hTG.out.skip).below hz
          have HLV2 : Hid (Pw.map (·.2) = (stN c (fn L) mt (b + 1)).map (fn L)) := by unfold Hid; rw [HST2.out]; exact HLVQ.out
          have HBE2 : Hid (∀ z, Below (w.heap.size + 1) w1 (W.drewN z)) := fun z => HBQ.out z _ (Below.refl _ _)
          have hbl1 : Hid ((begN (fn L) (b + 1)).length = q + 1) := by
            unfold Hid
            rw [begN_succ, if_pos HB.out, List.length_append, HBI.out]; rfl
          have hs8 : w.heap.size + 1 ≤ W.heap.size := by rw [← HW.out]; simp; omega
          clear hge h22 hno
          go_upto_region 6 with fail
          rw [HW.out]
          go_quiet ((go_at_call 76; with_reducible exact Calls.quiet_of_same (HF.out _)))
          go_wp2_with fail
          go_roundw
          case rel => exact ⟨q + 1, b + 1, Pw, by omega, by go_num, by omega, hbl1.out, HTG2.out _, HLV2.out, HBE2.out _, hs8⟩
          case measure => simp only [intOf]; omega
        · have hd : decide (0 ≤ fn M b) = false := by simpa using hge
          have HSTART : Hid (startN c (fn L) mt b = true) := by unfold Hid; rw [start_22 HB.out h22, ← clos_ge HTX.out HSM.out HCL.out hbn h22, hd]; rfl
          clear hge h22
          go_upto_region 6 with fail
          rw [HW.out]
          go_quiet ((go_at_call 76; with_reducible exact Calls.quiet_of_same (HF.out _)))
          go_wp2_with (go_at_call 77; refine (implMol gu k0 cu (lastP (fn L) b n) (fn L b) _ (HTQ.out _) hn80 (HLC.out _) (by omega) HLN.out HGU.out HCS.out).mono ?_; rintro e w4 ⟨rfl, b4⟩; have B4 : Hid (Below (W.drewN nq).heap.size (W.drewN nq) w4) := b4; clear b4)
          go_loopw [8] (fun x wr => ∃ (b' : Nat) (cur : List Nat) (u : Value), b' < n ∧ x = .int .i64 (molF c M (lastP (fn L) b' n)) ∧ Hid (begB (fn L) b' = true) ∧ Hid (Inn wo wr (w.heap.size + 1) wo.heap.size (pN P q).1.ownBlock u (natL cur) (fn L b)) ∧ Hid (chainN c (fn L) n mt b = cur ++ restN c (fn L) n mt b') ∧ Hid (∃ p, cur = p ++ [lastP (fn L) b' n]) ∧ Hid (b ≤ b') ∧ Hid (Below (w.heap.size + 1) w1 wr)) (fun x _ => molM n x)
          case atStart => exact ⟨b, pieceN (fn L) b n, _, hbn, rfl, HB.out, (HINQ.out nq).below B4.out, chain_eq HTX.out HB.out hbn, piece_last HB.out n hbn, Nat.le_refl _, HBQ.out _ _ B4.out⟩
          case round =>
            obtain ⟨b', cur, u, hbn', rfl, hbb', hin, hch, hcl, hble, hbel2⟩ := hrel
            obtain ⟨sc, hsc⟩ : ∃ sc, scN c (fn L) n mt b' = sc := ⟨_, rfl⟩
            cases sc with
            | some j =>
              obtain ⟨ho, hmt, hjn, hbj, hlt2, _⟩ := sc_some HTX.out hbb'.out hbn' hsc
              have hlb := (last_spec hbb'.out hbn').2.1
              rw [mol_some HSM.out hlb ho hmt hjn]
              have hbj2 : b < j := by have := hble.out; omega
              obtain ⟨i, hi⟩ : ∃ i, (begN (fn L) j).length = i := ⟨_, rfl⟩
              have hiq : q + 1 ≤ i := by have := begN_order HB.out hbj2; have := HBI.out; omega
              have hin2 : i < np := by have := begN_lt hbj hjn; have := HNP.out; omega
              have hgr := TG.grown hTG.out (by rw [HNP2.out]; exact hlt) hin.out.grow
              obtain ⟨hcj, _⟩ := hgr.ll.cellAt i hin2
              have hrj := hgr.ll.row i hiq (by rw [HNP2.out]; exact hin2)
              rw [← hi, pcs_at hbj hjn, hi] at hrj
              obtain ⟨uj, huj⟩ : ∃ uj, (pN P i).1 = uj := ⟨_, rfl⟩
              rw [huj] at hcj hrj
              obtain ⟨gj, cj, hje, _⟩ := OwnI.form1 hrj (natL_ne (piece_ne hbj hjn))
              obtain ⟨kj, hkj⟩ : ∃ kj, (natL (pieceN (fn L) j n)).length = kj + 1 := by
                obtain ⟨r, hr⟩ := piece_head hbj hjn
                exact ⟨r.length, by rw [natL_len, hr]; rfl⟩
              rw [hkj] at hje
              subst hje
              have hcn : wr.cell? ⟨w.heap.size, j, none⟩ = some (.int .i64 (i : Int)) := by
                rw [World.cell?_of_block (hbel2.out.block w.heap.size (by omega)), ON.out.cellN j hjn, NX.out j hjn, if_pos hbj, hi]
              have hx0 := hin.out.c0
              have hx1 := hin.out.c1
              have hxf := hin.out.fz
              have hxl := hin.out.lt
              have hj0 : (0 : Int) ≤ (j : Int) := by omega
              have hjn3 : (j : Int) < (n : Int) := by omega
              have hi0 : (0 : Int) ≤ (i : Int) := by omega
              have hin3 : (i : Int) < (np : Int) := by omega
              obtain ⟨lc, hlc⟩ : ∃ lc, (natL cur).length = lc := ⟨_, rfl⟩
              have hlen : lc + (kj + 1) ≤ 1000 := by
                have h1 := hch.out
                have h2 : restN c (fn L) n mt b' = pieceN (fn L) j n ++ restN c (fn L) n mt j := by unfold restN; rw [hsc]; exact chain_eq HTX.out hbj hjn
                obtain ⟨h3, h4⟩ := chain_len HTX.out (n - b) b HB.out hbn (Nat.le_refl _)
                have h5 := inc_len h3 h4
                rw [h1, h2, List.length_append, List.length_append] at h5
                rw [natL_len] at hlc hkj
                omega
              have HRJ : Hid (OwnI wr (w.heap.size + 1) (.slice (some ⟨gj, 0, none⟩) (kj + 1) cj) (natL (pieceN (fn L) j n))) := hrj
              have HLC2 : Hid ((natL cur).length = lc) := hlc
              have HCH : Hid (chainN c (fn L) n mt b = (cur ++ pieceN (fn L) j n) ++ restN c (fn L) n mt j) := by
                unfold Hid
                rw [hch.out, List.append_assoc]
                congr 1
                show restN c (fn L) n mt b' = _
                unfold restN; rw [hsc]; exact chain_eq HTX.out hbj hjn
              have HLJ : Hid (∃ p, cur ++ pieceN (fn L) j n = p ++ [lastP (fn L) j n] ∧ p.length = lc + kj) := by
                obtain ⟨p, hp⟩ := piece_last hbj n hjn
                refine ⟨cur ++ p, by rw [hp, List.append_assoc], ?_⟩
                rw [natL_len] at hlc hkj
                rw [hp] at hkj
                simp at hkj ⊢; omega
              have HBJ : Hid (begB (fn L) j = true) := hbj
              have HMZ : Hid (molF c M (lastP (fn L) j n) = -1 ∨ ∃ j2 : Nat, molF c M (lastP (fn L) j n) = (j2 : Int) ∧ j < j2 ∧ j2 < n) := by
                cases hs2 : scN c (fn L) n mt j with
                | none => exact .inl (mol_none HSM.out hbj hjn hs2)
                | some j2 =>
                  obtain ⟨ho2, hmt2, hjn2, _, hlt3, _⟩ := sc_some HTX.out hbj hjn hs2
                  exact .inr ⟨j2, mol_some HSM.out (last_spec hbj hjn).2.1 ho2 hmt2 hjn2, hlt3, hjn2⟩
              have HLJN : Hid (lastP (fn L) j n < n) := (last_spec hbj hjn).2.1
              have HKEEP : Hid (∀ w5 : World, wr.grownBy w5 u.ownBlock → w5.cell? ⟨wo.heap.size, 0, none⟩ = some u ∧ w5.cell? ⟨wo.heap.size, 1, none⟩ = some (.int .i64 (fn L b)) ∧ w5.frozen? ⟨wo.heap.size, 0, none⟩ = false) := fun w5 h5 => by
                have e := h5.block wo.heap.size hxl (fun e => hin.out.ne e.symm)
                exact ⟨(World.cell?_of_block e).trans hx0, (World.cell?_of_block e).trans hx1, (World.frozen?_of_block e).trans hxf⟩
              clear hgr hrj hlc hi huj hkj hbj hsc ho hmt hch hcl hlb
              go_upto_region 10 with fail
              go_region_law ((refine step_appendR (.tmp 58) (.tmp 66) Tryz.underlying55 (show OwnI _ _ _ _ from hin.out.own) (show OwnI _ _ _ _ from HRJ.out) (by omega) (by rw [HLC2.out]; omega) (by show w.heap.size + 1 ≤ wr.heap.size; omega) rfl rfl rfl rfl ?_; intro g5 c5 w5 ho5 hg5 hn5; rw [HLC2.out] at ho5 ⊢; have HO5 : Hid (OwnI w5 (w.heap.size + 1) (.slice (some ⟨g5, 0, none⟩) (lc + (kj + 1)) c5) (natL cur ++ natL (pieceN (fn L) j n))) := ho5; have HG5 : Hid (wr.grownBy w5 u.ownBlock) := ⟨hg5.os, hg5.tape, hg5.output, hg5.size, hg5.block⟩; have HN5 : Hid (u.ownBlock = some g5 ∨ g5 = wr.heap.size) := hn5; obtain ⟨k5, k5b, f5⟩ := HKEEP.out w5 HG5.out; clear ho5 hg5 hn5))
              all_goals
                have hin6 := Inn.step hin.out (u' := .slice (some ⟨g5, 0, none⟩) (lc + (kj + 1)) c5) (cur' := natL (cur ++ pieceN (fn L) j n)) (by rw [natL_app]; exact HO5.out) HG5.out (by rcases HN5.out with e | e; exact .inl e.symm; exact .inr (by rw [e]; rfl))
                obtain ⟨w6, hw6⟩ : ∃ w6, w5.setCell ⟨wo.heap.size, 0, none⟩ (.slice (some ⟨g5, 0, none⟩) (lc + (kj + 1)) c5) = w6 := ⟨_, rfl⟩
                have hbel6 : Below (w.heap.size + 1) w1 w6 := by
                  rw [← hw6]
                  exact (hbel2.out.grown HG5.out (by omega) (fun z hz => (hin.out.own.lt z hz).1)).setCell (by show w.heap.size + 1 ≤ wo.heap.size; exact hsz) _
                have HW6 : Hid _ := hw6
                rw [hw6] at hin6
                have hb60 := hin6.c0
                have hb61 := hin6.c1
                have HIN6 : Hid (Inn wo w6 (w.heap.size + 1) wo.heap.size (pN P q).1.ownBlock (.slice (some ⟨g5, 0, none⟩) (lc + (kj + 1)) c5) (natL (cur ++ pieceN (fn L) j n)) (fn L b)) := hin6
                have HT6 : Hid (TT w6 B T gm gq gl gc n base cs M L cls) := HTT.out.below (B1.out.trans (hbel6.mono (by omega)))
                have HG6 : Hid (g5 < w6.heap.size) := (hin6.own.lt g5 rfl).2
                have HL6 : Hid (w6.cell? ⟨g5, lc + kj, none⟩ = some (.int .i64 ((lastP (fn L) j n : Nat) : Int))) := by
                  obtain ⟨p, hp, hpl⟩ := HLJ.out
                  unfold Hid
                  have hh := hin6.own
                  rw [hp] at hh
                  rw [hh.cellN (lc + kj) (by omega), ← hpl, fn_natL_last]
                have HB6 : Hid (∀ w7, Below w6.heap.size w6 w7 → Below (w.heap.size + 1) w1 w7) := fun w7 h7 => hbel6.trans (h7.mono (by have := hin6.lt; omega))
                clear hw6 hbel6 hin6
                go_wp2_with fail
                rw [HW6.out]
                go_wp2_with (go_at_call 77; refine (implMol g5 (lc + kj) c5 (lastP (fn L) j n) (fn L b) _ HT6.out hn80 HL6.out (by omega) HLJN.out HG6.out HCS.out).mono ?_; rintro e w7 ⟨rfl, b7⟩; have B7 : Hid (Below w6.heap.size w6 w7) := b7; clear b7)
                go_roundw
                case rel => exact ⟨j, cur ++ pieceN (fn L) j n, _, hjn, rfl, HBJ.out, HIN6.out.below B7.out, HCH.out, by obtain ⟨p, hp, _⟩ := HLJ.out; exact ⟨p, hp⟩, by have := hble.out; unfold Hid; omega, HB6.out _ B7.out⟩
                case measure =>
                  rcases HMZ.out with e | ⟨j2, e, h1, h2⟩
                  · rw [e, molM_neg, molM_nat]; omega
                  · rw [e, molM_nat, molM_nat]; omega
            | none =>
              rw [mol_none HSM.out hbb'.out hbn' hsc]
              have hcc : cur = chainN c (fn L) n mt b := by
                have h1 := hch.out
                unfold restN at h1
                rw [hsc] at h1
                simpa using h1.symm
              have hne : natL cur ≠ [] := by
                obtain ⟨p, hp⟩ := hcl.out
                rw [hp]; exact natL_ne (by simp)
              obtain ⟨gx, cx, hxe, _⟩ := OwnI.form1 hin.out.own hne
              obtain ⟨lx, hlx⟩ : ∃ lx, (natL cur).length = lx := ⟨_, rfl⟩
              rw [hlx] at hxe
              subst hxe
              have HIN2 : Hid (Inn wo wr (w.heap.size + 1) wo.heap.size (pN P q).1.ownBlock (.slice (some ⟨gx, 0, none⟩) lx cx) (natL cur) (fn L b)) := hin.out
              have hx0 := hin.out.c0
              have hx1 := hin.out.c1
              have hxl := hin.out.lt
              have hwh := (TG.grown hTG.out (by rw [HNP2.out]; exact hlt) hin.out.grow).wh
              obtain ⟨c5, hc5⟩ : ∃ c5, (natR ((stN c (fn L) mt bq).map (chainN c (fn L) n mt))).length = c5 := ⟨_, rfl⟩
              have hc5n : c5 ≤ 1000 := by
                rw [natR_len, List.length_map] at hc5
                have := stN_len (c := c) (lv := fn L) (mt := mt) bq
                omega
              have HOW : Hid (OwnV 57 2 wr (w.heap.size + 1) u5 c5 (pcells Pw)) := by have := hwh.own; rw [hc5] at this; exact this
              have HC5 : Hid (_ = c5) := hc5
              have hrn : Hid (natR ((stN c (fn L) mt (b + 1)).map (chainN c (fn L) n mt)) = natR ((stN c (fn L) mt bq).map (chainN c (fn L) n mt)) ++ [natL cur]) := by
                unfold Hid
                rw [stN_succ, if_pos HSTART.out, hst.out, List.map_append, natR_app, hcc]; rfl
              have hln : Hid (∀ z : Value, (Pw ++ [(z, fn L b)]).map (·.2) = (stN c (fn L) mt (b + 1)).map (fn L)) := fun z => by
                rw [stN_succ, if_pos HSTART.out, hst.out, List.map_append, List.map_append, HLVQ.out]; rfl
              have hbl1 : Hid ((begN (fn L) (b + 1)).length = q + 1) := by
                unfold Hid
                rw [begN_succ, if_pos HB.out, List.length_append, HBI.out]; rfl
              clear hcc hne hch hcl hsc hlx hwh hc5
              go_wp2_with (at_builtin; refine own_appendV (k := 2) (b := 32) (T := 57) (TS := 53) (.tmp 69) (.tmp 71) rfl rowRT Tryz.underlying53 HOW.out (by omega) (by omega) (by omega) (by omega) rfl (by simp [Value.oneCell']) rfl rfl rfl rfl ?_; intro v8 w8 ho8 hg8 hv8; have HO8 : Hid (OwnV 57 2 w8 (w.heap.size + 1) v8 (c5 + 1) (pcells Pw ++ [.slice (some ⟨gx, 0, none⟩) lx cx, .int .i64 (fn L b)])) := ho8; have HG8 : Hid (wr.grownBy w8 (Value.ownBlock u5)) := hg8; have HV8 : Hid (v8.ownBlock = u5.ownBlock ∨ v8.ownBlock = some (wr.heap.size + 1)) := hv8; clear ho8 hg8 hv8)
              have hadd := TG.add HC5.out hTG.out (by rw [HNP2.out]; exact hlt) HIN2.out.sz HIN2.out.grow HIN2.out.own (by rcases HIN2.out.ub with e | ⟨H, e, h2⟩; exact .inl e; exact .inr ⟨H, e, by omega⟩) HO8.out HG8.out HV8.out
              have HADD : Hid (TG w8 (w.heap.size + 1) (.slice (some ⟨g, 0, none⟩) np cv) P (natR (pcsN (fn L) n)) (q + 1) v8 (Pw ++ [(.slice (some ⟨gx, 0, none⟩) lx cx, fn L b)]) (natR ((stN c (fn L) mt (b + 1)).map (chainN c (fn L) n mt)))) := by unfold Hid; rw [hrn.out]; exact hadd
              have HBE8 : Hid (Below (w.heap.size + 1) w1 w8) := hbel2.out.grown HG8.out (by omega) (fun z hz => (HOW.out.lt z hz).1)
              have hs8 : w.heap.size + 1 ≤ w8.heap.size := by have := HG8.out.size; omega
              clear hadd
              go_roundw
              case rel => exact ⟨q + 1, b + 1, Pw ++ [(Value.slice (some ⟨gx, 0, none⟩) lx cx, fn L b)], by omega, by go_num, by omega, hbl1.out, HADD.out, hln.out _, HBE8.out, hs8⟩
              case measure => simp only [intOf]; omega
      · have hq22 : (c b == 22) = false := by simpa using h22
        have HSTART : Hid (startN c (fn L) mt b = true) := start_no22 HB.out h22
        clear h22
        go_upto_region 6 with fail
        rw [HW.out]
        go_quiet ((go_at_call 76; with_reducible exact Calls.quiet_of_same (HF.out _)))
        go_wp2_with (go_at_call 77; refine (implMol gu k0 cu (lastP (fn L) b n) (fn L b) _ (HTQ.out _) hn80 (HLC.out _) (by omega) HLN.out HGU.out HCS.out).mono ?_; rintro e w4 ⟨rfl, b4⟩; have B4 : Hid (Below (W.drewN nq).heap.size (W.drewN nq) w4) := b4; clear b4)
        go_loopw [8] (fun x wr => ∃ (b' : Nat) (cur : List Nat) (u : Value), b' < n ∧ x = .int .i64 (molF c M (lastP (fn L) b' n)) ∧ Hid (begB (fn L) b' = true) ∧ Hid (Inn wo wr (w.heap.size + 1) wo.heap.size (pN P q).1.ownBlock u (natL cur) (fn L b)) ∧ Hid (chainN c (fn L) n mt b = cur ++ restN c (fn L) n mt b') ∧ Hid (∃ p, cur = p ++ [lastP (fn L) b' n]) ∧ Hid (b ≤ b') ∧ Hid (Below (w.heap.size + 1) w1 wr)) (fun x _ => molM n x)
        case atStart => exact ⟨b, pieceN (fn L) b n, _, hbn, rfl, HB.out, (HINQ.out nq).below B4.out, chain_eq HTX.out HB.out hbn, piece_last HB.out n hbn, Nat.le_refl _, HBQ.out _ _ B4.out⟩
        case round =>
          obtain ⟨b', cur, u, hbn', rfl, hbb', hin, hch, hcl, hble, hbel2⟩ := hrel
          obtain ⟨sc, hsc⟩ : ∃ sc, scN c (fn L) n mt b' = sc := ⟨_, rfl⟩
          cases sc with
          | some j =>
            obtain ⟨ho, hmt, hjn, hbj, hlt2, _⟩ := sc_some HTX.out hbb'.out hbn' hsc
            have hlb := (last_spec hbb'.out hbn').2.1
            rw [mol_some HSM.out hlb ho hmt hjn]
            have hbj2 : b < j := by have := hble.out; omega
            obtain ⟨i, hi⟩ : ∃ i, (begN (fn L) j).length = i := ⟨_, rfl⟩
            have hiq : q + 1 ≤ i := by have := begN_order HB.out hbj2; have := HBI.out; omega
            have hin2 : i < np := by have := begN_lt hbj hjn; have := HNP.out; omega
            have hgr := TG.grown hTG.out (by rw [HNP2.out]; exact hlt) hin.out.grow
            obtain ⟨hcj, _⟩ := hgr.ll.cellAt i hin2
            have hrj := hgr.ll.row i hiq (by rw [HNP2.out]; exact hin2)
            rw [← hi, pcs_at hbj hjn, hi] at hrj
            obtain ⟨uj, huj⟩ : ∃ uj, (pN P i).1 = uj := ⟨_, rfl⟩
            rw [huj] at hcj hrj
            obtain ⟨gj, cj, hje, _⟩ := OwnI.form1 hrj (natL_ne (piece_ne hbj hjn))
            obtain ⟨kj, hkj⟩ : ∃ kj, (natL (pieceN (fn L) j n)).length = kj + 1 := by
              obtain ⟨r, hr⟩ := piece_head hbj hjn
              exact ⟨r.length, by rw [natL_len, hr]; rfl⟩
            rw [hkj] at hje
            subst hje
            have hcn : wr.cell? ⟨w.heap.size, j, none⟩ = some (.int .i64 (i : Int)) := by
              rw [World.cell?_of_block (hbel2.out.block w.heap.size (by omega)), ON.out.cellN j hjn, NX.out j hjn, if_pos hbj, hi]
            have hx0 := hin.out.c0
            have hx1 := hin.out.c1
            have hxf := hin.out.fz
            have hxl := hin.out.lt
            have hj0 : (0 : Int) ≤ (j : Int) := by omega
            have hjn3 : (j : Int) < (n : Int) := by omega
            have hi0 : (0 : Int) ≤ (i : Int) := by omega
            have hin3 : (i : Int) < (np : Int) := by omega
            obtain ⟨lc, hlc⟩ : ∃ lc, (natL cur).length = lc := ⟨_, rfl⟩
            have hlen : lc + (kj + 1) ≤ 1000 := by
              have h1 := hch.out
              have h2 : restN c (fn L) n mt b' = pieceN (fn L) j n ++ restN c (fn L) n mt j := by unfold restN; rw [hsc]; exact chain_eq HTX.out hbj hjn
              obtain ⟨h3, h4⟩ := chain_len HTX.out (n - b) b HB.out hbn (Nat.le_refl _)
              have h5 := inc_len h3 h4
              rw [h1, h2, List.length_append, List.length_append] at h5
              rw [natL_len] at hlc hkj
              omega
            have HRJ : Hid (OwnI wr (w.heap.size + 1) (.slice (some ⟨gj, 0, none⟩) (kj + 1) cj) (natL (pieceN (fn L) j n))) := hrj
            have HLC2 : Hid ((natL cur).length = lc) := hlc
            have HCH : Hid (chainN c (fn L) n mt b = (cur ++ pieceN (fn L) j n) ++ restN c (fn L) n mt j) := by
              unfold Hid
              rw [hch.out, List.append_assoc]
              congr 1
              show restN c (fn L) n mt b' = _
              unfold restN; rw [hsc]; exact chain_eq HTX.out hbj hjn
            have HLJ : Hid (∃ p, cur ++ pieceN (fn L) j n = p ++ [lastP (fn L) j n] ∧ p.length = lc + kj) := by
              obtain ⟨p, hp⟩ := piece_last hbj n hjn
              refine ⟨cur ++ p, by rw [hp, List.append_assoc], ?_⟩
              rw [natL_len] at hlc hkj
              rw [hp] at hkj
              simp at hkj ⊢; omega
            have HBJ : Hid (begB (fn L) j = true) := hbj
            have HMZ : Hid (molF c M (lastP (fn L) j n) = -1 ∨ ∃ j2 : Nat, molF c M (lastP (fn L) j n) = (j2 : Int) ∧ j < j2 ∧ j2 < n) := by
              cases hs2 : scN c (fn L) n mt j with
              | none => exact .inl (mol_none HSM.out hbj hjn hs2)
              | some j2 =>
                obtain ⟨ho2, hmt2, hjn2, _, hlt3, _⟩ := sc_some HTX.out hbj hjn hs2
                exact .inr ⟨j2, mol_some HSM.out (last_spec hbj hjn).2.1 ho2 hmt2 hjn2, hlt3, hjn2⟩
            have HLJN : Hid (lastP (fn L) j n < n) := (last_spec hbj hjn).2.1
            have HKEEP : Hid (∀ w5 : World, wr.grownBy w5 u.ownBlock → w5.cell? ⟨wo.heap.size, 0, none⟩ = some u ∧ w5.cell? ⟨wo.heap.size, 1, none⟩ = some (.int .i64 (fn L b)) ∧ w5.frozen? ⟨wo.heap.size, 0, none⟩ = false) := fun w5 h5 => by
              have e := h5.block wo.heap.size hxl (fun e => hin.out.ne e.symm)
              exact ⟨(World.cell?_of_block e).trans hx0, (World.cell?_of_block e).trans hx1, (World.frozen?_of_block e).trans hxf⟩
            clear hgr hrj hlc hi huj hkj hbj hsc ho hmt hch hcl hlb
            go_upto_region 10 with fail
            go_region_law ((refine step_appendR (.tmp 58) (.tmp 66) Tryz.underlying55 (show OwnI _ _ _ _ from hin.out.own) (show OwnI _ _ _ _ from HRJ.out) (by omega) (by rw [HLC2.out]; omega) (by show w.heap.size + 1 ≤ wr.heap.size; omega) rfl rfl rfl rfl ?_; intro g5 c5 w5 ho5 hg5 hn5; rw [HLC2.out] at ho5 ⊢; have HO5 : Hid (OwnI w5 (w.heap.size + 1) (.slice (some ⟨g5, 0, none⟩) (lc + (kj + 1)) c5) (natL cur ++ natL (pieceN (fn L) j n))) := ho5; have HG5 : Hid (wr.grownBy w5 u.ownBlock) := ⟨hg5.os, hg5.tape, hg5.output, hg5.size, hg5.block⟩; have HN5 : Hid (u.ownBlock = some g5 ∨ g5 = wr.heap.size) := hn5; obtain ⟨k5, k5b, f5⟩ := HKEEP.out w5 HG5.out; clear ho5 hg5 hn5))
            all_goals
              have hin6 := Inn.step hin.out (u' := .slice (some ⟨g5, 0, none⟩) (lc + (kj + 1)) c5) (cur' := natL (cur ++ pieceN (fn L) j n)) (by rw [natL_app]; exact HO5.out) HG5.out (by rcases HN5.out with e | e; exact .inl e.symm; exact .inr (by rw [e]; rfl))
              obtain ⟨w6, hw6⟩ : ∃ w6, w5.setCell ⟨wo.heap.size, 0, none⟩ (.slice (some ⟨g5, 0, none⟩) (lc + (kj + 1)) c5) = w6 := ⟨_, rfl⟩
              have hbel6 : Below (w.heap.size + 1) w1 w6 := by
                rw [← hw6]
                exact (hbel2.out.grown HG5.out (by omega) (fun z hz => (hin.out.own.lt z hz).1)).setCell (by show w.heap.size + 1 ≤ wo.heap.size; exact hsz) _
              have HW6 : Hid _ := hw6
              rw [hw6] at hin6
              have hb60 := hin6.c0
              have hb61 := hin6.c1
              have HIN6 : Hid (Inn wo w6 (w.heap.size + 1) wo.heap.size (pN P q).1.ownBlock (.slice (some ⟨g5, 0, none⟩) (lc + (kj + 1)) c5) (natL (cur ++ pieceN (fn L) j n)) (fn L b)) := hin6
              have HT6 : Hid (TT w6 B T gm gq gl gc n base cs M L cls) := HTT.out.below (B1.out.trans (hbel6.mono (by omega)))
              have HG6 : Hid (g5 < w6.heap.size) := (hin6.own.lt g5 rfl).2
              have HL6 : Hid (w6.cell? ⟨g5, lc + kj, none⟩ = some (.int .i64 ((lastP (fn L) j n : Nat) : Int))) := by
                obtain ⟨p, hp, hpl⟩ := HLJ.out
                unfold Hid
                have hh := hin6.own
                rw [hp] at hh
                rw [hh.cellN (lc + kj) (by omega), ← hpl, fn_natL_last]
              have HB6 : Hid (∀ w7, Below w6.heap.size w6 w7 → Below (w.heap.size + 1) w1 w7) := fun w7 h7 => hbel6.trans (h7.mono (by have := hin6.lt; omega))
              clear hw6 hbel6 hin6
              go_wp2_with fail
              rw [HW6.out]
              go_wp2_with (go_at_call 77; refine (implMol g5 (lc + kj) c5 (lastP (fn L) j n) (fn L b) _ HT6.out hn80 HL6.out (by omega) HLJN.out HG6.out HCS.out).mono ?_; rintro e w7 ⟨rfl, b7⟩; have B7 : Hid (Below w6.heap.size w6 w7) := b7; clear b7)
              go_roundw
              case rel => exact ⟨j, cur ++ pieceN (fn L) j n, _, hjn, rfl, HBJ.out, HIN6.out.below B7.out, HCH.out, by obtain ⟨p, hp, _⟩ := HLJ.out; exact ⟨p, hp⟩, by have := hble.out; unfold Hid; omega, HB6.out _ B7.out⟩
              case measure =>
                rcases HMZ.out with e | ⟨j2, e, h1, h2⟩
                · rw [e, molM_neg, molM_nat]; omega
                · rw [e, molM_nat, molM_nat]; omega
          | none =>
            rw [mol_none HSM.out hbb'.out hbn' hsc]
            have hcc : cur = chainN c (fn L) n mt b := by
              have h1 := hch.out
              unfold restN at h1
              rw [hsc] at h1
              simpa using h1.symm
            have hne : natL cur ≠ [] := by
              obtain ⟨p, hp⟩ := hcl.out
              rw [hp]; exact natL_ne (by simp)
            obtain ⟨gx, cx, hxe, _⟩ := OwnI.form1 hin.out.own hne
            obtain ⟨lx, hlx⟩ : ∃ lx, (natL cur).length = lx := ⟨_, rfl⟩
            rw [hlx] at hxe
            subst hxe
            have HIN2 : Hid (Inn wo wr (w.heap.size + 1) wo.heap.size (pN P q).1.ownBlock (.slice (some ⟨gx, 0, none⟩) lx cx) (natL cur) (fn L b)) := hin.out
            have hx0 := hin.out.c0
            have hx1 := hin.out.c1
            have hxl := hin.out.lt
            have hwh := (TG.grown hTG.out (by rw [HNP2.out]; exact hlt) hin.out.grow).wh
            obtain ⟨c5, hc5⟩ : ∃ c5, (natR ((stN c (fn L) mt bq).map (chainN c (fn L) n mt))).length = c5 := ⟨_, rfl⟩
            have hc5n : c5 ≤ 1000 := by
              rw [natR_len, List.length_map] at hc5
              have := stN_len (c := c) (lv := fn L) (mt := mt) bq
              omega
            have HOW : Hid (OwnV 57 2 wr (w.heap.size + 1) u5 c5 (pcells Pw)) := by have := hwh.own; rw [hc5] at this; exact this
            have HC5 : Hid (_ = c5) := hc5
            have hrn : Hid (natR ((stN c (fn L) mt (b + 1)).map (chainN c (fn L) n mt)) = natR ((stN c (fn L) mt bq).map (chainN c (fn L) n mt)) ++ [natL cur]) := by
              unfold Hid
              rw [stN_succ, if_pos HSTART.out, hst.out, List.map_append, natR_app, hcc]; rfl
            have hln : Hid (∀ z : Value, (Pw ++ [(z, fn L b)]).map (·.2) = (stN c (fn L) mt (b + 1)).map (fn L)) := fun z => by
              rw [stN_succ, if_pos HSTART.out, hst.out, List.map_append, List.map_append, HLVQ.out]; rfl
            have hbl1 : Hid ((begN (fn L) (b + 1)).length = q + 1) := by
              unfold Hid
              rw [begN_succ, if_pos HB.out, List.length_append, HBI.out]; rfl
            clear hcc hne hch hcl hsc hlx hwh hc5
            go_wp2_with (at_builtin; refine own_appendV (k := 2) (b := 32) (T := 57) (TS := 53) (.tmp 69) (.tmp 71) rfl rowRT Tryz.underlying53 HOW.out (by omega) (by omega) (by omega) (by omega) rfl (by simp [Value.oneCell']) rfl rfl rfl rfl ?_; intro v8 w8 ho8 hg8 hv8; have HO8 : Hid (OwnV 57 2 w8 (w.heap.size + 1) v8 (c5 + 1) (pcells Pw ++ [.slice (some ⟨gx, 0, none⟩) lx cx, .int .i64 (fn L b)])) := ho8; have HG8 : Hid (wr.grownBy w8 (Value.ownBlock u5)) := hg8; have HV8 : Hid (v8.ownBlock = u5.ownBlock ∨ v8.ownBlock = some (wr.heap.size + 1)) := hv8; clear ho8 hg8 hv8)
            have hadd := TG.add HC5.out hTG.out (by rw [HNP2.out]; exact hlt) HIN2.out.sz HIN2.out.grow HIN2.out.own (by rcases HIN2.out.ub with e | ⟨H, e, h2⟩; exact .inl e; exact .inr ⟨H, e, by omega⟩) HO8.out HG8.out HV8.out
            have HADD : Hid (TG w8 (w.heap.size + 1) (.slice (some ⟨g, 0, none⟩) np cv) P (natR (pcsN (fn L) n)) (q + 1) v8 (Pw ++ [(.slice (some ⟨gx, 0, none⟩) lx cx, fn L b)]) (natR ((stN c (fn L) mt (b + 1)).map (chainN c (fn L) n mt)))) := by unfold Hid; rw [hrn.out]; exact hadd
            have HBE8 : Hid (Below (w.heap.size + 1) w1 w8) := hbel2.out.grown HG8.out (by omega) (fun z hz => (HOW.out.lt z hz).1)
            have hs8 : w.heap.size + 1 ≤ w8.heap.size := by have := HG8.out.size; omega
            clear hadd
            go_roundw
            case rel => exact ⟨q + 1, b + 1, Pw ++ [(Value.slice (some ⟨gx, 0, none⟩) lx cx, fn L b)], by omega, by go_num, by omega, hbl1.out, HADD.out, hln.out _, HBE8.out, hs8⟩
            case measure => simp only [intOf]; omega
    · have e : q = np := by omega
      subst e
      go_wp2_with fail
      go_ret
      have hst : stN c (fn L) mt n = stN c (fn L) mt bq := stN_to hbq (by rw [hbl.out, HNP.out])
      have hru : runsTo c (fn L) n mt n = (stN c (fn L) mt bq).map (chainN c (fn L) n mt) := by rw [runsTo_st, hst]
      rw [hst, hru]
      exact ⟨⟨_, Pw, rfl, hTG.out.wh, hlv.out⟩, B1.out.trans (hbel.out.mono (by omega))⟩
end Go.Proofs.YtgojdlbidjnmmabGreat
namespace Go.Proofs.YtgojdlbidjnmmabGreat
open Go.ChangeShapes Go.WideShapes Go.ChangeAt Go.RowKit Go.Deep
set_option linter.unusedSimpArgs false
set_option linter.unusedVariables false

/-- The levels of letters. -/
def levsF (l : List Int) (mt : Nat → Nat) (base : Int) : List Int :=
  lvsTo (cl l) l (lvL (cl l) (fsF (cl l) mt) base l.length) (clL (cl l) (fsF (cl l) mt) base l.length) l.length mt base (runsTo (cl l) (fn (lvL (cl l) (fsF (cl l) mt) base l.length)) l.length mt l.length) (runsTo (cl l) (fn (lvL (cl l) (fsF (cl l) mt) base l.length)) l.length mt l.length).length
def levsR (l : List Int) (mt : Nat → Nat) (base : Int) : List Int := if okT l base = true then levsF l mt base else []
theorem levsF_len (l : List Int) (mt : Nat → Nat) (base : Int) : (levsF l mt base).length = l.length := by unfold levsF; rw [lvsTo_len, lvL_len]
theorem levsR_le (l : List Int) (mt : Nat → Nat) (base : Int) : (levsR l mt base).length ≤ l.length := by unfold levsR; split <;> simp [levsF_len]

/-- What is known of the runs of a text. -/
structure RunsOk (l L C : List Int) (n : Nat) (R : List (List Nat)) : Prop where
  len : R.length ≤ n
  nod : R.flatten.Nodup
  ne : ∀ r ∈ R, r ≠ []
  ok : ∀ r ∈ R, ∀ m, r.length = m + 1 → RunOk l C n m (fn L (r.headD 0)) r
  lv : ∀ r ∈ R, ∀ x ∈ r, fn L x = fn L (r.headD 0)
theorem runs_okk {l : List Int} {mt : Nat → Nat} {base : Int} {n : Nat} (hn : l.length = n) (hb : 0 ≤ base ∧ base ≤ 1) (hok : okF (fn l) n = true) (h80 : n ≤ 80) (ht : Txt (cl l) (fn (lvL (cl l) (fsF (cl l) mt) base n)) n mt) :
    RunsOk l (lvL (cl l) (fsF (cl l) mt) base n) (clL (cl l) (fsF (cl l) mt) base n) n (runsTo (cl l) (fn (lvL (cl l) (fsF (cl l) mt) base n)) n mt n) := by
  have hin : ∀ r ∈ runsTo (cl l) (fn (lvL (cl l) (fsF (cl l) mt) base n)) n mt n, ∃ b, b < n ∧ begB (fn (lvL (cl l) (fsF (cl l) mt) base n)) b = true ∧ chainN (cl l) (fn (lvL (cl l) (fsF (cl l) mt) base n)) n mt b = r := fun r hr => by
    unfold runsTo at hr
    rw [List.mem_map] at hr
    obtain ⟨b, hb1, e⟩ := hr
    rw [List.mem_filter, List.mem_range] at hb1
    exact ⟨b, hb1.1, start_beg hb1.2, e⟩
  have hne : ∀ r ∈ runsTo (cl l) (fn (lvL (cl l) (fsF (cl l) mt) base n)) n mt n, r ≠ [] := fun r hr => by
    obtain ⟨b, hbn, hbb, e⟩ := hin r hr
    rw [← e, chain_eq ht hbb hbn]
    have := piece_ne hbb hbn
    simp [this]
  refine ⟨runs_len n, runs_nodup ht, hne, fun r hr m hm => run_ok hn hb hok h80 ht hr hm, fun r hr x hx => ?_⟩
  obtain ⟨b, hbn, hbb, e⟩ := hin r hr
  have hlv := chain_lv ht (n - b) b hbb hbn (Nat.le_refl _)
  rw [e] at hlv
  have hhd : r.headD 0 ∈ r := by
    have := hne r hr
    cases r with
    | nil => exact absurd rfl this
    | cons a q => simp
  rw [(hlv x hx).2.2, (hlv _ hhd).2.2]
/-- What stands at a place before its level is put in. -/
theorem put_cur {c : Nat → Int} {l L C : List Int} {n : Nat} {mt : Nat → Nat} {base : Int} {R : List (List Nat)} (h : R.flatten.Nodup) {q k : Nat} (hq : q < R.length) (hk : k < (R.getD q []).length) (lvl : Int) (x : Nat → Int) :
    fn (putTo (lvsTo c l L C n mt base R q) (R.getD q []) lvl x k) ((R.getD q []).getD k 0) = fn L ((R.getD q []).getD k 0) := by
  have hg : R.getD q [] = R[q] := by simp [hq]
  rw [hg] at hk ⊢
  have hg2 : R[q].getD k 0 = R[q][k] := by simp [hk]
  rw [hg2]
  have htk : R.flatten = (R.take q).flatten ++ (R[q] ++ (R.drop (q + 1)).flatten) := by
    rw [← List.flatten_cons, ← List.flatten_append]
    congr 1
    rw [← List.drop_eq_getElem_cons hq, List.take_append_drop]
  rw [htk, List.nodup_append] at h
  obtain ⟨_, h2, h3⟩ := h
  rw [List.nodup_append] at h2
  have hrn := h2.1
  rw [putTo_other, lvsTo_other (by omega)]
  · intro hm
    exact h3 _ hm _ (List.mem_append_left _ (List.getElem_mem hk)) rfl
  · intro i hi e
    have hil : i < R[q].length := by omega
    rw [show R[q].getD i 0 = R[q][i] by simp [hil]] at e
    exact List.pairwise_iff_getElem.1 hrn i k hil hk hi e
/-- The level of each run is that of its first place. -/
theorem runs_lvs {c lv : Nat → Int} {n : Nat} {mt : Nat → Nat} (ht : Txt c lv n mt) : (stN c lv mt n).map lv = (runsTo c lv n mt n).map (fun r => lv (r.headD 0)) := by
  unfold runsTo stN
  rw [List.map_map]
  apply List.map_congr_left
  intro b hb
  rw [List.mem_filter, List.mem_range] at hb
  have hbb := start_beg hb.2
  simp only [Function.comp]
  obtain ⟨r, hr⟩ := piece_head hbb hb.1
  rw [chain_eq ht hbb hb.1, hr]; rfl
end Go.Proofs.YtgojdlbidjnmmabGreat
