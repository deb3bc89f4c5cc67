import Derived.Test.YtgojdlbidjnmmaaGreatRunsS2
import Derived.Test.YtgojdlbidjnmmaaGreatToldP
namespace Go.Proofs.YtgojdlbidjnmmaaGreat
open Go.ChangeShapes Go.WideShapes Go.ChangeAt Go.RowKit
set_option linter.unusedSimpArgs false
set_option linter.unusedVariables false

theorem natL_ne {l : List Nat} (h : l ≠ []) : natL l ≠ [] := by
  intro e; apply h; have := congrArg List.length e; rw [natL_len] at this; exact List.eq_nil_of_length_eq_zero this
theorem runs_len {c lv : Nat → Int} {n : Nat} {mt : Nat → Nat} (k : Nat) : (runsTo c lv n mt k).length ≤ k := by
  unfold runsTo; rw [List.length_map]; have := List.length_filter_le (startN c lv mt) (List.range k); rw [List.length_range] at this; exact this
theorem start_no22 {c lv : Nat → Int} {mt : Nat → Nat} {k : Nat} (h : begB lv k = true) (h2 : c k ≠ 22) : startN c lv mt k = true := by simp [startN, h, h2]
theorem start_22 {c lv : Nat → Int} {mt : Nat → Nat} {k : Nat} (h : begB lv k = true) (h2 : c k = 22) : startN c lv mt k = !closN c mt k := by simp [startN, h, h2]
/-- From a piece on to the next one. -/
theorem runs_next {c lv : Nat → Int} {n : Nat} {mt : Nat → Nat} {k k2 lp : Nat} (hk : begB lv k = true) (hkn : k < n) (hlp : lastP lv k n = lp) (h1 : lp + 1 ≤ k2) (hno : ∀ x, lp + 1 ≤ x → x < k2 → lv x < 0) : runsTo c lv n mt k2 = runsTo c lv n mt (k + 1) := by
  subst hlp
  obtain ⟨a1, a2, a3⟩ := last_spec hk hkn
  have hle := of_le a1
  refine runs_more (by omega) (fun x x1 x2 => no_start ?_)
  rcases Nat.lt_or_ge (lastP lv k n) x with q | q
  · exact bg_unseen (hno x (by omega) x2)
  · exact no_beg_in hk hkn (by omega) q

set_option maxHeartbeats 8000000 in
theorem specRuns (b off cap b2 off2 cap2 n : Nat) (l L : List Int) (mt : Nat → Nat) (w : World) (hn : l.length = n) (hnL : L.length = n) (hb : b < w.heap.size) (hb2 : b2 < w.heap.size) (hat : At w b off l) (hatL : At w b2 off2 L) (hl : n ≤ 1000)
    (ht : Hid (Txt (cl l) (fn L) n mt)) :
    Calls Tryz.prog 72 #[.slice (some ⟨b, off, none⟩) n cap, .slice (some ⟨b2, off2, none⟩) n cap2] w fun e w' => (∃ v, e = .returned v ∧ RRX w' w.heap.size v (natR (runsTo (cl l) (fn L) n mt n))) ∧ Below w.heap.size w w' := by
  have HN : Hid _ := hn
  have HNL : Hid _ := hnL
  have HA : Hid (∀ w', Below w.heap.size w w' → At w' b off l) := fun w' hw => hat.below hw hb
  have HAL : Hid (∀ w', Below w.heap.size w w' → At w' b2 off2 L) := fun w' hw => hatL.below hw hb2
  have hmt : Hid (MateFn (cl l) n mt) := ht.out.mates
  have ho := RR.empty w w.heap.size 23 (Nat.le_refl _) rfl
  have HO : Hid (RR (w.alloc (.cells #[] 23)) w.heap.size (.slice (some ⟨w.heap.size, 0, none⟩) 0 0) [] []) := ho
  have HB0 : Hid (Below w.heap.size w (w.alloc (.cells #[] 23))) := (Below.refl _ _).alloc (Nat.le_refl _) _
  have hl4 : n ≤ 1048576 := by omega
  clear hn hnL hat hatL ho
  go_enter Tryz.func72, Tryz.ntmps72
  go_wp2_with (go_at_call 115; refine (specLeft b2 off2 cap2 n L 0 _ _ HNL.out (HAL.out _ HB0.out) hl4 (Nat.zero_le _) rfl).mono ?_; rintro e w1 ⟨⟨k0, rfl, hk0, hk0n, hk0a, hk0s⟩, rfl⟩)
  have hst : k0 = n ∨ begB (fn L) k0 = true := by
    rcases Nat.lt_or_ge k0 n with q | q
    · right
      rcases pv_inv (fn L) k0 with ⟨e, _⟩ | ⟨e1, e2, e3, e4⟩
      · have := hk0s q; simp [begB, this, e]; omega
      · have h1 := hk0a (bgL (fn L) k0) (Nat.zero_le _) e4
        have := beg_seen e3; omega
    · left; omega
  have hr0 : runsTo (cl l) (fn L) n mt k0 = [] := by
    rw [runs_more (c := cl l) (mt := mt) (n := n) (Nat.zero_le k0) (fun x _ hx => no_start (bg_unseen (hk0a x (Nat.zero_le _) hx)))]; rfl
  have HST : Hid _ := hst
  have HR0 : Hid _ := hr0
  clear hk0a hk0s hst hr0
  go_loopg [5, 6] n (fun g x5 x6 wr => ∃ (vo : Value) (vs : List Value) (k : Nat), x5 = vo ∧ x6 = .int .i64 k ∧ k ≤ n ∧ Hid (k = n ∨ begB (fn L) k = true) ∧ Hid (RR wr w.heap.size vo vs (natR (runsTo (cl l) (fn L) n mt k))) ∧ n - k ≤ g ∧ Hid (Below w.heap.size w wr))
  case atStart => exact ⟨_, [], k0, rfl, rfl, hk0n, HST.out, by rw [HR0.out]; exact HO.out, by omega, HB0.out⟩
  case round =>
    obtain ⟨vo, vs, k, e5, rfl, hkn, hk, hR, hg, hbel⟩ := hrel
    rw [e5]
    clear e5
    obtain ⟨av, cv, rfl⟩ := hR.out.slc
    by_cases hlt : k < n
    · have hbk : begB (fn L) k = true := by
        rcases hk.out with e | e
        · omega
        · exact e
      have HBK : Hid _ := hbk
      have hki : (k : Int) < (n : Int) := by omega
      have hrl := runs_len (c := cl l) (lv := fn L) (n := n) (mt := mt) k
      obtain ⟨R, hRR⟩ : ∃ R, natR (runsTo (cl l) (fn L) n mt k) = R := ⟨_, rfl⟩
      have hRl : R.length ≤ 1000 := by rw [← hRR, natR_len]; omega
      have HRR : Hid _ := hRR
      have HR : Hid (RR wr w.heap.size (.slice av R.length cv) vs R) := by rw [← hRR]; exact hR.out
      rw [hRR]
      clear hrl hRR hR hk
      obtain ⟨pp, hpp⟩ := piece_last hbk n hlt
      obtain ⟨a1, a2, a3⟩ := last_spec hbk hlt
      obtain ⟨lp, hlp⟩ : ∃ lp, lastP (fn L) k n = lp := ⟨_, rfl⟩
      rw [hlp] at hpp a2 a1
      have hle := of_le a1
      obtain ⟨m, hm⟩ : ∃ m, pp.length = m := ⟨_, rfl⟩
      have hmb : m ≤ 1000 := by
        have : (pieceN (fn L) k n).length ≤ n := by unfold pieceN; have := List.length_filter_le (ofB (fn L) k) (List.range n); rw [List.length_range] at this; exact this
        rw [hpp, List.length_append, hm] at this; simp at this; omega
      have HPP : Hid _ := hpp
      have HM : Hid _ := hm
      have HLP : Hid _ := hlp
      have hchl := chain_len ht.out n k hbk hlt (by omega)
      have hcl := inc_len hchl.1 hchl.2
      have hch1 : natL (chainN (cl l) (fn L) n mt k) ≠ [] := by
        refine natL_ne ?_
        rw [chain_eq ht.out hbk hlt]
        have := piece_ne hbk hlt
        intro e; exact this (List.append_eq_nil_iff.1 e).1
      obtain ⟨C, hC⟩ : ∃ C, natL (chainN (cl l) (fn L) n mt k) = C := ⟨_, rfl⟩
      have HC : Hid _ := hC
      rw [hC] at hch1
      have HCH : Hid _ := hch1
      obtain ⟨ck, hck⟩ : ∃ ck, bidi (fn l k) = ck := ⟨_, rfl⟩
      have HCK : Hid _ := hck
      have hclk : Hid (cl l k = ck) := hck
      have hck2 : ck = 22 ∨ ck ≠ 22 := by omega
      clear hpp hm hlp a1 a3 hchl hcl hch1 hC hck hbk
      -- the run, its last one
      go_wp2_with fail
      refine (specRun b2 off2 cap2 n L k _ _ HNL.out (Nat.lt_of_lt_of_le hb2 hbel.out.size) (HAL.out _ hbel.out) hl hlt rfl HBK.out).mono ?_
      rintro e w2 ⟨⟨v2, rfl, o2⟩, b2'⟩
      have hB2 : Below w.heap.size w w2 := bstep hbel.out b2'
      have h7 := o2
      rw [HPP.out] at h7
      obtain ⟨g2, c2, e2, _⟩ := h7.form1 (natL_ne (by simp))
      have hl7 : (natL (pp ++ [lp])).length = m + 1 := by rw [natL_len, List.length_append, HM.out]; rfl
      rw [hl7] at e2
      have hcell7 : w2.cell? ⟨g2, m, none⟩ = some (.int .i64 (lp : Int)) := by
        rw [e2] at h7
        rw [h7.cellN m (by omega), ← HM.out, fn_natL_last]
      have O2 : Hid (OwnI w2 wr.heap.size (.slice (some ⟨g2, 0, none⟩) (m + 1) c2) (natL (pieceN (fn L) k n))) := by rw [← e2]; exact o2
      have HR2 : Hid (RR w2 w.heap.size (.slice av R.length cv) vs R) := HR.out.below b2'
      have HB2 : Hid (Below w.heap.size w w2) := hB2
      have hck0 : w2.cell? ⟨b, off + k, none⟩ = some (.int .i64 (fn l k)) := HA.out w2 hB2 k (by have := HN.out; omega)
      rw [e2]
      clear e2 h7 hl7 o2 hB2 b2' HR
      rcases hck2 with hck2 | hck2
      · subst hck2
        obtain ⟨cb, hcb⟩ : ∃ cb, closN (cl l) mt k = cb := ⟨_, rfl⟩
        have HCLS : Hid _ := hcb
        have hsta : startN (cl l) (fn L) mt k = !cb := by rw [start_22 HBK.out hclk.out, hcb]
        clear hcb
        cases cb
        · have HSTA : Hid (startN (cl l) (fn L) mt k = true) := hsta
          clear hsta
          go_wp2_with (first | (go_at_call 10; refine (specBidi _ _).mono ?_; rintro e w3 ⟨rfl, b3⟩; rw [HCK.out]) | (go_at_call 117; refine (specCloses b off cap n l mt k _ _ HN.out (Nat.lt_of_lt_of_le hb (bstep HB2.out b3).size) (HA.out _ (bstep HB2.out b3)) hl hmt hlt rfl).mono ?_; rintro e w4 ⟨rfl, b4⟩; rw [HCLS.out]) | (go_at_call 118; refine (specChain b off cap b2 off2 cap2 n l L mt k _ _ HN.out HNL.out (Nat.lt_of_lt_of_le hb (bstep (bstep HB2.out b3) b4).size) (Nat.lt_of_lt_of_le hb2 (bstep (bstep HB2.out b3) b4).size) (HA.out _ (bstep (bstep HB2.out b3) b4)) (HAL.out _ (bstep (bstep HB2.out b3) b4)) hl ht hlt HBK.out _ ((O2.out.below b3).below b4)).mono ?_; rintro e w6 ⟨⟨v6, rfl, o6⟩, b6⟩; rw [HC.out] at o6; obtain ⟨g6, c6, e6, _⟩ := o6.form1 HCH.out; subst e6; have O6 : Hid (OwnI w6 w4.heap.size (.slice (some ⟨g6, 0, none⟩) C.length c6) C) := o6; have R6 : Hid (RR w4 w.heap.size (.slice av R.length cv) vs R) := ((HR2.out.below b3).below b4); have B6 : Hid (Below w4.heap.size w4 w6) := b6; have BB6 : Hid (Below w.heap.size w w6) := bstep (bstep (bstep HB2.out b3) b4) b6; have RV : Hid (OwnV 23 1 w6 w.heap.size (.slice av R.length cv) R.length vs) := (((HR2.out.below b3).below b4).below b6).own; clear o6) | (at_builtin; refine own_appendV (k := 1) (b := 24) (T := 23) (TS := 78) (.tmp 37) (.tmp 42) rfl rowSS Tryz.underlying78 RV.out (by omega) BB6.out.size (by omega) (by omega) rfl (by simp [Value.oneCell']) rfl rfl rfl rfl ?_; intro v8 w8 ho8 hgr8 hv8; have RR8 : Hid (RR w8 w.heap.size v8 (vs ++ [.slice (some ⟨g6, 0, none⟩) C.length c6]) (R ++ [C])) := R6.out.snoc (bstep (bstep HB2.out b3) b4).size B6.out O6.out ho8 hgr8 hv8; have B8 : Hid (Below w.heap.size w w8) := BB6.out.grown hgr8 BB6.out.size (fun q hq => (R6.out.lt q hq).1); clear ho8 hgr8 hv8) | (go_at_call 115; refine (specLeft b2 off2 cap2 n L (lp + 1) _ _ HNL.out (HAL.out _ B8.out) hl4 (by omega) (by omega)).mono ?_; rintro e w9 ⟨⟨k2, rfl, hk2, hk2n, hk2a, hk2s⟩, rfl⟩))
          go_roundg (n - k2)
          case measure => omega
          case rel =>
            have hrn := runs_next (c := cl l) (mt := mt) HBK.out hlt HLP.out hk2 hk2a
            rw [runs_succ, if_pos HSTA.out] at hrn
            refine ⟨_, vs ++ [.slice (some ⟨g6, 0, none⟩) C.length c6], k2, rfl, rfl, hk2n, ?_, ?_, Nat.le_refl _, B8.out⟩
            · rcases Nat.lt_or_ge k2 n with q | q
              · exact .inr (next_beg HBK.out hlt (by rw [HLP.out]; omega) q (fun x x1 x2 => hk2a x (by rw [HLP.out] at x1; omega) x2) (hk2s q))
              · exact .inl (by omega)
            · rw [hrn, natR_app, HRR.out]
              show RR _ _ _ _ (R ++ [natL (chainN (cl l) (fn L) n mt k)])
              rw [HC.out]; exact RR8.out
        · have HSTA : Hid (startN (cl l) (fn L) mt k = false) := hsta
          clear hsta
          go_wp2_with (first | (go_at_call 10; refine (specBidi _ _).mono ?_; rintro e w3 ⟨rfl, b3⟩; rw [HCK.out]) | (go_at_call 117; refine (specCloses b off cap n l mt k _ _ HN.out (Nat.lt_of_lt_of_le hb (bstep HB2.out b3).size) (HA.out _ (bstep HB2.out b3)) hl hmt hlt rfl).mono ?_; rintro e w4 ⟨rfl, b4⟩; rw [HCLS.out]) | (go_at_call 115; refine (specLeft b2 off2 cap2 n L (lp + 1) _ _ HNL.out (HAL.out _ (bstep (bstep HB2.out b3) b4)) hl4 (by omega) (by omega)).mono ?_; rintro e w9 ⟨⟨k2, rfl, hk2, hk2n, hk2a, hk2s⟩, rfl⟩))
          go_roundg (n - k2)
          case measure => omega
          case rel =>
            have hrn := runs_next (c := cl l) (mt := mt) HBK.out hlt HLP.out hk2 hk2a
            rw [runs_succ, if_neg (by rw [HSTA.out]; simp)] at hrn
            refine ⟨_, vs, k2, rfl, rfl, hk2n, ?_, ?_, Nat.le_refl _, bstep (bstep HB2.out b3) b4⟩
            · rcases Nat.lt_or_ge k2 n with q | q
              · exact .inr (next_beg HBK.out hlt (by rw [HLP.out]; omega) q (fun x x1 x2 => hk2a x (by rw [HLP.out] at x1; omega) x2) (hk2s q))
              · exact .inl (by omega)
            · rw [hrn, natR_app, HRR.out]
              rw [show natR [] = ([] : List (List Int)) from rfl, List.append_nil]
              exact (HR2.out.below b3).below b4
      · have hne : (ck != 22) = true := by simpa using hck2
        have HSTA : Hid (startN (cl l) (fn L) mt k = true) := start_no22 HBK.out (by rw [hclk.out]; exact hck2)
        clear hck2
        go_wp2_with (first | (go_at_call 10; refine (specBidi _ _).mono ?_; rintro e w3 ⟨rfl, b3⟩; rw [HCK.out]) | (go_at_call 118; refine (specChain b off cap b2 off2 cap2 n l L mt k _ _ HN.out HNL.out (Nat.lt_of_lt_of_le hb (bstep HB2.out b3).size) (Nat.lt_of_lt_of_le hb2 (bstep HB2.out b3).size) (HA.out _ (bstep HB2.out b3)) (HAL.out _ (bstep HB2.out b3)) hl ht hlt HBK.out _ (O2.out.below b3)).mono ?_; rintro e w6 ⟨⟨v6, rfl, o6⟩, b6⟩; rw [HC.out] at o6; obtain ⟨g6, c6, e6, _⟩ := o6.form1 HCH.out; subst e6; have O6 : Hid (OwnI w6 w3.heap.size (.slice (some ⟨g6, 0, none⟩) C.length c6) C) := o6; have R6 : Hid (RR w3 w.heap.size (.slice av R.length cv) vs R) := (HR2.out.below b3); have B6 : Hid (Below w3.heap.size w3 w6) := b6; have BB6 : Hid (Below w.heap.size w w6) := bstep (bstep HB2.out b3) b6; have RV : Hid (OwnV 23 1 w6 w.heap.size (.slice av R.length cv) R.length vs) := ((HR2.out.below b3).below b6).own; clear o6) | (at_builtin; refine own_appendV (k := 1) (b := 24) (T := 23) (TS := 78) (.tmp 37) (.tmp 42) rfl rowSS Tryz.underlying78 RV.out (by omega) BB6.out.size (by omega) (by omega) rfl (by simp [Value.oneCell']) rfl rfl rfl rfl ?_; intro v8 w8 ho8 hgr8 hv8; have RR8 : Hid (RR w8 w.heap.size v8 (vs ++ [.slice (some ⟨g6, 0, none⟩) C.length c6]) (R ++ [C])) := R6.out.snoc (bstep HB2.out b3).size B6.out O6.out ho8 hgr8 hv8; have B8 : Hid (Below w.heap.size w w8) := BB6.out.grown hgr8 BB6.out.size (fun q hq => (R6.out.lt q hq).1); clear ho8 hgr8 hv8) | (go_at_call 115; refine (specLeft b2 off2 cap2 n L (lp + 1) _ _ HNL.out (HAL.out _ B8.out) hl4 (by omega) (by omega)).mono ?_; rintro e w9 ⟨⟨k2, rfl, hk2, hk2n, hk2a, hk2s⟩, rfl⟩))
        go_roundg (n - k2)
        case measure => omega
        case rel =>
          have hrn := runs_next (c := cl l) (mt := mt) HBK.out hlt HLP.out hk2 hk2a
          rw [runs_succ, if_pos HSTA.out] at hrn
          refine ⟨_, vs ++ [.slice (some ⟨g6, 0, none⟩) C.length c6], k2, rfl, rfl, hk2n, ?_, ?_, Nat.le_refl _, B8.out⟩
          · rcases Nat.lt_or_ge k2 n with q | q
            · exact .inr (next_beg HBK.out hlt (by rw [HLP.out]; omega) q (fun x x1 x2 => hk2a x (by rw [HLP.out] at x1; omega) x2) (hk2s q))
            · exact .inl (by omega)
          · rw [hrn, natR_app, HRR.out]
            show RR _ _ _ _ (R ++ [natL (chainN (cl l) (fn L) n mt k)])
            rw [HC.out]; exact RR8.out
    · have e : k = n := by omega
      subst e
      go_wp2_with fail
      go_ret
      exact ⟨⟨_, rfl, vs, hR.out⟩, hbel.out⟩

/-- What letters and what is told of them are together. -/
theorem txt_told (l : List Int) (mt : Nat → Nat) {base : Int} (hb : 0 ≤ base ∧ base ≤ 1) (hmt : MateFn (cl l) l.length mt) : Txt (cl l) (fn (lvL (cl l) (fsF (cl l) mt) base l.length)) l.length mt := by
  refine ⟨hmt, fun i hi ho hm => ?_⟩
  have hM : MateIs (cl l) i (mt i) := by
    rcases hmt i hi ho with ⟨q, _⟩ | ⟨q, _⟩
    · exact q
    · omega
  obtain ⟨⟨h1, h2, h3⟩, _⟩ := win_at (cl l) (fsF (cl l) mt) hb ho hM
  have hlt := hM.lt
  refine ⟨by rw [fn_lvL hm, fn_lvL hi]; exact h1, by rw [fn_lvL hi]; exact h2, ?_⟩
  rcases h3 with h3 | h3
  · exact .inl fun p p1 p2 p3 => by rw [fn_lvL (j := p) (by omega)] at p3 ⊢; rw [fn_lvL hi]; exact h3 p p1 p2 p3
  · exact .inr fun p p1 p2 p3 => by rw [fn_lvL (j := p) (by omega)] at p3 ⊢; rw [fn_lvL hi]; exact h3 p p1 p2 p3
/-- The runs of letters. -/
def runsR (l : List Int) (mt : Nat → Nat) (base : Int) : List (List Int) :=
  if okT l base = true then natR (runsTo (cl l) (fn (lvL (cl l) (fsF (cl l) mt) base l.length)) l.length mt l.length) else []

set_option maxHeartbeats 2000000 in
theorem specRuns0 (a a2 : Option Addr) (cap cap2 : Nat) (w : World) :
    Calls Tryz.prog 72 #[.slice a 0 cap, .slice a2 0 cap2] w fun e w' => (∃ v, e = .returned v ∧ RRX w' w.heap.size v []) ∧ Below w.heap.size w w' := by
  have ho := RR.empty w w.heap.size 23 (Nat.le_refl _) rfl
  have HO : Hid (RR (w.alloc (.cells #[] 23)) w.heap.size (.slice (some ⟨w.heap.size, 0, none⟩) 0 0) [] []) := ho
  have HB0 : Hid (Below w.heap.size w (w.alloc (.cells #[] 23))) := (Below.refl _ _).alloc (Nat.le_refl _) _
  have hleft : ∀ w1 : World, Calls Tryz.prog 115 #[.slice a2 0 cap2, .int .i64 0] w1 fun e w' => e = .returned (.int .i64 0) ∧ w' = w1 := by
    intro w1
    go_enter Tryz.func115, Tryz.ntmps115
    go_wp2
    go_rounds 1
    go_ret
    exact ⟨rfl, rfl⟩
  have HL : Hid _ := hleft
  clear ho hleft
  go_enter Tryz.func72, Tryz.ntmps72
  go_wp2_with (go_at_call 115; refine (HL.out _).mono ?_; rintro e w1 ⟨rfl, rfl⟩)
  go_rounds 1
  go_ret
  exact ⟨⟨_, rfl, [], HO.out⟩, HB0.out⟩

end Go.Proofs.YtgojdlbidjnmmaaGreat
