import Derived.Test.YtkdmfjnaajedhaaMg9
import Derived.Test.YtkdmfjnaajedhaaMg12
import Derived.Test.YtkdmfjnaajedhaaMg7
import Derived.Test.YtkdmfjnaajedhaaMg2
namespace Go.Proofs.Ytkdmfjnaajedhaa
open Go.ChangeShapes Go.WideShapes Go.ChangeAt Go.RowKit
set_option linter.unusedSimpArgs false
set_option linter.unusedVariables false

theorem OwnI.form1 {w : World} {B : Nat} {v : Value} {l : List Int} (h : OwnI w B v l) (hl : l ≠ []) : ∃ g cap, v = .slice (some ⟨g, 0, none⟩) l.length cap ∧ l.length ≤ cap := by
  rcases h.forms with ⟨_, e⟩ | ⟨g, cap, e, _, _, e2, _⟩
  · exact absurd e hl
  · exact ⟨g, cap, e, e2⟩
theorem natL_ne {l : List Nat} (h : l ≠ []) : natL l ≠ [] := by
  intro e; apply h; have := congrArg List.length e; rw [natL_len] at this; exact List.eq_nil_of_length_eq_zero this
theorem runs_len {c lv : Nat → Int} {n : Nat} {mt : Nat → Nat} (k : Nat) : (runsTo c lv n mt k).length ≤ k := by
  unfold runsTo; rw [List.length_map]; have := List.length_filter_le (startN c lv mt) (List.range k); rw [List.length_range] at this; exact this
theorem start_no22 {c lv : Nat → Int} {mt : Nat → Nat} {k : Nat} (h : begB lv k = true) (h2 : c k ≠ 22) : startN c lv mt k = true := by simp [startN, h, h2]
theorem start_22 {c lv : Nat → Int} {mt : Nat → Nat} {k : Nat} (h : begB lv k = true) (h2 : c k = 22) : startN c lv mt k = !closN c mt k := by simp [startN, h, h2]
/-- From a piece on to the next one. -/
theorem runs_next {c lv : Nat → Int} {n : Nat} {mt : Nat → Nat} {k k2 lp : Nat} (hk : begB lv k = true) (hkn : k < n) (hlp : lastP lv k n = lp) (h1 : lp + 1 ≤ k2) (hno : ∀ x, lp + 1 ≤ x → x < k2 → lv x < 0) : runsTo c lv n mt k2 = runsTo c lv n mt (k + 1) := by
  subst hlp
  obtain ⟨a1, a2, a3⟩ := last_spec hk hkn
  have hle := of_le a1
  refine runs_more (by omega) (fun x x1 x2 => no_start ?_)
  rcases Nat.lt_or_ge (lastP lv k n) x with q | q
  · exact bg_unseen (hno x (by omega) x2)
  · exact no_beg_in hk hkn (by omega) q

set_option maxHeartbeats 8000000 in
theorem specRuns (b off cap b2 off2 cap2 n : Nat) (l L : List Int) (mt : Nat → Nat) (w : World) (hn : l.length = n) (hnL : L.length = n) (hb : b < w.heap.size) (hb2 : b2 < w.heap.size) (hat : At w b off l) (hatL : At w b2 off2 L) (hl : n ≤ 1000)
    (ht : Hid (Txt (cl l) (fn L) n mt)) :
    Calls Try.prog 22 #[.slice (some ⟨b, off, none⟩) n cap, .slice (some ⟨b2, off2, none⟩) n cap2] w fun e w' => (∃ v, e = .returned v ∧ RRX w' w.heap.size v (natR (runsTo (cl l) (fn L) n mt n))) ∧ Below w.heap.size w w' := by
  have HN : Hid _ := hn
  have HNL : Hid _ := hnL
  have HA : Hid (∀ w', Below w.heap.size w w' → At w' b off l) := fun w' hw => hat.below hw hb
  have HAL : Hid (∀ w', Below w.heap.size w w' → At w' b2 off2 L) := fun w' hw => hatL.below hw hb2
  have hmt : Hid (MateFn (cl l) n mt) := ht.out.mates
  have ho := RR.empty w w.heap.size 22 (Nat.le_refl _) rfl
  have HO : Hid (RR (w.alloc (.cells #[] 22)) w.heap.size (.slice (some ⟨w.heap.size, 0, none⟩) 0 0) [] []) := ho
  have HB0 : Hid (Below w.heap.size w (w.alloc (.cells #[] 22))) := (Below.refl _ _).alloc (Nat.le_refl _) _
  have hl4 : n ≤ 1048576 := by omega
  clear hn hnL hat hatL ho
  go_enter Try.func22, Try.ntmps22
  go_wp2_with (go_at_call 38; refine (specLeft b2 off2 cap2 n L 0 _ _ HNL.out (HAL.out _ HB0.out) hl4 (Nat.zero_le _) rfl).mono ?_; rintro e w1 ⟨⟨k0, rfl, hk0, hk0n, hk0a, hk0s⟩, rfl⟩)
  have hst : k0 = n ∨ begB (fn L) k0 = true := by
    rcases Nat.lt_or_ge k0 n with q | q
    · right
      rcases pv_inv (fn L) k0 with ⟨e, _⟩ | ⟨e1, e2, e3, e4⟩
      · have := hk0s q; simp [begB, this, e]; omega
      · have h1 := hk0a (bgL (fn L) k0) (Nat.zero_le _) e4
        have := beg_seen e3; omega
    · left; omega
  have hr0 : runsTo (cl l) (fn L) n mt k0 = [] := by
    rw [runs_more (c := cl l) (mt := mt) (n := n) (Nat.zero_le k0) (fun x _ hx => no_start (bg_unseen (hk0a x (Nat.zero_le _) hx)))]; rfl
  have HST : Hid _ := hst
  have HR0 : Hid _ := hr0
  clear hk0a hk0s hst hr0
  go_loopg [5, 6] n (fun g x5 x6 wr => ∃ (vo : Value) (vs : List Value) (k : Nat), x5 = vo ∧ x6 = .int .i64 k ∧ k ≤ n ∧ Hid (k = n ∨ begB (fn L) k = true) ∧ Hid (RR wr w.heap.size vo vs (natR (runsTo (cl l) (fn L) n mt k))) ∧ n - k ≤ g ∧ Hid (Below w.heap.size w wr))
  case atStart => exact ⟨_, [], k0, rfl, rfl, hk0n, HST.out, by rw [HR0.out]; exact HO.out, by omega, HB0.out⟩
  case round =>
    obtain ⟨vo, vs, k, e5, rfl, hkn, hk, hR, hg, hbel⟩ := hrel
    rw [e5]
    clear e5
    obtain ⟨av, cv, rfl⟩ := hR.out.slc
    by_cases hlt : k < n
    · have hbk : begB (fn L) k = true := by
        rcases hk.out with e | e
        · omega
        · exact e
      have HBK : Hid _ := hbk
      have hki : (k : Int) < (n : Int) := by omega
      have hrl := runs_len (c := cl l) (lv := fn L) (n := n) (mt := mt) k
      obtain ⟨R, hRR⟩ : ∃ R, natR (runsTo (cl l) (fn L) n mt k) = R := ⟨_, rfl⟩
      have hRl : R.length ≤ 1000 := by rw [← hRR, natR_len]; omega
      have HRR : Hid _ := hRR
      have HR : Hid (RR wr w.heap.size (.slice av R.length cv) vs R) := by rw [← hRR]; exact hR.out
      rw [hRR]
      clear hrl hRR hR hk
      obtain ⟨pp, hpp⟩ := piece_last hbk n hlt
      obtain ⟨a1, a2, a3⟩ := last_spec hbk hlt
      obtain ⟨lp, hlp⟩ : ∃ lp, lastP (fn L) k n = lp := ⟨_, rfl⟩
      rw [hlp] at hpp a2 a1
      have hle := of_le a1
      obtain ⟨m, hm⟩ : ∃ m, pp.length = m := ⟨_, rfl⟩
      have hmb : m ≤ 1000 := by
        have : (pieceN (fn L) k n).length ≤ n := by unfold pieceN; have := List.length_filter_le (ofB (fn L) k) (List.range n); rw [List.length_range] at this; exact this
        rw [hpp, List.length_append, hm] at this; simp at this; omega
      have HPP : Hid _ := hpp
      have HM : Hid _ := hm
      have HLP : Hid _ := hlp
      have hchl := chain_len ht.out n k hbk hlt (by omega)
      have hcl := inc_len hchl.1 hchl.2
      have hch1 : natL (chainN (cl l) (fn L) n mt k) ≠ [] := by
        refine natL_ne ?_
        rw [chain_eq ht.out hbk hlt]
        have := piece_ne hbk hlt
        intro e; exact this (List.append_eq_nil_iff.1 e).1
      obtain ⟨C, hC⟩ : ∃ C, natL (chainN (cl l) (fn L) n mt k) = C := ⟨_, rfl⟩
      have HC : Hid _ := hC
      rw [hC] at hch1
      have HCH : Hid _ := hch1
      obtain ⟨ck, hck⟩ : ∃ ck, bidi (fn l k) = ck := ⟨_, rfl⟩
      have HCK : Hid _ := hck
      have hclk : Hid (cl l k = ck) := hck
      have hck2 : ck = 22 ∨ ck ≠ 22 := by omega
      clear hpp hm hlp a1 a3 hchl hcl hch1 hC hck hbk
      -- the run, its last one
      go_wp2_with fail
      refine (specRun b2 off2 cap2 n L k _ _ HNL.out (Nat.lt_of_lt_of_le hb2 hbel.out.size) (HAL.out _ hbel.out) hl hlt rfl HBK.out).mono ?_
      rintro e w2 ⟨⟨v2, rfl, o2⟩, b2'⟩
      have hB2 : Below w.heap.size w w2 := bstep hbel.out b2'
      have h7 := o2
      rw [HPP.out] at h7
      obtain ⟨g2, c2, e2, _⟩ := h7.form1 (natL_ne (by simp))
      have hl7 : (natL (pp ++ [lp])).length = m + 1 := by rw [natL_len, List.length_append, HM.out]; rfl
      rw [hl7] at e2
      have hcell7 : w2.cell? ⟨g2, m, none⟩ = some (.int .i64 (lp : Int)) := by
        rw [e2] at h7
        rw [h7.cellN m (by omega), ← HM.out, fn_natL_last]
      have O2 : Hid (OwnI w2 wr.heap.size (.slice (some ⟨g2, 0, none⟩) (m + 1) c2) (natL (pieceN (fn L) k n))) := by rw [← e2]; exact o2
      have HR2 : Hid (RR w2 w.heap.size (.slice av R.length cv) vs R) := HR.out.below b2'
      have HB2 : Hid (Below w.heap.size w w2) := hB2
      have hck0 : w2.cell? ⟨b, off + k, none⟩ = some (.int .i64 (fn l k)) := HA.out w2 hB2 k (by have := HN.out; omega)
      rw [e2]
      clear e2 h7 hl7 o2 hB2 b2' HR
      rcases hck2 with hck2 | hck2
      · subst hck2
        obtain ⟨cb, hcb⟩ : ∃ cb, closN (cl l) mt k = cb := ⟨_, rfl⟩
        have HCLS : Hid _ := hcb
        have hsta : startN (cl l) (fn L) mt k = !cb := by rw [start_22 HBK.out hclk.out, hcb]
        clear hcb
        cases cb
        · have HSTA : Hid (startN (cl l) (fn L) mt k = true) := hsta
          clear hsta
          go_wp2_with (first | (go_at_call 40; refine (specBidi _ _).mono ?_; rintro e w3 ⟨rfl, b3⟩; rw [HCK.out]) | (go_at_call 41; refine (specCloses b off cap n l mt k _ _ HN.out (Nat.lt_of_lt_of_le hb (bstep HB2.out b3).size) (HA.out _ (bstep HB2.out b3)) hl hmt hlt rfl).mono ?_; rintro e w4 ⟨rfl, b4⟩; rw [HCLS.out]) | (go_at_call 42; refine (specChain b off cap b2 off2 cap2 n l L mt k _ _ HN.out HNL.out (Nat.lt_of_lt_of_le hb (bstep (bstep HB2.out b3) b4).size) (Nat.lt_of_lt_of_le hb2 (bstep (bstep HB2.out b3) b4).size) (HA.out _ (bstep (bstep HB2.out b3) b4)) (HAL.out _ (bstep (bstep HB2.out b3) b4)) hl ht hlt HBK.out _ ((O2.out.below b3).below b4)).mono ?_; rintro e w6 ⟨⟨v6, rfl, o6⟩, b6⟩; rw [HC.out] at o6; obtain ⟨g6, c6, e6, _⟩ := o6.form1 HCH.out; subst e6; have O6 : Hid (OwnI w6 w4.heap.size (.slice (some ⟨g6, 0, none⟩) C.length c6) C) := o6; have R6 : Hid (RR w4 w.heap.size (.slice av R.length cv) vs R) := ((HR2.out.below b3).below b4); have B6 : Hid (Below w4.heap.size w4 w6) := b6; have BB6 : Hid (Below w.heap.size w w6) := bstep (bstep (bstep HB2.out b3) b4) b6; have RV : Hid (OwnV 22 1 w6 w.heap.size (.slice av R.length cv) R.length vs) := (((HR2.out.below b3).below b4).below b6).own; clear o6) | (at_builtin; refine own_appendV (k := 1) (b := 24) (T := 22) (TS := 29) (.tmp 37) (.tmp 42) rfl rowSS Try.underlying29 RV.out (by omega) BB6.out.size (by omega) (by omega) rfl (by simp [Value.oneCell']) rfl rfl rfl rfl ?_; intro v8 w8 ho8 hgr8 hv8; have RR8 : Hid (RR w8 w.heap.size v8 (vs ++ [.slice (some ⟨g6, 0, none⟩) C.length c6]) (R ++ [C])) := R6.out.snoc (bstep (bstep HB2.out b3) b4).size B6.out O6.out ho8 hgr8 hv8; have B8 : Hid (Below w.heap.size w w8) := BB6.out.grown hgr8 BB6.out.size (fun q hq => (R6.out.lt q hq).1); clear ho8 hgr8 hv8) | (go_at_call 38; refine (specLeft b2 off2 cap2 n L (lp + 1) _ _ HNL.out (HAL.out _ B8.out) hl4 (by omega) (by omega)).mono ?_; rintro e w9 ⟨⟨k2, rfl, hk2, hk2n, hk2a, hk2s⟩, rfl⟩))
          go_roundg (n - k2)
          case measure => omega
          case rel =>
            have hrn := runs_next (c := cl l) (mt := mt) HBK.out hlt HLP.out hk2 hk2a
            rw [runs_succ, if_pos HSTA.out] at hrn
            refine ⟨_, vs ++ [.slice (some ⟨g6, 0, none⟩) C.length c6], k2, rfl, rfl, hk2n, ?_, ?_, Nat.le_refl _, B8.out⟩
            · rcases Nat.lt_or_ge k2 n with q | q
              · exact .inr (next_beg HBK.out hlt (by rw [HLP.out]; omega) q (fun x x1 x2 => hk2a x (by rw [HLP.out] at x1; omega) x2) (hk2s q))
              · exact .inl (by omega)
            · rw [hrn, natR_app, HRR.out]
              show RR _ _ _ _ (R ++ [natL (chainN (cl l) (fn L) n mt k)])
              rw [HC.out]; exact RR8.out
        · have HSTA : Hid (startN (cl l) (fn L) mt k = false) := hsta
          clear hsta
          go_wp2_with (first | (go_at_call 40; refine (specBidi _ _).mono ?_; rintro e w3 ⟨rfl, b3⟩; rw [HCK.out]) | (go_at_call 41; refine (specCloses b off cap n l mt k _ _ HN.out (Nat.lt_of_lt_of_le hb (bstep HB2.out b3).size) (HA.out _ (bstep HB2.out b3)) hl hmt hlt rfl).mono ?_; rintro e w4 ⟨rfl, b4⟩; rw [HCLS.out]) | (go_at_call 38; refine (specLeft b2 off2 cap2 n L (lp + 1) _ _ HNL.out (HAL.out _ (bstep (bstep HB2.out b3) b4)) hl4 (by omega) (by omega)).mono ?_; rintro e w9 ⟨⟨k2, rfl, hk2, hk2n, hk2a, hk2s⟩, rfl⟩))
          go_roundg (n - k2)
          case measure => omega
          case rel =>
            have hrn := runs_next (c := cl l) (mt := mt) HBK.out hlt HLP.out hk2 hk2a
            rw [runs_succ, if_neg (by rw [HSTA.out]; simp)] at hrn
            refine ⟨_, vs, k2, rfl, rfl, hk2n, ?_, ?_, Nat.le_refl _, bstep (bstep HB2.out b3) b4⟩
            · rcases Nat.lt_or_ge k2 n with q | q
              · exact .inr (next_beg HBK.out hlt (by rw [HLP.out]; omega) q (fun x x1 x2 => hk2a x (by rw [HLP.out] at x1; omega) x2) (hk2s q))
              · exact .inl (by omega)
            · rw [hrn, natR_app, HRR.out]
              rw [show natR [] = ([] : List (List Int)) from rfl, List.append_nil]
              exact (HR2.out.below b3).below b4
      · have hne : (ck != 22) = true := by simpa using hck2
        have HSTA : Hid (startN (cl l) (fn L) mt k = true) := start_no22 HBK.out (by rw [hclk.out]; exact hck2)
        clear hck2
        go_wp2_with (first | (go_at_call 40; refine (specBidi _ _).mono ?_; rintro e w3 ⟨rfl, b3⟩; rw [HCK.out]) | (go_at_call 42; refine (specChain b off cap b2 off2 cap2 n l L mt k _ _ HN.out HNL.out (Nat.lt_of_lt_of_le hb (bstep HB2.out b3).size) (Nat.lt_of_lt_of_le hb2 (bstep HB2.out b3).size) (HA.out _ (bstep HB2.out b3)) (HAL.out _ (bstep HB2.out b3)) hl ht hlt HBK.out _ (O2.out.below b3)).mono ?_; rintro e w6 ⟨⟨v6, rfl, o6⟩, b6⟩; rw [HC.out] at o6; obtain ⟨g6, c6, e6, _⟩ := o6.form1 HCH.out; subst e6; have O6 : Hid (OwnI w6 w3.heap.size (.slice (some ⟨g6, 0, none⟩) C.length c6) C) := o6; have R6 : Hid (RR w3 w.heap.size (.slice av R.length cv) vs R) := (HR2.out.below b3); have B6 : Hid (Below w3.heap.size w3 w6) := b6; have BB6 : Hid (Below w.heap.size w w6) := bstep (bstep HB2.out b3) b6; have RV : Hid (OwnV 22 1 w6 w.heap.size (.slice av R.length cv) R.length vs) := ((HR2.out.below b3).below b6).own; clear o6) | (at_builtin; refine own_appendV (k := 1) (b := 24) (T := 22) (TS := 29) (.tmp 37) (.tmp 42) rfl rowSS Try.underlying29 RV.out (by omega) BB6.out.size (by omega) (by omega) rfl (by simp [Value.oneCell']) rfl rfl rfl rfl ?_; intro v8 w8 ho8 hgr8 hv8; have RR8 : Hid (RR w8 w.heap.size v8 (vs ++ [.slice (some ⟨g6, 0, none⟩) C.length c6]) (R ++ [C])) := R6.out.snoc (bstep HB2.out b3).size B6.out O6.out ho8 hgr8 hv8; have B8 : Hid (Below w.heap.size w w8) := BB6.out.grown hgr8 BB6.out.size (fun q hq => (R6.out.lt q hq).1); clear ho8 hgr8 hv8) | (go_at_call 38; refine (specLeft b2 off2 cap2 n L (lp + 1) _ _ HNL.out (HAL.out _ B8.out) hl4 (by omega) (by omega)).mono ?_; rintro e w9 ⟨⟨k2, rfl, hk2, hk2n, hk2a, hk2s⟩, rfl⟩))
        go_roundg (n - k2)
        case measure => omega
        case rel =>
          have hrn := runs_next (c := cl l) (mt := mt) HBK.out hlt HLP.out hk2 hk2a
          rw [runs_succ, if_pos HSTA.out] at hrn
          refine ⟨_, vs ++ [.slice (some ⟨g6, 0, none⟩) C.length c6], k2, rfl, rfl, hk2n, ?_, ?_, Nat.le_refl _, B8.out⟩
          · rcases Nat.lt_or_ge k2 n with q | q
            · exact .inr (next_beg HBK.out hlt (by rw [HLP.out]; omega) q (fun x x1 x2 => hk2a x (by rw [HLP.out] at x1; omega) x2) (hk2s q))
            · exact .inl (by omega)
          · rw [hrn, natR_app, HRR.out]
            show RR _ _ _ _ (R ++ [natL (chainN (cl l) (fn L) n mt k)])
            rw [HC.out]; exact RR8.out
    · have e : k = n := by omega
      subst e
      go_wp2_with fail
      go_ret
      exact ⟨⟨_, rfl, vs, hR.out⟩, hbel.out⟩

/-- What letters and what is told of them are together. -/
theorem txt_told (l : List Int) (mt : Nat → Nat) {base : Int} (hb : 0 ≤ base ∧ base ≤ 1) (hmt : MateFn (cl l) l.length mt) : Txt (cl l) (fn (lvL (cl l) (fsF (cl l) mt) base l.length)) l.length mt := by
  refine ⟨hmt, fun i hi ho hm => ?_⟩
  have hM : MateIs (cl l) i (mt i) := by
    rcases hmt i hi ho with ⟨q, _⟩ | ⟨q, _⟩
    · exact q
    · omega
  obtain ⟨⟨h1, h2, h3⟩, _⟩ := win_at (cl l) (fsF (cl l) mt) hb ho hM
  have hlt := hM.lt
  refine ⟨by rw [fn_lvL hm, fn_lvL hi]; exact h1, by rw [fn_lvL hi]; exact h2, ?_⟩
  rcases h3 with h3 | h3
  · exact .inl fun p p1 p2 p3 => by rw [fn_lvL (j := p) (by omega)] at p3 ⊢; rw [fn_lvL hi]; exact h3 p p1 p2 p3
  · exact .inr fun p p1 p2 p3 => by rw [fn_lvL (j := p) (by omega)] at p3 ⊢; rw [fn_lvL hi]; exact h3 p p1 p2 p3
/-- The runs of letters. -/
def runsR (l : List Int) (mt : Nat → Nat) (base : Int) : List (List Int) :=
  if okT l base = true then natR (runsTo (cl l) (fn (lvL (cl l) (fsF (cl l) mt) base l.length)) l.length mt l.length) else []

set_option maxHeartbeats 2000000 in
theorem specRuns0 (a a2 : Option Addr) (cap cap2 : Nat) (w : World) :
    Calls Try.prog 22 #[.slice a 0 cap, .slice a2 0 cap2] w fun e w' => (∃ v, e = .returned v ∧ RRX w' w.heap.size v []) ∧ Below w.heap.size w w' := by
  have ho := RR.empty w w.heap.size 22 (Nat.le_refl _) rfl
  have HO : Hid (RR (w.alloc (.cells #[] 22)) w.heap.size (.slice (some ⟨w.heap.size, 0, none⟩) 0 0) [] []) := ho
  have HB0 : Hid (Below w.heap.size w (w.alloc (.cells #[] 22))) := (Below.refl _ _).alloc (Nat.le_refl _) _
  have hleft : ∀ w1 : World, Calls Try.prog 38 #[.slice a2 0 cap2, .int .i64 0] w1 fun e w' => e = .returned (.int .i64 0) ∧ w' = w1 := by
    intro w1
    go_enter Try.func38, Try.ntmps38
    go_wp2
    go_rounds 1
    go_ret
    exact ⟨rfl, rfl⟩
  have HL : Hid _ := hleft
  clear ho hleft
  go_enter Try.func22, Try.ntmps22
  go_wp2_with (go_at_call 38; refine (HL.out _).mono ?_; rintro e w1 ⟨rfl, rfl⟩)
  go_rounds 1
  go_ret
  exact ⟨⟨_, rfl, [], HO.out⟩, HB0.out⟩

set_option maxHeartbeats 4000000 in
theorem specLevelRuns (v : Value) (l : List Int) (mt : Nat → Nat) (base : Int) (w : World) (a : Option Addr) (cap : Nat) (hva : v = .slice a l.length cap) (hv : Arg w v l) (hl : l.length ≤ 1048576) (hmt : Hid (MateFn (cl l) l.length mt)) :
    Calls Try.prog 12 #[v, .int .i64 base] w fun e w' => (∃ v', e = .returned v' ∧ RRX w' w.heap.size v' (runsR l mt base)) ∧ Below w.heap.size w w' := by
  subst hva
  obtain ⟨q, hq⟩ : ∃ q, okT l base = q := ⟨_, rfl⟩
  have HQ : Hid _ := hq
  unfold runsR
  rw [hq]
  cases q
  · rw [if_neg (by simp)]
    clear hq
    have ho := RR.empty w w.heap.size 22 (Nat.le_refl _) rfl
    have HO : Hid (RR (w.alloc (.cells #[] 22)) w.heap.size (.slice (some ⟨w.heap.size, 0, none⟩) 0 0) [] []) := ho
    have HB0 : Hid (Below w.heap.size w (w.alloc (.cells #[] 22))) := (Below.refl _ _).alloc (Nat.le_refl _) _
    clear ho
    go_enter Try.func12, Try.ntmps12
    go_wp2_with (go_at_call 19; refine (specOk3 _ l base _ hv (by omega)).mono ?_; rintro e w1 ⟨rfl, rfl⟩; rw [HQ.out])
    go_ret
    exact ⟨⟨_, rfl, [], HO.out⟩, HB0.out⟩
  · obtain ⟨_, hb01, h80⟩ := okT_out hq
    rw [if_pos rfl]
    clear hq
    have HV : Hid (∀ w', Below w.heap.size w w' → Arg w' (.slice a l.length cap) l) := fun w' b => hv.below b
    have hl4 : l.length ≤ 4194304 := by omega
    by_cases h0 : l = []
    · subst h0
      go_enter Try.func12, Try.ntmps12
      go_wp2_with (go_at_call 19; refine (specOk3 _ [] base _ hv hl4).mono ?_; rintro e w1 ⟨rfl, rfl⟩; rw [HQ.out])
      refine (specAll_any _ [] mt base _ a cap rfl hv (by simp) hmt hb01).mono ?_
      rintro e w2 ⟨⟨W, gl, gc, vs, s, al, rfl, h⟩, b2⟩
      have c1 := h.c1
      go_wp2_with fail
      refine (specRuns0 _ _ _ _ _).mono ?_
      rintro e w3 ⟨⟨v3, rfl, r3⟩, b3⟩
      go_wp2_with fail
      go_ret
      obtain ⟨vs3, r3⟩ := r3
      refine ⟨⟨_, rfl, vs3, ?_⟩, bstep b2 b3⟩
      exact ⟨r3.len, r3.own.mono b2.size, fun j hj => (r3.row j hj).mono b2.size, r3.apv, r3.app⟩
    · rcases hv with ⟨_, _, _, e⟩ | ⟨b, off, cap', e, hb, hlc, hcm, hat⟩
      · exact absurd e h0
      · simp only [Value.slice.injEq, true_and] at e
        obtain ⟨rfl, rfl⟩ := e
        have HT : Hid (Txt (cl l) (fn (lvL (cl l) (fsF (cl l) mt) base l.length)) l.length mt) := txt_told l mt hb01 hmt.out
        have HLL : Hid ((lvL (cl l) (fsF (cl l) mt) base l.length).length = l.length) := lvL_len _ _ _ _
        have HAT : Hid (At w b off l) := hat
        clear hat
        go_enter Try.func12, Try.ntmps12
        go_wp2_with (go_at_call 19; refine (specOk3 _ l base _ (HV.out _ (Below.refl _ _)) hl4).mono ?_; rintro e w1 ⟨rfl, rfl⟩; rw [HQ.out])
        refine (specAll_any _ l mt base _ _ cap rfl (HV.out _ (Below.refl _ _)) (by omega) hmt hb01).mono ?_
        rintro e w2 ⟨⟨W, gl, gc, vs, s, al, rfl, h⟩, b2⟩
        have c1 := h.c1
        have H : Hid (OwnI w2 w1.heap.size (.slice (some ⟨gl, 0, none⟩) l.length l.length) (lvL (cl l) (fsF (cl l) mt) base l.length)) := h.ol
        clear h
        go_wp2_with fail
        refine (specRuns b off cap gl 0 l.length l.length l _ mt _ rfl HLL.out (Nat.lt_of_lt_of_le hb b2.size) (H.out.lt gl rfl).2 (HAT.out.below b2 hb) (fun j hj => by have := HLL.out; rw [Nat.zero_add]; exact H.out.cellN j (by omega)) (by omega) HT).mono ?_
        rintro e w3 ⟨⟨v3, rfl, r3⟩, b3⟩
        go_wp2_with fail
        go_ret
        obtain ⟨vs3, r3⟩ := r3
        refine ⟨⟨_, rfl, vs3, ?_⟩, bstep b2 b3⟩
        exact ⟨r3.len, r3.own.mono b2.size, fun j hj => (r3.row j hj).mono b2.size, r3.apv, r3.app⟩
end Go.Proofs.Ytkdmfjnaajedhaa
namespace Go.Proofs.Ytkdmfjnaajedhaa
open Go.ChangeShapes Go.WideShapes Go.ChangeAt Go.RowKit
set_option linter.unusedSimpArgs false
set_option linter.unusedVariables false

/-- Pairs of a slice and a number, cell by cell. -/
def pcells : List (Value × Int) → List Value
  | [] => []
  | p :: r => [p.1, .int .i64 p.2] ++ pcells r
theorem pcells_len (P : List (Value × Int)) : (pcells P).length = P.length * 2 := by
  induction P with
  | nil => rfl
  | cons x r ih => simp only [pcells, List.length_append, ih, List.length_cons, List.length_nil]; omega
theorem pcells_app (P Q : List (Value × Int)) : pcells (P ++ Q) = pcells P ++ pcells Q := by
  induction P with
  | nil => rfl
  | cons x r ih => simp only [List.cons_append, pcells, ih, List.nil_append]
def pN (P : List (Value × Int)) (j : Nat) : Value × Int := P.getD j (.slice none 0 0, 0)
theorem pN_left {P Q : List (Value × Int)} {j : Nat} (h : j < P.length) : pN (P ++ Q) j = pN P j := by simp [pN, List.getD, List.getElem?_append_left h]
theorem pN_last (P : List (Value × Int)) (u : Value × Int) : pN (P ++ [u]) P.length = u := by simp [pN]
theorem pcells_at {P : List (Value × Int)} {j : Nat} (h : j < P.length) : (pcells P)[j * 2]? = some (pN P j).1 ∧ (pcells P)[j * 2 + 1]? = some (.int .i64 (pN P j).2) := by
  induction P generalizing j with
  | nil => simp at h
  | cons x r ih =>
    cases j with
    | zero => exact ⟨rfl, rfl⟩
    | succ j =>
      have := ih (j := j) (by simpa using h)
      rw [show (j + 1) * 2 = j * 2 + 2 by omega, show j * 2 + 2 + 1 = (j * 2 + 1) + 2 by omega]
      simp only [pcells, List.cons_append, List.nil_append, List.getElem?_cons_succ]
      exact this
/-- A slice that owns pieces: each a row of numbers and its level, none over another one. -/
structure PR (w : World) (B : Nat) (v : Value) (P : List (Value × Int)) (rows : List (List Int)) : Prop where
  len : P.length = rows.length
  own : OwnV 47 2 w B v rows.length (pcells P)
  row : ∀ j, j < rows.length → OwnI w B (pN P j).1 (rN rows j)
  apv : ∀ j, j < rows.length → Apart v (pN P j).1
  app : ∀ i j, i < j → j < rows.length → Apart (pN P i).1 (pN P j).1
section
variable {w w' : World} {B : Nat} {v : Value} {P : List (Value × Int)} {rows : List (List Int)}
theorem PR.below (h : PR w B v P rows) (hb : Below w.heap.size w w') : PR w' B v P rows :=
  ⟨h.len, h.own.below hb, fun j hj => (h.row j hj).below hb, h.apv, h.app⟩
theorem PR.kept (h : PR w B v P rows) (hb : ∀ b, (v.ownBlock = some b ∨ ∃ j, j < rows.length ∧ (pN P j).1.ownBlock = some b) → w'.heap[b]? = w.heap[b]?) : PR w' B v P rows :=
  ⟨h.len, h.own.kept (fun b hk => hb b (.inl hk)), fun j hj => (h.row j hj).kept (fun b hk => hb b (.inr ⟨j, hj, hk⟩)), h.apv, h.app⟩
theorem PR.nil (w : World) (B : Nat) : PR w B (.slice none 0 0) [] [] := ⟨rfl, OwnV.nil _ _ _ _, fun j hj => by simp at hj, fun j hj => by simp at hj, fun i j _ hj => by simp at hj⟩
theorem PR.slc (h : PR w B v P rows) : ∃ a cap, v = .slice a rows.length cap := h.own.slc
theorem PR.lt (h : PR w B v P rows) : ∀ b, v.ownBlock = some b → B ≤ b ∧ b < w.heap.size := h.own.lt
/-- One more piece. -/
theorem PR.snoc {u v' : Value} {x : Int} {r : List Int} (h : PR w B v P rows) (hu : OwnI w B u r) (huv : Apart v u) (hup : ∀ j, j < rows.length → Apart (pN P j).1 u) (ho : OwnV 47 2 w' B v' (rows.length + 1) (pcells P ++ [u, .int .i64 x])) (hg : w.grownBy w' v.ownBlock) (hv : v'.ownBlock = v.ownBlock ∨ v'.ownBlock = some (w.heap.size + 1)) :
    PR w' B v' (P ++ [(u, x)]) (rows ++ [r]) := by
  have hl := h.len
  have hrow : ∀ j, j < rows.length → OwnI w' B (pN P j).1 (rN rows j) := fun j hj => (h.row j hj).kept (fun b hk => hg.block b ((h.row j hj).lt b hk).2 (fun e => h.apv j hj b e.symm hk))
  have hu' : OwnI w' B u r := hu.kept (fun b hk => hg.block b (hu.lt b hk).2 (fun e => huv b e.symm hk))
  have hav : ∀ (z : Value) (rz : List Int), OwnI w B z rz → Apart v z → Apart v' z := fun z rz hz ha b h1 h2 => by
    rcases hv with q | q
    · exact ha b (by rw [← q]; exact h1) h2
    · rw [q] at h1; simp at h1; have := (hz.lt b h2).2; omega
  refine ⟨by simp [hl], by rw [pcells_app]; simpa [pcells] using ho, fun j hj => ?_, fun j hj => ?_, fun i j hij hj => ?_⟩
  · simp at hj
    by_cases e : j = rows.length
    · subst e; rw [rN_last, ← hl, pN_last]; exact hu'
    · rw [rN_left (by omega), pN_left (by omega)]; exact hrow j (by omega)
  · simp at hj
    by_cases e : j = rows.length
    · subst e; rw [← hl, pN_last]; exact hav _ _ hu huv
    · rw [pN_left (by omega)]; exact hav _ _ (h.row j (by omega)) (h.apv j (by omega))
  · simp at hj
    by_cases e : j = rows.length
    · subst e; rw [pN_left (by omega), ← hl, pN_last]; exact hup i hij
    · rw [pN_left (by omega), pN_left (by omega)]; exact h.app i j hij (by omega)
/-- The last piece has grown. -/
theorem PR.last {P0 : List (Value × Int)} {R0 : List (List Int)} {u u' : Value} {x : Int} {r r' : List Int} {g m cap : Nat} (h : PR w B v (P0 ++ [(u, x)]) (R0 ++ [r])) (hv : v = .slice (some ⟨g, 0, none⟩) (m + 1) cap) (hm : P0.length = m) (hu' : OwnI w' B u' r') (hg : w.grownBy w' u.ownBlock) (hn : u'.ownBlock = u.ownBlock ∨ ∃ H, u'.ownBlock = some H ∧ w.heap.size ≤ H) :
    PR (w'.setCell ⟨g, m * 2, none⟩ u') B v (P0 ++ [(u', x)]) (R0 ++ [r']) := by
  subst hv
  have hl := h.len
  have hl0 : P0.length = R0.length := by simpa using hl
  have hR : (R0 ++ [r]).length = m + 1 := by rw [List.length_append, ← hl0, hm]; rfl
  have hR' : (R0 ++ [r']).length = m + 1 := by rw [List.length_append, ← hl0, hm]; rfl
  have hlast : pN (P0 ++ [(u, x)]) m = (u, x) := by rw [← hm]; exact pN_last _ _
  have hav := h.apv m (by omega)
  rw [hlast] at hav
  have hgl := (h.lt g rfl).2
  have hown := h.own
  rw [hR] at hown
  -- the row of pieces itself has not turned
  have hown' : OwnV 47 2 w' B (.slice (some ⟨g, 0, none⟩) (m + 1) cap) (m + 1) (pcells (P0 ++ [(u, x)])) := hown.kept (fun b hk => hg.block b (hown.lt b hk).2 (fun e => hav b hk e.symm))
  have hst := hown'.stored (m * 2) u'
  have hset : (pcells (P0 ++ [(u, x)])).set (m * 2) u' = pcells (P0 ++ [(u', x)]) := by
    rw [pcells_app, pcells_app, show m * 2 = (pcells P0).length by rw [pcells_len, hm], List.set_append_right _ _ (Nat.le_refl _)]
    simp [pcells]
  rw [hset] at hst
  have hsame : ∀ b, b ≠ g → (w'.setCell ⟨g, m * 2, none⟩ u').heap[b]? = w'.heap[b]? := fun b hb => heap_setCell_other w' ⟨g, m * 2, none⟩ b u' hb
  have hgu : ∀ b, u'.ownBlock = some b → b ≠ g := fun b hb e => by
    rcases hn with q | ⟨H, q, hH⟩
    · rw [q] at hb; exact hav g rfl (by rw [← e]; exact hb)
    · rw [q] at hb; simp at hb; omega
  have hrowj : ∀ j, j < m → OwnI (w'.setCell ⟨g, m * 2, none⟩ u') B (pN P0 j).1 (rN R0 j) := fun j hj => by
    have h1 := h.row j (by omega)
    rw [pN_left (by omega), rN_left (by omega)] at h1
    have h2 := h.apv j (by omega)
    rw [pN_left (by omega)] at h2
    have h3 := h.app j m hj (by omega)
    rw [pN_left (by omega), hlast] at h3
    refine (h1.kept (w' := w') (fun b hk => hg.block b (h1.lt b hk).2 (fun e => h3 b hk e.symm))).kept (fun b hk => hsame b (fun e => h2 g rfl (by rw [← e]; exact hk)))
  have hrowm : OwnI (w'.setCell ⟨g, m * 2, none⟩ u') B u' r' := hu'.kept (fun b hk => hsame b (hgu b hk))
  refine ⟨by simp [hl0], by rw [hR']; exact hst, fun j hj => ?_, fun j hj => ?_, fun i j hij hj => ?_⟩
  · by_cases e : j = m
    · subst e; rw [show pN (P0 ++ [(u', x)]) j = (u', x) by rw [← hm]; exact pN_last _ _, show rN (R0 ++ [r']) j = r' by rw [show j = R0.length by omega]; exact rN_last _ _]; exact hrowm
    · rw [pN_left (by omega), rN_left (by omega)]; exact hrowj j (by omega)
  · by_cases e : j = m
    · subst e
      rw [show pN (P0 ++ [(u', x)]) j = (u', x) by rw [← hm]; exact pN_last _ _]
      intro b h1 h2
      simp [Value.ownBlock] at h1
      exact hgu b h2 h1.symm
    · have := h.apv j (by omega)
      rw [pN_left (by omega)] at this ⊢; exact this
  · by_cases e : j = m
    · subst e
      have h3 := h.app i j hij (by omega)
      rw [pN_left (by omega), hlast] at h3
      rw [pN_left (by omega), show pN (P0 ++ [(u', x)]) j = (u', x) by rw [← hm]; exact pN_last _ _]
      intro b h1 h2
      rcases hn with q | ⟨H, q, hH⟩
      · exact h3 b h1 (by rw [← q]; exact h2)
      · rw [q] at h2
        simp at h2
        have := h.row i (by omega)
        rw [pN_left (by omega)] at this
        have := (this.lt b h1).2; omega
    · have := h.app i j hij (by omega)
      rw [pN_left (by omega), pN_left (by omega)] at this ⊢; exact this
end
theorem PR.lastCell {w w' : World} {B : Nat} {v : Value} {P0 : List (Value × Int)} {R0 : List (List Int)} {u : Value} {x : Int} {r : List Int} {g m cap : Nat} (h : PR w B v (P0 ++ [(u, x)]) (R0 ++ [r])) (hv : v = .slice (some ⟨g, 0, none⟩) (m + 1) cap) (hm : P0.length = m) (hg : w.grownBy w' u.ownBlock) :
    w'.cell? ⟨g, m * 2, none⟩ = some u ∧ w'.frozen? ⟨g, m * 2, none⟩ = false := by
  subst hv
  have hl := h.len
  have hl0 : P0.length = R0.length := by simpa using hl
  have hR : (R0 ++ [r]).length = m + 1 := by rw [List.length_append, ← hl0, hm]; rfl
  have hav := h.apv m (by omega)
  rw [show pN (P0 ++ [(u, x)]) m = (u, x) by rw [← hm]; exact pN_last _ _] at hav
  have hown := h.own
  rw [hR] at hown
  have hown' : OwnV 47 2 w' B (.slice (some ⟨g, 0, none⟩) (m + 1) cap) (m + 1) (pcells (P0 ++ [(u, x)])) := hown.kept (fun b hk => hg.block b (hown.lt b hk).2 (fun e => hav b hk e.symm))
  refine ⟨?_, hown'.frozen _⟩
  rw [hown'.cell _ (by omega), (pcells_at (by simp; omega)).1, show pN (P0 ++ [(u, x)]) m = (u, x) by rw [← hm]; exact pN_last _ _]
theorem PR.cellAt {w : World} {B : Nat} {P : List (Value × Int)} {rows : List (List Int)} {g n cap : Nat} (h : PR w B (.slice (some ⟨g, 0, none⟩) n cap) P rows) (j : Nat) (hj : j < rows.length) : w.cell? ⟨g, j * 2, none⟩ = some (pN P j).1 ∧ w.cell? ⟨g, j * 2 + 1, none⟩ = some (.int .i64 (pN P j).2) := by
  have hown := h.own
  obtain ⟨a, c, e⟩ := hown.slc
  simp only [Value.slice.injEq] at e
  obtain ⟨rfl, rfl, rfl⟩ := e
  have hl := h.len
  rw [hown.cell _ (by omega), hown.cell _ (by omega)]
  exact pcells_at (by omega)
theorem PR.snocN {w w' : World} {B c : Nat} {v u v' : Value} {P : List (Value × Int)} {rows : List (List Int)} {x : Int} {r : List Int} (hc : rows.length = c) (h : PR w B v P rows) (hu : OwnI w B u r) (huv : Apart v u) (hup : ∀ j, j < c → Apart (pN P j).1 u) (ho : OwnV 47 2 w' B v' (c + 1) (pcells P ++ [u, .int .i64 x])) (hg : w.grownBy w' v.ownBlock) (hv : v'.ownBlock = v.ownBlock ∨ v'.ownBlock = some (w.heap.size + 1)) :
    PR w' B v' (P ++ [(u, x)]) (rows ++ [r]) := by
  subst hc; exact h.snoc hu huv hup ho hg hv
theorem apart_nil (v : Value) : Apart v (.slice none 0 0) := fun k _ h => by simp [Value.ownBlock] at h
theorem rowRT : RowT 47 2 32 := ⟨by kernel_rfl, by kernel_rfl⟩
theorem rowInt : RowT 3 1 8 := ⟨by kernel_rfl, by kernel_rfl⟩
end Go.Proofs.Ytkdmfjnaajedhaa
namespace Go.Proofs.Ytkdmfjnaajedhaa
set_option linter.unusedSimpArgs false

def noP (c : Int) : Bool := decide ((11 ≤ c ∧ c ≤ 13) ∨ 19 ≤ c)
def like (c : Int) : Int := if c = 1 then 1 else if c = 2 ∨ c = 4 ∨ c = 7 then 2 else 0
def ownOf (lv : Int) : Int := if lv % 2 = 0 then 1 else 2
def among (a b lv : Int) : Int := if like a = 0 ∨ like a ≠ like b then ownOf lv else like a
def ahP (z : Nat → Int) (before : Int) : Nat → Int
  | 0 => before
  | k + 1 => if noP (z k) = true then ahP z before k else z k
def bhP (z : Nat → Int) (n : Nat) (after : Int) : Nat → Int
  | 0 => after
  | d + 1 => if noP (z (n - (d + 1))) = true then bhP z n after d else z (n - (d + 1))
def plainAt (z : Nat → Int) (n : Nat) (before after lv : Int) (k : Nat) : Int :=
  if noP (z k) = true then among (ahP z before k) (bhP z n after (n - k)) lv else z k
def plainL (l : List Int) (before after lv : Int) : List Int := (List.range l.length).map (plainAt (fn l) l.length before after lv)
theorem plainL_len (l : List Int) (b a lv : Int) : (plainL l b a lv).length = l.length := by simp [plainL]
theorem fn_plainL {l : List Int} {b a lv : Int} {j : Nat} (h : j < l.length) : fn (plainL l b a lv) j = plainAt (fn l) l.length b a lv j := by simp [fn, plainL, h]
theorem ahP_run {z : Nat → Int} {before : Int} {f t : Nat} (hft : f ≤ t) (h : ∀ j, f ≤ j → j < t → noP (z j) = true) : ahP z before t = ahP z before f := by
  induction t with
  | zero => have : f = 0 := by omega
            subst this; rfl
  | succ t ih =>
    by_cases e : f = t + 1
    · subst e; rfl
    · simp only [ahP]
      rw [if_pos (h t (by omega) (by omega))]
      exact ih (by omega) (fun j a b => h j a (by omega))
theorem bhP_step {z : Nat → Int} {n : Nat} {after : Int} {k : Nat} (hk : k < n) (h : noP (z k) = true) : bhP z n after (n - k) = bhP z n after (n - (k + 1)) := by
  obtain ⟨m, hm⟩ : ∃ m, n - k = m + 1 := ⟨n - k - 1, by omega⟩
  have e : n - (m + 1) = k := by omega
  have e2 : n - (k + 1) = m := by omega
  rw [hm, e2]; simp only [bhP, e]; rw [if_pos h]
theorem bhP_hit {z : Nat → Int} {n : Nat} {after : Int} {k : Nat} (hk : k < n) (h : noP (z k) = false) : bhP z n after (n - k) = z k := by
  obtain ⟨m, hm⟩ : ∃ m, n - k = m + 1 := ⟨n - k - 1, by omega⟩
  have e : n - (m + 1) = k := by omega
  rw [hm]; simp only [bhP, e]; rw [if_neg (by rw [h]; simp)]
theorem bhP_run {z : Nat → Int} {n : Nat} {after : Int} {f t : Nat} (hft : f ≤ t) (htn : t ≤ n) (h : ∀ j, f ≤ j → j < t → noP (z j) = true) : bhP z n after (n - f) = bhP z n after (n - t) := by
  induction t with
  | zero => have : f = 0 := by omega
            subst this; rfl
  | succ t ih =>
    by_cases e : f = t + 1
    · subst e; rfl
    · rw [ih (by omega) (by omega) (fun j a b => h j a (by omega)), bhP_step (by omega) (h t (by omega) (by omega))]
theorem plain_run {z : Nat → Int} {n : Nat} {before after lv : Int} {f t : Nat} (htn : t ≤ n) (h : ∀ j, f ≤ j → j < t → noP (z j) = true) {j : Nat} (h1 : f ≤ j) (h2 : j < t) : plainAt z n before after lv j = among (ahP z before f) (bhP z n after (n - t)) lv := by
  unfold plainAt
  rw [if_pos (h j h1 h2), ahP_run h1 (fun i a b => h i a (by omega)), bhP_run (f := j) (t := t) (by omega) htn (fun i a b => h i (by omega) b)]
theorem plain_other {z : Nat → Int} {n : Nat} {before after lv : Int} {j : Nat} (h : noP (z j) = false) : plainAt z n before after lv j = z j := by
  unfold plainAt; rw [if_neg (by rw [h]; simp)]
theorem ahP_hit {z : Nat → Int} {before : Int} {k : Nat} (h : noP (z k) = false) : ahP z before (k + 1) = z k := by
  simp only [ahP]; rw [if_neg (by rw [h]; simp)]

def clsA (z : Nat → Int) : Nat → Bool
  | 0 => true
  | k + 1 => clsA z k && decide (1 ≤ z k ∧ z k ≤ 22)
theorem clsA_iff (z : Nat → Int) (n : Nat) : clsA z n = true ↔ ∀ j, j < n → 1 ≤ z j ∧ z j ≤ 22 := by
  induction n with
  | zero => simp [clsA]
  | succ n ih =>
    simp only [clsA, Bool.and_eq_true, ih, decide_eq_true_eq]
    constructor
    · intro h j hj
      by_cases e : j = n
      · subst e; exact h.2
      · exact h.1 j (by omega)
    · intro h; exact ⟨fun j hj => h j (by omega), h n (by omega)⟩
def clsOk (z : Nat → Int) (n : Nat) : Bool := decide (n ≤ 80) && clsA z n
theorem clsOk_yes {z : Nat → Int} {n : Nat} (h : ∀ j, j < n → 1 ≤ z j ∧ z j ≤ 22) : clsOk z n = decide (n ≤ 80) := by
  simp [clsOk, (clsA_iff z n).2 h]
theorem clsOk_no {z : Nat → Int} {n k : Nat} (hk : k < n) (h : ¬ (1 ≤ z k ∧ z k ≤ 22)) : clsOk z n = false := by
  unfold clsOk
  rw [Bool.and_eq_false_iff]; right
  rw [Bool.eq_false_iff]; intro a; exact h ((clsA_iff z n).1 a k hk)
theorem clsOk_long {z : Nat → Int} {n : Nat} (h : 80 < n) : clsOk z n = false := by simp [clsOk]; omega
theorem clsOk_out {z : Nat → Int} {n : Nat} (h : clsOk z n = true) : n ≤ 80 ∧ ∀ j, j < n → 1 ≤ z j ∧ z j ≤ 22 := by
  unfold clsOk at h; rw [Bool.and_eq_true, decide_eq_true_eq, clsA_iff] at h; exact h
def sideB (c : Int) : Bool := decide (c = 1 ∨ c = 2)
def lvB (lv : Int) : Bool := decide (0 ≤ lv ∧ lv ≤ 22)
def plainR (l : List Int) (before after lv : Int) : List Int :=
  if clsOk (fn l) l.length = true ∧ sideB before = true ∧ sideB after = true ∧ lvB lv = true then plainL l before after lv else []
/-- The side as the specification says it. -/
def asB (c : Int) : Int := if c = 4 ∨ c = 7 then 2 else c
theorem among_as (a b lv : Int) : (if asB a = asB b ∧ sideB (asB a) = true then asB a else ownOf lv) = among a b lv := by
  unfold among like asB sideB
  by_cases h1 : a = 1 <;> by_cases h2 : a = 2 <;> by_cases h4 : a = 4 <;> by_cases h7 : a = 7 <;> by_cases g1 : b = 1 <;> by_cases g2 : b = 2 <;> by_cases g4 : b = 4 <;> by_cases g7 : b = 7 <;> simp_all <;> omega
theorem as_side {c : Int} (h : sideB c = true) : asB c = c := by
  unfold sideB at h; rw [decide_eq_true_eq] at h
  rcases h with rfl | rfl <;> rfl
end Go.Proofs.Ytkdmfjnaajedhaa
