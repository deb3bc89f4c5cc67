import Derived.Test.YtgojdlbidjnmmaaGreatRunsS
namespace Go.Proofs.YtgojdlbidjnmmaaGreat
open Go.ChangeShapes Go.WideShapes Go.ChangeAt Go.RowKit
set_option linter.unusedSimpArgs false
set_option linter.unusedVariables false

theorem clos_no {c : Nat → Int} {mt : Nat → Nat} {b : Nat} (h : ∀ i, i < b → (opensB (c i) && mt i == b) = false) : closN c mt b = false := by
  unfold closN
  rw [List.any_eq_false]
  intro i hi
  rw [List.mem_range] at hi
  simpa using h i hi
theorem clos_yes {c : Nat → Int} {mt : Nat → Nat} {b i : Nat} (hi : i < b) (ho : opensB (c i) = true) (hm : mt i = b) : closN c mt b = true := by
  unfold closN
  rw [List.any_eq_true]
  exact ⟨i, by rw [List.mem_range]; exact hi, by simp [ho, hm]⟩

set_option maxHeartbeats 4000000 in
theorem specCloses (b off cap n : Nat) (l : List Int) (mt : Nat → Nat) (p : Nat) (a : Int) (w : World) (hn : l.length = n) (hb : b < w.heap.size) (hat : At w b off l) (hl : n ≤ 1000) (hmt : Hid (MateFn (cl l) n mt)) (hp : p < n) (ha : a = (p : Int)) :
    Calls Tryz.prog 117 #[.slice (some ⟨b, off, none⟩) n cap, .int .i64 a] w fun e w' => e = .returned (.bool (closN (cl l) mt p)) ∧ Below w.heap.size w w' := by
  subst ha
  have HN : Hid _ := hn
  have HA : Hid (∀ w', Below w.heap.size w w' → At w' b off l) := fun w' hw => hat.below hw hb
  clear hn hat
  have hl4 : n ≤ 4194304 := by omega
  go_enter Tryz.func117, Tryz.ntmps117
  go_wp2_with fail
  go_loopw [5] (fun q wr => ∃ i : Nat, i ≤ p ∧ q = .int .i64 i ∧ Hid (∀ x, x < i → (opensB (cl l x) && mt x == p) = false) ∧ Hid (Below w.heap.size w wr)) (fun q _ => p - (intOf q).toNat)
  case atStart => exact ⟨0, Nat.zero_le _, rfl, fun x hx => by omega, Below.refl _ _⟩
  case round =>
    obtain ⟨i, hip, rfl, hall, hbel⟩ := hrel
    by_cases hlt : i < p
    · have hii : (i : Int) < (p : Int) := by omega
      have hin : (i : Int) < (n : Int) := by omega
      have hc : wr.cell? ⟨b, off + i, none⟩ = some (.int .i64 (fn l i)) := HA.out wr hbel.out i (by have := HN.out; omega)
      obtain ⟨ck, hck⟩ : ∃ ck, bidi (fn l i) = ck := ⟨_, rfl⟩
      have HCK : Hid _ := hck
      have hcl : Hid (cl l i = ck) := hck
      clear hck
      cases ho : opensB ck
      · have HO : Hid _ := ho
        clear ho
        go_wp2_with (first | (go_at_call 10; refine (specBidi _ _).mono ?_; rintro e w1 ⟨rfl, b1⟩; rw [HCK.out]) | (go_at_call 120; refine (specOpens _ _).mono ?_; rintro e w2 ⟨rfl, rfl⟩; rw [HO.out]))
        go_roundw
        case rel => exact ⟨i + 1, by omega, by go_num, fun x hx => by
          by_cases e : x = i
          · subst e; rw [hcl.out, HO.out]; rfl
          · exact hall.out x (by omega), bstep hbel.out b1⟩
        case measure => simp only [intOf]; omega
      · have HO : Hid _ := ho
        have HOP : Hid (opensB (cl l i) = true) := by rw [hcl.out]; exact ho
        clear ho
        by_cases hq : mt i = p
        · have hqb : ((mt i : Int) == (p : Int)) = true := by simp [hq]
          have HQ : Hid _ := hq
          have HQB : Hid _ := hqb
          clear hq hqb
          go_wp2_with (first | (go_at_call 10; refine (specBidi _ _).mono ?_; rintro e w1 ⟨rfl, b1⟩; rw [HCK.out]) | (go_at_call 120; refine (specOpens _ _).mono ?_; rintro e w2 ⟨rfl, rfl⟩; rw [HO.out]) | (go_at_call 121; refine (specMateL b off cap n l mt _ i _ HN.out (Nat.lt_of_lt_of_le hb (bstep hbel.out b1).size) (HA.out _ (bstep hbel.out b1)) hl4 hmt rfl (by omega) HOP.out).mono ?_; rintro e w3 ⟨rfl, b3⟩; rw [HQ.out]))
          go_ret
          exact ⟨retBool (clos_yes hlt HOP.out HQ.out).symm, bstep (bstep hbel.out b1) b3⟩
        · have hqb : ((mt i : Int) == (p : Int)) = false := by simp; omega
          have HQ : Hid _ := hq
          clear hq
          go_wp2_with (first | (go_at_call 10; refine (specBidi _ _).mono ?_; rintro e w1 ⟨rfl, b1⟩; rw [HCK.out]) | (go_at_call 120; refine (specOpens _ _).mono ?_; rintro e w2 ⟨rfl, rfl⟩; rw [HO.out]) | (go_at_call 121; refine (specMateL b off cap n l mt _ i _ HN.out (Nat.lt_of_lt_of_le hb (bstep hbel.out b1).size) (HA.out _ (bstep hbel.out b1)) hl4 hmt rfl (by omega) HOP.out).mono ?_; rintro e w3 ⟨rfl, b3⟩))
          go_roundw
          case rel => exact ⟨i + 1, by omega, by go_num, fun x hx => by
            by_cases e : x = i
            · subst e; rw [HOP.out]; simpa using HQ.out
            · exact hall.out x (by omega), bstep (bstep hbel.out b1) b3⟩
          case measure => simp only [intOf]; omega
    · have e : i = p := by omega
      subst e
      go_wp2_with fail
      go_ret
      exact ⟨retBool (clos_no hall.out).symm, hbel.out⟩

theorem sc_none {c lv : Nat → Int} {n : Nat} {mt : Nat → Nat} {b : Nat} (h : opensB (c (lastP lv b n)) = false ∨ mt (lastP lv b n) = n) : scN c lv n mt b = none := by
  unfold scN
  rw [if_neg]
  rintro ⟨h1, h2⟩
  rcases h with h | h
  · rw [h] at h1; cases h1
  · omega
theorem sc_is {c lv : Nat → Int} {n : Nat} {mt : Nat → Nat} {b : Nat} (h1 : opensB (c (lastP lv b n)) = true) (h2 : mt (lastP lv b n) < n) : scN c lv n mt b = some (mt (lastP lv b n)) := by
  unfold scN; rw [if_pos ⟨h1, h2⟩]
theorem chain_len {c lv : Nat → Int} {n : Nat} {mt : Nat → Nat} (ht : Txt c lv n mt) : ∀ d b, begB lv b = true → b < n → n - b ≤ d → (chainN c lv n mt b).Pairwise (· < ·) ∧ ∀ x ∈ chainN c lv n mt b, b ≤ x ∧ x < n := by
  intro d
  induction d with
  | zero => intro b hb hbn h; omega
  | succ d ih =>
    intro b hb hbn h
    rw [chain_eq ht hb hbn]
    have hp : (pieceN lv b n).Pairwise (· < ·) := by
      unfold pieceN
      exact (List.pairwise_lt_range).filter _
    cases hs : scN c lv n mt b with
    | none =>
      simp only [List.append_nil]
      exact ⟨hp, fun x hx => by rw [piece_mem] at hx; exact ⟨of_le hx.2, hx.1⟩⟩
    | some j =>
      obtain ⟨h1, h2, hj, hbj, hlt, hm, _⟩ := sc_some ht hb hbn hs
      obtain ⟨i1, i2⟩ := ih j hbj hj (by omega)
      simp only
      refine ⟨List.pairwise_append.2 ⟨hp, i1, fun x hx y hy => ?_⟩, fun x hx => ?_⟩
      · have hy2 := (i2 y hy).1
        rw [piece_mem] at hx
        have h3 := hm.lt
        obtain ⟨a1, a2, a3⟩ := last_spec hb hbn
        have : x ≤ lastP lv b n := by
          rcases Nat.lt_or_ge (lastP lv b n) x with q | q
          · have := a3 x q hx.1; rw [hx.2] at this; cases this
          · exact q
        omega
      · rcases List.mem_append.1 hx with hx | hx
        · rw [piece_mem] at hx; exact ⟨of_le hx.2, hx.1⟩
        · have := i2 x hx; exact ⟨by omega, this.2⟩
theorem inc_len {l : List Nat} {n b : Nat} (h : l.Pairwise (· < ·)) (hb : ∀ x ∈ l, b ≤ x ∧ x < n) : l.length ≤ n - b := by
  induction l generalizing b with
  | nil => simp
  | cons x r ih =>
    have h1 := hb x (by simp)
    have h2 := ih (b := x + 1) (List.pairwise_cons.1 h).2 (fun y hy => ⟨(List.pairwise_cons.1 h).1 y hy, (hb y (by simp [hy])).2⟩)
    simp only [List.length_cons]; omega

set_option maxHeartbeats 8000000 in
theorem specChain (b off cap b2 off2 cap2 n : Nat) (l L : List Int) (mt : Nat → Nat) (p : Nat) (v : Value) (w : World) (hn : l.length = n) (hnL : L.length = n) (hb : b < w.heap.size) (hb2 : b2 < w.heap.size) (hat : At w b off l) (hatL : At w b2 off2 L) (hl : n ≤ 1000)
    (ht : Hid (Txt (cl l) (fn L) n mt)) (hp : p < n) (hbeg : begB (fn L) p = true) (B0 : Nat) (hv : OwnI w B0 v (natL (pieceN (fn L) p n))) :
    Calls Tryz.prog 118 #[.slice (some ⟨b, off, none⟩) n cap, .slice (some ⟨b2, off2, none⟩) n cap2, v] w fun e w' => (∃ v', e = .returned v' ∧ OwnI w' w.heap.size v' (natL (chainN (cl l) (fn L) n mt p))) ∧ Below w.heap.size w w' := by
  have HN : Hid _ := hn
  have HNL : Hid _ := hnL
  have HA : Hid (∀ w', Below w.heap.size w w' → At w' b off l) := fun w' hw => hat.below hw hb
  have HAL : Hid (∀ w', Below w.heap.size w w' → At w' b2 off2 L) := fun w' hw => hatL.below hw hb2
  have hmt : Hid (MateFn (cl l) n mt) := ht.out.mates
  have ho := own_empty w w.heap.size 3 (Nat.le_refl _) rfl
  have HO : Hid (OwnI (w.alloc (.cells #[] 3)) w.heap.size (.slice (some ⟨w.heap.size, 0, none⟩) 0 0) []) := ho
  have HV : Hid (OwnI (w.alloc (.cells #[] 3)) B0 v (natL (pieceN (fn L) p n))) := hv.below ((Below.refl _ _).alloc (Nat.le_refl _) _)
  have HB0 : Hid (Below w.heap.size w (w.alloc (.cells #[] 3))) := (Below.refl _ _).alloc (Nat.le_refl _) _
  have HBG : Hid _ := hbeg
  have hpl : (natL (pieceN (fn L) p n)).length ≤ 1000 := by
    rw [natL_len]; unfold pieceN; have := List.length_filter_le (ofB (fn L) p) (List.range n); rw [List.length_range] at this; omega
  have hl4 : n ≤ 4194304 := by omega
  clear hn hnL hat hatL ho hv hbeg
  have hwsz : w.heap.size ≤ (w.alloc (.cells #[] 3)).heap.size := by simp
  go_enter Tryz.func118, Tryz.ntmps118
  go_wp2_with (at_builtin; refine own_appendOwn (.tmp 10) (.tmp 11) HO.out HV.out (by simp; omega) hwsz rfl rfl rfl rfl ?_; intro v1 w1 hown1 hgr1)
  have H1 : Hid (OwnI w1 w.heap.size v1 (natL (pieceN (fn L) p n))) := by show OwnI _ _ _ _; simpa using hown1
  have HB1 : Hid (Below w.heap.size w w1) := grown_below HB0.out hgr1 HO.out (Nat.le_refl _) hwsz
  clear hown1 hgr1 HO HV
  go_loopg [7] n (fun g x7 wr => ∃ (uv : Value) (pre : List Nat) (q : Nat), x7 = uv ∧ Hid (OwnI wr w.heap.size uv (natL (pre ++ pieceN (fn L) q n))) ∧ Hid (begB (fn L) q = true ∧ q < n ∧ chainN (cl l) (fn L) n mt p = pre ++ chainN (cl l) (fn L) n mt q) ∧ n - q ≤ g ∧ Hid (Below w.heap.size w wr))
  case atStart => exact ⟨v1, [], p, rfl, H1.out, ⟨HBG.out, hp, rfl⟩, by omega, HB1.out⟩
  case round =>
    obtain ⟨uv, pre, q, e7, hv, hq, hg, hbel⟩ := hrel
    rw [e7]
    clear e7
    obtain ⟨hq1, hq2, hq3⟩ := hq.out
    obtain ⟨pp, hpp⟩ := piece_last hq1 n hq2
    obtain ⟨a1, a2, a3⟩ := last_spec hq1 hq2
    obtain ⟨lp, hlp⟩ : ∃ lp, lastP (fn L) q n = lp := ⟨_, rfl⟩
    rw [hlp] at hpp a2
    have hlst : pre ++ pieceN (fn L) q n = (pre ++ pp) ++ [lp] := by rw [hpp, List.append_assoc]
    have HLP : Hid _ := hlp
    have hlenc := chain_len ht.out n p HBG.out hp (by omega)
    have hcl := inc_len hlenc.1 hlenc.2
    have hcq := chain_eq ht.out hq1 hq2
    have hlen : (pre ++ pieceN (fn L) q n).length ≤ 1000 := by
      rw [hq3, hcq] at hcl
      simp only [List.length_append] at hcl ⊢; omega
    obtain ⟨m, hm⟩ : ∃ m, (pre ++ pp).length = m := ⟨_, rfl⟩
    have hvv := hv.out
    rw [hlst] at hvv
    have hll : (natL (pre ++ pp ++ [lp])).length = m + 1 := by rw [natL_len, List.length_append, hm]; rfl
    obtain ⟨g, cp, hvf, hgm⟩ : ∃ g cp, uv = .slice (some ⟨g, 0, none⟩) (m + 1) cp ∧ m + 1 ≤ cp := by
      rcases hvv.forms with ⟨_, e⟩ | ⟨g, cp, e, _, _, e2, _⟩
      · exfalso; rw [e] at hll; simp at hll
      · rw [hll] at e e2; exact ⟨g, cp, e, e2⟩
    have hcl0 : wr.cell? ⟨g, m, none⟩ = some (.int .i64 (lp : Int)) := by
      rw [hvf] at hvv
      rw [hvv.cellN m (by omega), ← hm, fn_natL_last]
    have HV3 : Hid (OwnI wr w.heap.size uv (natL (pre ++ pieceN (fn L) q n))) := hv.out
    rw [hvf] at HV3
    have hmb : m ≤ 1000 := by have := hlen; rw [hlst, List.length_append, hm] at this; simp at this; omega
    have hn1000 : (natL (pre ++ pieceN (fn L) q n)).length ≤ 1000 := by rw [natL_len]; exact hlen
    have HCQ : Hid (chainN (cl l) (fn L) n mt q = pieceN (fn L) q n ++ (match scN (cl l) (fn L) n mt q with | some j => chainN (cl l) (fn L) n mt j | none => [])) := hcq
    have HQ3 : Hid (chainN (cl l) (fn L) n mt p = pre ++ chainN (cl l) (fn L) n mt q) := hq3
    have HQ1 : Hid _ := hq1
    have hc : wr.cell? ⟨b, off + lp, none⟩ = some (.int .i64 (fn l lp)) := HA.out wr hbel.out lp (by have := HN.out; omega)
    have hlpi : (lp : Int) < (n : Int) := by omega
    obtain ⟨ck, hck⟩ : ∃ ck, bidi (fn l lp) = ck := ⟨_, rfl⟩
    have HCK : Hid _ := hck
    have hclk : Hid (cl l lp = ck) := hck
    clear hck hq1 hq3 hcq hlst hpp hlp hvv hll hm hlen hcl hlenc a1 a3 hv hq
    subst hvf
    cases ho : opensB ck
    · have HOP : Hid _ := ho
      have hend : Hid (chainN (cl l) (fn L) n mt p = pre ++ pieceN (fn L) q n) := by
        show _ = _
        rw [HQ3.out, HCQ.out, sc_none (.inl (by rw [HLP.out, hclk.out]; exact ho))]
        simp
      clear ho
      go_wp2_with (first | (go_at_call 10; refine (specBidi _ _).mono ?_; rintro e w3 ⟨rfl, b3⟩; rw [HCK.out]) | (go_at_call 120; refine (specOpens _ _).mono ?_; rintro e w4 ⟨rfl, rfl⟩; rw [HOP.out]))
      go_ret
      exact ⟨⟨_, rfl, by rw [hend.out]; exact HV3.out.below b3⟩, bstep hbel.out b3⟩
    · have HOP : Hid _ := ho
      have HOC : Hid (opensB (cl l lp) = true) := by rw [hclk.out]; exact ho
      have hml := mt_gt hmt.out a2 HOC.out
      clear ho
      by_cases hmn : mt lp = n
      · have hend : Hid (chainN (cl l) (fn L) n mt p = pre ++ pieceN (fn L) q n) := by
          show _ = _
          rw [HQ3.out, HCQ.out, sc_none (.inr (by rw [HLP.out]; exact hmn))]
          simp
        have HMN : Hid _ := hmn
        clear hmn hml
        go_wp2_with (first | (go_at_call 10; refine (specBidi _ _).mono ?_; rintro e w3 ⟨rfl, b3⟩; rw [HCK.out]) | (go_at_call 120; refine (specOpens _ _).mono ?_; rintro e w4 ⟨rfl, rfl⟩; rw [HOP.out]) | (go_at_call 121; refine (specMateL b off cap n l mt _ lp _ HN.out (Nat.lt_of_lt_of_le hb (bstep hbel.out b3).size) (HA.out _ (bstep hbel.out b3)) hl4 hmt rfl a2 HOC.out).mono ?_; rintro e w5 ⟨rfl, b5⟩; rw [HMN.out]))
        go_ret
        exact ⟨⟨_, rfl, by rw [hend.out]; exact (HV3.out.below b3).below b5⟩, bstep (bstep hbel.out b3) b5⟩
      · have hmlt : mt lp < n := by omega
        have hsc := sc_is (c := cl l) (lv := fn L) (n := n) (mt := mt) (b := q) (by rw [HLP.out]; exact HOC.out) (by rw [HLP.out]; exact hmlt)
        rw [HLP.out] at hsc
        obtain ⟨_, _, _, hbj, hlt, _⟩ := sc_some ht.out HQ1.out hq2 hsc
        obtain ⟨j, hj⟩ : ∃ j, mt lp = j := ⟨_, rfl⟩
        have hcc : Hid (chainN (cl l) (fn L) n mt p = (pre ++ pieceN (fn L) q n) ++ chainN (cl l) (fn L) n mt j) := by
          show _ = _
          rw [HQ3.out, HCQ.out, hsc, List.append_assoc, hj]
        rw [hj] at hbj hlt hmlt
        have HJ : Hid _ := hj
        have HBJ : Hid _ := hbj
        have hne : ((j : Int) == (n : Int)) = false := by simp; omega
        have hlenJ : (natL (pieceN (fn L) j n)).length ≤ 1000 := by
          rw [natL_len]; unfold pieceN; have := List.length_filter_le (ofB (fn L) j) (List.range n); rw [List.length_range] at this; omega
        clear hj hsc hbj hml hmn
        go_wp2_with (first | (go_at_call 10; refine (specBidi _ _).mono ?_; rintro e w3 ⟨rfl, b3⟩; rw [HCK.out]) | (go_at_call 120; refine (specOpens _ _).mono ?_; rintro e w4 ⟨rfl, rfl⟩; rw [HOP.out]) | (go_at_call 121; refine (specMateL b off cap n l mt _ lp _ HN.out (Nat.lt_of_lt_of_le hb (bstep hbel.out b3).size) (HA.out _ (bstep hbel.out b3)) hl4 hmt rfl a2 HOC.out).mono ?_; rintro e w5 ⟨rfl, b5⟩; rw [HJ.out]) | (go_at_call 116; refine (specRun b2 off2 cap2 n L j _ _ HNL.out (Nat.lt_of_lt_of_le hb2 (bstep (bstep hbel.out b3) b5).size) (HAL.out _ (bstep (bstep hbel.out b3) b5)) hl hmlt rfl HBJ.out).mono ?_; rintro e w6 ⟨⟨v6, rfl, o6⟩, b6⟩; have H6 : Hid (OwnI w6 w.heap.size (.slice (some ⟨g, 0, none⟩) (m + 1) cp) (natL (pre ++ pieceN (fn L) q n))) := ((HV3.out.below b3).below b5).below b6; have O6 : Hid (OwnI w6 w5.heap.size v6 (natL (pieceN (fn L) j n))) := o6; have HB6 : Hid (Below w.heap.size w w6) := bstep (bstep (bstep hbel.out b3) b5) b6; clear o6) | (at_builtin; refine own_appendOwn (.tmp 35) (.tmp 38) H6.out O6.out (by omega) HB6.out.size rfl rfl rfl rfl ?_; intro v7 w7 hown7 hgr7))
        go_roundg (gk - 1)
        case measure => omega
        case rel =>
          refine ⟨_, pre ++ pieceN (fn L) q n, j, rfl, ?_, ⟨HBJ.out, hmlt, hcc.out⟩, by omega, grown_below HB6.out hgr7 H6.out (Nat.le_refl _) HB6.out.size⟩
          rw [natL_app (pre ++ pieceN (fn L) q n)]; exact hown7
end Go.Proofs.YtgojdlbidjnmmaaGreat
