import Derived.Test.YtbeecmcgdlnakaaMg6
import Derived.Test.YtbeecmcgdlnakaaMg7
import Derived.Test.YtbeecmcgdlnakaaMg8
import Derived.Deep.LoopGhost
namespace Go.Proofs.Ytbeecmcgdlnakaa
open Go.ChangeShapes Go.WideShapes Go.ChangeAt Go.RowKit
set_option linter.unusedSimpArgs false
set_option linter.unusedVariables false

set_option maxHeartbeats 2000000 in
theorem specLeft (b off cap n : Nat) (L : List Int) (p : Nat) (a : Int) (w : World) (hn : L.length = n) (hat : At w b off L) (hl : n ≤ 1048576) (hp : p ≤ n) (ha : a = (p : Int)) :
    Calls Try.prog 59 #[.slice (some ⟨b, off, none⟩) n cap, .int .i64 a] w fun e w' => (∃ k : Nat, e = .returned (.int .i64 k) ∧ p ≤ k ∧ k ≤ n ∧ (∀ x, p ≤ x → x < k → fn L x < 0) ∧ (k < n → 0 ≤ fn L k)) ∧ w' = w := by
  subst ha
  have HN : Hid _ := hn
  clear hn
  go_enter Try.func59, Try.ntmps59
  go_wp2
  go_loop [1] (fun q => ∃ k : Nat, p ≤ k ∧ k ≤ n ∧ q = .int .i64 k ∧ Hid (∀ x, p ≤ x → x < k → fn L x < 0)) (fun q => n - (intOf q).toNat)
  case atStart => exact ⟨p, Nat.le_refl _, hp, rfl, fun x h1 h2 => by omega⟩
  case round =>
    obtain ⟨k, hpk, hkn, rfl, hall⟩ := hrel
    by_cases hlt : k < n
    · have hki : (k : Int) < (n : Int) := by omega
      have hc : w.cell? ⟨b, off + k, none⟩ = some (.int .i64 (fn L k)) := hat k (by have := HN.out; omega)
      by_cases hq : fn L k < 0
      · have hq2 : decide (fn L k < 0) = true := by simpa using hq
        have HQ : Hid _ := hq
        clear hq
        go_wp2
        go_round
        case rel => exact ⟨k + 1, by omega, by omega, by go_num, fun x h1 h2 => by
          by_cases e : x = k
          · subst e; exact HQ.out
          · exact hall.out x h1 (by omega)⟩
        case measure => simp only [intOf]; omega
      · have hq2 : decide (fn L k < 0) = false := by simpa using hq
        have HQ : Hid (0 ≤ fn L k) := by show _ ≤ _; omega
        clear hq
        go_wp2
        go_ret
        exact ⟨⟨k, rfl, hpk, hkn, hall.out, fun _ => by have := HQ.out; omega⟩, rfl⟩
    · have e : k = n := by omega
      subst e
      go_wp2
      go_ret
      exact ⟨⟨k, rfl, hpk, hkn, hall.out, fun h => by omega⟩, rfl⟩

set_option maxHeartbeats 4000000 in
theorem specRun (b off cap n : Nat) (L : List Int) (p : Nat) (a : Int) (w : World) (hn : L.length = n) (hb : b < w.heap.size) (hat : At w b off L) (hl : n ≤ 1000) (hp : p < n) (ha : a = (p : Int)) (hbeg : begB (fn L) p = true) :
    Calls Try.prog 60 #[.slice (some ⟨b, off, none⟩) n cap, .int .i64 a] w fun e w' => (∃ v, e = .returned v ∧ OwnI w' w.heap.size v (natL (pieceN (fn L) p n))) ∧ Below w.heap.size w w' := by
  subst ha
  have HN : Hid _ := hn
  have ho := own_empty w w.heap.size 3 (Nat.le_refl _) rfl
  have hb0 : Below w.heap.size w (w.alloc (.cells #[] 3)) := (Below.refl _ _).alloc (Nat.le_refl _) _
  have HO : Hid (OwnI (w.alloc (.cells #[] 3)) w.heap.size (.slice (some ⟨w.heap.size, 0, none⟩) 0 0) []) := ho
  have HBB : Hid _ := hb0
  have HBG : Hid _ := hbeg
  have hpi : (p : Int) < (n : Int) := by omega
  clear hn ho hb0 hbeg
  go_enter Try.func60, Try.ntmps60
  go_wp2_with fail
  go_loopw [5, 6] (fun v i wr => ∃ k : Nat, p ≤ k ∧ k ≤ n ∧ i = .int .i64 k ∧ Hid (OwnI wr w.heap.size v (natL (pieceN (fn L) p k))) ∧ Hid (∀ x, p ≤ x → x < k → 0 ≤ fn L x → fn L x = fn L p) ∧ Hid (Below w.heap.size w wr)) (fun _ i _ => n - (intOf i).toNat)
  case atStart => exact ⟨p, Nat.le_refl _, by omega, rfl, by rw [piece_at _ HBG.out]; exact HO.out, fun x h1 h2 => by omega, HBB.out⟩
  case round =>
    obtain ⟨k, hpk, hkn, rfl, hv, hall, hbel⟩ := hrel
    -- all seen so far are of the piece
    have hof : ∀ x, p ≤ x → x < k → 0 ≤ fn L x → ofB (fn L) p x = true := by
      have hbg : ∀ d, p + 1 + d ≤ k → bgL (fn L) (p + 1 + d) = p ∧ pvL (fn L) (p + 1 + d) = fn L p := by
        intro d
        induction d with
        | zero => intro _; exact ⟨bg_beg HBG.out, by show pvL (fn L) (p + 1) = _; simp only [pvL]; rw [if_pos (beg_seen HBG.out)]⟩
        | succ d ih =>
          intro hd
          obtain ⟨i1, i2⟩ := ih (by omega)
          by_cases hs : 0 ≤ fn L (p + 1 + d)
          · have e := hall.out (p + 1 + d) (by omega) (by omega) hs
            have hnb : begB (fn L) (p + 1 + d) = false := by simp [begB, hs, i2, e]
            exact ⟨by show bgL (fn L) (p + 1 + d + 1) = p; rw [bg_stay hnb]; exact i1, by show pvL (fn L) (p + 1 + d + 1) = _; simp only [pvL]; rw [if_pos hs, e]⟩
          · exact ⟨by show bgL (fn L) (p + 1 + d + 1) = p; rw [bg_stay (bg_unseen (by omega))]; exact i1, by show pvL (fn L) (p + 1 + d + 1) = _; simp only [pvL]; rw [if_neg hs]; exact i2⟩
      intro x h1 h2 hs
      have := (hbg (x - p) (by omega)).1
      rw [show p + 1 + (x - p) = x + 1 by omega] at this
      exact of_mk hs this
    have HOF : Hid _ := hof
    clear hof
    by_cases hlt : k < n
    · have hki : (k : Int) < (n : Int) := by omega
      have hck : wr.cell? ⟨b, off + k, none⟩ = some (.int .i64 (fn L k)) := (hbel.out.cell (p := ⟨b, off + k, none⟩) hb).trans (hat k (by have := HN.out; omega))
      have hcp : wr.cell? ⟨b, off + p, none⟩ = some (.int .i64 (fn L p)) := (hbel.out.cell (p := ⟨b, off + p, none⟩) hb).trans (hat p (by have := HN.out; omega))
      by_cases hneg : fn L k < 0
      · have hq2 : decide (fn L k < 0) = true := by simpa using hneg
        have hq3 : decide (fn L k ≥ 0) = false := by simp; omega
        have HQ : Hid _ := hneg
        clear hneg
        go_wp2_with fail
        go_quiet (fail)
        go_wp2_with fail
        go_roundw
        case rel => exact ⟨k + 1, by omega, by omega, by go_num, by rw [piece_succ, if_neg (by rw [show ofB (fn L) p k = false by simp [ofB, HQ.out]; have := HQ.out; omega]; simp), List.append_nil]; exact hv.out.drewN _, fun x h1 h2 h3 => by
          by_cases e : x = k
          · subst e; have := HQ.out; omega
          · exact hall.out x h1 (by omega) h3, hbel.out.trans ((below_draws _ _).mono hbel.out.size)⟩
        case measure => simp only [intOf]; omega
      · have hq2 : decide (fn L k < 0) = false := by simpa using hneg
        have hq3 : decide (fn L k ≥ 0) = true := by simp; omega
        by_cases heq : fn L k = fn L p
        · have he2 : (fn L k == fn L p) = true := by simpa using heq
          have HE : Hid _ := heq
          have HQ : Hid (0 ≤ fn L k) := by show _ ≤ _; omega
          have hln : (natL (pieceN (fn L) p k)).length ≤ 1073741824 := by
            rw [natL_len]; unfold pieceN; have := List.length_filter_le (ofB (fn L) p) (List.range k); rw [List.length_range] at this; omega
          clear heq hneg
          go_wp2_with fail
          go_quiet (fail)
          go_wp2_with (at_builtin; refine own_append (.tmp 38) (.tmp 40) (hv.out.drewN _) hln hbel.out.size rfl rfl rfl rfl ?_; intro v5 w5 hown5 hgr5)
          go_roundw
          case rel =>
            refine ⟨k + 1, by omega, by omega, by go_num, ?_, fun x h1 h2 h3 => ?_, ?_⟩
            · have hofk : ofB (fn L) p k = true := by
                by_cases e : k = p
                · subst e; exact of_b HBG.out
                · have h1 := HOF.out
                  -- the letter at k goes on with the piece
                  have hpv : ∀ d, p + 1 + d ≤ k → bgL (fn L) (p + 1 + d) = p ∧ pvL (fn L) (p + 1 + d) = fn L p := by
                    intro d
                    induction d with
                    | zero => intro _; exact ⟨bg_beg HBG.out, by show pvL (fn L) (p + 1) = _; simp only [pvL]; rw [if_pos (beg_seen HBG.out)]⟩
                    | succ d ih =>
                      intro hd
                      obtain ⟨i1, i2⟩ := ih (by omega)
                      by_cases hs : 0 ≤ fn L (p + 1 + d)
                      · have e2 := hall.out (p + 1 + d) (by omega) (by omega) hs
                        have hnb : begB (fn L) (p + 1 + d) = false := by simp [begB, hs, i2, e2]
                        exact ⟨by show bgL (fn L) (p + 1 + d + 1) = p; rw [bg_stay hnb]; exact i1, by show pvL (fn L) (p + 1 + d + 1) = _; simp only [pvL]; rw [if_pos hs, e2]⟩
                      · exact ⟨by show bgL (fn L) (p + 1 + d + 1) = p; rw [bg_stay (bg_unseen (by omega))]; exact i1, by show pvL (fn L) (p + 1 + d + 1) = _; simp only [pvL]; rw [if_neg hs]; exact i2⟩
                  obtain ⟨i1, i2⟩ := hpv (k - (p + 1)) (by omega)
                  rw [show p + 1 + (k - (p + 1)) = k by omega] at i1 i2
                  have hs : 0 ≤ fn L k := by have := HQ.out; omega
                  have hnb : begB (fn L) k = false := by simp [begB, hs, i2, HE.out]
                  exact of_mk hs (by rw [bg_stay hnb]; exact i1)
              rw [piece_succ, if_pos hofk, natL_app]; exact hown5
            · by_cases e : x = k
              · subst e; exact HE.out
              · exact hall.out x h1 (by omega) h3
            · exact grown_below (hbel.out.trans ((below_draws _ _).mono hbel.out.size)) hgr5 (hv.out.drewN _) (Nat.le_refl _) hbel.out.size
          case measure => simp only [intOf]; omega
        · have he2 : (fn L k == fn L p) = false := by simpa using heq
          have HE : Hid _ := heq
          have HQ : Hid (0 ≤ fn L k) := by show _ ≤ _; omega
          clear heq hneg
          go_wp2_with fail
          go_quiet (fail)
          go_wp2_with fail
          go_ret
          refine ⟨⟨_, rfl, ?_⟩, hbel.out.trans ((below_draws _ _).mono hbel.out.size)⟩
          have : pieceN (fn L) p n = pieceN (fn L) p k := by
            refine piece_more (by omega) (fun x h1 h2 => ?_)
            cases hc : ofB (fn L) p x with
            | false => rfl
            | true =>
              exfalso
              have hkp : p < k := by
                rcases Nat.lt_or_ge p k with q | q
                · exact q
                · have : k = p := by omega
                  subst this; exact absurd rfl HE.out
              -- at k something else begins
              have hs : 0 ≤ fn L k := by have := HQ.out; omega
              have m1 := bg_mono (lv := fn L) (show p + 1 ≤ k + 1 by omega)
              have m2 := bg_mono (lv := fn L) (show k + 1 ≤ x + 1 by omega)
              rw [bg_beg HBG.out] at m1
              rw [(of_seen hc).2] at m2
              have := of_beg (of_mk hs (show bgL (fn L) (k + 1) = p by omega))
              exact HE.out this.2
          rw [this]; exact hv.out.drewN _
    · have e : k = n := by omega
      subst e
      go_wp2_with fail
      go_quiet (fail)
      go_wp2_with fail
      go_ret
      exact ⟨⟨_, rfl, hv.out.drewN _⟩, hbel.out.trans ((below_draws _ _).mono hbel.out.size)⟩
end Go.Proofs.Ytbeecmcgdlnakaa
namespace Go.Proofs.Ytbeecmcgdlnakaa
open Go.ChangeShapes Go.WideShapes Go.ChangeAt Go.RowKit
set_option linter.unusedSimpArgs false
set_option linter.unusedVariables false

theorem clos_no {c : Nat → Int} {mt : Nat → Nat} {b : Nat} (h : ∀ i, i < b → (opensB (c i) && mt i == b) = false) : closN c mt b = false := by
  unfold closN
  rw [List.any_eq_false]
  intro i hi
  rw [List.mem_range] at hi
  simpa using h i hi
theorem clos_yes {c : Nat → Int} {mt : Nat → Nat} {b i : Nat} (hi : i < b) (ho : opensB (c i) = true) (hm : mt i = b) : closN c mt b = true := by
  unfold closN
  rw [List.any_eq_true]
  exact ⟨i, by rw [List.mem_range]; exact hi, by simp [ho, hm]⟩

set_option maxHeartbeats 4000000 in
theorem specCloses (b off cap n : Nat) (l : List Int) (mt : Nat → Nat) (p : Nat) (a : Int) (w : World) (hn : l.length = n) (hb : b < w.heap.size) (hat : At w b off l) (hl : n ≤ 1000) (hmt : Hid (MateFn (cl l) n mt)) (hp : p < n) (ha : a = (p : Int)) :
    Calls Try.prog 61 #[.slice (some ⟨b, off, none⟩) n cap, .int .i64 a] w fun e w' => e = .returned (.bool (closN (cl l) mt p)) ∧ Below w.heap.size w w' := by
  subst ha
  have HN : Hid _ := hn
  have HA : Hid (∀ w', Below w.heap.size w w' → At w' b off l) := fun w' hw => hat.below hw hb
  clear hn hat
  have hl4 : n ≤ 4194304 := by omega
  go_enter Try.func61, Try.ntmps61
  go_wp2_with fail
  go_loopw [5] (fun q wr => ∃ i : Nat, i ≤ p ∧ q = .int .i64 i ∧ Hid (∀ x, x < i → (opensB (cl l x) && mt x == p) = false) ∧ Hid (Below w.heap.size w wr)) (fun q _ => p - (intOf q).toNat)
  case atStart => exact ⟨0, Nat.zero_le _, rfl, fun x hx => by omega, Below.refl _ _⟩
  case round =>
    obtain ⟨i, hip, rfl, hall, hbel⟩ := hrel
    by_cases hlt : i < p
    · have hii : (i : Int) < (p : Int) := by omega
      have hin : (i : Int) < (n : Int) := by omega
      have hc : wr.cell? ⟨b, off + i, none⟩ = some (.int .i64 (fn l i)) := HA.out wr hbel.out i (by have := HN.out; omega)
      obtain ⟨ck, hck⟩ : ∃ ck, bidi (fn l i) = ck := ⟨_, rfl⟩
      have HCK : Hid _ := hck
      have hcl : Hid (cl l i = ck) := hck
      clear hck
      cases ho : opensB ck
      · have HO : Hid _ := ho
        clear ho
        go_wp2_with (first | (go_at_call 13; refine (specBidi _ _).mono ?_; rintro e w1 ⟨rfl, b1⟩; rw [HCK.out]) | (go_at_call 82; refine (specOpens _ _).mono ?_; rintro e w2 ⟨rfl, rfl⟩; rw [HO.out]))
        go_roundw
        case rel => exact ⟨i + 1, by omega, by go_num, fun x hx => by
          by_cases e : x = i
          · subst e; rw [hcl.out, HO.out]; rfl
          · exact hall.out x (by omega), bstep hbel.out b1⟩
        case measure => simp only [intOf]; omega
      · have HO : Hid _ := ho
        have HOP : Hid (opensB (cl l i) = true) := by rw [hcl.out]; exact ho
        clear ho
        by_cases hq : mt i = p
        · have hqb : ((mt i : Int) == (p : Int)) = true := by simp [hq]
          have HQ : Hid _ := hq
          have HQB : Hid _ := hqb
          clear hq hqb
          go_wp2_with (first | (go_at_call 13; refine (specBidi _ _).mono ?_; rintro e w1 ⟨rfl, b1⟩; rw [HCK.out]) | (go_at_call 82; refine (specOpens _ _).mono ?_; rintro e w2 ⟨rfl, rfl⟩; rw [HO.out]) | (go_at_call 79; refine (specMateL b off cap n l mt _ i _ HN.out (Nat.lt_of_lt_of_le hb (bstep hbel.out b1).size) (HA.out _ (bstep hbel.out b1)) hl4 hmt rfl (by omega) HOP.out).mono ?_; rintro e w3 ⟨rfl, b3⟩; rw [HQ.out]))
          go_ret
          exact ⟨retBool (clos_yes hlt HOP.out HQ.out).symm, bstep (bstep hbel.out b1) b3⟩
        · have hqb : ((mt i : Int) == (p : Int)) = false := by simp; omega
          have HQ : Hid _ := hq
          clear hq
          go_wp2_with (first | (go_at_call 13; refine (specBidi _ _).mono ?_; rintro e w1 ⟨rfl, b1⟩; rw [HCK.out]) | (go_at_call 82; refine (specOpens _ _).mono ?_; rintro e w2 ⟨rfl, rfl⟩; rw [HO.out]) | (go_at_call 79; refine (specMateL b off cap n l mt _ i _ HN.out (Nat.lt_of_lt_of_le hb (bstep hbel.out b1).size) (HA.out _ (bstep hbel.out b1)) hl4 hmt rfl (by omega) HOP.out).mono ?_; rintro e w3 ⟨rfl, b3⟩))
          go_roundw
          case rel => exact ⟨i + 1, by omega, by go_num, fun x hx => by
            by_cases e : x = i
            · subst e; rw [HOP.out]; simpa using HQ.out
            · exact hall.out x (by omega), bstep (bstep hbel.out b1) b3⟩
          case measure => simp only [intOf]; omega
    · have e : i = p := by omega
      subst e
      go_wp2_with fail
      go_ret
      exact ⟨retBool (clos_no hall.out).symm, hbel.out⟩

theorem sc_none {c lv : Nat → Int} {n : Nat} {mt : Nat → Nat} {b : Nat} (h : opensB (c (lastP lv b n)) = false ∨ mt (lastP lv b n) = n) : scN c lv n mt b = none := by
  unfold scN
  rw [if_neg]
  rintro ⟨h1, h2⟩
  rcases h with h | h
  · rw [h] at h1; cases h1
  · omega
theorem sc_is {c lv : Nat → Int} {n : Nat} {mt : Nat → Nat} {b : Nat} (h1 : opensB (c (lastP lv b n)) = true) (h2 : mt (lastP lv b n) < n) : scN c lv n mt b = some (mt (lastP lv b n)) := by
  unfold scN; rw [if_pos ⟨h1, h2⟩]
theorem chain_len {c lv : Nat → Int} {n : Nat} {mt : Nat → Nat} (ht : Txt c lv n mt) : ∀ d b, begB lv b = true → b < n → n - b ≤ d → (chainN c lv n mt b).Pairwise (· < ·) ∧ ∀ x ∈ chainN c lv n mt b, b ≤ x ∧ x < n := by
  intro d
  induction d with
  | zero => intro b hb hbn h; omega
  | succ d ih =>
    intro b hb hbn h
    rw [chain_eq ht hb hbn]
    have hp : (pieceN lv b n).Pairwise (· < ·) := by
      unfold pieceN
      exact (List.pairwise_lt_range).filter _
    cases hs : scN c lv n mt b with
    | none =>
      simp only [List.append_nil]
      exact ⟨hp, fun x hx => by rw [piece_mem] at hx; exact ⟨of_le hx.2, hx.1⟩⟩
    | some j =>
      obtain ⟨h1, h2, hj, hbj, hlt, hm, _⟩ := sc_some ht hb hbn hs
      obtain ⟨i1, i2⟩ := ih j hbj hj (by omega)
      simp only
      refine ⟨List.pairwise_append.2 ⟨hp, i1, fun x hx y hy => ?_⟩, fun x hx => ?_⟩
      · have hy2 := (i2 y hy).1
        rw [piece_mem] at hx
        have h3 := hm.lt
        obtain ⟨a1, a2, a3⟩ := last_spec hb hbn
        have : x ≤ lastP lv b n := by
          rcases Nat.lt_or_ge (lastP lv b n) x with q | q
          · have := a3 x q hx.1; rw [hx.2] at this; cases this
          · exact q
        omega
      · rcases List.mem_append.1 hx with hx | hx
        · rw [piece_mem] at hx; exact ⟨of_le hx.2, hx.1⟩
        · have := i2 x hx; exact ⟨by omega, this.2⟩
theorem inc_len {l : List Nat} {n b : Nat} (h : l.Pairwise (· < ·)) (hb : ∀ x ∈ l, b ≤ x ∧ x < n) : l.length ≤ n - b := by
  induction l generalizing b with
  | nil => simp
  | cons x r ih =>
    have h1 := hb x (by simp)
    have h2 := ih (b := x + 1) (List.pairwise_cons.1 h).2 (fun y hy => ⟨(List.pairwise_cons.1 h).1 y hy, (hb y (by simp [hy])).2⟩)
    simp only [List.length_cons]; omega

set_option maxHeartbeats 8000000 in
theorem specChain (b off cap b2 off2 cap2 n : Nat) (l L : List Int) (mt : Nat → Nat) (p : Nat) (v : Value) (w : World) (hn : l.length = n) (hnL : L.length = n) (hb : b < w.heap.size) (hb2 : b2 < w.heap.size) (hat : At w b off l) (hatL : At w b2 off2 L) (hl : n ≤ 1000)
    (ht : Hid (Txt (cl l) (fn L) n mt)) (hp : p < n) (hbeg : begB (fn L) p = true) (B0 : Nat) (hv : OwnI w B0 v (natL (pieceN (fn L) p n))) :
    Calls Try.prog 62 #[.slice (some ⟨b, off, none⟩) n cap, .slice (some ⟨b2, off2, none⟩) n cap2, v] w fun e w' => (∃ v', e = .returned v' ∧ OwnI w' w.heap.size v' (natL (chainN (cl l) (fn L) n mt p))) ∧ Below w.heap.size w w' := by
  have HN : Hid _ := hn
  have HNL : Hid _ := hnL
  have HA : Hid (∀ w', Below w.heap.size w w' → At w' b off l) := fun w' hw => hat.below hw hb
  have HAL : Hid (∀ w', Below w.heap.size w w' → At w' b2 off2 L) := fun w' hw => hatL.below hw hb2
  have hmt : Hid (MateFn (cl l) n mt) := ht.out.mates
  have ho := own_empty w w.heap.size 3 (Nat.le_refl _) rfl
  have HO : Hid (OwnI (w.alloc (.cells #[] 3)) w.heap.size (.slice (some ⟨w.heap.size, 0, none⟩) 0 0) []) := ho
  have HV : Hid (OwnI (w.alloc (.cells #[] 3)) B0 v (natL (pieceN (fn L) p n))) := hv.below ((Below.refl _ _).alloc (Nat.le_refl _) _)
  have HB0 : Hid (Below w.heap.size w (w.alloc (.cells #[] 3))) := (Below.refl _ _).alloc (Nat.le_refl _) _
  have HBG : Hid _ := hbeg
  have hpl : (natL (pieceN (fn L) p n)).length ≤ 1000 := by
    rw [natL_len]; unfold pieceN; have := List.length_filter_le (ofB (fn L) p) (List.range n); rw [List.length_range] at this; omega
  have hl4 : n ≤ 4194304 := by omega
  clear hn hnL hat hatL ho hv hbeg
  have hwsz : w.heap.size ≤ (w.alloc (.cells #[] 3)).heap.size := by simp
  go_enter Try.func62, Try.ntmps62
  go_wp2_with (at_builtin; refine own_appendOwn (.tmp 10) (.tmp 11) HO.out HV.out (by simp; omega) hwsz rfl rfl rfl rfl ?_; intro v1 w1 hown1 hgr1)
  have H1 : Hid (OwnI w1 w.heap.size v1 (natL (pieceN (fn L) p n))) := by show OwnI _ _ _ _; simpa using hown1
  have HB1 : Hid (Below w.heap.size w w1) := grown_below HB0.out hgr1 HO.out (Nat.le_refl _) hwsz
  clear hown1 hgr1 HO HV
  go_loopg [7] n (fun g x7 wr => ∃ (uv : Value) (pre : List Nat) (q : Nat), x7 = uv ∧ Hid (OwnI wr w.heap.size uv (natL (pre ++ pieceN (fn L) q n))) ∧ Hid (begB (fn L) q = true ∧ q < n ∧ chainN (cl l) (fn L) n mt p = pre ++ chainN (cl l) (fn L) n mt q) ∧ n - q ≤ g ∧ Hid (Below w.heap.size w wr))
  case atStart => exact ⟨v1, [], p, rfl, H1.out, ⟨HBG.out, hp, rfl⟩, by omega, HB1.out⟩
  case round =>
    obtain ⟨uv, pre, q, e7, hv, hq, hg, hbel⟩ := hrel
    rw [e7]
    clear e7
    obtain ⟨hq1, hq2, hq3⟩ := hq.out
    obtain ⟨pp, hpp⟩ := piece_last hq1 n hq2
    obtain ⟨a1, a2, a3⟩ := last_spec hq1 hq2
    obtain ⟨lp, hlp⟩ : ∃ lp, lastP (fn L) q n = lp := ⟨_, rfl⟩
    rw [hlp] at hpp a2
    have hlst : pre ++ pieceN (fn L) q n = (pre ++ pp) ++ [lp] := by rw [hpp, List.append_assoc]
    have HLP : Hid _ := hlp
    have hlenc := chain_len ht.out n p HBG.out hp (by omega)
    have hcl := inc_len hlenc.1 hlenc.2
    have hcq := chain_eq ht.out hq1 hq2
    have hlen : (pre ++ pieceN (fn L) q n).length ≤ 1000 := by
      rw [hq3, hcq] at hcl
      simp only [List.length_append] at hcl ⊢; omega
    obtain ⟨m, hm⟩ : ∃ m, (pre ++ pp).length = m := ⟨_, rfl⟩
    have hvv := hv.out
    rw [hlst] at hvv
    have hll : (natL (pre ++ pp ++ [lp])).length = m + 1 := by rw [natL_len, List.length_append, hm]; rfl
    obtain ⟨g, cp, hvf, hgm⟩ : ∃ g cp, uv = .slice (some ⟨g, 0, none⟩) (m + 1) cp ∧ m + 1 ≤ cp := by
      rcases hvv.forms with ⟨_, e⟩ | ⟨g, cp, e, _, _, e2, _⟩
      · exfalso; rw [e] at hll; simp at hll
      · rw [hll] at e e2; exact ⟨g, cp, e, e2⟩
    have hcl0 : wr.cell? ⟨g, m, none⟩ = some (.int .i64 (lp : Int)) := by
      rw [hvf] at hvv
      rw [hvv.cellN m (by omega), ← hm, fn_natL_last]
    have HV3 : Hid (OwnI wr w.heap.size uv (natL (pre ++ pieceN (fn L) q n))) := hv.out
    rw [hvf] at HV3
    have hmb : m ≤ 1000 := by have := hlen; rw [hlst, List.length_append, hm] at this; simp at this; omega
    have hn1000 : (natL (pre ++ pieceN (fn L) q n)).length ≤ 1000 := by rw [natL_len]; exact hlen
    have HCQ : Hid (chainN (cl l) (fn L) n mt q = pieceN (fn L) q n ++ (match scN (cl l) (fn L) n mt q with | some j => chainN (cl l) (fn L) n mt j | none => [])) := hcq
    have HQ3 : Hid (chainN (cl l) (fn L) n mt p = pre ++ chainN (cl l) (fn L) n mt q) := hq3
    have HQ1 : Hid _ := hq1
    have hc : wr.cell? ⟨b, off + lp, none⟩ = some (.int .i64 (fn l lp)) := HA.out wr hbel.out lp (by have := HN.out; omega)
    have hlpi : (lp : Int) < (n : Int) := by omega
    obtain ⟨ck, hck⟩ : ∃ ck, bidi (fn l lp) = ck := ⟨_, rfl⟩
    have HCK : Hid _ := hck
    have hclk : Hid (cl l lp = ck) := hck
    clear hck hq1 hq3 hcq hlst hpp hlp hvv hll hm hlen hcl hlenc a1 a3 hv hq
    subst hvf
    cases ho : opensB ck
    · have HOP : Hid _ := ho
      have hend : Hid (chainN (cl l) (fn L) n mt p = pre ++ pieceN (fn L) q n) := by
        show _ = _
        rw [HQ3.out, HCQ.out, sc_none (.inl (by rw [HLP.out, hclk.out]; exact ho))]
        simp
      clear ho
      go_wp2_with (first | (go_at_call 13; refine (specBidi _ _).mono ?_; rintro e w3 ⟨rfl, b3⟩; rw [HCK.out]) | (go_at_call 82; refine (specOpens _ _).mono ?_; rintro e w4 ⟨rfl, rfl⟩; rw [HOP.out]))
      go_ret
      exact ⟨⟨_, rfl, by rw [hend.out]; exact HV3.out.below b3⟩, bstep hbel.out b3⟩
    · have HOP : Hid _ := ho
      have HOC : Hid (opensB (cl l lp) = true) := by rw [hclk.out]; exact ho
      have hml := mt_gt hmt.out a2 HOC.out
      clear ho
      by_cases hmn : mt lp = n
      · have hend : Hid (chainN (cl l) (fn L) n mt p = pre ++ pieceN (fn L) q n) := by
          show _ = _
          rw [HQ3.out, HCQ.out, sc_none (.inr (by rw [HLP.out]; exact hmn))]
          simp
        have HMN : Hid _ := hmn
        clear hmn hml
        go_wp2_with (first | (go_at_call 13; refine (specBidi _ _).mono ?_; rintro e w3 ⟨rfl, b3⟩; rw [HCK.out]) | (go_at_call 82; refine (specOpens _ _).mono ?_; rintro e w4 ⟨rfl, rfl⟩; rw [HOP.out]) | (go_at_call 79; refine (specMateL b off cap n l mt _ lp _ HN.out (Nat.lt_of_lt_of_le hb (bstep hbel.out b3).size) (HA.out _ (bstep hbel.out b3)) hl4 hmt rfl a2 HOC.out).mono ?_; rintro e w5 ⟨rfl, b5⟩; rw [HMN.out]))
        go_ret
        exact ⟨⟨_, rfl, by rw [hend.out]; exact (HV3.out.below b3).below b5⟩, bstep (bstep hbel.out b3) b5⟩
      · have hmlt : mt lp < n := by omega
        have hsc := sc_is (c := cl l) (lv := fn L) (n := n) (mt := mt) (b := q) (by rw [HLP.out]; exact HOC.out) (by rw [HLP.out]; exact hmlt)
        rw [HLP.out] at hsc
        obtain ⟨_, _, _, hbj, hlt, _⟩ := sc_some ht.out HQ1.out hq2 hsc
        obtain ⟨j, hj⟩ : ∃ j, mt lp = j := ⟨_, rfl⟩
        have hcc : Hid (chainN (cl l) (fn L) n mt p = (pre ++ pieceN (fn L) q n) ++ chainN (cl l) (fn L) n mt j) := by
          show _ = _
          rw [HQ3.out, HCQ.out, hsc, List.append_assoc, hj]
        rw [hj] at hbj hlt hmlt
        have HJ : Hid _ := hj
        have HBJ : Hid _ := hbj
        have hne : ((j : Int) == (n : Int)) = false := by simp; omega
        have hlenJ : (natL (pieceN (fn L) j n)).length ≤ 1000 := by
          rw [natL_len]; unfold pieceN; have := List.length_filter_le (ofB (fn L) j) (List.range n); rw [List.length_range] at this; omega
        clear hj hsc hbj hml hmn
        go_wp2_with (first | (go_at_call 13; refine (specBidi _ _).mono ?_; rintro e w3 ⟨rfl, b3⟩; rw [HCK.out]) | (go_at_call 82; refine (specOpens _ _).mono ?_; rintro e w4 ⟨rfl, rfl⟩; rw [HOP.out]) | (go_at_call 79; refine (specMateL b off cap n l mt _ lp _ HN.out (Nat.lt_of_lt_of_le hb (bstep hbel.out b3).size) (HA.out _ (bstep hbel.out b3)) hl4 hmt rfl a2 HOC.out).mono ?_; rintro e w5 ⟨rfl, b5⟩; rw [HJ.out]) | (go_at_call 60; refine (specRun b2 off2 cap2 n L j _ _ HNL.out (Nat.lt_of_lt_of_le hb2 (bstep (bstep hbel.out b3) b5).size) (HAL.out _ (bstep (bstep hbel.out b3) b5)) hl hmlt rfl HBJ.out).mono ?_; rintro e w6 ⟨⟨v6, rfl, o6⟩, b6⟩; have H6 : Hid (OwnI w6 w.heap.size (.slice (some ⟨g, 0, none⟩) (m + 1) cp) (natL (pre ++ pieceN (fn L) q n))) := ((HV3.out.below b3).below b5).below b6; have O6 : Hid (OwnI w6 w5.heap.size v6 (natL (pieceN (fn L) j n))) := o6; have HB6 : Hid (Below w.heap.size w w6) := bstep (bstep (bstep hbel.out b3) b5) b6; clear o6) | (at_builtin; refine own_appendOwn (.tmp 35) (.tmp 38) H6.out O6.out (by omega) HB6.out.size rfl rfl rfl rfl ?_; intro v7 w7 hown7 hgr7))
        go_roundg (gk - 1)
        case measure => omega
        case rel =>
          refine ⟨_, pre ++ pieceN (fn L) q n, j, rfl, ?_, ⟨HBJ.out, hmlt, hcc.out⟩, by omega, grown_below HB6.out hgr7 H6.out (Nat.le_refl _) HB6.out.size⟩
          rw [natL_app (pre ++ pieceN (fn L) q n)]; exact hown7
end Go.Proofs.Ytbeecmcgdlnakaa
namespace Go.Proofs.Ytbeecmcgdlnakaa
set_option linter.unusedSimpArgs false
set_option linter.unusedVariables false

section
variable {c lv : Nat → Int} {n : Nat} {mt : Nat → Nat}
theorem start_nopred (ht : Txt c lv n mt) {b b1 : Nat} (hs : startN c lv mt b = true) (hb : begB lv b1 = true) (hbn : b1 < n) (h : scN c lv n mt b1 = some b) : False := by
  obtain ⟨_, _, _, _, _, _, h22, hcl⟩ := sc_some ht hb hbn h
  unfold startN at hs
  rw [hcl] at hs
  simp [h22] at hs
theorem pred_inj (ht : Txt c lv n mt) {j b1 b2 : Nat} (hb1 : begB lv b1 = true) (hn1 : b1 < n) (h1 : scN c lv n mt b1 = some j) (hb2 : begB lv b2 = true) (hn2 : b2 < n) (h2 : scN c lv n mt b2 = some j) : b1 = b2 := by
  obtain ⟨_, _, _, _, _, m1, _⟩ := sc_some ht hb1 hn1 h1
  obtain ⟨_, _, _, _, _, m2, _⟩ := sc_some ht hb2 hn2 h2
  have e := mate_inj m1 m2
  have e1 := (of_seen (last_spec hb1 hn1).1).2
  have e2 := (of_seen (last_spec hb2 hn2).1).2
  rw [e] at e1
  exact e1.symm.trans e2
theorem has_pred (ht : Txt c lv n mt) {b : Nat} (hb : begB lv b = true) (hbn : b < n) (hs : startN c lv mt b = false) : ∃ b1, begB lv b1 = true ∧ b1 < b ∧ scN c lv n mt b1 = some b := by
  unfold startN at hs
  rw [hb] at hs
  simp only [Bool.true_and, Bool.not_eq_false', Bool.and_eq_true, decide_eq_true_eq] at hs
  obtain ⟨_, hcl⟩ := hs
  unfold closN at hcl
  rw [List.any_eq_true] at hcl
  obtain ⟨i, hi, h2⟩ := hcl
  rw [List.mem_range] at hi
  simp only [Bool.and_eq_true, beq_iff_eq] at h2
  obtain ⟨ho, rfl⟩ := h2
  obtain ⟨q1, q2⟩ := mate_last (ht.win i (by omega) ho hbn) hi hbn hb
  refine ⟨_, q1, by have := bg_lt lv i; omega, ?_⟩
  unfold scN
  rw [q2, if_pos ⟨ho, hbn⟩]
/-- One piece comes, by others, of another one. -/
def rch (c lv : Nat → Int) (n : Nat) (mt : Nat → Nat) : Nat → Nat → Nat → Prop
  | 0, s, b => s = b
  | d + 1, s, b => s = b ∨ ∃ b1, begB lv b1 = true ∧ b1 < n ∧ scN c lv n mt b1 = some b ∧ rch c lv n mt d s b1
theorem rch_pre {s j : Nat} (hs : begB lv s = true) (hn : s < n) (h : scN c lv n mt s = some j) : ∀ d b, rch c lv n mt d j b → rch c lv n mt (d + 1) s b
  | 0, b, e => by
    have e : j = b := e
    subst e
    exact .inr ⟨s, hs, hn, h, rfl⟩
  | d + 1, b, e => by
    rcases e with e | ⟨b1, h1, h2, h3, h4⟩
    · subst e; exact .inr ⟨s, hs, hn, h, .inl rfl⟩
    · exact .inr ⟨b1, h1, h2, h3, rch_pre hs hn h d b1 h4⟩
theorem chain_in (ht : Txt c lv n mt) : ∀ e s, begB lv s = true → s < n → n - s ≤ e → ∀ x, x ∈ chainN c lv n mt s → ∃ d b, rch c lv n mt d s b ∧ begB lv b = true ∧ b < n ∧ x ∈ pieceN lv b n := by
  intro e
  induction e with
  | zero => intro s _ h1 h2; omega
  | succ e ih =>
    intro s hs hn he x hx
    rw [chain_eq ht hs hn, List.mem_append] at hx
    rcases hx with hx | hx
    · exact ⟨0, s, rfl, hs, hn, hx⟩
    · cases hsc : scN c lv n mt s with
      | none => rw [hsc] at hx; simp at hx
      | some j =>
        rw [hsc] at hx
        obtain ⟨_, _, hj, hbj, hlt, _⟩ := sc_some ht hs hn hsc
        obtain ⟨d, b, h1, h2, h3, h4⟩ := ih j hbj hj (by omega) x hx
        exact ⟨d + 1, b, rch_pre hs hn hsc d b h1, h2, h3, h4⟩
theorem rch_one (ht : Txt c lv n mt) : ∀ e b, b ≤ e → ∀ d d' s s', startN c lv mt s = true → startN c lv mt s' = true → rch c lv n mt d s b → rch c lv n mt d' s' b → s = s' := by
  intro e
  induction e with
  | zero =>
    intro b hb d d' s s' h1 h2 r1 r2
    have key : ∀ d s, startN c lv mt s = true → rch c lv n mt d s b → s = b := fun d s hs r => by
      cases d with
      | zero => exact r
      | succ d =>
        rcases r with r | ⟨b1, q1, q2, q3, _⟩
        · exact r
        · obtain ⟨_, _, _, _, hlt, _⟩ := sc_some ht q1 q2 q3; omega
    rw [key d s h1 r1, key d' s' h2 r2]
  | succ e ih =>
    intro b hb d d' s s' h1 h2 r1 r2
    have key : ∀ d s, rch c lv n mt d s b → s = b ∨ ∃ d1 b1, begB lv b1 = true ∧ b1 < n ∧ scN c lv n mt b1 = some b ∧ rch c lv n mt d1 s b1 := fun d s r => by
      cases d with
      | zero => exact .inl r
      | succ d =>
        rcases r with r | ⟨b1, q1, q2, q3, q4⟩
        · exact .inl r
        · exact .inr ⟨d, b1, q1, q2, q3, q4⟩
    rcases key d s r1 with rfl | ⟨d1, b1, q1, q2, q3, q4⟩ <;> rcases key d' s' r2 with rfl | ⟨d2, b2, p1, p2, p3, p4⟩
    · rfl
    · exact (start_nopred ht h1 p1 p2 p3).elim
    · exact (start_nopred ht h2 q1 q2 q3).elim
    · have e12 := pred_inj ht q1 q2 q3 p1 p2 p3
      subst e12
      obtain ⟨_, _, _, _, hlt, _⟩ := sc_some ht q1 q2 q3
      exact ih b1 (by omega) d1 d2 s s' h1 h2 q4 p4
theorem cover (ht : Txt c lv n mt) : ∀ e b, b ≤ e → begB lv b = true → b < n → ∃ s, s < n ∧ startN c lv mt s = true ∧ ∃ p, chainN c lv n mt s = p ++ chainN c lv n mt b := by
  intro e
  induction e with
  | zero =>
    intro b hb hbb hbn
    cases hs : startN c lv mt b with
    | true => exact ⟨b, hbn, hs, [], rfl⟩
    | false => obtain ⟨b1, _, h2, _⟩ := has_pred ht hbb hbn hs; omega
  | succ e ih =>
    intro b hb hbb hbn
    cases hs : startN c lv mt b with
    | true => exact ⟨b, hbn, hs, [], rfl⟩
    | false =>
      obtain ⟨b1, h1, h2, h3⟩ := has_pred ht hbb hbn hs
      obtain ⟨s, hsn, hst, p, hp⟩ := ih b1 (by omega) h1 (by omega)
      refine ⟨s, hsn, hst, p ++ pieceN lv b1 n, ?_⟩
      rw [hp, chain_eq ht h1 (by omega), h3, List.append_assoc]
/-- A place in a run is seen, and is of the level of its first one. -/
theorem chain_lv (ht : Txt c lv n mt) : ∀ e s, begB lv s = true → s < n → n - s ≤ e → ∀ x, x ∈ chainN c lv n mt s → 0 ≤ lv x ∧ x < n ∧ lv x = lv s := by
  intro e
  induction e with
  | zero => intro s _ h1 h2; omega
  | succ e ih =>
    intro s hs hn he x hx
    rw [chain_eq ht hs hn, List.mem_append] at hx
    rcases hx with hx | hx
    · obtain ⟨h1, h2⟩ := piece_mem.1 hx
      exact ⟨(of_seen h2).1, h1, (of_beg h2).2⟩
    · cases hsc : scN c lv n mt s with
      | none => rw [hsc] at hx; simp at hx
      | some j =>
        rw [hsc] at hx
        obtain ⟨ho, hmj, hj, hbj, hlt, _⟩ := sc_some ht hs hn hsc
        obtain ⟨h1, h2, h3⟩ := ih j hbj hj (by omega) x hx
        have hl := last_spec hs hn
        have hw := ht.win _ hl.2.1 ho (by rw [hmj]; exact hj)
        rw [hmj] at hw
        have h4 := (of_beg hl.1).2
        exact ⟨h1, h2, by rw [h3, ← h4]; exact hw.same⟩
theorem runs_nodup (ht : Txt c lv n mt) : (runsTo c lv n mt n).flatten.Nodup := by
  unfold List.Nodup
  rw [List.pairwise_flatten]
  refine ⟨fun l hl => ?_, ?_⟩
  · unfold runsTo at hl
    rw [List.mem_map] at hl
    obtain ⟨s, hs, rfl⟩ := hl
    rw [List.mem_filter, List.mem_range] at hs
    exact (chain_len ht (n - s) s (start_beg hs.2) hs.1 (Nat.le_refl _)).1.imp (fun h => by omega)
  · unfold runsTo
    rw [List.pairwise_map]
    have hp : ((List.range n).filter (startN c lv mt)).Pairwise (fun a b => a < b) := List.pairwise_lt_range.sublist List.filter_sublist
    rw [List.pairwise_iff_getElem] at hp ⊢
    intro i j hi hj hij x hx y hy e
    subst e
    have m1 := List.getElem_mem hi
    have m2 := List.getElem_mem hj
    rw [List.mem_filter, List.mem_range] at m1 m2
    obtain ⟨d1, b1, r1, _, _, p1⟩ := chain_in ht n _ (start_beg m1.2) m1.1 (by omega) x hx
    obtain ⟨d2, b2, r2, _, _, p2⟩ := chain_in ht n _ (start_beg m2.2) m2.1 (by omega) x hy
    have e1 := (of_seen (piece_mem.1 p1).2).2
    have e2 := (of_seen (piece_mem.1 p2).2).2
    rw [e1] at e2
    subst e2
    have := rch_one ht b1 b1 (Nat.le_refl _) d1 d2 _ _ m1.2 m2.2 r1 r2
    have := hp i j hi hj hij
    omega
theorem runs_mem (ht : Txt c lv n mt) (x : Nat) : x ∈ (runsTo c lv n mt n).flatten ↔ x < n ∧ 0 ≤ lv x := by
  rw [List.mem_flatten]
  constructor
  · rintro ⟨l, hl, hx⟩
    unfold runsTo at hl
    rw [List.mem_map] at hl
    obtain ⟨s, hs, rfl⟩ := hl
    rw [List.mem_filter, List.mem_range] at hs
    obtain ⟨h1, h2, _⟩ := chain_lv ht n s (start_beg hs.2) hs.1 (by omega) x hx
    exact ⟨h2, h1⟩
  · rintro ⟨hx, h0⟩
    obtain ⟨h1, h2, _⟩ := of_self h0
    have hlt := bg_lt lv x
    obtain ⟨s, hsn, hst, p, hp⟩ := cover ht n (bgL lv (x + 1)) (by omega) h2 (by omega)
    refine ⟨chainN c lv n mt s, ?_, ?_⟩
    · unfold runsTo; rw [List.mem_map]; exact ⟨s, by rw [List.mem_filter, List.mem_range]; exact ⟨hsn, hst⟩, rfl⟩
    · rw [hp, chain_eq ht h2 (by omega)]
      simp only [List.mem_append]
      exact .inr (.inl (piece_mem.2 ⟨hx, h1⟩))
theorem runs_count (ht : Txt c lv n mt) (x : Nat) (hx : x < n) : (runsTo c lv n mt n).flatten.count x = if 0 ≤ lv x then 1 else 0 := by
  by_cases h : 0 ≤ lv x
  · rw [if_pos h]
    have hm := (runs_mem ht x).2 ⟨hx, h⟩
    have h1 := (List.nodup_iff_count.1 (runs_nodup ht)) x
    have h2 := List.count_pos_iff.2 hm
    omega
  · rw [if_neg h]
    exact List.count_eq_zero.2 (fun hm => h ((runs_mem ht x).1 hm).2)
end
end Go.Proofs.Ytbeecmcgdlnakaa
