import Derived.Test.YtkdmfjnaajedhaaMg6
import Derived.Test.YtkdmfjnaajedhaaMg7
import Derived.Test.YtkdmfjnaajedhaaMg8
import Derived.Deep.LoopGhost
import Derived.Test.YtkdmfjnaajedhaaMg3
import Derived.Test.YtkdmfjnaajedhaaMg5
namespace Go.Proofs.Ytkdmfjnaajedhaa
open Go.ChangeShapes Go.WideShapes Go.ChangeAt Go.RowKit
set_option linter.unusedSimpArgs false
set_option linter.unusedVariables false

set_option maxHeartbeats 2000000 in
theorem specLeft (b off cap n : Nat) (L : List Int) (p : Nat) (a : Int) (w : World) (hn : L.length = n) (hat : At w b off L) (hl : n ≤ 1048576) (hp : p ≤ n) (ha : a = (p : Int)) :
    Calls Try.prog 38 #[.slice (some ⟨b, off, none⟩) n cap, .int .i64 a] w fun e w' => (∃ k : Nat, e = .returned (.int .i64 k) ∧ p ≤ k ∧ k ≤ n ∧ (∀ x, p ≤ x → x < k → fn L x < 0) ∧ (k < n → 0 ≤ fn L k)) ∧ w' = w := by
  subst ha
  have HN : Hid _ := hn
  clear hn
  go_enter Try.func38, Try.ntmps38
  go_wp2
  go_loop [1] (fun q => ∃ k : Nat, p ≤ k ∧ k ≤ n ∧ q = .int .i64 k ∧ Hid (∀ x, p ≤ x → x < k → fn L x < 0)) (fun q => n - (intOf q).toNat)
  case atStart => exact ⟨p, Nat.le_refl _, hp, rfl, fun x h1 h2 => by omega⟩
  case round =>
    obtain ⟨k, hpk, hkn, rfl, hall⟩ := hrel
    by_cases hlt : k < n
    · have hki : (k : Int) < (n : Int) := by omega
      have hc : w.cell? ⟨b, off + k, none⟩ = some (.int .i64 (fn L k)) := hat k (by have := HN.out; omega)
      by_cases hq : fn L k < 0
      · have hq2 : decide (fn L k < 0) = true := by simpa using hq
        have HQ : Hid _ := hq
        clear hq
        go_wp2
        go_round
        case rel => exact ⟨k + 1, by omega, by omega, by go_num, fun x h1 h2 => by
          by_cases e : x = k
          · subst e; exact HQ.out
          · exact hall.out x h1 (by omega)⟩
        case measure => simp only [intOf]; omega
      · have hq2 : decide (fn L k < 0) = false := by simpa using hq
        have HQ : Hid (0 ≤ fn L k) := by show _ ≤ _; omega
        clear hq
        go_wp2
        go_ret
        exact ⟨⟨k, rfl, hpk, hkn, hall.out, fun _ => by have := HQ.out; omega⟩, rfl⟩
    · have e : k = n := by omega
      subst e
      go_wp2
      go_ret
      exact ⟨⟨k, rfl, hpk, hkn, hall.out, fun h => by omega⟩, rfl⟩

set_option maxHeartbeats 4000000 in
theorem specRun (b off cap n : Nat) (L : List Int) (p : Nat) (a : Int) (w : World) (hn : L.length = n) (hb : b < w.heap.size) (hat : At w b off L) (hl : n ≤ 1000) (hp : p < n) (ha : a = (p : Int)) (hbeg : begB (fn L) p = true) :
    Calls Try.prog 39 #[.slice (some ⟨b, off, none⟩) n cap, .int .i64 a] w fun e w' => (∃ v, e = .returned v ∧ OwnI w' w.heap.size v (natL (pieceN (fn L) p n))) ∧ Below w.heap.size w w' := by
  subst ha
  have HN : Hid _ := hn
  have ho := own_empty w w.heap.size 3 (Nat.le_refl _) rfl
  have hb0 : Below w.heap.size w (w.alloc (.cells #[] 3)) := (Below.refl _ _).alloc (Nat.le_refl _) _
  have HO : Hid (OwnI (w.alloc (.cells #[] 3)) w.heap.size (.slice (some ⟨w.heap.size, 0, none⟩) 0 0) []) := ho
  have HBB : Hid _ := hb0
  have HBG : Hid _ := hbeg
  have hpi : (p : Int) < (n : Int) := by omega
  clear hn ho hb0 hbeg
  go_enter Try.func39, Try.ntmps39
  go_wp2_with fail
  go_loopw [5, 6] (fun v i wr => ∃ k : Nat, p ≤ k ∧ k ≤ n ∧ i = .int .i64 k ∧ Hid (OwnI wr w.heap.size v (natL (pieceN (fn L) p k))) ∧ Hid (∀ x, p ≤ x → x < k → 0 ≤ fn L x → fn L x = fn L p) ∧ Hid (Below w.heap.size w wr)) (fun _ i _ => n - (intOf i).toNat)
  case atStart => exact ⟨p, Nat.le_refl _, by omega, rfl, by rw [piece_at _ HBG.out]; exact HO.out, fun x h1 h2 => by omega, HBB.out⟩
  case round =>
    obtain ⟨k, hpk, hkn, rfl, hv, hall, hbel⟩ := hrel
    -- all seen so far are of the piece
    have hof : ∀ x, p ≤ x → x < k → 0 ≤ fn L x → ofB (fn L) p x = true := by
      have hbg : ∀ d, p + 1 + d ≤ k → bgL (fn L) (p + 1 + d) = p ∧ pvL (fn L) (p + 1 + d) = fn L p := by
        intro d
        induction d with
        | zero => intro _; exact ⟨bg_beg HBG.out, by show pvL (fn L) (p + 1) = _; simp only [pvL]; rw [if_pos (beg_seen HBG.out)]⟩
        | succ d ih =>
          intro hd
          obtain ⟨i1, i2⟩ := ih (by omega)
          by_cases hs : 0 ≤ fn L (p + 1 + d)
          · have e := hall.out (p + 1 + d) (by omega) (by omega) hs
            have hnb : begB (fn L) (p + 1 + d) = false := by simp [begB, hs, i2, e]
            exact ⟨by show bgL (fn L) (p + 1 + d + 1) = p; rw [bg_stay hnb]; exact i1, by show pvL (fn L) (p + 1 + d + 1) = _; simp only [pvL]; rw [if_pos hs, e]⟩
          · exact ⟨by show bgL (fn L) (p + 1 + d + 1) = p; rw [bg_stay (bg_unseen (by omega))]; exact i1, by show pvL (fn L) (p + 1 + d + 1) = _; simp only [pvL]; rw [if_neg hs]; exact i2⟩
      intro x h1 h2 hs
      have := (hbg (x - p) (by omega)).1
      rw [show p + 1 + (x - p) = x + 1 by omega] at this
      exact of_mk hs this
    have HOF : Hid _ := hof
    clear hof
    by_cases hlt : k < n
    · have hki : (k : Int) < (n : Int) := by omega
      have hck : wr.cell? ⟨b, off + k, none⟩ = some (.int .i64 (fn L k)) := (hbel.out.cell (p := ⟨b, off + k, none⟩) hb).trans (hat k (by have := HN.out; omega))
      have hcp : wr.cell? ⟨b, off + p, none⟩ = some (.int .i64 (fn L p)) := (hbel.out.cell (p := ⟨b, off + p, none⟩) hb).trans (hat p (by have := HN.out; omega))
      by_cases hneg : fn L k < 0
      · have hq2 : decide (fn L k < 0) = true := by simpa using hneg
        have hq3 : decide (fn L k ≥ 0) = false := by simp; omega
        have HQ : Hid _ := hneg
        clear hneg
        go_wp2_with fail
        go_quiet (fail)
        go_wp2_with fail
        go_roundw
        case rel => exact ⟨k + 1, by omega, by omega, by go_num, by rw [piece_succ, if_neg (by rw [show ofB (fn L) p k = false by simp [ofB, HQ.out]; have := HQ.out; omega]; simp), List.append_nil]; exact hv.out.drewN _, fun x h1 h2 h3 => by
          by_cases e : x = k
          · subst e; have := HQ.out; omega
          · exact hall.out x h1 (by omega) h3, hbel.out.trans ((below_draws _ _).mono hbel.out.size)⟩
        case measure => simp only [intOf]; omega
      · have hq2 : decide (fn L k < 0) = false := by simpa using hneg
        have hq3 : decide (fn L k ≥ 0) = true := by simp; omega
        by_cases heq : fn L k = fn L p
        · have he2 : (fn L k == fn L p) = true := by simpa using heq
          have HE : Hid _ := heq
          have HQ : Hid (0 ≤ fn L k) := by show _ ≤ _; omega
          have hln : (natL (pieceN (fn L) p k)).length ≤ 1073741824 := by
            rw [natL_len]; unfold pieceN; have := List.length_filter_le (ofB (fn L) p) (List.range k); rw [List.length_range] at this; omega
          clear heq hneg
          go_wp2_with fail
          go_quiet (fail)
          go_wp2_with (at_builtin; refine own_append (.tmp 38) (.tmp 40) (hv.out.drewN _) hln hbel.out.size rfl rfl rfl rfl ?_; intro v5 w5 hown5 hgr5)
          go_roundw
          case rel =>
            refine ⟨k + 1, by omega, by omega, by go_num, ?_, fun x h1 h2 h3 => ?_, ?_⟩
            · have hofk : ofB (fn L) p k = true := by
                by_cases e : k = p
                · subst e; exact of_b HBG.out
                · have h1 := HOF.out
                  -- the letter at k goes on with the piece
                  have hpv : ∀ d, p + 1 + d ≤ k → bgL (fn L) (p + 1 + d) = p ∧ pvL (fn L) (p + 1 + d) = fn L p := by
                    intro d
                    induction d with
                    | zero => intro _; exact ⟨bg_beg HBG.out, by show pvL (fn L) (p + 1) = _; simp only [pvL]; rw [if_pos (beg_seen HBG.out)]⟩
                    | succ d ih =>
                      intro hd
                      obtain ⟨i1, i2⟩ := ih (by omega)
                      by_cases hs : 0 ≤ fn L (p + 1 + d)
                      · have e2 := hall.out (p + 1 + d) (by omega) (by omega) hs
                        have hnb : begB (fn L) (p + 1 + d) = false := by simp [begB, hs, i2, e2]
                        exact ⟨by show bgL (fn L) (p + 1 + d + 1) = p; rw [bg_stay hnb]; exact i1, by show pvL (fn L) (p + 1 + d + 1) = _; simp only [pvL]; rw [if_pos hs, e2]⟩
                      · exact ⟨by show bgL (fn L) (p + 1 + d + 1) = p; rw [bg_stay (bg_unseen (by omega))]; exact i1, by show pvL (fn L) (p + 1 + d + 1) = _; simp only [pvL]; rw [if_neg hs]; exact i2⟩
                  obtain ⟨i1, i2⟩ := hpv (k - (p + 1)) (by omega)
                  rw [show p + 1 + (k - (p + 1)) = k by omega] at i1 i2
                  have hs : 0 ≤ fn L k := by have := HQ.out; omega
                  have hnb : begB (fn L) k = false := by simp [begB, hs, i2, HE.out]
                  exact of_mk hs (by rw [bg_stay hnb]; exact i1)
              rw [piece_succ, if_pos hofk, natL_app]; exact hown5
            · by_cases e : x = k
              · subst e; exact HE.out
              · exact hall.out x h1 (by omega) h3
            · exact grown_below (hbel.out.trans ((below_draws _ _).mono hbel.out.size)) hgr5 (hv.out.drewN _) (Nat.le_refl _) hbel.out.size
          case measure => simp only [intOf]; omega
        · have he2 : (fn L k == fn L p) = false := by simpa using heq
          have HE : Hid _ := heq
          have HQ : Hid (0 ≤ fn L k) := by show _ ≤ _; omega
          clear heq hneg
          go_wp2_with fail
          go_quiet (fail)
          go_wp2_with fail
          go_ret
          refine ⟨⟨_, rfl, ?_⟩, hbel.out.trans ((below_draws _ _).mono hbel.out.size)⟩
          have : pieceN (fn L) p n = pieceN (fn L) p k := by
            refine piece_more (by omega) (fun x h1 h2 => ?_)
            cases hc : ofB (fn L) p x with
            | false => rfl
            | true =>
              exfalso
              have hkp : p < k := by
                rcases Nat.lt_or_ge p k with q | q
                · exact q
                · have : k = p := by omega
                  subst this; exact absurd rfl HE.out
              -- at k something else begins
              have hs : 0 ≤ fn L k := by have := HQ.out; omega
              have m1 := bg_mono (lv := fn L) (show p + 1 ≤ k + 1 by omega)
              have m2 := bg_mono (lv := fn L) (show k + 1 ≤ x + 1 by omega)
              rw [bg_beg HBG.out] at m1
              rw [(of_seen hc).2] at m2
              have := of_beg (of_mk hs (show bgL (fn L) (k + 1) = p by omega))
              exact HE.out this.2
          rw [this]; exact hv.out.drewN _
    · have e : k = n := by omega
      subst e
      go_wp2_with fail
      go_quiet (fail)
      go_wp2_with fail
      go_ret
      exact ⟨⟨_, rfl, hv.out.drewN _⟩, hbel.out.trans ((below_draws _ _).mono hbel.out.size)⟩
end Go.Proofs.Ytkdmfjnaajedhaa
namespace Go.Proofs.Ytkdmfjnaajedhaa
open Go.ChangeShapes Go.WideShapes Go.ChangeAt Go.RowKit
set_option linter.unusedSimpArgs false
set_option linter.unusedVariables false

theorem clos_no {c : Nat → Int} {mt : Nat → Nat} {b : Nat} (h : ∀ i, i < b → (opensB (c i) && mt i == b) = false) : closN c mt b = false := by
  unfold closN
  rw [List.any_eq_false]
  intro i hi
  rw [List.mem_range] at hi
  simpa using h i hi
theorem clos_yes {c : Nat → Int} {mt : Nat → Nat} {b i : Nat} (hi : i < b) (ho : opensB (c i) = true) (hm : mt i = b) : closN c mt b = true := by
  unfold closN
  rw [List.any_eq_true]
  exact ⟨i, by rw [List.mem_range]; exact hi, by simp [ho, hm]⟩

set_option maxHeartbeats 4000000 in
theorem specCloses (b off cap n : Nat) (l : List Int) (mt : Nat → Nat) (p : Nat) (a : Int) (w : World) (hn : l.length = n) (hb : b < w.heap.size) (hat : At w b off l) (hl : n ≤ 1000) (hmt : Hid (MateFn (cl l) n mt)) (hp : p < n) (ha : a = (p : Int)) :
    Calls Try.prog 41 #[.slice (some ⟨b, off, none⟩) n cap, .int .i64 a] w fun e w' => e = .returned (.bool (closN (cl l) mt p)) ∧ Below w.heap.size w w' := by
  subst ha
  have HN : Hid _ := hn
  have HA : Hid (∀ w', Below w.heap.size w w' → At w' b off l) := fun w' hw => hat.below hw hb
  clear hn hat
  have hl4 : n ≤ 4194304 := by omega
  go_enter Try.func41, Try.ntmps41
  go_wp2_with fail
  go_loopw [5] (fun q wr => ∃ i : Nat, i ≤ p ∧ q = .int .i64 i ∧ Hid (∀ x, x < i → (opensB (cl l x) && mt x == p) = false) ∧ Hid (Below w.heap.size w wr)) (fun q _ => p - (intOf q).toNat)
  case atStart => exact ⟨0, Nat.zero_le _, rfl, fun x hx => by omega, Below.refl _ _⟩
  case round =>
    obtain ⟨i, hip, rfl, hall, hbel⟩ := hrel
    by_cases hlt : i < p
    · have hii : (i : Int) < (p : Int) := by omega
      have hin : (i : Int) < (n : Int) := by omega
      have hc : wr.cell? ⟨b, off + i, none⟩ = some (.int .i64 (fn l i)) := HA.out wr hbel.out i (by have := HN.out; omega)
      obtain ⟨ck, hck⟩ : ∃ ck, bidi (fn l i) = ck := ⟨_, rfl⟩
      have HCK : Hid _ := hck
      have hcl : Hid (cl l i = ck) := hck
      clear hck
      cases ho : opensB ck
      · have HO : Hid _ := ho
        clear ho
        go_wp2_with (first | (go_at_call 40; refine (specBidi _ _).mono ?_; rintro e w1 ⟨rfl, b1⟩; rw [HCK.out]) | (go_at_call 64; refine (specOpens _ _).mono ?_; rintro e w2 ⟨rfl, rfl⟩; rw [HO.out]))
        go_roundw
        case rel => exact ⟨i + 1, by omega, by go_num, fun x hx => by
          by_cases e : x = i
          · subst e; rw [hcl.out, HO.out]; rfl
          · exact hall.out x (by omega), bstep hbel.out b1⟩
        case measure => simp only [intOf]; omega
      · have HO : Hid _ := ho
        have HOP : Hid (opensB (cl l i) = true) := by rw [hcl.out]; exact ho
        clear ho
        by_cases hq : mt i = p
        · have hqb : ((mt i : Int) == (p : Int)) = true := by simp [hq]
          have HQ : Hid _ := hq
          have HQB : Hid _ := hqb
          clear hq hqb
          go_wp2_with (first | (go_at_call 40; refine (specBidi _ _).mono ?_; rintro e w1 ⟨rfl, b1⟩; rw [HCK.out]) | (go_at_call 64; refine (specOpens _ _).mono ?_; rintro e w2 ⟨rfl, rfl⟩; rw [HO.out]) | (go_at_call 55; refine (specMateL b off cap n l mt _ i _ HN.out (Nat.lt_of_lt_of_le hb (bstep hbel.out b1).size) (HA.out _ (bstep hbel.out b1)) hl4 hmt rfl (by omega) HOP.out).mono ?_; rintro e w3 ⟨rfl, b3⟩; rw [HQ.out]))
          go_ret
          exact ⟨retBool (clos_yes hlt HOP.out HQ.out).symm, bstep (bstep hbel.out b1) b3⟩
        · have hqb : ((mt i : Int) == (p : Int)) = false := by simp; omega
          have HQ : Hid _ := hq
          clear hq
          go_wp2_with (first | (go_at_call 40; refine (specBidi _ _).mono ?_; rintro e w1 ⟨rfl, b1⟩; rw [HCK.out]) | (go_at_call 64; refine (specOpens _ _).mono ?_; rintro e w2 ⟨rfl, rfl⟩; rw [HO.out]) | (go_at_call 55; refine (specMateL b off cap n l mt _ i _ HN.out (Nat.lt_of_lt_of_le hb (bstep hbel.out b1).size) (HA.out _ (bstep hbel.out b1)) hl4 hmt rfl (by omega) HOP.out).mono ?_; rintro e w3 ⟨rfl, b3⟩))
          go_roundw
          case rel => exact ⟨i + 1, by omega, by go_num, fun x hx => by
            by_cases e : x = i
            · subst e; rw [HOP.out]; simpa using HQ.out
            · exact hall.out x (by omega), bstep (bstep hbel.out b1) b3⟩
          case measure => simp only [intOf]; omega
    · have e : i = p := by omega
      subst e
      go_wp2_with fail
      go_ret
      exact ⟨retBool (clos_no hall.out).symm, hbel.out⟩

theorem sc_none {c lv : Nat → Int} {n : Nat} {mt : Nat → Nat} {b : Nat} (h : opensB (c (lastP lv b n)) = false ∨ mt (lastP lv b n) = n) : scN c lv n mt b = none := by
  unfold scN
  rw [if_neg]
  rintro ⟨h1, h2⟩
  rcases h with h | h
  · rw [h] at h1; cases h1
  · omega
theorem sc_is {c lv : Nat → Int} {n : Nat} {mt : Nat → Nat} {b : Nat} (h1 : opensB (c (lastP lv b n)) = true) (h2 : mt (lastP lv b n) < n) : scN c lv n mt b = some (mt (lastP lv b n)) := by
  unfold scN; rw [if_pos ⟨h1, h2⟩]
theorem chain_len {c lv : Nat → Int} {n : Nat} {mt : Nat → Nat} (ht : Txt c lv n mt) : ∀ d b, begB lv b = true → b < n → n - b ≤ d → (chainN c lv n mt b).Pairwise (· < ·) ∧ ∀ x ∈ chainN c lv n mt b, b ≤ x ∧ x < n := by
  intro d
  induction d with
  | zero => intro b hb hbn h; omega
  | succ d ih =>
    intro b hb hbn h
    rw [chain_eq ht hb hbn]
    have hp : (pieceN lv b n).Pairwise (· < ·) := by
      unfold pieceN
      exact (List.pairwise_lt_range).filter _
    cases hs : scN c lv n mt b with
    | none =>
      simp only [List.append_nil]
      exact ⟨hp, fun x hx => by rw [piece_mem] at hx; exact ⟨of_le hx.2, hx.1⟩⟩
    | some j =>
      obtain ⟨h1, h2, hj, hbj, hlt, hm, _⟩ := sc_some ht hb hbn hs
      obtain ⟨i1, i2⟩ := ih j hbj hj (by omega)
      simp only
      refine ⟨List.pairwise_append.2 ⟨hp, i1, fun x hx y hy => ?_⟩, fun x hx => ?_⟩
      · have hy2 := (i2 y hy).1
        rw [piece_mem] at hx
        have h3 := hm.lt
        obtain ⟨a1, a2, a3⟩ := last_spec hb hbn
        have : x ≤ lastP lv b n := by
          rcases Nat.lt_or_ge (lastP lv b n) x with q | q
          · have := a3 x q hx.1; rw [hx.2] at this; cases this
          · exact q
        omega
      · rcases List.mem_append.1 hx with hx | hx
        · rw [piece_mem] at hx; exact ⟨of_le hx.2, hx.1⟩
        · have := i2 x hx; exact ⟨by omega, this.2⟩
theorem inc_len {l : List Nat} {n b : Nat} (h : l.Pairwise (· < ·)) (hb : ∀ x ∈ l, b ≤ x ∧ x < n) : l.length ≤ n - b := by
  induction l generalizing b with
  | nil => simp
  | cons x r ih =>
    have h1 := hb x (by simp)
    have h2 := ih (b := x + 1) (List.pairwise_cons.1 h).2 (fun y hy => ⟨(List.pairwise_cons.1 h).1 y hy, (hb y (by simp [hy])).2⟩)
    simp only [List.length_cons]; omega

set_option maxHeartbeats 8000000 in
theorem specChain (b off cap b2 off2 cap2 n : Nat) (l L : List Int) (mt : Nat → Nat) (p : Nat) (v : Value) (w : World) (hn : l.length = n) (hnL : L.length = n) (hb : b < w.heap.size) (hb2 : b2 < w.heap.size) (hat : At w b off l) (hatL : At w b2 off2 L) (hl : n ≤ 1000)
    (ht : Hid (Txt (cl l) (fn L) n mt)) (hp : p < n) (hbeg : begB (fn L) p = true) (B0 : Nat) (hv : OwnI w B0 v (natL (pieceN (fn L) p n))) :
    Calls Try.prog 42 #[.slice (some ⟨b, off, none⟩) n cap, .slice (some ⟨b2, off2, none⟩) n cap2, v] w fun e w' => (∃ v', e = .returned v' ∧ OwnI w' w.heap.size v' (natL (chainN (cl l) (fn L) n mt p))) ∧ Below w.heap.size w w' := by
  have HN : Hid _ := hn
  have HNL : Hid _ := hnL
  have HA : Hid (∀ w', Below w.heap.size w w' → At w' b off l) := fun w' hw => hat.below hw hb
  have HAL : Hid (∀ w', Below w.heap.size w w' → At w' b2 off2 L) := fun w' hw => hatL.below hw hb2
  have hmt : Hid (MateFn (cl l) n mt) := ht.out.mates
  have ho := own_empty w w.heap.size 3 (Nat.le_refl _) rfl
  have HO : Hid (OwnI (w.alloc (.cells #[] 3)) w.heap.size (.slice (some ⟨w.heap.size, 0, none⟩) 0 0) []) := ho
  have HV : Hid (OwnI (w.alloc (.cells #[] 3)) B0 v (natL (pieceN (fn L) p n))) := hv.below ((Below.refl _ _).alloc (Nat.le_refl _) _)
  have HB0 : Hid (Below w.heap.size w (w.alloc (.cells #[] 3))) := (Below.refl _ _).alloc (Nat.le_refl _) _
  have HBG : Hid _ := hbeg
  have hpl : (natL (pieceN (fn L) p n)).length ≤ 1000 := by
    rw [natL_len]; unfold pieceN; have := List.length_filter_le (ofB (fn L) p) (List.range n); rw [List.length_range] at this; omega
  have hl4 : n ≤ 4194304 := by omega
  clear hn hnL hat hatL ho hv hbeg
  have hwsz : w.heap.size ≤ (w.alloc (.cells #[] 3)).heap.size := by simp
  go_enter Try.func42, Try.ntmps42
  go_wp2_with (at_builtin; refine own_appendOwn (.tmp 10) (.tmp 11) HO.out HV.out (by simp; omega) hwsz rfl rfl rfl rfl ?_; intro v1 w1 hown1 hgr1)
  have H1 : Hid (OwnI w1 w.heap.size v1 (natL (pieceN (fn L) p n))) := by show OwnI _ _ _ _; simpa using hown1
  have HB1 : Hid (Below w.heap.size w w1) := grown_below HB0.out hgr1 HO.out (Nat.le_refl _) hwsz
  clear hown1 hgr1 HO HV
  go_loopg [7] n (fun g x7 wr => ∃ (uv : Value) (pre : List Nat) (q : Nat), x7 = uv ∧ Hid (OwnI wr w.heap.size uv (natL (pre ++ pieceN (fn L) q n))) ∧ Hid (begB (fn L) q = true ∧ q < n ∧ chainN (cl l) (fn L) n mt p = pre ++ chainN (cl l) (fn L) n mt q) ∧ n - q ≤ g ∧ Hid (Below w.heap.size w wr))
  case atStart => exact ⟨v1, [], p, rfl, H1.out, ⟨HBG.out, hp, rfl⟩, by omega, HB1.out⟩
  case round =>
    obtain ⟨uv, pre, q, e7, hv, hq, hg, hbel⟩ := hrel
    rw [e7]
    clear e7
    obtain ⟨hq1, hq2, hq3⟩ := hq.out
    obtain ⟨pp, hpp⟩ := piece_last hq1 n hq2
    obtain ⟨a1, a2, a3⟩ := last_spec hq1 hq2
    obtain ⟨lp, hlp⟩ : ∃ lp, lastP (fn L) q n = lp := ⟨_, rfl⟩
    rw [hlp] at hpp a2
    have hlst : pre ++ pieceN (fn L) q n = (pre ++ pp) ++ [lp] := by rw [hpp, List.append_assoc]
    have HLP : Hid _ := hlp
    have hlenc := chain_len ht.out n p HBG.out hp (by omega)
    have hcl := inc_len hlenc.1 hlenc.2
    have hcq := chain_eq ht.out hq1 hq2
    have hlen : (pre ++ pieceN (fn L) q n).length ≤ 1000 := by
      rw [hq3, hcq] at hcl
      simp only [List.length_append] at hcl ⊢; omega
    obtain ⟨m, hm⟩ : ∃ m, (pre ++ pp).length = m := ⟨_, rfl⟩
    have hvv := hv.out
    rw [hlst] at hvv
    have hll : (natL (pre ++ pp ++ [lp])).length = m + 1 := by rw [natL_len, List.length_append, hm]; rfl
    obtain ⟨g, cp, hvf, hgm⟩ : ∃ g cp, uv = .slice (some ⟨g, 0, none⟩) (m + 1) cp ∧ m + 1 ≤ cp := by
      rcases hvv.forms with ⟨_, e⟩ | ⟨g, cp, e, _, _, e2, _⟩
      · exfalso; rw [e] at hll; simp at hll
      · rw [hll] at e e2; exact ⟨g, cp, e, e2⟩
    have hcl0 : wr.cell? ⟨g, m, none⟩ = some (.int .i64 (lp : Int)) := by
      rw [hvf] at hvv
      rw [hvv.cellN m (by omega), ← hm, fn_natL_last]
    have HV3 : Hid (OwnI wr w.heap.size uv (natL (pre ++ pieceN (fn L) q n))) := hv.out
    rw [hvf] at HV3
    have hmb : m ≤ 1000 := by have := hlen; rw [hlst, List.length_append, hm] at this; simp at this; omega
    have hn1000 : (natL (pre ++ pieceN (fn L) q n)).length ≤ 1000 := by rw [natL_len]; exact hlen
    have HCQ : Hid (chainN (cl l) (fn L) n mt q = pieceN (fn L) q n ++ (match scN (cl l) (fn L) n mt q with | some j => chainN (cl l) (fn L) n mt j | none => [])) := hcq
    have HQ3 : Hid (chainN (cl l) (fn L) n mt p = pre ++ chainN (cl l) (fn L) n mt q) := hq3
    have HQ1 : Hid _ := hq1
    have hc : wr.cell? ⟨b, off + lp, none⟩ = some (.int .i64 (fn l lp)) := HA.out wr hbel.out lp (by have := HN.out; omega)
    have hlpi : (lp : Int) < (n : Int) := by omega
    obtain ⟨ck, hck⟩ : ∃ ck, bidi (fn l lp) = ck := ⟨_, rfl⟩
    have HCK : Hid _ := hck
    have hclk : Hid (cl l lp = ck) := hck
    clear hck hq1 hq3 hcq hlst hpp hlp hvv hll hm hlen hcl hlenc a1 a3 hv hq
    subst hvf
    cases ho : opensB ck
    · have HOP : Hid _ := ho
      have hend : Hid (chainN (cl l) (fn L) n mt p = pre ++ pieceN (fn L) q n) := by
        show _ = _
        rw [HQ3.out, HCQ.out, sc_none (.inl (by rw [HLP.out, hclk.out]; exact ho))]
        simp
      clear ho
      go_wp2_with (first | (go_at_call 40; refine (specBidi _ _).mono ?_; rintro e w3 ⟨rfl, b3⟩; rw [HCK.out]) | (go_at_call 64; refine (specOpens _ _).mono ?_; rintro e w4 ⟨rfl, rfl⟩; rw [HOP.out]))
      go_ret
      exact ⟨⟨_, rfl, by rw [hend.out]; exact HV3.out.below b3⟩, bstep hbel.out b3⟩
    · have HOP : Hid _ := ho
      have HOC : Hid (opensB (cl l lp) = true) := by rw [hclk.out]; exact ho
      have hml := mt_gt hmt.out a2 HOC.out
      clear ho
      by_cases hmn : mt lp = n
      · have hend : Hid (chainN (cl l) (fn L) n mt p = pre ++ pieceN (fn L) q n) := by
          show _ = _
          rw [HQ3.out, HCQ.out, sc_none (.inr (by rw [HLP.out]; exact hmn))]
          simp
        have HMN : Hid _ := hmn
        clear hmn hml
        go_wp2_with (first | (go_at_call 40; refine (specBidi _ _).mono ?_; rintro e w3 ⟨rfl, b3⟩; rw [HCK.out]) | (go_at_call 64; refine (specOpens _ _).mono ?_; rintro e w4 ⟨rfl, rfl⟩; rw [HOP.out]) | (go_at_call 55; refine (specMateL b off cap n l mt _ lp _ HN.out (Nat.lt_of_lt_of_le hb (bstep hbel.out b3).size) (HA.out _ (bstep hbel.out b3)) hl4 hmt rfl a2 HOC.out).mono ?_; rintro e w5 ⟨rfl, b5⟩; rw [HMN.out]))
        go_ret
        exact ⟨⟨_, rfl, by rw [hend.out]; exact (HV3.out.below b3).below b5⟩, bstep (bstep hbel.out b3) b5⟩
      · have hmlt : mt lp < n := by omega
        have hsc := sc_is (c := cl l) (lv := fn L) (n := n) (mt := mt) (b := q) (by rw [HLP.out]; exact HOC.out) (by rw [HLP.out]; exact hmlt)
        rw [HLP.out] at hsc
        obtain ⟨_, _, _, hbj, hlt, _⟩ := sc_some ht.out HQ1.out hq2 hsc
        obtain ⟨j, hj⟩ : ∃ j, mt lp = j := ⟨_, rfl⟩
        have hcc : Hid (chainN (cl l) (fn L) n mt p = (pre ++ pieceN (fn L) q n) ++ chainN (cl l) (fn L) n mt j) := by
          show _ = _
          rw [HQ3.out, HCQ.out, hsc, List.append_assoc, hj]
        rw [hj] at hbj hlt hmlt
        have HJ : Hid _ := hj
        have HBJ : Hid _ := hbj
        have hne : ((j : Int) == (n : Int)) = false := by simp; omega
        have hlenJ : (natL (pieceN (fn L) j n)).length ≤ 1000 := by
          rw [natL_len]; unfold pieceN; have := List.length_filter_le (ofB (fn L) j) (List.range n); rw [List.length_range] at this; omega
        clear hj hsc hbj hml hmn
        go_wp2_with (first | (go_at_call 40; refine (specBidi _ _).mono ?_; rintro e w3 ⟨rfl, b3⟩; rw [HCK.out]) | (go_at_call 64; refine (specOpens _ _).mono ?_; rintro e w4 ⟨rfl, rfl⟩; rw [HOP.out]) | (go_at_call 55; refine (specMateL b off cap n l mt _ lp _ HN.out (Nat.lt_of_lt_of_le hb (bstep hbel.out b3).size) (HA.out _ (bstep hbel.out b3)) hl4 hmt rfl a2 HOC.out).mono ?_; rintro e w5 ⟨rfl, b5⟩; rw [HJ.out]) | (go_at_call 39; refine (specRun b2 off2 cap2 n L j _ _ HNL.out (Nat.lt_of_lt_of_le hb2 (bstep (bstep hbel.out b3) b5).size) (HAL.out _ (bstep (bstep hbel.out b3) b5)) hl hmlt rfl HBJ.out).mono ?_; rintro e w6 ⟨⟨v6, rfl, o6⟩, b6⟩; have H6 : Hid (OwnI w6 w.heap.size (.slice (some ⟨g, 0, none⟩) (m + 1) cp) (natL (pre ++ pieceN (fn L) q n))) := ((HV3.out.below b3).below b5).below b6; have O6 : Hid (OwnI w6 w5.heap.size v6 (natL (pieceN (fn L) j n))) := o6; have HB6 : Hid (Below w.heap.size w w6) := bstep (bstep (bstep hbel.out b3) b5) b6; clear o6) | (at_builtin; refine own_appendOwn (.tmp 35) (.tmp 38) H6.out O6.out (by omega) HB6.out.size rfl rfl rfl rfl ?_; intro v7 w7 hown7 hgr7))
        go_roundg (gk - 1)
        case measure => omega
        case rel =>
          refine ⟨_, pre ++ pieceN (fn L) q n, j, rfl, ?_, ⟨HBJ.out, hmlt, hcc.out⟩, by omega, grown_below HB6.out hgr7 H6.out (Nat.le_refl _) HB6.out.size⟩
          rw [natL_app (pre ++ pieceN (fn L) q n)]; exact hown7
end Go.Proofs.Ytkdmfjnaajedhaa
namespace Go.Proofs.Ytkdmfjnaajedhaa
open Go.ChangeShapes Go.WideShapes Go.ChangeAt Go.RowKit
set_option linter.unusedSimpArgs false

def tc (t : Tl) : List Value := [.int .i64 t.level, .int .i64 t.side, .bool t.alone]
/-- What is told, cell by cell. -/
def tcells : List Tl → List Value
  | [] => []
  | x :: r => tc x ++ tcells r
theorem tcells_len (L : List Tl) : (tcells L).length = L.length * 3 := by
  induction L with
  | nil => rfl
  | cons x r ih => simp only [tcells, List.length_append, ih, List.length_cons]; simp only [tc, List.length_cons, List.length_nil]; omega
theorem tcells_app (L M : List Tl) : tcells (L ++ M) = tcells L ++ tcells M := by
  induction L with
  | nil => rfl
  | cons x r ih => simp only [List.cons_append, tcells, ih, List.append_assoc]
theorem tcells_last (L : List Tl) (x : Tl) (j : Nat) : (tcells (L ++ [x]))[L.length * 3 + j]? = (tc x)[j]? := by
  rw [tcells_app, List.getElem?_append_right (by rw [tcells_len]; omega), tcells_len, show L.length * 3 + j - L.length * 3 = j by omega]
  simp [tcells]

/-- What l3Walk holds in memory. -/
structure WIn (w : World) (B W gl gc n : Nat) (vr vs : Value) (lv cls : List Int) (s : TS) (al : Int) : Prop where
  ge : B ≤ W
  lt : W < w.heap.size
  c0 : w.cell? ⟨W, 0, none⟩ = some vr
  c1 : w.cell? ⟨W, 1, none⟩ = some (.slice (some ⟨gl, 0, none⟩) n n)
  c2 : w.cell? ⟨W, 2, none⟩ = some (.slice (some ⟨gc, 0, none⟩) n n)
  c3 : w.cell? ⟨W, 3, none⟩ = some vs
  c4 : w.cell? ⟨W, 4, none⟩ = some (.int .i64 s.lost)
  c5 : w.cell? ⟨W, 5, none⟩ = some (.int .i64 s.skip)
  c6 : w.cell? ⟨W, 6, none⟩ = some (.int .i64 al)
  fz : ∀ j, w.frozen? ⟨W, j, none⟩ = false
  ol : OwnI w B (.slice (some ⟨gl, 0, none⟩) n n) lv
  oc : OwnI w B (.slice (some ⟨gc, 0, none⟩) n n) cls
  os : OwnV 54 3 w B vs s.st.length (tcells s.st.reverse)
  nlc : gl ≠ gc
  nWl : gl ≠ W
  nWc : gc ≠ W
  ns : ∀ k, vs.ownBlock = some k → k ≠ W ∧ k ≠ gl ∧ k ≠ gc

section
variable {w w' : World} {B W gl gc n : Nat} {vr vs : Value} {lv cls : List Int} {s : TS} {al : Int}
theorem WIn.kept (h : WIn w B W gl gc n vr vs lv cls s al) (hs : w.heap.size ≤ w'.heap.size) (hW : w'.heap[W]? = w.heap[W]?) (hl : w'.heap[gl]? = w.heap[gl]?) (hc : w'.heap[gc]? = w.heap[gc]?) (hv : ∀ k, vs.ownBlock = some k → w'.heap[k]? = w.heap[k]?) : WIn w' B W gl gc n vr vs lv cls s al := by
  have hcell : ∀ j, w'.cell? ⟨W, j, none⟩ = w.cell? ⟨W, j, none⟩ := fun j => World.cell?_of_block hW
  exact ⟨h.ge, Nat.lt_of_lt_of_le h.lt hs, (hcell _).trans h.c0, (hcell _).trans h.c1, (hcell _).trans h.c2, (hcell _).trans h.c3, (hcell _).trans h.c4, (hcell _).trans h.c5, (hcell _).trans h.c6,
    fun j => (World.frozen?_of_block hW).trans (h.fz j), h.ol.kept (fun k hk => by simp [Value.ownBlock] at hk; subst hk; exact hl), h.oc.kept (fun k hk => by simp [Value.ownBlock] at hk; subst hk; exact hc), h.os.kept hv, h.nlc, h.nWl, h.nWc, h.ns⟩
theorem WIn.gllt (h : WIn w B W gl gc n vr vs lv cls s al) : B ≤ gl ∧ gl < w.heap.size := h.ol.lt gl rfl
theorem WIn.gclt (h : WIn w B W gl gc n vr vs lv cls s al) : B ≤ gc ∧ gc < w.heap.size := h.oc.lt gc rfl
theorem WIn.below (h : WIn w B W gl gc n vr vs lv cls s al) (hb : Below w.heap.size w w') : WIn w' B W gl gc n vr vs lv cls s al :=
  h.kept hb.size (hb.block _ h.lt) (hb.block _ h.gllt.2) (hb.block _ h.gclt.2) (fun k hk => hb.block _ (h.os.lt k hk).2)
theorem WIn.drewN (h : WIn w B W gl gc n vr vs lv cls s al) (m : Nat) : WIn (w.drewN m) B W gl gc n vr vs lv cls s al := h.below (below_draws w m)
theorem set_same {w : World} {b i : Nat} {x u : Value} (h : w.cell? ⟨b, i, none⟩ = some u) : (w.setCell ⟨b, i, none⟩ x).cell? ⟨b, i, none⟩ = some x := World.cell?_setCell_same _ _ _ h
theorem set_diff {w : World} {b i j : Nat} {x v : Value} (hne : i ≠ j) (h : w.cell? ⟨b, j, none⟩ = some v) : (w.setCell ⟨b, i, none⟩ x).cell? ⟨b, j, none⟩ = some v := by
  rw [World.cell?_setCell_other _ _ _ _ (by intro e; apply hne; injection e)]; exact h
/-- A store into one of the cells. -/
theorem WIn.put (h : WIn w B W gl gc n vr vs lv cls s al) {j : Nat} {x : Value} {vs' : Value} {s' : TS} {al' : Int}
    (e0 : (w.setCell ⟨W, j, none⟩ x).cell? ⟨W, 0, none⟩ = some vr) (e1 : (w.setCell ⟨W, j, none⟩ x).cell? ⟨W, 1, none⟩ = some (.slice (some ⟨gl, 0, none⟩) n n)) (e2 : (w.setCell ⟨W, j, none⟩ x).cell? ⟨W, 2, none⟩ = some (.slice (some ⟨gc, 0, none⟩) n n))
    (e3 : (w.setCell ⟨W, j, none⟩ x).cell? ⟨W, 3, none⟩ = some vs') (e4 : (w.setCell ⟨W, j, none⟩ x).cell? ⟨W, 4, none⟩ = some (.int .i64 s'.lost)) (e5 : (w.setCell ⟨W, j, none⟩ x).cell? ⟨W, 5, none⟩ = some (.int .i64 s'.skip)) (e6 : (w.setCell ⟨W, j, none⟩ x).cell? ⟨W, 6, none⟩ = some (.int .i64 al'))
    (ho : OwnV 54 3 w B vs' s'.st.length (tcells s'.st.reverse)) (hn : ∀ k, vs'.ownBlock = some k → k ≠ W ∧ k ≠ gl ∧ k ≠ gc) : WIn (w.setCell ⟨W, j, none⟩ x) B W gl gc n vr vs' lv cls s' al' := by
  have hblk : ∀ c, c ≠ W → (w.setCell ⟨W, j, none⟩ x).heap[c]? = w.heap[c]? := fun c hc => heap_setCell_other w ⟨W, j, none⟩ c x hc
  exact ⟨h.ge, by rw [World.size_setCell]; exact h.lt, e0, e1, e2, e3, e4, e5, e6, fun q => by rw [World.frozen?_setCell]; exact h.fz q,
    h.ol.kept (fun k hk => by simp [Value.ownBlock] at hk; subst hk; exact hblk _ h.nWl), h.oc.kept (fun k hk => by simp [Value.ownBlock] at hk; subst hk; exact hblk _ h.nWc), ho.kept (fun k hk => hblk _ (hn k hk).1), h.nlc, h.nWl, h.nWc, hn⟩
theorem WIn.put4 {st : List Tl} {lost skip : Int} (h : WIn w B W gl gc n vr vs lv cls ⟨st, lost, skip⟩ al) (x : Int) : WIn (w.setCell ⟨W, 4, none⟩ (.int .i64 x)) B W gl gc n vr vs lv cls ⟨st, x, skip⟩ al :=
  h.put (set_diff (by omega) h.c0) (set_diff (by omega) h.c1) (set_diff (by omega) h.c2) (set_diff (by omega) h.c3) (set_same h.c4) (set_diff (by omega) h.c5) (set_diff (by omega) h.c6) h.os h.ns
theorem WIn.put5 {st : List Tl} {lost skip : Int} (h : WIn w B W gl gc n vr vs lv cls ⟨st, lost, skip⟩ al) (x : Int) : WIn (w.setCell ⟨W, 5, none⟩ (.int .i64 x)) B W gl gc n vr vs lv cls ⟨st, lost, x⟩ al :=
  h.put (set_diff (by omega) h.c0) (set_diff (by omega) h.c1) (set_diff (by omega) h.c2) (set_diff (by omega) h.c3) (set_diff (by omega) h.c4) (set_same h.c5) (set_diff (by omega) h.c6) h.os h.ns
theorem WIn.put6 {st : List Tl} {lost skip : Int} (h : WIn w B W gl gc n vr vs lv cls ⟨st, lost, skip⟩ al) (x : Int) : WIn (w.setCell ⟨W, 6, none⟩ (.int .i64 x)) B W gl gc n vr vs lv cls ⟨st, lost, skip⟩ x :=
  h.put (set_diff (by omega) h.c0) (set_diff (by omega) h.c1) (set_diff (by omega) h.c2) (set_diff (by omega) h.c3) (set_diff (by omega) h.c4) (set_diff (by omega) h.c5) (set_same h.c6) h.os h.ns
/-- The first ones of the stack alone are left. -/
theorem WIn.put3 {st st' : List Tl} {lost skip : Int} {gs m m' cap : Nat} (h : WIn w B W gl gc n vr (.slice (some ⟨gs, 0, none⟩) m cap) lv cls ⟨st, lost, skip⟩ al) (hm : st.length = m) (hm' : st'.length = m') (p : List Tl) (hp : st = p ++ st') : WIn (w.setCell ⟨W, 3, none⟩ (.slice (some ⟨gs, 0, none⟩) m' cap)) B W gl gc n vr (.slice (some ⟨gs, 0, none⟩) m' cap) lv cls ⟨st', lost, skip⟩ al := by
  have hos := h.os
  simp only at hos
  rw [hm] at hos
  have hl : st.length = p.length + st'.length := by rw [hp, List.length_append]
  refine h.put (set_diff (by omega) h.c0) (set_diff (by omega) h.c1) (set_diff (by omega) h.c2) (set_same h.c3) (set_diff (by omega) h.c4) (set_diff (by omega) h.c5) (set_diff (by omega) h.c6) ?_ (fun k hk => h.ns k (by simpa [Value.ownBlock] using hk))
  have := hos.head m' (by omega)
  show OwnV 54 3 w B _ st'.length (tcells st'.reverse)
  rw [hm']
  have e : (tcells st.reverse).take (m' * 3) = tcells st'.reverse := by
    rw [hp, List.reverse_append, tcells_app, List.take_append_of_le_length (by rw [tcells_len, List.length_reverse]; omega), List.take_of_length_le (by rw [tcells_len, List.length_reverse]; omega)]
  rwa [e] at this
/-- One more on the stack. -/
theorem WIn.push {st : List Tl} {lost skip : Int} {x : Tl} {vs' : Value} (h : WIn w B W gl gc n vr vs lv cls ⟨st, lost, skip⟩ al) (hg : w.grownBy w' vs.ownBlock) (ho : OwnV 54 3 w' B vs' (st.length + 1) (tcells st.reverse ++ tc x)) (hv : vs'.ownBlock = vs.ownBlock ∨ ∃ H, vs'.ownBlock = some H ∧ w.heap.size ≤ H) :
    WIn (w'.setCell ⟨W, 3, none⟩ vs') B W gl gc n vr vs' lv cls ⟨x :: st, lost, skip⟩ al := by
  have hne : ∀ b, b = W ∨ b = gl ∨ b = gc → some b ≠ vs.ownBlock := fun b hb e => by
    have := h.ns b e.symm; omega
  have hW : w'.heap[W]? = w.heap[W]? := hg.block _ h.lt (hne _ (.inl rfl))
  have hl : w'.heap[gl]? = w.heap[gl]? := hg.block _ h.gllt.2 (hne _ (.inr (.inl rfl)))
  have hc : w'.heap[gc]? = w.heap[gc]? := hg.block _ h.gclt.2 (hne _ (.inr (.inr rfl)))
  have hcell : ∀ j, w'.cell? ⟨W, j, none⟩ = w.cell? ⟨W, j, none⟩ := fun j => World.cell?_of_block hW
  have hns : ∀ k, vs'.ownBlock = some k → k ≠ W ∧ k ≠ gl ∧ k ≠ gc := fun k hk => by
    rcases hv with e | ⟨H, e, hH⟩
    · exact h.ns k (by rw [← e]; exact hk)
    · rw [hk] at e; simp at e; have := h.lt; have := h.gllt.2; have := h.gclt.2; omega
  have hblk : ∀ c, c ≠ W → (w'.setCell ⟨W, 3, none⟩ vs').heap[c]? = w'.heap[c]? := fun c hc => heap_setCell_other w' ⟨W, 3, none⟩ c vs' hc
  refine ⟨h.ge, by rw [World.size_setCell]; exact Nat.lt_of_lt_of_le h.lt hg.size, set_diff (by omega) ((hcell _).trans h.c0), set_diff (by omega) ((hcell _).trans h.c1), set_diff (by omega) ((hcell _).trans h.c2), set_same ((hcell _).trans h.c3), set_diff (by omega) ((hcell _).trans h.c4), set_diff (by omega) ((hcell _).trans h.c5), set_diff (by omega) ((hcell _).trans h.c6),
    fun q => by rw [World.frozen?_setCell]; exact (World.frozen?_of_block hW).trans (h.fz q), ?_, ?_, ?_, h.nlc, h.nWl, h.nWc, hns⟩
  · exact h.ol.kept (fun k hk => by simp [Value.ownBlock] at hk; subst hk; exact (hblk _ h.nWl).trans hl)
  · exact h.oc.kept (fun k hk => by simp [Value.ownBlock] at hk; subst hk; exact (hblk _ h.nWc).trans hc)
  · have := OwnV.kept ho (fun k hk => hblk _ (hns k hk).1)
    show OwnV 54 3 _ B vs' (x :: st).length (tcells (x :: st).reverse)
    rw [List.reverse_cons, tcells_app, List.length_cons]
    simpa [tcells] using this
/-- A store into one of the two rows. -/
theorem WIn.setL (h : WIn w B W gl gc n vr vs lv cls s al) (i : Nat) (x : Int) : WIn (w.setCell ⟨gl, i, none⟩ (.int .i64 x)) B W gl gc n vr vs (lv.set i x) cls s al := by
  have hblk : ∀ c, c ≠ gl → (w.setCell ⟨gl, i, none⟩ (.int .i64 x)).heap[c]? = w.heap[c]? := fun c hc => heap_setCell_other w ⟨gl, i, none⟩ c _ hc
  have hW := hblk W (fun e => h.nWl e.symm)
  have hcell : ∀ j, (w.setCell ⟨gl, i, none⟩ (.int .i64 x)).cell? ⟨W, j, none⟩ = w.cell? ⟨W, j, none⟩ := fun j => World.cell?_of_block hW
  exact ⟨h.ge, by rw [World.size_setCell]; exact h.lt, (hcell _).trans h.c0, (hcell _).trans h.c1, (hcell _).trans h.c2, (hcell _).trans h.c3, (hcell _).trans h.c4, (hcell _).trans h.c5, (hcell _).trans h.c6,
    fun j => by rw [World.frozen?_setCell]; exact h.fz j, h.ol.storedN i x, h.oc.kept (fun k hk => by simp [Value.ownBlock] at hk; subst hk; exact hblk _ (fun e => h.nlc e.symm)), h.os.kept (fun k hk => hblk _ (h.ns k hk).2.1), h.nlc, h.nWl, h.nWc, h.ns⟩
theorem WIn.setC (h : WIn w B W gl gc n vr vs lv cls s al) (i : Nat) (x : Int) : WIn (w.setCell ⟨gc, i, none⟩ (.int .i64 x)) B W gl gc n vr vs lv (cls.set i x) s al := by
  have hblk : ∀ c, c ≠ gc → (w.setCell ⟨gc, i, none⟩ (.int .i64 x)).heap[c]? = w.heap[c]? := fun c hc => heap_setCell_other w ⟨gc, i, none⟩ c _ hc
  have hW := hblk W (fun e => h.nWc e.symm)
  have hcell : ∀ j, (w.setCell ⟨gc, i, none⟩ (.int .i64 x)).cell? ⟨W, j, none⟩ = w.cell? ⟨W, j, none⟩ := fun j => World.cell?_of_block hW
  exact ⟨h.ge, by rw [World.size_setCell]; exact h.lt, (hcell _).trans h.c0, (hcell _).trans h.c1, (hcell _).trans h.c2, (hcell _).trans h.c3, (hcell _).trans h.c4, (hcell _).trans h.c5, (hcell _).trans h.c6,
    fun j => by rw [World.frozen?_setCell]; exact h.fz j, h.ol.kept (fun k hk => by simp [Value.ownBlock] at hk; subst hk; exact hblk _ h.nlc), h.oc.storedN i x, h.os.kept (fun k hk => hblk _ (h.ns k hk).2.2), h.nlc, h.nWl, h.nWc, h.ns⟩
theorem WIn.blwL (h : WIn w B W gl gc n vr vs lv cls s al) {w0 : World} (hb : Below B w0 w) (j : Nat) (x : Value) : Below B w0 (w.setCell ⟨gl, j, none⟩ x) := hb.setCell h.gllt.1 _
theorem WIn.blwC (h : WIn w B W gl gc n vr vs lv cls s al) {w0 : World} (hb : Below B w0 w) (j : Nat) (x : Value) : Below B w0 (w.setCell ⟨gc, j, none⟩ x) := hb.setCell h.gclt.1 _
theorem WIn.pushBelow (h : WIn w B W gl gc n vr vs lv cls s al) {w0 : World} {vs' : Value} (hb : Below B w0 w) (hB : B ≤ w.heap.size) (hg : w.grownBy w' vs.ownBlock) : Below B w0 (w'.setCell ⟨W, 3, none⟩ vs') :=
  (hb.grown hg hB (fun k hk => (h.os.lt k hk).1)).setCell h.ge _
theorem WIn.blw (h : WIn w B W gl gc n vr vs lv cls s al) {w0 : World} (hb : Below B w0 w) (j : Nat) (x : Value) : Below B w0 (w.setCell ⟨W, j, none⟩ x) := hb.setCell h.ge _
end

set_option maxHeartbeats 1000000 in
theorem specUp (lv : Int) (right : Bool) (w : World) (h0 : 0 ≤ lv) (h1 : lv ≤ 100) : Calls Try.prog 76 #[.int .i64 lv, .bool right] w fun e w' => e = .returned (.int .i64 (upL lv right)) ∧ w' = w := by
  by_cases hq : (right == ((lv % 2) == 0)) = true
  · go_enter Try.func76, Try.ntmps76
    go_wp2
    go_ret
    refine ⟨retInt ?_, rfl⟩
    have h2 : right = (lv % 2 == 0) := by simpa using hq
    exact (if_pos h2).symm
  · go_enter Try.func76, Try.ntmps76
    go_wp2
    go_ret
    refine ⟨retInt ?_, rfl⟩
    have h2 : ¬ right = (lv % 2 == 0) := by simpa using hq
    exact (if_neg h2).symm
end Go.Proofs.Ytkdmfjnaajedhaa
