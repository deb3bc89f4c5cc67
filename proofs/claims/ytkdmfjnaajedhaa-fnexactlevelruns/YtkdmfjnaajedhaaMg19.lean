import Derived.Test.YtkdmfjnaajedhaaMg18
import Derived.Test.YtkdmfjnaajedhaaMg4
import Derived.Test.YtkdmfjnaajedhaaMg7
import Derived.Test.YtkdmfjnaajedhaaMg17
namespace Go.Proofs.Ytkdmfjnaajedhaa
open Go.ChangeShapes Go.WideShapes Go.ChangeAt Go.RowKit
set_option linter.unusedSimpArgs false

theorem eqI_yes (v1 v2 : Value) (l : List Int) (w : World) (h1 : Arg w v1 l) (h2 : Arg w v2 l) (hl : l.length ≤ 4194304) :
    Calls Try.prog 9 #[v1, v2] w fun e w' => e = .returned (.bool true) ∧ Below w.heap.size w w' := by
  refine (eqInt_any v1 v2 l l w h1 h2 hl).mono ?_
  rintro e w' ⟨rfl, n, rfl⟩
  exact ⟨retBool (eqB_self l), below_draws w n⟩
/-- A row keeps what it holds where another row is marked. -/
theorem OwnI.aside {w w' : World} {v u : Value} {l : List Int} {B : Nat} (h : OwnI w B v l) (hg : w.grownBy w' u.ownBlock) (hne : ∀ k, v.ownBlock = some k → u.ownBlock ≠ some k) : OwnI w' B v l :=
  h.kept fun k hk => hg.block k (h.lt k hk).2 (fun e => hne k hk e.symm)
theorem heldB_any (v : Value) (n : Nat) (k : Int) (w : World) (hv : Arg w v (marks k n)) (hl : n ≤ 1048576) (hk0 : 0 ≤ k) (hk1 : k ≤ 1000000000000) :
    Calls Try.prog 11 #[v, .int .i64 k] w fun e w' => e = .returned (.int .i64 (k + (n : Int))) ∧ Below w.heap.size w w' :=
  (held_any v n k w hv hl hk0 hk1).mono fun _ _ ⟨h1, h2⟩ => ⟨h1, by rw [h2]; exact Below.refl _ _⟩
end Go.Proofs.Ytkdmfjnaajedhaa
namespace Go.Proofs.Ytkdmfjnaajedhaa
open Go.ChangeShapes Go.WideShapes Go.ChangeAt Go.RowKit
set_option linter.unusedSimpArgs false
set_option linter.unusedVariables false

/-- The blocks of a slice of slices. -/
def blkR (v : Value) (vs : List Value) (n : Nat) (b : Nat) : Prop := v.ownBlock = some b ∨ ∃ j, j < n ∧ (vN vs j).ownBlock = some b
/-- Nothing has turned but there. -/
structure SweptR (w w' : World) (v : Value) (vs : List Value) (n : Nat) : Prop where
  os : w'.os = w.os
  tape : w'.tape = w.tape
  output : w'.output = w.output
  size : w'.heap.size = w.heap.size
  block : ∀ b, b < w.heap.size → ¬ blkR v vs n b → w'.heap[b]? = w.heap[b]?
section
variable {w w' : World} {B : Nat} {v : Value} {vs : List Value} {rows : List (List Int)}
theorem RR.ltb (h : RR w B v vs rows) : ∀ b, blkR v vs rows.length b → B ≤ b ∧ b < w.heap.size := fun b hb => by
  rcases hb with hb | ⟨j, hj, hb⟩
  · exact h.lt b hb
  · exact (h.row j hj).lt b hb
theorem RR.aside {u : Value} (h : RR w B v vs rows) (hg : w.grownBy w' u.ownBlock) (hne : ∀ k, blkR v vs rows.length k → u.ownBlock ≠ some k) : RR w' B v vs rows :=
  h.kept fun b hb => hg.block b (h.ltb b hb).2 (fun e => hne b hb e.symm)
theorem RR.swept {v2 : Value} {vs2 : List Value} {n2 : Nat} (h : RR w B v vs rows) (hg : SweptR w w' v2 vs2 n2) (hne : ∀ k, blkR v vs rows.length k → ¬ blkR v2 vs2 n2 k) : RR w' B v vs rows :=
  h.kept fun b hb => hg.block b (h.ltb b hb).2 (hne b hb)
theorem belowSwept {w0 : World} {B0 : Nat} {v2 : Value} {vs2 : List Value} {n2 : Nat} (h : Below B0 w0 w) (hg : SweptR w w' v2 vs2 n2) (hB : B0 ≤ w.heap.size) (hr : ∀ k, blkR v2 vs2 n2 k → B0 ≤ k) : Below B0 w0 w' :=
  h.trans ⟨hg.os, hg.tape, hg.output, Nat.le_of_eq hg.size.symm, fun k hk => hg.block k (Nat.lt_of_lt_of_le hk hB) (fun e => absurd (hr k e) (by omega))⟩
theorem rN_set_same {R : List (List Int)} {i : Nat} {x : List Int} (h : i < R.length) : rN (R.set i x) i = x := by simp [rN, h]
theorem rN_set_other {R : List (List Int)} {i j : Nat} {x : List Int} (h : i ≠ j) : rN (R.set i x) j = rN R j := by simp [rN, List.getElem?_set_ne h]
/-- One of the rows has been written over. -/
theorem RR.set {i : Nat} {x : List Int} (h : RR w B v vs rows) (hi : i < rows.length) (hg : w.grownBy w' (vN vs i).ownBlock) (hx : OwnI w' B (vN vs i) x) : RR w' B v vs (rows.set i x) := by
  refine ⟨by rw [List.length_set]; exact h.len, ?_, fun j hj => ?_, fun j hj => h.apv j (by simpa using hj), fun a b hab hb => h.app a b hab (by simpa using hb)⟩
  · rw [List.length_set]
    exact h.own.kept fun b hb => hg.block b (h.own.lt b hb).2 (fun e => h.apv i hi b hb e.symm)
  · rw [List.length_set] at hj
    by_cases e : i = j
    · subst e; rw [rN_set_same hi]; exact hx
    · rw [rN_set_other e]
      refine (h.row j hj).kept fun b hb => hg.block b ((h.row j hj).lt b hb).2 (fun e2 => ?_)
      rcases Nat.lt_or_gt_of_ne e with q | q
      · exact h.app i j q hj b e2.symm hb
      · exact h.app j i q hi b hb e2.symm
theorem RR.cellAt {g n cap : Nat} (h : RR w B (.slice (some ⟨g, 0, none⟩) n cap) vs rows) (j : Nat) (hj : j < n) : w.cell? ⟨g, j, none⟩ = some (vN vs j) := by
  have hown := h.own
  obtain ⟨a, c, e⟩ := hown.slc
  simp only [Value.slice.injEq] at e
  obtain ⟨rfl, rfl, rfl⟩ := e
  have hl := h.len
  rw [hown.cell j (by omega)]
  simp [vN, show j < vs.length by omega]
end
/-- How many numbers rows hold, up to a place. -/
def totTo (R : List (List Int)) : Nat → Nat
  | 0 => 0
  | i + 1 => totTo R i + (rN R i).length
def totR (R : List (List Int)) : Nat := totTo R R.length
theorem totTo_mono {R : List (List Int)} {i j : Nat} (h : i ≤ j) : totTo R i ≤ totTo R j := by
  induction j with
  | zero => have : i = 0 := by omega
            subst this; exact Nat.le_refl _
  | succ j ih =>
    by_cases e : i = j + 1
    · subst e; exact Nat.le_refl _
    · simp only [totTo]; have := ih (by omega); omega
/-- Rows that are numbered through, up to a place. -/
def markTo (R : List (List Int)) (k : Int) : Nat → List (List Int)
  | 0 => R
  | i + 1 => (markTo R k i).set i (marks (k + (totTo R i : Nat)) (rN R i).length)
theorem markTo_len (R : List (List Int)) (k : Int) (i : Nat) : (markTo R k i).length = R.length := by
  induction i with
  | zero => rfl
  | succ i ih => simp only [markTo, List.length_set, ih]
theorem markTo_at {R : List (List Int)} {k : Int} {i j : Nat} (hj : j < R.length) : rN (markTo R k i) j = if j < i then marks (k + (totTo R j : Nat)) (rN R j).length else rN R j := by
  induction i with
  | zero => rw [if_neg (by omega)]; rfl
  | succ i ih =>
    simp only [markTo]
    by_cases e : i = j
    · subst e; rw [rN_set_same (by rw [markTo_len]; exact hj), if_pos (by omega)]
    · rw [rN_set_other e, ih]
      by_cases q : j < i
      · rw [if_pos q, if_pos (by omega)]
      · rw [if_neg q, if_neg (by omega)]

set_option maxHeartbeats 2000000 in
theorem eqSS_yes (v1 v2 : Value) (vs1 vs2 : List Value) (R : List (List Int)) (B1 B2 : Nat) (w : World) (h1 : RR w B1 v1 vs1 R) (h2 : RR w B2 v2 vs2 R) (hl : totR R ≤ 1048576) (hn : R.length ≤ 1048576) :
    Calls Try.prog 14 #[v1, v2] w fun e w' => e = .returned (.bool true) ∧ Below w.heap.size w w' := by
  obtain ⟨a1, c1, rfl⟩ := h1.slc
  obtain ⟨a2, c2, rfl⟩ := h2.slc
  obtain ⟨n, hn0⟩ : ∃ n, R.length = n := ⟨_, rfl⟩
  rw [hn0] at h1 h2 hn ⊢
  have HN : Hid (R.length = n) := hn0
  have HL : Hid (totR R ≤ 1048576) := hl
  have H1 : Hid (RR w B1 (.slice a1 n c1) vs1 R) := h1
  have H2 : Hid (RR w B2 (.slice a2 n c2) vs2 R) := h2
  clear h1 h2 hn0 hl
  go_enter Try.func14, Try.ntmps14
  go_wp2_with fail
  go_loopw [5] (fun i wr => ∃ (m : Nat), m ≤ n ∧ i = .int .i64 m ∧ Hid (Below w.heap.size w wr)) (fun i _ => n - (intOf i).toNat)
  case atStart => exact ⟨0, Nat.zero_le _, rfl, Below.refl _ _⟩
  case round =>
    obtain ⟨m, hm, rfl, hbel⟩ := hrel
    by_cases hlt : m < n
    · have hmi : (m : Int) < (n : Int) := by omega
      obtain ⟨g1, c1', e1, _⟩ := H1.out.own.form1 (by rw [HN.out]; omega)
      simp only [Value.slice.injEq] at e1
      obtain ⟨rfl, hz1, rfl⟩ := e1
      obtain ⟨g2, c2', e2, _⟩ := H2.out.own.form1 (by rw [HN.out]; omega)
      simp only [Value.slice.injEq] at e2
      obtain ⟨rfl, hz2, rfl⟩ := e2
      clear hz1 hz2
      have k1 := (H1.out.below hbel.out).cellAt m hlt
      have k2 := (H2.out.below hbel.out).cellAt m hlt
      have r1 := (H1.out.below hbel.out).row m (by rw [HN.out]; exact hlt)
      have r2 := (H2.out.below hbel.out).row m (by rw [HN.out]; exact hlt)
      have hrl : (rN R m).length ≤ 1048576 := by
        have := HL.out; have h3 := totTo_mono (R := R) (show m + 1 ≤ R.length by rw [HN.out]; omega); unfold totR at this; simp only [totTo] at h3; omega
      have HEQ : Hid (∀ q, Calls Try.prog 9 #[vN vs1 m, vN vs2 m] (wr.drewN q) fun e w' => e = .returned (.bool true) ∧ ∃ z, w' = wr.drewN z) := fun q => by
        refine (eqInt_any _ _ (rN R m) (rN R m) _ (r1.arg.drewN q) (r2.arg.drewN q) (by omega)).mono ?_
        rintro e w' ⟨rfl, z, rfl⟩
        exact ⟨retBool (eqB_self _), q + z, by simp⟩
      have HBB : Hid (∀ z, Below w.heap.size w (wr.drewN z)) := fun z => bstep hbel.out (below_draws wr z)
      clear r1 r2 hrl
      go_wp2_with fail
      go_quiet ((go_at_call 9; with_reducible exact HEQ.out _))
      go_wp2_with fail
      go_roundw
      case rel => exact ⟨m + 1, by omega, by go_num, HBB.out _⟩
      case measure => simp only [intOf]; omega
    · have e : m = n := by omega
      subst e
      go_wp2_with fail
      go_ret
      exact ⟨rfl, hbel.out⟩

set_option maxHeartbeats 2000000 in
theorem markSS_any (v : Value) (vs : List Value) (R : List (List Int)) (B : Nat) (k : Int) (w : World) (h : RR w B v vs R) (hl : totR R ≤ 1048576) (hn : R.length ≤ 1048576) (hk0 : 0 ≤ k) (hk1 : k ≤ 1000000000) :
    Calls Try.prog 15 #[v, .int .i64 k] w fun e w' => e = .returned (.int .i64 (k + (totR R : Nat))) ∧ RR w' B v vs (markTo R k R.length) ∧ SweptR w w' v vs R.length := by
  obtain ⟨a1, c1, rfl⟩ := h.slc
  obtain ⟨n, hn0⟩ : ∃ n, R.length = n := ⟨_, rfl⟩
  have HL : Hid (totR R ≤ 1048576) := hl
  have HTR : Hid (totR R = totTo R n) := by unfold Hid totR; rw [hn0]
  rw [hn0] at h hn ⊢
  have HN : Hid (R.length = n) := hn0
  have H1 : Hid (RR w B (.slice a1 n c1) vs R) := h
  clear h hn0 hl
  go_enter Try.func15, Try.ntmps15
  go_wp2_with fail
  go_loopw [1, 5] (fun q i wr => ∃ (m : Nat), m ≤ n ∧ i = .int .i64 m ∧ q = .int .i64 (k + (totTo R m : Nat)) ∧ Hid (RR wr B (.slice a1 n c1) vs (markTo R k m)) ∧ Hid (SweptR w wr (.slice a1 n c1) vs n)) (fun _ i _ => n - (intOf i).toNat)
  case atStart => exact ⟨0, Nat.zero_le _, rfl, by show _ = Value.int .i64 (k + ((0 : Nat) : Int)); simp, H1.out, ⟨rfl, rfl, rfl, rfl, fun _ _ _ => rfl⟩⟩
  case round =>
    obtain ⟨m, hm, rfl, rfl, hR, hsw⟩ := hrel
    by_cases hlt : m < n
    · have hmi : (m : Int) < (n : Int) := by omega
      have hml : (markTo R k m).length = n := by rw [markTo_len, HN.out]
      obtain ⟨g1, c1', e1, _⟩ := hR.out.own.form1 (by rw [hml]; omega)
      simp only [Value.slice.injEq] at e1
      obtain ⟨rfl, hz1, rfl⟩ := e1
      clear hz1
      have k1 := hR.out.cellAt m hlt
      have r1 := hR.out.row m (by rw [hml]; exact hlt)
      rw [markTo_at (by rw [HN.out]; exact hlt), if_neg (by omega)] at r1
      have htt : totTo R m + (rN R m).length ≤ 1048576 := by
        have := HL.out; have h3 := totTo_mono (R := R) (show m + 1 ≤ R.length by rw [HN.out]; omega); unfold totR at this; simp only [totTo] at h3; omega
      have HML : Hid ((markTo R k m).length = n) := hml
      clear hml
      go_wp2_with (go_at_call 10; refine (mark_any _ (rN R m) _ (k + (totTo R m : Nat)) _ r1 (by omega) (by omega) (by omega)).mono ?_; rintro e w2 ⟨rfl, n2, gr2, sz2⟩; have N2 : Hid (OwnI w2 B (vN vs m) (marks (k + (totTo R m : Nat)) (rN R m).length)) := n2; have GR2 : Hid (wr.grownBy w2 (vN vs m).ownBlock) := gr2; have SZ2 : Hid (w2.heap.size = wr.heap.size) := sz2; clear n2 gr2 sz2)
      go_roundw
      case rel =>
        refine ⟨m + 1, by omega, by go_num, ?_, hR.out.set (by rw [HML.out]; exact hlt) GR2.out N2.out, ?_⟩
        · simp only [totTo]
          congr 1; omega
        · have hs := hsw.out
          refine ⟨GR2.out.os.trans hs.os, GR2.out.tape.trans hs.tape, GR2.out.output.trans hs.output, SZ2.out.trans hs.size, fun b hb hnb => ?_⟩
          rw [GR2.out.block b (by rw [hs.size]; exact hb) (fun e => hnb (.inr ⟨m, hlt, e.symm⟩))]
          exact hs.block b hb hnb
      case measure => simp only [intOf]; omega
    · have e : m = n := by omega
      subst e
      go_wp2_with fail
      go_ret
      rw [HTR.out]
      exact ⟨rfl, hR.out, hsw.out⟩

set_option maxHeartbeats 2000000 in
theorem heldSS_any (v : Value) (vs : List Value) (R : List (List Int)) (B : Nat) (k : Int) (w : World) (h : RR w B v vs (markTo R k R.length)) (hl : totR R ≤ 1048576) (hn : R.length ≤ 1048576) (hk0 : 0 ≤ k) (hk1 : k ≤ 1000000000) :
    Calls Try.prog 16 #[v, .int .i64 k] w fun e w' => e = .returned (.int .i64 (k + (totR R : Nat))) ∧ Below w.heap.size w w' := by
  obtain ⟨n, hn0⟩ : ∃ n, R.length = n := ⟨_, rfl⟩
  have HL : Hid (totR R ≤ 1048576) := hl
  have HTR : Hid (totR R = totTo R n) := by unfold Hid totR; rw [hn0]
  rw [hn0] at h hn
  have hml : (markTo R k n).length = n := by rw [markTo_len, hn0]
  obtain ⟨a1, c1, rfl⟩ := h.slc
  rw [hml] at h ⊢
  have HN : Hid (R.length = n) := hn0
  have HML : Hid ((markTo R k n).length = n) := hml
  have H1 : Hid (RR w B (.slice a1 n c1) vs (markTo R k n)) := h
  clear h hn0 hl hml
  go_enter Try.func16, Try.ntmps16
  go_wp2_with fail
  go_loopw [1, 5] (fun q i wr => ∃ (m : Nat), m ≤ n ∧ i = .int .i64 m ∧ q = .int .i64 (k + (totTo R m : Nat)) ∧ Hid (Below w.heap.size w wr)) (fun _ i _ => n - (intOf i).toNat)
  case atStart => exact ⟨0, Nat.zero_le _, rfl, by show _ = Value.int .i64 (k + ((0 : Nat) : Int)); simp, Below.refl _ _⟩
  case round =>
    obtain ⟨m, hm, rfl, rfl, hbel⟩ := hrel
    by_cases hlt : m < n
    · have hmi : (m : Int) < (n : Int) := by omega
      obtain ⟨g1, c1', e1, _⟩ := H1.out.own.form1 (by rw [HML.out]; omega)
      simp only [Value.slice.injEq] at e1
      obtain ⟨rfl, hz1, rfl⟩ := e1
      clear hz1
      have k1 := (H1.out.below hbel.out).cellAt m hlt
      have r1 := (H1.out.below hbel.out).row m (by rw [HML.out]; exact hlt)
      rw [markTo_at (by rw [HN.out]; exact hlt), if_pos hlt] at r1
      have htt : totTo R m + (rN R m).length ≤ 1048576 := by
        have := HL.out; have h3 := totTo_mono (R := R) (show m + 1 ≤ R.length by rw [HN.out]; omega); unfold totR at this; simp only [totTo] at h3; omega
      have hneg : (k + (totTo R m : Nat) + ((rN R m).length : Nat) : Int) < 0 ↔ False := ⟨fun h => by omega, fun h => h.elim⟩
      go_wp2_with (go_at_call 11; refine (heldB_any _ (rN R m).length (k + (totTo R m : Nat)) _ r1.arg (by omega) (by omega) (by omega)).mono ?_; rintro e w2 ⟨rfl, b2⟩)
      go_roundw
      case rel => exact ⟨m + 1, by omega, by go_num, by simp only [totTo]; congr 1; omega, bstep hbel.out b2⟩
      case measure => simp only [intOf]; omega
    · have e : m = n := by omega
      subst e
      go_wp2_with fail
      go_ret
      rw [HTR.out]
      exact ⟨rfl, hbel.out⟩
end Go.Proofs.Ytkdmfjnaajedhaa
namespace Go.Proofs.Ytkdmfjnaajedhaa
set_option linter.unusedSimpArgs false
set_option linter.unusedVariables false

theorem totTo_le {R : List (List Int)} {m : Nat} : ∀ i, (∀ j, j < i → (rN R j).length ≤ m) → totTo R i ≤ i * m
  | 0, _ => by simp [totTo]
  | i + 1, h => by
    have h1 := totTo_le i (fun j hj => h j (by omega))
    have h2 := h i (by omega)
    simp only [totTo]
    rw [Nat.add_mul]; omega
theorem runsR_all (l : List Int) (mt : Nat → Nat) (base : Int) (hmt : MateFn (cl l) l.length mt) : (runsR l mt base).length ≤ 80 ∧ totR (runsR l mt base) ≤ 6400 := by
  unfold runsR
  by_cases hq : okT l base = true
  · obtain ⟨_, hb01, h80⟩ := okT_out hq
    rw [if_pos hq]
    have hlen : (natR (runsTo (cl l) (fn (lvL (cl l) (fsF (cl l) mt) base l.length)) l.length mt l.length)).length ≤ l.length := by rw [natR_len]; exact runs_len _
    refine ⟨by omega, ?_⟩
    have ht := txt_told l mt hb01 hmt
    have h1 := totTo_le (R := natR (runsTo (cl l) (fn (lvL (cl l) (fsF (cl l) mt) base l.length)) l.length mt l.length)) (m := l.length) _ (fun j hj => (runs_row ht hj).2)
    unfold totR
    have h2 := Nat.mul_le_mul (Nat.le_trans hlen h80) h80
    omega
  · rw [if_neg hq]; simp [totR, totTo]
end Go.Proofs.Ytkdmfjnaajedhaa
