import Derived.Test.YtgojdlbidjnmmaaGreatWinMath
import Derived.Test.YtgojdlbidjnmmaaGreatPlainMath
import Derived.Deep.LoopGhost
namespace Go.Proofs.YtgojdlbidjnmmaaGreat
open Go.ChangeShapes Go.WideShapes Go.ChangeAt Go.RowKit
set_option linter.unusedSimpArgs false
set_option linter.unusedVariables false

/-- A stack, linked; its nodes lie in none of the blocks X. -/
def Lk (w : World) (X : Nat → Prop) : Value → List Tl → Prop
  | v, [] => v = .pointer none
  | v, x :: r => ∃ (b : Nat) (nx : Option Addr), v = .pointer (some ⟨b, 0, none⟩) ∧ ¬ X b ∧ b < w.heap.size ∧ w.cell? ⟨b, 0, none⟩ = some (.int .i64 x.level) ∧ w.cell? ⟨b, 1, none⟩ = some (.int .i64 x.side) ∧ w.cell? ⟨b, 2, none⟩ = some (.bool x.alone) ∧ w.cell? ⟨b, 3, none⟩ = some (.pointer nx) ∧ Lk w X (.pointer nx) r
theorem Lk.kept {w w' : World} {X : Nat → Prop} (hs : w.heap.size ≤ w'.heap.size) (hb : ∀ b, ¬ X b → b < w.heap.size → w'.heap[b]? = w.heap[b]?) : ∀ (st : List Tl) (v : Value), Lk w X v st → Lk w' X v st := by
  intro st
  induction st with
  | nil => intro v h; exact h
  | cons x r ih =>
    rintro v ⟨b, nx, h1, h2, h3, h4, h5, h6, h7, h8⟩
    have e : ∀ j, w'.cell? ⟨b, j, none⟩ = w.cell? ⟨b, j, none⟩ := fun j => World.cell?_of_block (hb b h2 h3)
    exact ⟨b, nx, h1, h2, by omega, (e 0).trans h4, (e 1).trans h5, (e 2).trans h6, (e 3).trans h7, ih _ h8⟩
theorem Lk.ptr {w : World} {X : Nat → Prop} {v : Value} {st : List Tl} (h : Lk w X v st) : ∃ p, v = .pointer p := by
  cases st with
  | nil => exact ⟨_, h⟩
  | cons x r => obtain ⟨b, nx, h, _⟩ := h; exact ⟨_, h⟩

/-- What levelStack holds in memory. -/
structure SIn (w : World) (X : Nat → Prop) (S : Nat) (top : Option Addr) (s : TS) : Prop where
  lt : S < w.heap.size
  isX : X S
  xlt : ∀ b, X b → b < w.heap.size
  c0 : w.cell? ⟨S, 0, none⟩ = some (.pointer top)
  c1 : w.cell? ⟨S, 1, none⟩ = some (.int .i64 s.lost)
  c2 : w.cell? ⟨S, 2, none⟩ = some (.int .i64 s.skip)
  fz : ∀ j, w.frozen? ⟨S, j, none⟩ = false
  lk : Lk w X (.pointer top) s.st
theorem setI_same {w : World} {b i : Nat} {x u : Value} (h : w.cell? ⟨b, i, none⟩ = some u) : (w.setCell ⟨b, i, none⟩ x).cell? ⟨b, i, none⟩ = some x := World.cell?_setCell_same _ _ _ h
theorem setI_diff {w : World} {b i j : Nat} {x v : Value} (hne : i ≠ j) (h : w.cell? ⟨b, j, none⟩ = some v) : (w.setCell ⟨b, i, none⟩ x).cell? ⟨b, j, none⟩ = some v := by
  rw [World.cell?_setCell_other _ _ _ _ (by intro e; apply hne; injection e)]; exact h
section
variable {w w' : World} {X : Nat → Prop} {S : Nat} {top : Option Addr} {s : TS}
theorem SIn.kept (h : SIn w X S top s) (hs : w.heap.size ≤ w'.heap.size) (hb : ∀ b, (¬ X b ∨ b = S) → b < w.heap.size → w'.heap[b]? = w.heap[b]?) : SIn w' X S top s := by
  have hS := hb S (.inr rfl) h.lt
  have e : ∀ j, w'.cell? ⟨S, j, none⟩ = w.cell? ⟨S, j, none⟩ := fun j => World.cell?_of_block hS
  exact ⟨Nat.lt_of_lt_of_le h.lt hs, h.isX, fun b hb => Nat.lt_of_lt_of_le (h.xlt b hb) hs, (e 0).trans h.c0, (e 1).trans h.c1, (e 2).trans h.c2, fun j => (World.frozen?_of_block hS).trans (h.fz j), Lk.kept hs (fun b hx hl => hb b (.inl hx) hl) _ _ h.lk⟩
theorem SIn.below (h : SIn w X S top s) (hb : Below w.heap.size w w') : SIn w' X S top s := h.kept hb.size (fun b _ hl => hb.block b hl)
theorem SIn.put {j : Nat} {x : Value} {top' : Option Addr} {s' : TS} (h : SIn w X S top s) (e0 : (w.setCell ⟨S, j, none⟩ x).cell? ⟨S, 0, none⟩ = some (.pointer top')) (e1 : (w.setCell ⟨S, j, none⟩ x).cell? ⟨S, 1, none⟩ = some (.int .i64 s'.lost)) (e2 : (w.setCell ⟨S, j, none⟩ x).cell? ⟨S, 2, none⟩ = some (.int .i64 s'.skip)) (hl : Lk w X (.pointer top') s'.st) :
    SIn (w.setCell ⟨S, j, none⟩ x) X S top' s' :=
  ⟨by rw [World.size_setCell]; exact h.lt, h.isX, fun b hb => by rw [World.size_setCell]; exact h.xlt b hb, e0, e1, e2, fun q => by rw [World.frozen?_setCell]; exact h.fz q,
    Lk.kept (by rw [World.size_setCell]; exact Nat.le_refl _) (fun b hx _ => heap_setCell_other w ⟨S, j, none⟩ b x (fun e => hx (by rw [e]; exact h.isX))) _ _ hl⟩
theorem SIn.put1 {st : List Tl} {lost skip : Int} (h : SIn w X S top ⟨st, lost, skip⟩) (x : Int) : SIn (w.setCell ⟨S, 1, none⟩ (.int .i64 x)) X S top ⟨st, x, skip⟩ :=
  h.put (setI_diff (by omega) h.c0) (setI_same h.c1) (setI_diff (by omega) h.c2) h.lk
theorem SIn.put2 {st : List Tl} {lost skip : Int} (h : SIn w X S top ⟨st, lost, skip⟩) (x : Int) : SIn (w.setCell ⟨S, 2, none⟩ (.int .i64 x)) X S top ⟨st, lost, x⟩ :=
  h.put (setI_diff (by omega) h.c0) (setI_diff (by omega) h.c1) (setI_same h.c2) h.lk
theorem SIn.put0 {st st' : List Tl} {lost skip : Int} {top' : Option Addr} (h : SIn w X S top ⟨st, lost, skip⟩) (hl : Lk w X (.pointer top') st') : SIn (w.setCell ⟨S, 0, none⟩ (.pointer top')) X S top' ⟨st', lost, skip⟩ :=
  h.put (setI_same h.c0) (setI_diff (by omega) h.c1) (setI_diff (by omega) h.c2) hl
end
/-- Nothing but one block has turned. -/
theorem grown_set (w : World) (S j : Nat) (x : Value) : w.grownBy (w.setCell ⟨S, j, none⟩ x) (some S) :=
  ⟨rfl, rfl, rfl, by rw [World.size_setCell]; exact Nat.le_refl _, fun k _ hk => heap_setCell_other w ⟨S, j, none⟩ k x (fun e => hk (by rw [e]))⟩
theorem grown_refl (w : World) (r : Option Nat) : w.grownBy w r := ⟨rfl, rfl, rfl, Nat.le_refl _, fun _ _ _ => rfl⟩
theorem grown_tr {a b c : World} {r : Option Nat} (h : a.grownBy b r) (k : b.grownBy c r) : a.grownBy c r :=
  ⟨k.os.trans h.os, k.tape.trans h.tape, k.output.trans h.output, Nat.le_trans h.size k.size, fun i hi hne => (k.block i (Nat.lt_of_lt_of_le hi h.size) hne).trans (h.block i hi hne)⟩

set_option maxHeartbeats 1000000 in
theorem implSideOf (c : Int) (w : World) (h0 : 0 ≤ c) : Calls Tryz.prog 66 #[.int .i64 c] w fun e w' => e = .returned (.int .i64 (ownOf c)) ∧ w' = w := by
  go_enter Tryz.func66, Tryz.ntmps66
  go_wp2
  all_goals (go_ret; refine ⟨retInt ?_, rfl⟩)
  all_goals (try simp only [beq_iff_eq, beq_eq_false_iff_ne, ne_eq, decide_eq_true_eq, decide_eq_false_iff_not] at *)
  all_goals (unfold ownOf)
  all_goals (repeat (first | rfl | rw [if_pos (by omega)] | rw [if_neg (by omega)]))

theorem endI_lost {st : List Tl} {lost skip : Int} (h : 0 < lost) : endT ⟨st, lost, skip⟩ = ⟨st, lost - 1, skip⟩ := by unfold endT; exact if_pos h
theorem endI_none {st : List Tl} {lost skip : Int} (h : ¬ 0 < lost) (ha : hasA st = false) : endT ⟨st, lost, skip⟩ = ⟨st, lost, skip⟩ := by
  unfold endT; rw [if_neg (by exact h), if_neg (by show ¬ hasA st = true; rw [ha]; simp)]
theorem endI_some {st : List Tl} {lost skip : Int} (h : ¬ 0 < lost) (ha : hasA st = true) : endT ⟨st, lost, skip⟩ = ⟨cutA st, lost, 0⟩ := by
  unfold endT; rw [if_neg (by exact h), if_pos (by exact ha)]
theorem dropI_lost {st : List Tl} {lost skip : Int} (h : 0 < lost) : dropT ⟨st, lost, skip⟩ = ⟨st, lost, skip⟩ := by unfold dropT; exact if_pos h
theorem dropI_skip {st : List Tl} {lost skip : Int} (h : ¬ 0 < lost) (h2 : 0 < skip) : dropT ⟨st, lost, skip⟩ = ⟨st, lost, skip - 1⟩ := by unfold dropT; rw [if_neg (by exact h)]; exact if_pos h2
theorem dropI_top {st : List Tl} {lost skip : Int} (h : ¬ 0 < lost) (h2 : ¬ 0 < skip) : dropT ⟨st, lost, skip⟩ = ⟨dropL st, lost, skip⟩ := by unfold dropT; rw [if_neg (by exact h), if_neg (by exact h2)]

set_option maxHeartbeats 2000000 in
theorem implEmb {X : Nat → Prop} {S : Nat} {top : Option Addr} {s : TS} (w : World) (h : SIn w X S top s) (hne : ∃ x r, s.st = x :: r) (h0 : 0 ≤ s.lost) (h2 : 0 ≤ s.skip) (h3 : s.skip ≤ 1000) :
    Calls Tryz.prog 93 #[.pointer (some ⟨S, 0, none⟩)] w fun e w' => e = .returned (.tuple #[]) ∧ (∃ top', SIn w' X S top' (dropT s)) ∧ w.grownBy w' (some S) := by
  obtain ⟨st, lost, skip⟩ := s
  obtain ⟨x, r, hx⟩ := hne
  simp only at hx h0 h2 h3 h
  subst hx
  have c0 := h.c0
  have c1 := h.c1
  have c2 := h.c2
  have f0 := h.fz 0
  have f2 := h.fz 2
  simp only at c1 c2
  have H : Hid _ := h
  by_cases hp : 0 < lost
  · rw [dropI_lost hp]
    have hp1 : decide (lost > 0) = true := by simpa using hp
    clear h
    go_enter Tryz.func93, Tryz.ntmps93
    go_wp2_with fail
    go_end0
    exact ⟨rfl, ⟨_, H.out⟩, grown_refl _ _⟩
  · have hp1 : decide (lost > 0) = false := by simpa using hp
    by_cases hs : 0 < skip
    · rw [dropI_skip hp hs]
      have hs1 : decide (skip > 0) = true := by simpa using hs
      clear h
      go_enter Tryz.func93, Tryz.ntmps93
      go_wp2_with fail
      go_end0
      exact ⟨rfl, ⟨_, H.out.put2 (skip - 1)⟩, grown_set _ _ _ _⟩
    · rw [dropI_top hp hs]
      have hs1 : decide (skip > 0) = false := by simpa using hs
      obtain ⟨b, nx, e, hb1, hb2, n0, n1, n2, n3, hlk⟩ := h.lk
      simp only [Value.pointer.injEq] at e
      subst e
      obtain ⟨xa, hxa⟩ : ∃ xa, x.alone = xa := ⟨_, rfl⟩
      rw [hxa] at n2
      have HXA : Hid _ := hxa
      have HL : Hid _ := hlk
      have H : Hid _ := h
      clear h hlk hxa
      cases xa
      · cases r with
        | nil =>
          have hn : nx = none := by have := HL.out; simpa [Lk] using this
          subst hn
          go_enter Tryz.func93, Tryz.ntmps93
          go_wp2_with fail
          go_end0
          exact ⟨rfl, ⟨_, H.out⟩, grown_refl _ _⟩
        | cons y r =>
          obtain ⟨b', nx', e', _⟩ := HL.out
          simp only [Value.pointer.injEq] at e'
          subst e'
          have hd2 : dropL (x :: y :: r) = y :: r := by
            show (if x.alone = true then x :: y :: r else y :: r) = _; rw [HXA.out]; simp
          rw [hd2]
          clear hd2
          go_enter Tryz.func93, Tryz.ntmps93
          go_wp2_with fail
          go_end0
          exact ⟨rfl, ⟨_, H.out.put0 HL.out⟩, grown_set _ _ _ _⟩
      · have hd2 : dropL (x :: r) = x :: r := by
          cases r with
          | nil => rfl
          | cons y r => show (if x.alone = true then x :: y :: r else y :: r) = _; rw [HXA.out]; simp
        rw [hd2]
        clear hd2
        go_enter Tryz.func93, Tryz.ntmps93
        go_wp2_with fail
        go_end0
        exact ⟨rfl, ⟨_, H.out⟩, grown_refl _ _⟩

set_option maxHeartbeats 2000000 in
theorem implAlone {X : Nat → Prop} {S : Nat} {top : Option Addr} {s : TS} (w : World) (h : SIn w X S top s) (hlast : hasA s.st = true → ∃ y q, cutA s.st = y :: q) (h0 : 0 ≤ s.lost) (h1 : s.lost ≤ 1000) :
    Calls Tryz.prog 94 #[.pointer (some ⟨S, 0, none⟩)] w fun e w' => e = .returned (.tuple #[]) ∧ (∃ top', SIn w' X S top' (endT s)) ∧ w.grownBy w' (some S) := by
  obtain ⟨st, lost, skip⟩ := s
  have c0 := h.c0
  have c1 := h.c1
  have c2 := h.c2
  have f0 := h.fz 0
  have f1 := h.fz 1
  have f2 := h.fz 2
  simp only at c1 c2 h0 h1 hlast
  have H : Hid _ := h
  have HLA : Hid _ := hlast
  clear hlast
  by_cases hp : 0 < lost
  · rw [endI_lost hp]
    have hp1 : decide (lost > 0) = true := by simpa using hp
    clear h
    go_enter Tryz.func94, Tryz.ntmps94
    go_wp2_with fail
    refine bodyPost_ret (results_none rfl _ _ _) rfl ?_
    exact ⟨rfl, ⟨_, H.out.put1 (lost - 1)⟩, grown_set _ _ _ _⟩
  · have hp1 : decide (lost > 0) = false := by simpa using hp
    obtain ⟨R, hR⟩ : ∃ R, endT ⟨st, lost, skip⟩ = R := ⟨_, rfl⟩
    rw [hR]
    have HR : Hid _ := hR
    have HNP : Hid _ := hp
    clear h hR hp
    go_enter Tryz.func94, Tryz.ntmps94
    go_wp2_with fail
    go_loopg [2] st.length (fun g q wr => w = wr ∧ ∃ (p : Option Addr) (st' : List Tl), q = .pointer p ∧ Hid (Lk w X (.pointer p) st') ∧ st'.length ≤ g ∧ Hid (hasA st' = hasA st ∧ cutA st' = cutA st))
    case atStart => exact ⟨rfl, top, st, rfl, H.out.lk, Nat.le_refl _, rfl, rfl⟩
    case round =>
      obtain ⟨rfl, p, st', rfl, hl, hlen, hc⟩ := hrel
      cases st' with
      | nil =>
        have hn : p = none := by have := hl.out; simpa [Lk] using this
        subst hn
        go_wp2_with fail
        go_end0
        have : R = ⟨st, lost, skip⟩ := by
          rw [← HR.out]; exact endI_none HNP.out (by rw [← hc.out.1]; rfl)
        rw [this]
        exact ⟨rfl, ⟨_, H.out⟩, grown_refl _ _⟩
      | cons x r =>
        obtain ⟨b, nx, e, hb1, hb2, n0, n1, n2, n3, hlk⟩ := hl.out
        simp only [Value.pointer.injEq] at e
        subst e
        obtain ⟨xa, hxa⟩ : ∃ xa, x.alone = xa := ⟨_, rfl⟩
        rw [hxa] at n2
        have HXA : Hid _ := hxa
        have HL : Hid _ := hlk
        have hl1 : r.length + 1 ≤ gk := by simpa using hlen
        clear hlk hxa hlen
        cases xa
        · go_wp2_with fail
          go_roundg (gk - 1)
          case measure => omega
          case rel =>
            refine ⟨rfl, nx, r, rfl, HL.out, by omega, ?_, ?_⟩
            · rw [← hc.out.1]; simp only [hasA]; rw [HXA.out]; rfl
            · rw [← hc.out.2]; simp only [cutA]; rw [HXA.out]; simp
        · have e1 : cutA st = r := by rw [← hc.out.2]; simp only [cutA]; rw [HXA.out]; simp
          have e2 : hasA st = true := by rw [← hc.out.1]; simp only [hasA]; rw [HXA.out]; rfl
          have e3 : R = ⟨r, lost, 0⟩ := by rw [← HR.out, endI_some HNP.out e2, e1]
          obtain ⟨y, q, hyq⟩ := HLA.out e2
          rw [e1] at hyq
          subst hyq
          obtain ⟨b', nx', e', _⟩ := HL.out
          simp only [Value.pointer.injEq] at e'
          subst e'
          have E3 : Hid _ := e3
          have hbS : ¬ S = b := fun e => hb1 (by rw [← e]; exact H.out.isX)
          clear e1 e2 e3
          have H2 : Hid (SIn (w.setCell ⟨S, 2, none⟩ (.int .i64 0)) X S top ⟨st, lost, 0⟩) := H.out.put2 0
          have L2 : Hid (Lk (w.setCell ⟨S, 2, none⟩ (.int .i64 0)) X (.pointer (some ⟨b', 0, none⟩)) (y :: q)) := Lk.kept (by rw [World.size_setCell]; exact Nat.le_refl _) (fun c hx _ => heap_setCell_other w ⟨S, 2, none⟩ c _ (fun e => hx (by rw [e]; exact H.out.isX))) _ _ HL.out
          go_wp2_with fail
          go_end0
          rw [E3.out]
          exact ⟨rfl, ⟨_, H2.out.put0 L2.out⟩, grown_tr (grown_set _ _ _ _) (grown_set _ _ _ _)⟩
end Go.Proofs.YtgojdlbidjnmmaaGreat
