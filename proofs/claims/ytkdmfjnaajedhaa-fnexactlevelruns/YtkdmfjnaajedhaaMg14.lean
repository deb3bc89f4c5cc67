import Derived.Test.YtkdmfjnaajedhaaMg3
import Derived.Test.YtkdmfjnaajedhaaMg13
import Derived.Deep.LoopGhost
import Derived.Test.YtkdmfjnaajedhaaMg8
import Derived.Deep.RegionHeld3
import Derived.RegionTactic
import Derived.BigRegion
namespace Go.Proofs.Ytkdmfjnaajedhaa
open Go.ChangeShapes Go.WideShapes Go.ChangeAt Go.RowKit
set_option linter.unusedSimpArgs false
set_option linter.unusedVariables false

/-- A stack, linked; its nodes lie in none of the blocks X. -/
def Lk (w : World) (X : Nat → Prop) : Value → List Tl → Prop
  | v, [] => v = .pointer none
  | v, x :: r => ∃ (b : Nat) (nx : Option Addr), v = .pointer (some ⟨b, 0, none⟩) ∧ ¬ X b ∧ b < w.heap.size ∧ w.cell? ⟨b, 0, none⟩ = some (.int .i64 x.level) ∧ w.cell? ⟨b, 1, none⟩ = some (.int .i64 x.side) ∧ w.cell? ⟨b, 2, none⟩ = some (.bool x.alone) ∧ w.cell? ⟨b, 3, none⟩ = some (.pointer nx) ∧ Lk w X (.pointer nx) r
theorem Lk.kept {w w' : World} {X : Nat → Prop} (hs : w.heap.size ≤ w'.heap.size) (hb : ∀ b, ¬ X b → b < w.heap.size → w'.heap[b]? = w.heap[b]?) : ∀ (st : List Tl) (v : Value), Lk w X v st → Lk w' X v st := by
  intro st
  induction st with
  | nil => intro v h; exact h
  | cons x r ih =>
    rintro v ⟨b, nx, h1, h2, h3, h4, h5, h6, h7, h8⟩
    have e : ∀ j, w'.cell? ⟨b, j, none⟩ = w.cell? ⟨b, j, none⟩ := fun j => World.cell?_of_block (hb b h2 h3)
    exact ⟨b, nx, h1, h2, by omega, (e 0).trans h4, (e 1).trans h5, (e 2).trans h6, (e 3).trans h7, ih _ h8⟩
theorem Lk.ptr {w : World} {X : Nat → Prop} {v : Value} {st : List Tl} (h : Lk w X v st) : ∃ p, v = .pointer p := by
  cases st with
  | nil => exact ⟨_, h⟩
  | cons x r => obtain ⟨b, nx, h, _⟩ := h; exact ⟨_, h⟩

/-- What levelStack holds in memory. -/
structure SIn (w : World) (X : Nat → Prop) (S : Nat) (top : Option Addr) (s : TS) : Prop where
  lt : S < w.heap.size
  isX : X S
  xlt : ∀ b, X b → b < w.heap.size
  c0 : w.cell? ⟨S, 0, none⟩ = some (.pointer top)
  c1 : w.cell? ⟨S, 1, none⟩ = some (.int .i64 s.lost)
  c2 : w.cell? ⟨S, 2, none⟩ = some (.int .i64 s.skip)
  fz : ∀ j, w.frozen? ⟨S, j, none⟩ = false
  lk : Lk w X (.pointer top) s.st
theorem setI_same {w : World} {b i : Nat} {x u : Value} (h : w.cell? ⟨b, i, none⟩ = some u) : (w.setCell ⟨b, i, none⟩ x).cell? ⟨b, i, none⟩ = some x := World.cell?_setCell_same _ _ _ h
theorem setI_diff {w : World} {b i j : Nat} {x v : Value} (hne : i ≠ j) (h : w.cell? ⟨b, j, none⟩ = some v) : (w.setCell ⟨b, i, none⟩ x).cell? ⟨b, j, none⟩ = some v := by
  rw [World.cell?_setCell_other _ _ _ _ (by intro e; apply hne; injection e)]; exact h
section
variable {w w' : World} {X : Nat → Prop} {S : Nat} {top : Option Addr} {s : TS}
theorem SIn.kept (h : SIn w X S top s) (hs : w.heap.size ≤ w'.heap.size) (hb : ∀ b, (¬ X b ∨ b = S) → b < w.heap.size → w'.heap[b]? = w.heap[b]?) : SIn w' X S top s := by
  have hS := hb S (.inr rfl) h.lt
  have e : ∀ j, w'.cell? ⟨S, j, none⟩ = w.cell? ⟨S, j, none⟩ := fun j => World.cell?_of_block hS
  exact ⟨Nat.lt_of_lt_of_le h.lt hs, h.isX, fun b hb => Nat.lt_of_lt_of_le (h.xlt b hb) hs, (e 0).trans h.c0, (e 1).trans h.c1, (e 2).trans h.c2, fun j => (World.frozen?_of_block hS).trans (h.fz j), Lk.kept hs (fun b hx hl => hb b (.inl hx) hl) _ _ h.lk⟩
theorem SIn.below (h : SIn w X S top s) (hb : Below w.heap.size w w') : SIn w' X S top s := h.kept hb.size (fun b _ hl => hb.block b hl)
theorem SIn.put {j : Nat} {x : Value} {top' : Option Addr} {s' : TS} (h : SIn w X S top s) (e0 : (w.setCell ⟨S, j, none⟩ x).cell? ⟨S, 0, none⟩ = some (.pointer top')) (e1 : (w.setCell ⟨S, j, none⟩ x).cell? ⟨S, 1, none⟩ = some (.int .i64 s'.lost)) (e2 : (w.setCell ⟨S, j, none⟩ x).cell? ⟨S, 2, none⟩ = some (.int .i64 s'.skip)) (hl : Lk w X (.pointer top') s'.st) :
    SIn (w.setCell ⟨S, j, none⟩ x) X S top' s' :=
  ⟨by rw [World.size_setCell]; exact h.lt, h.isX, fun b hb => by rw [World.size_setCell]; exact h.xlt b hb, e0, e1, e2, fun q => by rw [World.frozen?_setCell]; exact h.fz q,
    Lk.kept (by rw [World.size_setCell]; exact Nat.le_refl _) (fun b hx _ => heap_setCell_other w ⟨S, j, none⟩ b x (fun e => hx (by rw [e]; exact h.isX))) _ _ hl⟩
theorem SIn.put1 {st : List Tl} {lost skip : Int} (h : SIn w X S top ⟨st, lost, skip⟩) (x : Int) : SIn (w.setCell ⟨S, 1, none⟩ (.int .i64 x)) X S top ⟨st, x, skip⟩ :=
  h.put (setI_diff (by omega) h.c0) (setI_same h.c1) (setI_diff (by omega) h.c2) h.lk
theorem SIn.put2 {st : List Tl} {lost skip : Int} (h : SIn w X S top ⟨st, lost, skip⟩) (x : Int) : SIn (w.setCell ⟨S, 2, none⟩ (.int .i64 x)) X S top ⟨st, lost, x⟩ :=
  h.put (setI_diff (by omega) h.c0) (setI_diff (by omega) h.c1) (setI_same h.c2) h.lk
theorem SIn.put0 {st st' : List Tl} {lost skip : Int} {top' : Option Addr} (h : SIn w X S top ⟨st, lost, skip⟩) (hl : Lk w X (.pointer top') st') : SIn (w.setCell ⟨S, 0, none⟩ (.pointer top')) X S top' ⟨st', lost, skip⟩ :=
  h.put (setI_same h.c0) (setI_diff (by omega) h.c1) (setI_diff (by omega) h.c2) hl
end
/-- Nothing but one block has turned. -/
theorem grown_set (w : World) (S j : Nat) (x : Value) : w.grownBy (w.setCell ⟨S, j, none⟩ x) (some S) :=
  ⟨rfl, rfl, rfl, by rw [World.size_setCell]; exact Nat.le_refl _, fun k _ hk => heap_setCell_other w ⟨S, j, none⟩ k x (fun e => hk (by rw [e]))⟩
theorem grown_refl (w : World) (r : Option Nat) : w.grownBy w r := ⟨rfl, rfl, rfl, Nat.le_refl _, fun _ _ _ => rfl⟩
theorem grown_tr {a b c : World} {r : Option Nat} (h : a.grownBy b r) (k : b.grownBy c r) : a.grownBy c r :=
  ⟨k.os.trans h.os, k.tape.trans h.tape, k.output.trans h.output, Nat.le_trans h.size k.size, fun i hi hne => (k.block i (Nat.lt_of_lt_of_le hi h.size) hne).trans (h.block i hi hne)⟩

set_option maxHeartbeats 1000000 in
theorem implSideOf (c : Int) (w : World) (h0 : 0 ≤ c) : Calls Try.prog 78 #[.int .i64 c] w fun e w' => e = .returned (.int .i64 (ownOf c)) ∧ w' = w := by
  go_enter Try.func78, Try.ntmps78
  go_wp2
  all_goals (go_ret; refine ⟨retInt ?_, rfl⟩)
  all_goals (try simp only [beq_iff_eq, beq_eq_false_iff_ne, ne_eq, decide_eq_true_eq, decide_eq_false_iff_not] at *)
  all_goals (unfold ownOf)
  all_goals (repeat (first | rfl | rw [if_pos (by omega)] | rw [if_neg (by omega)]))

theorem endI_lost {st : List Tl} {lost skip : Int} (h : 0 < lost) : endT ⟨st, lost, skip⟩ = ⟨st, lost - 1, skip⟩ := by unfold endT; exact if_pos h
theorem endI_none {st : List Tl} {lost skip : Int} (h : ¬ 0 < lost) (ha : hasA st = false) : endT ⟨st, lost, skip⟩ = ⟨st, lost, skip⟩ := by
  unfold endT; rw [if_neg (by exact h), if_neg (by show ¬ hasA st = true; rw [ha]; simp)]
theorem endI_some {st : List Tl} {lost skip : Int} (h : ¬ 0 < lost) (ha : hasA st = true) : endT ⟨st, lost, skip⟩ = ⟨cutA st, lost, 0⟩ := by
  unfold endT; rw [if_neg (by exact h), if_pos (by exact ha)]
theorem dropI_lost {st : List Tl} {lost skip : Int} (h : 0 < lost) : dropT ⟨st, lost, skip⟩ = ⟨st, lost, skip⟩ := by unfold dropT; exact if_pos h
theorem dropI_skip {st : List Tl} {lost skip : Int} (h : ¬ 0 < lost) (h2 : 0 < skip) : dropT ⟨st, lost, skip⟩ = ⟨st, lost, skip - 1⟩ := by unfold dropT; rw [if_neg (by exact h)]; exact if_pos h2
theorem dropI_top {st : List Tl} {lost skip : Int} (h : ¬ 0 < lost) (h2 : ¬ 0 < skip) : dropT ⟨st, lost, skip⟩ = ⟨dropL st, lost, skip⟩ := by unfold dropT; rw [if_neg (by exact h), if_neg (by exact h2)]

set_option maxHeartbeats 2000000 in
theorem implEmb {X : Nat → Prop} {S : Nat} {top : Option Addr} {s : TS} (w : World) (h : SIn w X S top s) (hne : ∃ x r, s.st = x :: r) (h0 : 0 ≤ s.lost) (h2 : 0 ≤ s.skip) (h3 : s.skip ≤ 1000) :
    Calls Try.prog 60 #[.pointer (some ⟨S, 0, none⟩)] w fun e w' => e = .returned (.tuple #[]) ∧ (∃ top', SIn w' X S top' (dropT s)) ∧ w.grownBy w' (some S) := by
  obtain ⟨st, lost, skip⟩ := s
  obtain ⟨x, r, hx⟩ := hne
  simp only at hx h0 h2 h3 h
  subst hx
  have c0 := h.c0
  have c1 := h.c1
  have c2 := h.c2
  have f0 := h.fz 0
  have f2 := h.fz 2
  simp only at c1 c2
  have H : Hid _ := h
  by_cases hp : 0 < lost
  · rw [dropI_lost hp]
    have hp1 : decide (lost > 0) = true := by simpa using hp
    clear h
    go_enter Try.func60, Try.ntmps60
    go_wp2_with fail
    go_end0
    exact ⟨rfl, ⟨_, H.out⟩, grown_refl _ _⟩
  · have hp1 : decide (lost > 0) = false := by simpa using hp
    by_cases hs : 0 < skip
    · rw [dropI_skip hp hs]
      have hs1 : decide (skip > 0) = true := by simpa using hs
      clear h
      go_enter Try.func60, Try.ntmps60
      go_wp2_with fail
      go_end0
      exact ⟨rfl, ⟨_, H.out.put2 (skip - 1)⟩, grown_set _ _ _ _⟩
    · rw [dropI_top hp hs]
      have hs1 : decide (skip > 0) = false := by simpa using hs
      obtain ⟨b, nx, e, hb1, hb2, n0, n1, n2, n3, hlk⟩ := h.lk
      simp only [Value.pointer.injEq] at e
      subst e
      obtain ⟨xa, hxa⟩ : ∃ xa, x.alone = xa := ⟨_, rfl⟩
      rw [hxa] at n2
      have HXA : Hid _ := hxa
      have HL : Hid _ := hlk
      have H : Hid _ := h
      clear h hlk hxa
      cases xa
      · cases r with
        | nil =>
          have hn : nx = none := by have := HL.out; simpa [Lk] using this
          subst hn
          go_enter Try.func60, Try.ntmps60
          go_wp2_with fail
          go_end0
          exact ⟨rfl, ⟨_, H.out⟩, grown_refl _ _⟩
        | cons y r =>
          obtain ⟨b', nx', e', _⟩ := HL.out
          simp only [Value.pointer.injEq] at e'
          subst e'
          have hd2 : dropL (x :: y :: r) = y :: r := by
            show (if x.alone = true then x :: y :: r else y :: r) = _; rw [HXA.out]; simp
          rw [hd2]
          clear hd2
          go_enter Try.func60, Try.ntmps60
          go_wp2_with fail
          go_end0
          exact ⟨rfl, ⟨_, H.out.put0 HL.out⟩, grown_set _ _ _ _⟩
      · have hd2 : dropL (x :: r) = x :: r := by
          cases r with
          | nil => rfl
          | cons y r => show (if x.alone = true then x :: y :: r else y :: r) = _; rw [HXA.out]; simp
        rw [hd2]
        clear hd2
        go_enter Try.func60, Try.ntmps60
        go_wp2_with fail
        go_end0
        exact ⟨rfl, ⟨_, H.out⟩, grown_refl _ _⟩

set_option maxHeartbeats 2000000 in
theorem implAlone {X : Nat → Prop} {S : Nat} {top : Option Addr} {s : TS} (w : World) (h : SIn w X S top s) (hlast : hasA s.st = true → ∃ y q, cutA s.st = y :: q) (h0 : 0 ≤ s.lost) (h1 : s.lost ≤ 1000) :
    Calls Try.prog 61 #[.pointer (some ⟨S, 0, none⟩)] w fun e w' => e = .returned (.tuple #[]) ∧ (∃ top', SIn w' X S top' (endT s)) ∧ w.grownBy w' (some S) := by
  obtain ⟨st, lost, skip⟩ := s
  have c0 := h.c0
  have c1 := h.c1
  have c2 := h.c2
  have f0 := h.fz 0
  have f1 := h.fz 1
  have f2 := h.fz 2
  simp only at c1 c2 h0 h1 hlast
  have H : Hid _ := h
  have HLA : Hid _ := hlast
  clear hlast
  by_cases hp : 0 < lost
  · rw [endI_lost hp]
    have hp1 : decide (lost > 0) = true := by simpa using hp
    clear h
    go_enter Try.func61, Try.ntmps61
    go_wp2_with fail
    refine bodyPost_ret (results_none rfl _ _ _) rfl ?_
    exact ⟨rfl, ⟨_, H.out.put1 (lost - 1)⟩, grown_set _ _ _ _⟩
  · have hp1 : decide (lost > 0) = false := by simpa using hp
    obtain ⟨R, hR⟩ : ∃ R, endT ⟨st, lost, skip⟩ = R := ⟨_, rfl⟩
    rw [hR]
    have HR : Hid _ := hR
    have HNP : Hid _ := hp
    clear h hR hp
    go_enter Try.func61, Try.ntmps61
    go_wp2_with fail
    go_loopg [2] st.length (fun g q wr => w = wr ∧ ∃ (p : Option Addr) (st' : List Tl), q = .pointer p ∧ Hid (Lk w X (.pointer p) st') ∧ st'.length ≤ g ∧ Hid (hasA st' = hasA st ∧ cutA st' = cutA st))
    case atStart => exact ⟨rfl, top, st, rfl, H.out.lk, Nat.le_refl _, rfl, rfl⟩
    case round =>
      obtain ⟨rfl, p, st', rfl, hl, hlen, hc⟩ := hrel
      cases st' with
      | nil =>
        have hn : p = none := by have := hl.out; simpa [Lk] using this
        subst hn
        go_wp2_with fail
        go_end0
        have : R = ⟨st, lost, skip⟩ := by
          rw [← HR.out]; exact endI_none HNP.out (by rw [← hc.out.1]; rfl)
        rw [this]
        exact ⟨rfl, ⟨_, H.out⟩, grown_refl _ _⟩
      | cons x r =>
        obtain ⟨b, nx, e, hb1, hb2, n0, n1, n2, n3, hlk⟩ := hl.out
        simp only [Value.pointer.injEq] at e
        subst e
        obtain ⟨xa, hxa⟩ : ∃ xa, x.alone = xa := ⟨_, rfl⟩
        rw [hxa] at n2
        have HXA : Hid _ := hxa
        have HL : Hid _ := hlk
        have hl1 : r.length + 1 ≤ gk := by simpa using hlen
        clear hlk hxa hlen
        cases xa
        · go_wp2_with fail
          go_roundg (gk - 1)
          case measure => omega
          case rel =>
            refine ⟨rfl, nx, r, rfl, HL.out, by omega, ?_, ?_⟩
            · rw [← hc.out.1]; simp only [hasA]; rw [HXA.out]; rfl
            · rw [← hc.out.2]; simp only [cutA]; rw [HXA.out]; simp
        · have e1 : cutA st = r := by rw [← hc.out.2]; simp only [cutA]; rw [HXA.out]; simp
          have e2 : hasA st = true := by rw [← hc.out.1]; simp only [hasA]; rw [HXA.out]; rfl
          have e3 : R = ⟨r, lost, 0⟩ := by rw [← HR.out, endI_some HNP.out e2, e1]
          obtain ⟨y, q, hyq⟩ := HLA.out e2
          rw [e1] at hyq
          subst hyq
          obtain ⟨b', nx', e', _⟩ := HL.out
          simp only [Value.pointer.injEq] at e'
          subst e'
          have E3 : Hid _ := e3
          have hbS : ¬ S = b := fun e => hb1 (by rw [← e]; exact H.out.isX)
          clear e1 e2 e3
          have H2 : Hid (SIn (w.setCell ⟨S, 2, none⟩ (.int .i64 0)) X S top ⟨st, lost, 0⟩) := H.out.put2 0
          have L2 : Hid (Lk (w.setCell ⟨S, 2, none⟩ (.int .i64 0)) X (.pointer (some ⟨b', 0, none⟩)) (y :: q)) := Lk.kept (by rw [World.size_setCell]; exact Nat.le_refl _) (fun c hx _ => heap_setCell_other w ⟨S, 2, none⟩ c _ (fun e => hx (by rw [e]; exact H.out.isX))) _ _ HL.out
          go_wp2_with fail
          go_end0
          rw [E3.out]
          exact ⟨rfl, ⟨_, H2.out.put0 L2.out⟩, grown_tr (grown_set _ _ _ _) (grown_set _ _ _ _)⟩
end Go.Proofs.Ytkdmfjnaajedhaa
namespace Go.Proofs.Ytkdmfjnaajedhaa
open Go.ChangeShapes Go.WideShapes Go.ChangeAt Go.RowKit
set_option linter.unusedSimpArgs false
set_option linter.unusedVariables false

/-- The number by which the side of what begins is told. -/
def dirOf (right : Bool) : Int := if right = true then 2 else 1
theorem up_dir (t : Int) (right : Bool) : upL t right = if ownOf (t + 1) = dirOf right then t + 1 else t + 1 + 1 := by
  rw [show t + 1 + 1 = t + 2 by omega]
  unfold upL ownOf dirOf
  cases right
  · by_cases h : t % 2 = 0
    · rw [if_neg (by simp [h]), if_neg (by rw [if_neg (by omega)]; simp)]
    · rw [if_pos (by simp [h]), if_pos (by rw [if_pos (by omega)]; simp)]
  · by_cases h : t % 2 = 0
    · rw [if_pos (by simp [h]), if_pos (by rw [if_neg (by omega)]; simp)]
    · rw [if_neg (by simp [h]), if_neg (by rw [if_pos (by omega)]; simp)]
theorem pushI_yes {st : List Tl} {lost skip : Int} {right : Bool} (side : Int) (alone : Bool) {u : Int} (hu : upL (topL st) right = u) (h1 : u ≤ 20) (h2 : lost = 0) (h3 : skip = 0) : pushT ⟨st, lost, skip⟩ right side alone = ⟨⟨u, side, alone⟩ :: st, lost, skip⟩ := by
  subst hu; unfold pushT; rw [if_pos ⟨h1, h2, h3⟩]
theorem pushI_no {st : List Tl} {lost skip : Int} {right : Bool} (side : Int) (alone : Bool) {u : Int} (hu : upL (topL st) right = u) (h : 20 < u ∨ lost ≠ 0 ∨ skip ≠ 0) : pushT ⟨st, lost, skip⟩ right side alone = if alone = true then ⟨st, lost + 1, skip⟩ else if lost = 0 then ⟨st, lost, skip + 1⟩ else ⟨st, lost, skip⟩ := by
  subst hu; unfold pushT; rw [if_neg (by show ¬ (upL (topL st) right ≤ 20 ∧ lost = 0 ∧ skip = 0); omega)]
theorem SIn.push {w w' : World} {X : Nat → Prop} {S b : Nat} {top : Option Addr} {st : List Tl} {lost skip : Int} {x : Tl} (h : SIn w' X S top ⟨st, lost, skip⟩) (hx : ¬ X b) (hb : b < w'.heap.size) (n0 : w'.cell? ⟨b, 0, none⟩ = some (.int .i64 x.level)) (n1 : w'.cell? ⟨b, 1, none⟩ = some (.int .i64 x.side)) (n2 : w'.cell? ⟨b, 2, none⟩ = some (.bool x.alone)) (n3 : w'.cell? ⟨b, 3, none⟩ = some (.pointer top)) :
    SIn (w'.setCell ⟨S, 0, none⟩ (.pointer (some ⟨b, 0, none⟩))) X S (some ⟨b, 0, none⟩) ⟨x :: st, lost, skip⟩ :=
  h.put0 ⟨b, top, rfl, hx, hb, n0, n1, n2, n3, h.lk⟩

set_option maxHeartbeats 4000000 in
theorem implPush {X : Nat → Prop} {S : Nat} {top : Option Addr} {s : TS} (w : World) (h : SIn w X S top s) (hne : ∃ x r, s.st = x :: r) (ht0 : 0 ≤ topL s.st) (ht1 : topL s.st ≤ 100) (hl0 : 0 ≤ s.lost) (hl1 : s.lost ≤ 1000) (hs0 : 0 ≤ s.skip) (hs1 : s.skip ≤ 1000) (right : Bool) (side : Int) (alone : Bool) (l0 : Int) (d : Int) (hd : d = dirOf right) :
    Calls Try.prog 59 #[.pointer (some ⟨S, 0, none⟩), .agg #[.int .i64 l0, .int .i64 side, .bool alone, .pointer none], .int .i64 d] w fun e w' => e = .returned (.tuple #[]) ∧ (∃ top', SIn w' X S top' (pushT s right side alone)) ∧ w.grownBy w' (some S) := by
  obtain ⟨st, lost, skip⟩ := s
  obtain ⟨x, r, hx⟩ := hne
  simp only at hx hl0 hl1 hs0 hs1 ht0 ht1 h
  subst hx
  have ht : topL (x :: r) = x.level := rfl
  rw [ht] at ht0 ht1
  obtain ⟨b, nx, e, hb1, hb2, n0, n1, n2, n3, hlk⟩ := h.lk
  simp only [Value.pointer.injEq] at e
  subst e
  obtain ⟨t, htt⟩ : ∃ t, x.level = t := ⟨_, rfl⟩
  rw [htt] at n0 ht0 ht1
  obtain ⟨u, hu⟩ : ∃ u, upL (topL (x :: r)) right = u := ⟨_, rfl⟩
  have hu2 := hu
  rw [ht, htt, up_dir, ← hd] at hu2
  have HU : Hid _ := hu
  have c0 := h.c0
  have c1 := h.c1
  have c2 := h.c2
  simp only at c1 c2
  have f0 := h.fz 0
  have f1 := h.fz 1
  have f2 := h.fz 2
  have hSl := h.lt
  have H : Hid _ := h
  have HD : Hid _ := hd
  have hsz : ¬ w.heap.size = S := by omega
  have hbz : ¬ w.heap.size = b := by omega
  obtain ⟨o, ho⟩ : ∃ o, ownOf (t + 1) = o := ⟨_, rfl⟩
  rw [ho] at hu2
  have HO : Hid _ := ho
  have hsz2 : ¬ S = w.heap.size := by omega
  have hbz2 : ¬ b = w.heap.size := by omega
  clear h hlk hu ht htt hd ho n1 n2 n3
  have hfin : ∀ P : Option Addr, SIn (w.alloc (.cells #[.int .i64 u, .int .i64 side, .bool alone, .pointer P] 59)) X S (some ⟨b, 0, none⟩) ⟨x :: r, lost, skip⟩ := fun P => H.out.below ((Below.refl _ _).alloc (Nat.le_refl _) _)
  have HF : Hid _ := hfin
  have finV : u ≤ 20 → lost = 0 → skip = 0 → Hid ((∃ top', SIn ((w.setCell ⟨S, 0, none⟩ (.pointer (some ⟨w.heap.size, 0, none⟩))).alloc (.cells #[.int .i64 u, .int .i64 side, .bool alone, .pointer (some ⟨b, 0, none⟩)] 59)) X S top' (pushT ⟨x :: r, lost, skip⟩ right side alone)) ∧ w.grownBy ((w.setCell ⟨S, 0, none⟩ (.pointer (some ⟨w.heap.size, 0, none⟩))).alloc (.cells #[.int .i64 u, .int .i64 side, .bool alone, .pointer (some ⟨b, 0, none⟩)] 59)) (some S)) := fun a1 a2 a3 => by
    unfold Hid
    rw [← World.setCell_alloc_past _ _ _ _ hSl, pushI_yes side alone HU.out a1 a2 a3]
    refine ⟨⟨_, SIn.push (x := ⟨u, side, alone⟩) (w := w) (HF.out _) (fun hx => by have := H.out.xlt _ hx; omega) (by simp) (by go_simp) (by go_simp) (by go_simp) (by go_simp)⟩, grown_tr (World.grownBy_alloc w _ _) (grown_set _ _ _ _)⟩
  have hno := fun hh => pushI_no (st := x :: r) (lost := lost) (skip := skip) (right := right) side alone HU.out hh
  have HNO : Hid _ := hno
  clear hno hfin
  have fin1 : (20 < u ∨ lost ≠ 0 ∨ skip ≠ 0) → alone = true → Hid ((∃ top', SIn ((w.setCell ⟨S, 1, none⟩ (.int .i64 (lost + 1))).alloc (.cells #[.int .i64 u, .int .i64 side, .bool alone, .pointer none] 59)) X S top' (pushT ⟨x :: r, lost, skip⟩ right side alone)) ∧ w.grownBy ((w.setCell ⟨S, 1, none⟩ (.int .i64 (lost + 1))).alloc (.cells #[.int .i64 u, .int .i64 side, .bool alone, .pointer none] 59)) (some S)) := fun hh ha => by
    unfold Hid
    rw [← World.setCell_alloc_past _ _ _ _ hSl, HNO.out hh, if_pos ha]
    exact ⟨⟨_, (HF.out none).put1 (lost + 1)⟩, grown_tr (World.grownBy_alloc w _ _) (grown_set _ _ _ _)⟩
  have fin2 : (20 < u ∨ lost ≠ 0 ∨ skip ≠ 0) → alone = false → lost = 0 → Hid ((∃ top', SIn ((w.setCell ⟨S, 2, none⟩ (.int .i64 (skip + 1))).alloc (.cells #[.int .i64 u, .int .i64 side, .bool alone, .pointer none] 59)) X S top' (pushT ⟨x :: r, lost, skip⟩ right side alone)) ∧ w.grownBy ((w.setCell ⟨S, 2, none⟩ (.int .i64 (skip + 1))).alloc (.cells #[.int .i64 u, .int .i64 side, .bool alone, .pointer none] 59)) (some S)) := fun hh ha h0 => by
    unfold Hid
    rw [← World.setCell_alloc_past _ _ _ _ hSl, HNO.out hh, if_neg (by rw [ha]; simp), if_pos h0]
    exact ⟨⟨_, (HF.out none).put2 (skip + 1)⟩, grown_tr (World.grownBy_alloc w _ _) (grown_set _ _ _ _)⟩
  have fin0 : (20 < u ∨ lost ≠ 0 ∨ skip ≠ 0) → alone = false → lost ≠ 0 → Hid ((∃ top', SIn (w.alloc (.cells #[.int .i64 u, .int .i64 side, .bool alone, .pointer none] 59)) X S top' (pushT ⟨x :: r, lost, skip⟩ right side alone)) ∧ w.grownBy (w.alloc (.cells #[.int .i64 u, .int .i64 side, .bool alone, .pointer none] 59)) (some S)) := fun hh ha h0 => by
    unfold Hid
    rw [HNO.out hh, if_neg (by rw [ha]; simp), if_neg h0]
    exact ⟨⟨_, HF.out none⟩, World.grownBy_alloc w _ _⟩
  have FV : Hid _ := finV
  have F1 : Hid _ := fin1
  have F2 : Hid _ := fin2
  have F0 : Hid _ := fin0
  clear finV fin1 fin2 fin0
  have key : (u ≤ 20 ∧ decide (u ≤ 20) = true ∧ lost = 0 ∧ (lost == 0) = true ∧ skip = 0 ∧ (skip == 0) = true) ∨ (20 < u ∧ decide (u ≤ 20) = false ∧ lost = 0 ∧ (lost == 0) = true) ∨ (20 < u ∧ decide (u ≤ 20) = false ∧ lost ≠ 0 ∧ (lost == 0) = false) ∨ (u ≤ 20 ∧ decide (u ≤ 20) = true ∧ lost ≠ 0 ∧ (lost == 0) = false) ∨ (u ≤ 20 ∧ decide (u ≤ 20) = true ∧ lost = 0 ∧ (lost == 0) = true ∧ skip ≠ 0 ∧ (skip == 0) = false) := by
    by_cases a : 20 < u
    · by_cases q : lost = 0
      · exact .inr (.inl ⟨a, by simpa using a, q, by simpa using q⟩)
      · exact .inr (.inr (.inl ⟨a, by simpa using a, q, by simpa using q⟩))
    · by_cases q : lost = 0
      · by_cases z : skip = 0
        · exact .inl ⟨by omega, by simp; omega, q, by simpa using q, z, by simpa using z⟩
        · exact .inr (.inr (.inr (.inr ⟨by omega, by simp; omega, q, by simpa using q, z, by simpa using z⟩)))
      · exact .inr (.inr (.inr (.inl ⟨by omega, by simp; omega, q, by simpa using q⟩)))
  by_cases hod : o = d
  · have ho1 : (o != d) = false := by simpa using hod
    rw [if_pos hod] at hu2
    subst hu2
    have HOD : Hid _ := hod
    clear hod
    rcases key with ⟨k1, k2, k3, k4, k5, k6⟩ | ⟨k1, k2, k3, k4⟩ | ⟨k1, k2, k3, k4⟩ | ⟨k1, k2, k3, k4⟩ | ⟨k1, k2, k3, k4, k5, k6⟩
    · have K3 : Hid _ := k3
      have K5 : Hid _ := k5
      clear k3 k5
      go_enter Try.func59, Try.ntmps59
      go_wp2_with (go_at_call 78; refine (implSideOf _ _ (by omega)).mono ?_; rintro e w1 ⟨rfl, rfl⟩; rw [HO.out])
      go_end0
      exact ⟨rfl, (FV.out k1 K3.out K5.out).out⟩
    · have K3 : Hid _ := k3
      clear k3
      cases alone
      · go_enter Try.func59, Try.ntmps59
        go_wp2_with (go_at_call 78; refine (implSideOf _ _ (by omega)).mono ?_; rintro e w1 ⟨rfl, rfl⟩; rw [HO.out])
        go_end0
        exact ⟨rfl, (F2.out (.inl k1) (by simp) K3.out).out⟩
      · go_enter Try.func59, Try.ntmps59
        go_wp2_with (go_at_call 78; refine (implSideOf _ _ (by omega)).mono ?_; rintro e w1 ⟨rfl, rfl⟩; rw [HO.out])
        go_end0
        exact ⟨rfl, (F1.out (.inl k1) (by simp)).out⟩
    · have K3 : Hid _ := k3
      clear k3
      cases alone
      · go_enter Try.func59, Try.ntmps59
        go_wp2_with (go_at_call 78; refine (implSideOf _ _ (by omega)).mono ?_; rintro e w1 ⟨rfl, rfl⟩; rw [HO.out])
        go_end0
        exact ⟨rfl, (F0.out (.inl k1) (by simp) K3.out).out⟩
      · go_enter Try.func59, Try.ntmps59
        go_wp2_with (go_at_call 78; refine (implSideOf _ _ (by omega)).mono ?_; rintro e w1 ⟨rfl, rfl⟩; rw [HO.out])
        go_end0
        exact ⟨rfl, (F1.out (.inl k1) (by simp)).out⟩
    · have K3 : Hid _ := k3
      clear k3
      cases alone
      · go_enter Try.func59, Try.ntmps59
        go_wp2_with (go_at_call 78; refine (implSideOf _ _ (by omega)).mono ?_; rintro e w1 ⟨rfl, rfl⟩; rw [HO.out])
        go_end0
        exact ⟨rfl, (F0.out (.inr (.inl K3.out)) (by simp) K3.out).out⟩
      · go_enter Try.func59, Try.ntmps59
        go_wp2_with (go_at_call 78; refine (implSideOf _ _ (by omega)).mono ?_; rintro e w1 ⟨rfl, rfl⟩; rw [HO.out])
        go_end0
        exact ⟨rfl, (F1.out (.inr (.inl K3.out)) (by simp)).out⟩
    · have K3 : Hid _ := k3
      have K5 : Hid _ := k5
      clear k3 k5
      cases alone
      · go_enter Try.func59, Try.ntmps59
        go_wp2_with (go_at_call 78; refine (implSideOf _ _ (by omega)).mono ?_; rintro e w1 ⟨rfl, rfl⟩; rw [HO.out])
        go_end0
        exact ⟨rfl, (F2.out (.inr (.inr K5.out)) (by simp) K3.out).out⟩
      · go_enter Try.func59, Try.ntmps59
        go_wp2_with (go_at_call 78; refine (implSideOf _ _ (by omega)).mono ?_; rintro e w1 ⟨rfl, rfl⟩; rw [HO.out])
        go_end0
        exact ⟨rfl, (F1.out (.inr (.inr K5.out)) (by simp)).out⟩
  · have ho1 : (o != d) = true := by simpa using hod
    rw [if_neg hod] at hu2
    subst hu2
    have HOD : Hid _ := hod
    clear hod
    rcases key with ⟨k1, k2, k3, k4, k5, k6⟩ | ⟨k1, k2, k3, k4⟩ | ⟨k1, k2, k3, k4⟩ | ⟨k1, k2, k3, k4⟩ | ⟨k1, k2, k3, k4, k5, k6⟩
    · have K3 : Hid _ := k3
      have K5 : Hid _ := k5
      clear k3 k5
      go_enter Try.func59, Try.ntmps59
      go_wp2_with (go_at_call 78; refine (implSideOf _ _ (by omega)).mono ?_; rintro e w1 ⟨rfl, rfl⟩; rw [HO.out])
      go_end0
      exact ⟨rfl, (FV.out k1 K3.out K5.out).out⟩
    · have K3 : Hid _ := k3
      clear k3
      cases alone
      · go_enter Try.func59, Try.ntmps59
        go_wp2_with (go_at_call 78; refine (implSideOf _ _ (by omega)).mono ?_; rintro e w1 ⟨rfl, rfl⟩; rw [HO.out])
        go_end0
        exact ⟨rfl, (F2.out (.inl k1) (by simp) K3.out).out⟩
      · go_enter Try.func59, Try.ntmps59
        go_wp2_with (go_at_call 78; refine (implSideOf _ _ (by omega)).mono ?_; rintro e w1 ⟨rfl, rfl⟩; rw [HO.out])
        go_end0
        exact ⟨rfl, (F1.out (.inl k1) (by simp)).out⟩
    · have K3 : Hid _ := k3
      clear k3
      cases alone
      · go_enter Try.func59, Try.ntmps59
        go_wp2_with (go_at_call 78; refine (implSideOf _ _ (by omega)).mono ?_; rintro e w1 ⟨rfl, rfl⟩; rw [HO.out])
        go_end0
        exact ⟨rfl, (F0.out (.inl k1) (by simp) K3.out).out⟩
      · go_enter Try.func59, Try.ntmps59
        go_wp2_with (go_at_call 78; refine (implSideOf _ _ (by omega)).mono ?_; rintro e w1 ⟨rfl, rfl⟩; rw [HO.out])
        go_end0
        exact ⟨rfl, (F1.out (.inl k1) (by simp)).out⟩
    · have K3 : Hid _ := k3
      clear k3
      cases alone
      · go_enter Try.func59, Try.ntmps59
        go_wp2_with (go_at_call 78; refine (implSideOf _ _ (by omega)).mono ?_; rintro e w1 ⟨rfl, rfl⟩; rw [HO.out])
        go_end0
        exact ⟨rfl, (F0.out (.inr (.inl K3.out)) (by simp) K3.out).out⟩
      · go_enter Try.func59, Try.ntmps59
        go_wp2_with (go_at_call 78; refine (implSideOf _ _ (by omega)).mono ?_; rintro e w1 ⟨rfl, rfl⟩; rw [HO.out])
        go_end0
        exact ⟨rfl, (F1.out (.inr (.inl K3.out)) (by simp)).out⟩
    · have K3 : Hid _ := k3
      have K5 : Hid _ := k5
      clear k3 k5
      cases alone
      · go_enter Try.func59, Try.ntmps59
        go_wp2_with (go_at_call 78; refine (implSideOf _ _ (by omega)).mono ?_; rintro e w1 ⟨rfl, rfl⟩; rw [HO.out])
        go_end0
        exact ⟨rfl, (F2.out (.inr (.inr K5.out)) (by simp) K3.out).out⟩
      · go_enter Try.func59, Try.ntmps59
        go_wp2_with (go_at_call 78; refine (implSideOf _ _ (by omega)).mono ?_; rintro e w1 ⟨rfl, rfl⟩; rw [HO.out])
        go_end0
        exact ⟨rfl, (F1.out (.inr (.inr K5.out)) (by simp)).out⟩
end Go.Proofs.Ytkdmfjnaajedhaa
namespace Go.Proofs.Ytkdmfjnaajedhaa
open Go.ChangeShapes Go.WideShapes Go.ChangeAt Go.RowKit
set_option linter.unusedSimpArgs false
set_option linter.unusedVariables false


/-- Letters, their mates: what does not turn. -/
structure LIn (w : World) (n gm om cm gq oq cq : Nat) (cs M : List Int) : Prop where
  lm : gm < w.heap.size
  lq : gq < w.heap.size
  am : At w gm om cs
  aq : At w gq oq M
/-- What toldText and levelStack hold in memory. -/
structure TIn (w : World) (B T S gm gq gl gc n : Nat) (base : Int) (cs M lv cls : List Int) (top : Option Addr) (s : TS) : Prop where
  ge : B ≤ T
  lt : T < w.heap.size
  c0 : w.cell? ⟨T, 0, none⟩ = some (.int .i64 base)
  c1 : w.cell? ⟨T, 1, none⟩ = some (.slice (some ⟨gm, 0, none⟩) n n)
  c2 : w.cell? ⟨T, 2, none⟩ = some (.slice (some ⟨gq, 0, none⟩) n n)
  c3 : w.cell? ⟨T, 3, none⟩ = some (.slice (some ⟨gl, 0, none⟩) n n)
  c4 : w.cell? ⟨T, 4, none⟩ = some (.slice (some ⟨gc, 0, none⟩) n n)
  om : OwnI w B (.slice (some ⟨gm, 0, none⟩) n n) cs
  oq : OwnI w B (.slice (some ⟨gq, 0, none⟩) n n) M
  nm : gm ≠ T ∧ gm ≠ S ∧ gm ≠ gl ∧ gm ≠ gc
  nq : gq ≠ T ∧ gq ≠ S ∧ gq ≠ gl ∧ gq ≠ gc
  ol : OwnI w B (.slice (some ⟨gl, 0, none⟩) n n) lv
  oc : OwnI w B (.slice (some ⟨gc, 0, none⟩) n n) cls
  nlc : gl ≠ gc
  nTl : gl ≠ T
  nTc : gc ≠ T
  nTS : S ≠ T
  nSl : gl ≠ S
  nSc : gc ≠ S
  geS : B ≤ S
  st : SIn w (fun b => b = S ∨ b = T ∨ b = gl ∨ b = gc) S top s
section
variable {w w' : World} {B T S gl gc n : Nat} {base : Int} {gm gq : Nat} {cs M lv cls : List Int} {top : Option Addr} {s : TS}
theorem TIn.gllt (h : TIn w B T S gm gq gl gc n base cs M lv cls top s) : B ≤ gl ∧ gl < w.heap.size := h.ol.lt gl rfl
theorem TIn.gmlt (h : TIn w B T S gm gq gl gc n base cs M lv cls top s) : B ≤ gm ∧ gm < w.heap.size := h.om.lt gm rfl
theorem TIn.gqlt (h : TIn w B T S gm gq gl gc n base cs M lv cls top s) : B ≤ gq ∧ gq < w.heap.size := h.oq.lt gq rfl
theorem TIn.gclt (h : TIn w B T S gm gq gl gc n base cs M lv cls top s) : B ≤ gc ∧ gc < w.heap.size := h.oc.lt gc rfl
/-- The stack alone has turned. -/
theorem TIn.stack {top' : Option Addr} {s' : TS} (h : TIn w B T S gm gq gl gc n base cs M lv cls top s) (hg : w.grownBy w' (some S)) (hs : SIn w' (fun b => b = S ∨ b = T ∨ b = gl ∨ b = gc) S top' s') : TIn w' B T S gm gq gl gc n base cs M lv cls top' s' := by
  have hT := hg.block T h.lt (by simp; exact fun e => h.nTS e.symm)
  have e : ∀ j, w'.cell? ⟨T, j, none⟩ = w.cell? ⟨T, j, none⟩ := fun j => World.cell?_of_block hT
  exact ⟨h.ge, Nat.lt_of_lt_of_le h.lt hg.size, (e 0).trans h.c0, (e 1).trans h.c1, (e 2).trans h.c2, (e 3).trans h.c3, (e 4).trans h.c4,
    h.om.kept (fun k hk => by simp [Value.ownBlock] at hk; subst hk; exact hg.block _ h.gmlt.2 (by simp; exact h.nm.2.1)), h.oq.kept (fun k hk => by simp [Value.ownBlock] at hk; subst hk; exact hg.block _ h.gqlt.2 (by simp; exact h.nq.2.1)), h.nm, h.nq,
    h.ol.kept (fun k hk => by simp [Value.ownBlock] at hk; subst hk; exact hg.block _ h.gllt.2 (by simp; exact h.nSl)), h.oc.kept (fun k hk => by simp [Value.ownBlock] at hk; subst hk; exact hg.block _ h.gclt.2 (by simp; exact h.nSc)), h.nlc, h.nTl, h.nTc, h.nTS, h.nSl, h.nSc, h.geS, hs⟩
theorem TIn.below (h : TIn w B T S gm gq gl gc n base cs M lv cls top s) (hb : Below w.heap.size w w') : TIn w' B T S gm gq gl gc n base cs M lv cls top s := by
  have e : ∀ j, w'.cell? ⟨T, j, none⟩ = w.cell? ⟨T, j, none⟩ := fun j => World.cell?_of_block (hb.block T h.lt)
  exact ⟨h.ge, Nat.lt_of_lt_of_le h.lt hb.size, (e 0).trans h.c0, (e 1).trans h.c1, (e 2).trans h.c2, (e 3).trans h.c3, (e 4).trans h.c4, h.om.below hb, h.oq.below hb, h.nm, h.nq, h.ol.below hb, h.oc.below hb, h.nlc, h.nTl, h.nTc, h.nTS, h.nSl, h.nSc, h.geS, h.st.below hb⟩
theorem TIn.setL (h : TIn w B T S gm gq gl gc n base cs M lv cls top s) (i : Nat) (x : Int) : TIn (w.setCell ⟨gl, i, none⟩ (.int .i64 x)) B T S gm gq gl gc n base cs M (lv.set i x) cls top s := by
  have hblk : ∀ c, c ≠ gl → (w.setCell ⟨gl, i, none⟩ (.int .i64 x)).heap[c]? = w.heap[c]? := fun c hc => heap_setCell_other w ⟨gl, i, none⟩ c _ hc
  have e : ∀ j, (w.setCell ⟨gl, i, none⟩ (.int .i64 x)).cell? ⟨T, j, none⟩ = w.cell? ⟨T, j, none⟩ := fun j => World.cell?_of_block (hblk T (fun e => h.nTl e.symm))
  exact ⟨h.ge, by rw [World.size_setCell]; exact h.lt, (e 0).trans h.c0, (e 1).trans h.c1, (e 2).trans h.c2, (e 3).trans h.c3, (e 4).trans h.c4, h.om.kept (fun k hk => by simp [Value.ownBlock] at hk; subst hk; exact hblk _ h.nm.2.2.1), h.oq.kept (fun k hk => by simp [Value.ownBlock] at hk; subst hk; exact hblk _ h.nq.2.2.1), h.nm, h.nq, h.ol.storedN i x, h.oc.kept (fun k hk => by simp [Value.ownBlock] at hk; subst hk; exact hblk _ (fun e => h.nlc e.symm)), h.nlc, h.nTl, h.nTc, h.nTS, h.nSl, h.nSc, h.geS,
    h.st.kept (by rw [World.size_setCell]; exact Nat.le_refl _) (fun b hb _ => hblk b (fun e => by rcases hb with hb | hb; exact hb (.inr (.inr (.inl e))); exact h.nSl (e.symm.trans hb)))⟩
theorem TIn.setC (h : TIn w B T S gm gq gl gc n base cs M lv cls top s) (i : Nat) (x : Int) : TIn (w.setCell ⟨gc, i, none⟩ (.int .i64 x)) B T S gm gq gl gc n base cs M lv (cls.set i x) top s := by
  have hblk : ∀ c, c ≠ gc → (w.setCell ⟨gc, i, none⟩ (.int .i64 x)).heap[c]? = w.heap[c]? := fun c hc => heap_setCell_other w ⟨gc, i, none⟩ c _ hc
  have e : ∀ j, (w.setCell ⟨gc, i, none⟩ (.int .i64 x)).cell? ⟨T, j, none⟩ = w.cell? ⟨T, j, none⟩ := fun j => World.cell?_of_block (hblk T (fun e => h.nTc e.symm))
  exact ⟨h.ge, by rw [World.size_setCell]; exact h.lt, (e 0).trans h.c0, (e 1).trans h.c1, (e 2).trans h.c2, (e 3).trans h.c3, (e 4).trans h.c4, h.om.kept (fun k hk => by simp [Value.ownBlock] at hk; subst hk; exact hblk _ h.nm.2.2.2), h.oq.kept (fun k hk => by simp [Value.ownBlock] at hk; subst hk; exact hblk _ h.nq.2.2.2), h.nm, h.nq, h.ol.kept (fun k hk => by simp [Value.ownBlock] at hk; subst hk; exact hblk _ h.nlc), h.oc.storedN i x, h.nlc, h.nTl, h.nTc, h.nTS, h.nSl, h.nSc, h.geS,
    h.st.kept (by rw [World.size_setCell]; exact Nat.le_refl _) (fun b hb _ => hblk b (fun e => by rcases hb with hb | hb; exact hb (.inr (.inr (.inr e))); exact h.nSc (e.symm.trans hb)))⟩
theorem TIn.blwL (h : TIn w B T S gm gq gl gc n base cs M lv cls top s) {w0 : World} (hb : Below B w0 w) (j : Nat) (x : Value) : Below B w0 (w.setCell ⟨gl, j, none⟩ x) := hb.setCell h.gllt.1 _
theorem TIn.blwC (h : TIn w B T S gm gq gl gc n base cs M lv cls top s) {w0 : World} (hb : Below B w0 w) (j : Nat) (x : Value) : Below B w0 (w.setCell ⟨gc, j, none⟩ x) := hb.setCell h.gclt.1 _
theorem TIn.blwS (h : TIn w B T S gm gq gl gc n base cs M lv cls top s) {w0 : World} (hb : Below B w0 w) (hB : B ≤ w.heap.size) (hg : w.grownBy w' (some S)) : Below B w0 w' := hb.grown hg hB (fun k hk => by simp at hk; rw [← hk]; exact h.geS)
theorem TIn.lin (h : TIn w B T S gm gq gl gc n base cs M lv cls top s) : LIn w n gm 0 n gq 0 n cs M :=
  ⟨h.gmlt.2, h.gqlt.2, fun j hj => by have := h.om.len; rw [Nat.zero_add]; exact h.om.cellN j (by omega), fun j hj => by have := h.oq.len; rw [Nat.zero_add]; exact h.oq.cellN j (by omega)⟩
end

theorem side_01 (c : Nat → Int) (mt : Nat → Nat) (tt i : Nat) : sideFrom c mt tt i = 0 ∨ sideFrom c mt tt i = 1 := by
  unfold sideFrom
  generalize tt - i = d
  induction d generalizing i with
  | zero => exact .inl rfl
  | succ d ih =>
    simp only [sideG]
    repeat' split
    all_goals first | exact .inl rfl | exact .inr rfl | exact ih _

set_option maxHeartbeats 2000000 in
theorem implOpened {B T S gl gc n gm gq : Nat} {base : Int} {cs M lv cls : List Int} {top : Option Addr} {s : TS} (c : Nat → Int) (mt : Nat → Nat) (i : Nat) (w : World) (hi : i < n) (hn80 : n ≤ 1000) (hcs : cs.length = n) (hM : M.length = n) (hop : opensB (c i) = true)
    (hc : Hid (∀ j, j < n → fn cs j = c j)) (hmt : Hid (MateFn c n mt)) (hsm : Hid (SameMates c n mt M)) (h : TIn w B T S gm gq gl gc n base cs M lv cls top s) :
    Calls Try.prog 62 #[.pointer (some ⟨T, 0, none⟩), .int .i64 i] w fun e w' => e = .returned (.int .i64 (dirOf (rightT (c i) (sideFrom c mt (mt i) (i + 1))))) ∧ ∃ m, w' = w.drewN m := by
  have hL := h.lin
  have c1 := h.c1
  have c2 := h.c2
  obtain ⟨ck, hck⟩ : ∃ ck, c i = ck := ⟨_, rfl⟩
  have k1 := hL.am i (by omega)
  rw [hc.out i hi, hck, Nat.zero_add] at k1
  have k2 := hL.aq i (by omega)
  rw [Nat.zero_add] at k2
  have hi0 : (0 : Int) ≤ (i : Int) := by omega
  have hi1 : (i : Int) < (n : Int) := by omega
  have hmi := mt_gt hmt.out hi hop
  have hs := hsm.out i hi hop
  obtain ⟨fs, hfs⟩ : ∃ fs, sideFrom c mt (mt i) (i + 1) = fs := ⟨_, rfl⟩
  rw [hck, hfs]
  have HF : Hid _ := hfs
  have HCS : Hid _ := hcs
  have HM : Hid _ := hM
  have hop2 : 19 ≤ ck ∧ ck ≤ 21 := by rw [hck] at hop; simpa [opensB] using hop
  have HL : Hid _ := hL
  clear h hck hfs hcs hM hop hL
  have hwi : IntKind.i64.wrap ((i : Int) + 1) = (i : Int) + 1 := by rw [IntKind.wrap_i64]; omega
  have hii : Hid ((i : Int) + 1 = ((i + 1 : Nat) : Int)) := by show _ = _; omega
  have hfsb : fs = 0 ∨ fs = 1 := by
    rw [← HF.out]; exact side_01 _ _ _ _
  by_cases q20 : ck = 20
  · subst q20
    rw [show rightT 20 fs = true from by simp [rightT]]
    go_enter Try.func62, Try.ntmps62
    go_wp2_with fail
    go_ret
    exact ⟨rfl, 0, rfl⟩
  by_cases q19 : ck = 19
  · subst q19
    rw [show rightT 19 fs = false from by simp [rightT]]
    go_enter Try.func62, Try.ntmps62
    go_wp2_with fail
    go_ret
    exact ⟨rfl, 0, rfl⟩
  have q21 : ck = 21 := by omega
  subst q21
  have hres : dirOf (rightT 21 fs) = ownOf fs := by
    rcases hfsb with e | e <;> subst e <;> simp [rightT, dirOf, ownOf]
  rw [hres]
  have hfs0 : 0 ≤ fs := by omega
  have hside : ∀ q (t : Int), t = (mt i : Int) → Calls Try.prog 79 #[.slice (some ⟨gm, 0, none⟩) n n, .slice (some ⟨gq, 0, none⟩) n n, .int .i64 ((i : Int) + 1), .int .i64 t] (w.drewN q) fun e w' => e = .returned (.int .i64 fs) ∧ w' = w.drewN q := fun q t ht => by
    rw [← HF.out]
    exact implSide gm 0 n n gq 0 n cs M c mt _ _ (i + 1) (mt i) _ HCS.out HM.out HL.out.am HL.out.aq (by omega) hc hmt hsm hii.out ht (by omega) hmi.2
  have HSD : Hid _ := hside
  clear hside hres hfsb
  rcases hs with ⟨m1, m2⟩ | ⟨m1, m2⟩
  · rw [m2] at k2
    have hm0 : decide ((mt i : Int) < 0) = false := by simp
    clear m2
    go_enter Try.func62, Try.ntmps62
    go_wp2_with fail
    go_quiet ((first | (go_at_call 79; exact Calls.quiet_of_same (HSD.out _ _ rfl)) | (go_at_call 78; exact Calls.quiet_of_same (implSideOf _ _ hfs0))))
    go_wp2_with fail
    go_ret
    exact ⟨rfl, _, rfl⟩
  · rw [m2] at k2
    have M1 : Hid _ := m1
    clear m2 m1
    go_enter Try.func62, Try.ntmps62
    go_wp2_with fail
    go_quiet ((first | (go_at_call 79; exact Calls.quiet_of_same (HSD.out _ _ (by rw [M1.out]))) | (go_at_call 78; exact Calls.quiet_of_same (implSideOf _ _ hfs0))))
    go_wp2_with fail
    go_ret
    exact ⟨rfl, _, rfl⟩
end Go.Proofs.Ytkdmfjnaajedhaa
