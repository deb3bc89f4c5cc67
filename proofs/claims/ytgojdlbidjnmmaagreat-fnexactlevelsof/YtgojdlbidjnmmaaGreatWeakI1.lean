import Derived.Test.YtgojdlbidjnmmaaGreatWeakMath
import Derived.Test.YtgojdlbidjnmmaaGreatMates
import Derived.Test.YtgojdlbidjnmmaaGreatPlainFn
import Derived.Test.YtgojdlbidjnmmaaGreatClsOk
namespace Go.Proofs.YtgojdlbidjnmmaaGreat
open Go.ChangeShapes Go.WideShapes Go.ChangeAt Go.RowKit
set_option linter.unusedSimpArgs false

/-- Classes on which the rules work: where they lie, and the side ahead. -/
structure WT (w : World) (R g n cp : Nat) (b : Int) : Prop where
  c0 : w.cell? ⟨R, 0, none⟩ = some (.slice (some ⟨g, 0, none⟩) n cp)
  c1 : w.cell? ⟨R, 1, none⟩ = some (.int .i64 b)
  lt : R < w.heap.size
  ne : R ≠ g
theorem WT.kept {w w' : World} {R g n cp : Nat} {b : Int} (h : WT w R g n cp b) (hg : w.grownBy w' (some g)) : WT w' R g n cp b :=
  ⟨(World.cell?_of_block (a := ⟨R, 0, none⟩) (hg.block R h.lt (fun e => h.ne (by simpa using e)))).trans h.c0,
   (World.cell?_of_block (a := ⟨R, 1, none⟩) (hg.block R h.lt (fun e => h.ne (by simpa using e)))).trans h.c1, Nat.lt_of_lt_of_le h.lt hg.size, h.ne⟩
theorem grownW_refl (w : World) (k : Option Nat) : w.grownBy w k := ⟨rfl, rfl, rfl, Nat.le_refl _, fun _ _ _ => rfl⟩
theorem grown_trans' {a b c : World} {row : Option Nat} (h : a.grownBy b row) (k : b.grownBy c row) : a.grownBy c row :=
  ⟨k.os.trans h.os, k.tape.trans h.tape, k.output.trans h.output, Nat.le_trans h.size k.size, fun i hi hne => (k.block i (Nat.lt_of_lt_of_le hi h.size) hne).trans (h.block i hi hne)⟩
theorem grownW_set {w wr : World} {g j : Nat} {x : Value} (hgr : w.grownBy wr (some g)) : w.grownBy (wr.setCell ⟨g, j, none⟩ x) (some g) :=
  ⟨hgr.os, hgr.tape, hgr.output, by simpa using hgr.size, fun y hy hne => (heap_setCell_other wr ⟨g, j, none⟩ y _ (fun e => hne (by rw [e]))).trans (hgr.block y hy hne)⟩
/-- What a rule leaves: the row as the rule makes it, nothing else turned. -/
def Ruled (w w' : World) (B g n cp : Nat) (L : List Int) : Prop := OwnI w' B (.slice (some ⟨g, 0, none⟩) n cp) L ∧ w.grownBy w' (some g) ∧ w'.heap.size = w.heap.size
/-- The state of a rule's loop. -/
def Ruling (w wr : World) (B g n cp f : Nat) (m z : Nat → Int) : Prop := ∃ L, OwnI wr B (.slice (some ⟨g, 0, none⟩) n cp) L ∧ upTo m z n f L ∧ w.grownBy wr (some g) ∧ wr.heap.size = w.heap.size
theorem Ruling.start {w : World} {B g n cp : Nat} {m : Nat → Int} {l : List Int} (h : OwnI w B (.slice (some ⟨g, 0, none⟩) n cp) l) : Ruling w w B g n cp 0 m (fn l) :=
  ⟨l, h, upTo_zero _ _ _ _ (fun _ _ => rfl), grownW_refl _ _, rfl⟩
theorem Ruling.keep {w wr : World} {B g n cp f : Nat} {m z : Nat → Int} (h : Ruling w wr B g n cp f m z) (hf : f < n) (e : m f = z f) : Ruling w wr B g n cp (f + 1) m z := by
  obtain ⟨L, a, b, c, d⟩ := h; exact ⟨L, a, upTo_keep b hf e, c, d⟩
theorem Ruling.set {w wr : World} {B g n cp f : Nat} {m z : Nat → Int} {x : Int} (h : Ruling w wr B g n cp f m z) (hf : f < n) (e : m f = x) : Ruling w (wr.setCell ⟨g, f, none⟩ (.int .i64 x)) B g n cp (f + 1) m z := by
  obtain ⟨L, a, b, c, d⟩ := h
  exact ⟨L.set f x, a.storedN _ _, upTo_set b a.len hf e, grownW_set c, by rw [World.size_setCell]; exact d⟩
theorem Ruling.fin {w wr : World} {B g n cp : Nat} {m z : Nat → Int} (h : Ruling w wr B g n cp n m z) : Ruled w wr B g n cp (mkL n m) := by
  obtain ⟨L, a, b, c, d⟩ := h
  have e := upTo_end b a.len
  subst e
  exact ⟨a, c, d⟩
theorem Ruling.cell {w wr : World} {B g n cp f : Nat} {m z : Nat → Int} (h : Ruling w wr B g n cp f m z) {j : Nat} (h1 : f ≤ j) (h2 : j < n) : wr.cell? ⟨g, j, none⟩ = some (.int .i64 (z j)) := by
  obtain ⟨L, a, b, _⟩ := h; rw [a.cellN j h2, b.2 j h1 h2]
theorem Ruling.done {w wr : World} {B g n cp f : Nat} {m z : Nat → Int} (h : Ruling w wr B g n cp f m z) {j : Nat} (h1 : j < f) (h2 : j < n) : wr.cell? ⟨g, j, none⟩ = some (.int .i64 (m j)) := by
  obtain ⟨L, a, b, _⟩ := h; rw [a.cellN j h2, b.1 j h1]
theorem Ruling.free {w wr : World} {B g n cp f : Nat} {m z : Nat → Int} (h : Ruling w wr B g n cp f m z) (j : Nat) : wr.frozen? ⟨g, j, none⟩ = false := by
  obtain ⟨L, a, _⟩ := h; exact a.frozenN j
theorem Ruling.wt {w wr : World} {B g n cp f R : Nat} {b : Int} {m z : Nat → Int} (h : Ruling w wr B g n cp f m z) (hw : WT w R g n cp b) : WT wr R g n cp b := by
  obtain ⟨L, _, _, c, _⟩ := h; exact hw.kept c

set_option maxHeartbeats 1000000 in
theorem implR3 (R g n cp B : Nat) (b : Int) (l : List Int) (w : World) (hw : WT w R g n cp b) (hn : Hid (l.length = n)) (hv : OwnI w B (.slice (some ⟨g, 0, none⟩) n cp) l) (hl : n ≤ 80) :
    Calls Tryz.prog 102 #[.pointer (some ⟨R, 0, none⟩)] w fun e w' => e = .returned (.tuple #[]) ∧ Ruled w w' B g n cp (r3 l) := by
  have HR : Hid (r3 l = mkL n (m3 (fn l))) := by show _ = _; unfold r3; rw [hn.out]
  rw [HR.out]
  have HS : Hid (Ruling w w B g n cp 0 (m3 (fn l)) (fn l)) := Ruling.start hv
  have HW : Hid _ := hw
  obtain ⟨q0, q1, q2, q3⟩ := hw
  go_enter Tryz.func102, Tryz.ntmps102
  go_wp2
  clear q0 q1
  go_loopw [9] (fun i wr => ∃ f : Nat, f ≤ n ∧ i = .int .i64 f ∧ Hid (Ruling w wr B g n cp f (m3 (fn l)) (fn l))) (fun i _ => n - (intOf i).toNat)
  case atStart => exact ⟨0, Nat.zero_le _, rfl, HS⟩
  case round =>
    obtain ⟨f, hf, rfl, hr⟩ := hrel
    by_cases hlt : f < n
    · have c := hr.out.cell (Nat.le_refl _) hlt
      have fz := hr.out.free f
      obtain ⟨q0, q1, _, _⟩ := hr.out.wt HW.out
      by_cases e3 : fn l f = 3
      · have E3 : Hid _ := e3
        rw [e3] at c
        clear e3
        go_wp2
        go_roundw
        case rel => exact ⟨f + 1, by omega, by go_num, hr.out.set hlt (by unfold m3; rw [if_pos E3.out])⟩
        case measure => simp only [intOf]; omega
      · have g3 : (fn l f == 3) = false := by simpa using e3
        go_wp2
        go_roundw
        case rel => exact ⟨f + 1, by omega, by go_num, hr.out.keep hlt (by unfold m3; rw [if_neg e3])⟩
        case measure => simp only [intOf]; omega
    · have e : f = n := by omega
      subst e
      go_wp2
      go_end0
      exact ⟨rfl, hr.out.fin⟩
end Go.Proofs.YtgojdlbidjnmmaaGreat
