import Derived.Test.YtgjhhfmhaalcnaaGlyMark
import Derived.Test.YtgjhhfmhaalcnaaLineAid
import Derived.Test.YtgjhhfmhaalcnaaStandCp
namespace Go.Proofs.Ytgjhhfmhaalcnaa
open Go.ChangeShapes Go.WideShapes Go.ChangeAt Go.RowKit
set_option linter.unusedSimpArgs false

theorem OwnG.slc {w : World} {v : Value} {l : List Int} {B n : Nat} (h : OwnG w B v n l) : ∃ a c, v = .slice a n c := by
  rcases h.forms with ⟨rfl, rfl⟩ | ⟨g, c, rfl, _⟩
  · exact ⟨_, _, rfl⟩
  · exact ⟨_, _, rfl⟩
theorem eqI2_yes (v1 v2 : Value) (l : List Int) (w : World) (h1 : Arg w v1 l) (h2 : Arg w v2 l) (hl : l.length ≤ 4194304) :
    Calls Try.prog 24 #[v1, v2] w fun e w' => e = .returned (.bool true) ∧ Below w.heap.size w w' := by
  refine (eqInt_any v1 v2 l l w h1 h2 hl).mono ?_
  rintro e w' ⟨rfl, n, rfl⟩
  exact ⟨retBool (eqB_self l), below_draws w n⟩
/-- A line of the law's own that lies in a block. -/
def LiesW (w : World) (P : Nat) (f t d : Int) (v : Value) : Prop := w.heap[P]? = some (.cells #[.int .i64 f, .int .i64 t, .int .i64 d, v] 42 (0, 0))
theorem LiesW.c0 {w : World} {P : Nat} {f t d : Int} {v : Value} (h : LiesW w P f t d v) : w.cell? ⟨P, 0, none⟩ = some (.int .i64 f) := by rw [Lib.cell_of_heap h]; rfl
theorem LiesW.c1 {w : World} {P : Nat} {f t d : Int} {v : Value} (h : LiesW w P f t d v) : w.cell? ⟨P, 1, none⟩ = some (.int .i64 t) := by rw [Lib.cell_of_heap h]; rfl
theorem LiesW.c2 {w : World} {P : Nat} {f t d : Int} {v : Value} (h : LiesW w P f t d v) : w.cell? ⟨P, 2, none⟩ = some (.int .i64 d) := by rw [Lib.cell_of_heap h]; rfl
theorem LiesW.c3 {w : World} {P : Nat} {f t d : Int} {v : Value} (h : LiesW w P f t d v) : w.cell? ⟨P, 3, none⟩ = some v := by rw [Lib.cell_of_heap h]; rfl
theorem LiesW.lt {w : World} {P : Nat} {f t d : Int} {v : Value} (h : LiesW w P f t d v) : P < w.heap.size := (Array.getElem?_eq_some_iff.1 h).1
theorem LiesW.below {w w' : World} {P : Nat} {f t d : Int} {v : Value} (h : LiesW w P f t d v) (hb : Below w.heap.size w w') : LiesW w' P f t d v := (hb.block P h.lt).trans h
theorem LiesW.grown {w w' : World} {P : Nat} {row : Option Nat} {f t d : Int} {v : Value} (h : LiesW w P f t d v) (hg : w.grownBy w' row) (hne : row ≠ some P) : LiesW w' P f t d v := (hg.block P h.lt (fun e => hne e.symm)).trans h
theorem liesW_new (w : World) (f t d : Int) (v : Value) : LiesW (w.alloc (.cells #[.int .i64 f, .int .i64 t, .int .i64 d, v] 42)) w.heap.size f t d v := heap_alloc_new w _

theorem grown_trans2 {a b c : World} {row : Option Nat} (h : a.grownBy b row) (k : b.grownBy c row) : a.grownBy c row :=
  ⟨k.os.trans h.os, k.tape.trans h.tape, k.output.trans h.output, Nat.le_trans h.size k.size, fun i hi hne => (k.block i (Nat.lt_of_lt_of_le hi h.size) hne).trans (h.block i hi hne)⟩

theorem lies_boxed (w : World) {w' : World} (h : Below (w.alloc (.cells #[.int .i64 0, .int .i64 0, .int .i64 0, .slice none 0 0] 25)).heap.size (w.alloc (.cells #[.int .i64 0, .int .i64 0, .int .i64 0, .slice none 0 0] 25)) w') : Lies w' w.heap.size 0 0 0 (.slice none 0 0) := Lies.below (lies_new w 0 0 0 (.slice none 0 0)) h
theorem lies_drewn (w : World) {w' : World} (h : Below (w.alloc (.cells #[.int .i64 0, .int .i64 0, .int .i64 0, .slice none 0 0] 25)).drew.heap.size (w.alloc (.cells #[.int .i64 0, .int .i64 0, .int .i64 0, .slice none 0 0] 25)).drew w') : Lies w' w.heap.size 0 0 0 (.slice none 0 0) := Lies.below (w := (w.alloc (.cells #[.int .i64 0, .int .i64 0, .int .i64 0, .slice none 0 0] 25)).drew) (lies_new w 0 0 0 (.slice none 0 0)) h

set_option maxHeartbeats 1000000 in
theorem markLine_any (f t d : Int) (v : Value) (n : Nat) (l : List Int) (B : Nat) (k : Int) (w : World) (hv : OwnG w B v n l) (hl : n ≤ 1048576) (hk0 : 0 ≤ k) (hk1 : k ≤ 1000000000000) :
    Calls Try.prog 26 #[.agg #[.int .i64 f, .int .i64 t, .int .i64 d, v], .int .i64 k] w fun e w' => e = .returned (.int .i64 (k + 5 * (n : Int))) ∧ OwnG w' B v n (marks k (n * 5)) ∧ w.grownBy w' v.ownBlock := by
  have HV : Hid (OwnG (w.alloc (.cells #[.int .i64 f, .int .i64 t, .int .i64 d, v] 25)) B v n l) := hv.below (below_new _ _)
  clear hv
  go_enter Try.func26, Try.ntmps26
  go_wp2_with fail
  refine (markG_any v n l B k _ HV.out hl hk0 hk1).mono ?_
  rintro e w2 ⟨rfl, o2, g2, _⟩
  have O2 : Hid (OwnG w2 B v n (marks k (n * 5))) := o2
  have G2 : Hid _ := g2
  clear o2 g2
  go_wp2_with fail
  go_ret
  exact ⟨rfl, O2.out, grown_trans2 (World.grownBy_alloc w _ _) G2.out⟩
set_option maxHeartbeats 1000000 in
theorem heldLine_any (f t d : Int) (v : Value) (n : Nat) (k : Int) (w : World) (hv : ArgG w v n (marks k (n * 5))) (hl : n ≤ 1048576) (hk0 : 0 ≤ k) (hk1 : k ≤ 1000000000000) :
    Calls Try.prog 27 #[.agg #[.int .i64 f, .int .i64 t, .int .i64 d, v], .int .i64 k] w fun e w' => e = .returned (.int .i64 (k + 5 * (n : Int))) ∧ Below w.heap.size w w' := by
  have HV : Hid (ArgG (w.alloc (.cells #[.int .i64 f, .int .i64 t, .int .i64 d, v] 25)) v n (marks k (n * 5))) := hv.below (below_new _ _)
  clear hv
  have hp : (0 : Int) ≤ k + 5 * (n : Int) := by omega
  go_enter Try.func27, Try.ntmps27
  go_wp2_with fail
  refine (heldG_any v n k _ HV.out hl hk0 hk1).mono ?_
  rintro e w2 ⟨rfl, rfl⟩
  go_wp2_with fail
  go_ret
  exact ⟨rfl, below_new _ _⟩
end Go.Proofs.Ytgjhhfmhaalcnaa
