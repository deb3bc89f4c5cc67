import Derived.Test.YtobmdefklgkoiaaDraw
namespace Go.Proofs.Ytobmdefklgkoiaa
open Go.ChangeShapes Go.WideShapes Go.ChangeAt Go.RowKit
set_option linter.unusedSimpArgs false

/-- What a reader's function leaves: the reader has read on, and of what was there no other block has turned. -/
structure Went (w w' : World) (R p' : Nat) : Prop where
  rd : Rd w' R p'
  gr : w.grownBy w' (some R)

theorem grown_trans {a b c : World} {row : Option Nat} (h : a.grownBy b row) (k : b.grownBy c row) : a.grownBy c row :=
  ⟨k.os.trans h.os, k.tape.trans h.tape, k.output.trans h.output, Nat.le_trans h.size k.size, fun i hi hne => (k.block i (Nat.lt_of_lt_of_le hi h.size) hne).trans (h.block i hi hne)⟩
theorem grown_alloc (w : World) (o : Obj) (row : Option Nat) : w.grownBy (w.alloc o) row :=
  ⟨rfl, rfl, rfl, by simp, fun k hk _ => Below.heap_alloc w o k hk⟩
theorem Code.kept {w w' : World} {R len : Nat} {a : Option Addr} (h : Code w R a len) (hg : w.grownBy w' (some R)) : Code w' R a len := by
  refine ⟨h.1, ?_⟩
  rcases h.2 with h0 | ⟨b, off, h1, h2, h3, h4⟩
  · exact .inl h0
  · refine .inr ⟨b, off, h1, h2, Nat.lt_of_lt_of_le h3 hg.size, fun j hj => ?_⟩
    obtain ⟨x, hx, hb⟩ := h4 j hj
    exact ⟨x, (World.cell?_of_block (a := ⟨b, off + j, none⟩) (hg.block b h3 (fun e => by simp at e; omega))).trans hx, hb⟩
theorem Rd.lt {w : World} {R p : Nat} (h : Rd w R p) : R < w.heap.size := by
  obtain ⟨a, len, cap, hb, _⟩ := h
  exact (Array.getElem?_eq_some_iff.1 hb).1
theorem Rd.alloc {w : World} {R p : Nat} (h : Rd w R p) (o : Obj) : Rd (w.alloc o) R p := by
  have hl := h.lt
  obtain ⟨a, len, cap, hb, hc⟩ := h
  exact ⟨a, len, cap, (Below.heap_alloc w o R hl).trans hb, hc.kept (grown_alloc w o _)⟩
/-- What another one's rows do to a reader: nothing. -/
theorem Rd.beside {w w' : World} {R p : Nat} {row : Option Nat} (h : Rd w R p) (hg : w.grownBy w' row) (hc : ∀ k, row = some k → R < k) : Rd w' R p := by
  have hl := h.lt
  obtain ⟨a, len, cap, hb, hcode⟩ := h
  refine ⟨a, len, cap, (hg.block R hl (fun e => by have := hc R e.symm; omega)).trans hb, hcode.1, ?_⟩
  rcases hcode.2 with h0 | ⟨b, off, h1, h2, h3, h4⟩
  · exact .inl h0
  · refine .inr ⟨b, off, h1, h2, Nat.lt_of_lt_of_le h3 hg.size, fun j hj => ?_⟩
    obtain ⟨x, hx, hbd⟩ := h4 j hj
    exact ⟨x, (World.cell?_of_block (a := ⟨b, off + j, none⟩) (hg.block b h3 (fun e => by have := hc b e.symm; omega))).trans hx, hbd⟩
theorem grown_own {w wr w1 : World} {row : Option Nat} {v : Value} (h : w.grownBy wr row) (hg : wr.grownBy w1 v.ownBlock) (ho : ∀ k, v.ownBlock = some k → w.heap.size ≤ k) : w.grownBy w1 row :=
  ⟨hg.os.trans h.os, hg.tape.trans h.tape, hg.output.trans h.output, Nat.le_trans h.size hg.size, fun i hi hne =>
    (hg.block i (Nat.lt_of_lt_of_le hi h.size) (fun e => by have := ho i e.symm; omega)).trans (h.block i hi hne)⟩
theorem OwnI.went {w wr : World} {R p B : Nat} {v : Value} {l : List Int} (h : OwnI w B v l) (hw : Went w wr R p) (hB : R < B) : OwnI wr B v l :=
  h.kept fun k hk => hw.gr.block k (h.lt k hk).2 (fun e => by have := (h.lt k hk).1; simp at e; omega)

theorem pick_went (R p : Nat) (n : Int) (w : World) (hr : Rd w R p) (hp : p ≤ 100000) (hn1 : 1 ≤ n) (hn2 : n ≤ 1000000) :
    Calls Try.prog 30 #[.pointer (some ⟨R, 0, none⟩), .int .i64 n] w fun e w' => (∃ k : Nat, e = .returned (.int .i64 k) ∧ (k : Int) < n) ∧ Went w w' R (p + 1) ∧ w'.heap.size = w.heap.size := by
  refine (pick_any R p n w hr hp hn1 hn2).mono ?_
  rintro e w' ⟨hk, m, rfl⟩
  have hl := hr.lt
  obtain ⟨a, len, cap, hb, hcode⟩ := hr
  have hgr : w.grownBy ((w.setCell ⟨R, 1, none⟩ (.int .i64 ((p : Int) + 1))).drewN m) (some R) :=
    ⟨rfl, rfl, rfl, by simp, fun k _ hne => heap_setCell_other w ⟨R, 1, none⟩ k _ (fun e => hne (by rw [e]))⟩
  refine ⟨hk, ⟨⟨a, len, cap, ?_, hcode.kept hgr⟩, hgr⟩, by simp⟩
  show (w.setCell ⟨R, 1, none⟩ (.int .i64 ((p : Int) + 1))).heap[R]? = _
  rw [heap_setCell_same w R 1 _ _ _ hb]
  simp

def isI : Value → Bool
  | .int .i64 _ => true
  | _ => false
theorem isI_get {cs : Array Value} (h : cs.all isI = true) {j : Nat} (hj : j < cs.size) : ∃ x : Int, cs[j]? = some (.int .i64 x) := by
  have := Array.all_eq_true.1 h j hj
  rw [Array.getElem?_eq_getElem hj]
  generalize cs[j] = v at this
  match v, this with
  | .int .i64 x, _ => exact ⟨x, rfl⟩

set_option maxHeartbeats 1000000 in
theorem one_any (R p m : Nat) (cs : Array Value) (T : TypeId) (w : World) (hr : Rd w R p) (hp : p ≤ 100000) (hcs : cs.all isI = true) (hm : cs.size = m) (h1 : 1 ≤ m) (h2 : m ≤ 1000) :
    Calls Try.prog 52 #[.pointer (some ⟨R, 0, none⟩), .slice (some ⟨w.heap.size, 0, none⟩) m m] (w.alloc (.cells cs T)) fun e w' => (∃ x : Int, e = .returned (.int .i64 x)) ∧ Went w w' R (p + 1) := by
  have hlt := hr.lt
  go_enter Try.func52, Try.ntmps52
  go_wp2_with fail
  refine (pick_went R p _ _ (hr.alloc _) hp (by omega) (by omega)).mono ?_
  rintro e w1 ⟨⟨k, rfl, hk⟩, hW, hsz⟩
  obtain ⟨x, hx⟩ := isI_get hcs (show k < cs.size by omega)
  have hcell : w1.cell? ⟨w.heap.size, k, none⟩ = some (.int .i64 x) := by
    have hb : w1.heap[w.heap.size]? = (w.alloc (.cells cs T)).heap[w.heap.size]? := hW.gr.block _ (by simp) (by simp; omega)
    rw [World.cell?_of_block (a := ⟨w.heap.size, k, none⟩) hb]
    simp [hx]
  have hkm : (k : Int) < (m : Int) := by omega
  have HW : Hid _ := hW
  clear hW
  go_wp2_with fail
  go_ret
  exact ⟨⟨x, rfl⟩, HW.out.rd, grown_trans (grown_alloc w _ _) HW.out.gr⟩

end Go.Proofs.Ytobmdefklgkoiaa
