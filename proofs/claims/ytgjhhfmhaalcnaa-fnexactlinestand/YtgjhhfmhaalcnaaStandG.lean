import Derived.Test.YtgjhhfmhaalcnaaStandI
namespace Go.Proofs.Ytgjhhfmhaalcnaa
open Go.ChangeShapes Go.WideShapes Go.ChangeAt Go.RowKit
set_option linter.unusedSimpArgs false

/-- A builder that lies in a block of its own. -/
def Five (w : World) (P : Nat) (f t d : Int) (v : Value) (x : Int) : Prop := w.heap[P]? = some (.cells #[.int .i64 f, .int .i64 t, .int .i64 d, v, .int .i64 x] 78 (0, 0))
theorem Five.c0 {w : World} {P : Nat} {f t d x : Int} {v : Value} (h : Five w P f t d v x) : w.cell? ⟨P, 0, none⟩ = some (.int .i64 f) := by rw [Lib.cell_of_heap h]; rfl
theorem Five.c1 {w : World} {P : Nat} {f t d x : Int} {v : Value} (h : Five w P f t d v x) : w.cell? ⟨P, 1, none⟩ = some (.int .i64 t) := by rw [Lib.cell_of_heap h]; rfl
theorem Five.c2 {w : World} {P : Nat} {f t d x : Int} {v : Value} (h : Five w P f t d v x) : w.cell? ⟨P, 2, none⟩ = some (.int .i64 d) := by rw [Lib.cell_of_heap h]; rfl
theorem Five.c3 {w : World} {P : Nat} {f t d x : Int} {v : Value} (h : Five w P f t d v x) : w.cell? ⟨P, 3, none⟩ = some v := by rw [Lib.cell_of_heap h]; rfl
theorem Five.c4 {w : World} {P : Nat} {f t d x : Int} {v : Value} (h : Five w P f t d v x) : w.cell? ⟨P, 4, none⟩ = some (.int .i64 x) := by rw [Lib.cell_of_heap h]; rfl
theorem Five.fz {w : World} {P : Nat} {f t d x : Int} {v : Value} (h : Five w P f t d v x) (j : Nat) : w.frozen? ⟨P, j, none⟩ = false := Lib.frozen_of_heap h j
theorem Five.far {w : World} {P b j : Nat} {f t d x : Int} {v y : Value} (h : Five w P f t d v x) (hne : P ≠ b) : Five (w.setCell ⟨b, j, none⟩ y) P f t d v x := (heap_setCell_other w ⟨b, j, none⟩ P y hne).trans h
theorem Five.all {w : World} {P : Nat} {f t d x f' t' d' x' : Int} {v v' : Value} (h : Five w P f t d v x) : Five (((((w.setCell ⟨P, 0, none⟩ (.int .i64 f')).setCell ⟨P, 1, none⟩ (.int .i64 t')).setCell ⟨P, 2, none⟩ (.int .i64 d')).setCell ⟨P, 3, none⟩ v').setCell ⟨P, 4, none⟩ (.int .i64 x')) P f' t' d' v' x' := by
  unfold Five at h ⊢
  rw [heap_setCell_same _ P 4 _ _ _ (heap_setCell_same _ P 3 _ _ _ (heap_setCell_same _ P 2 _ _ _ (heap_setCell_same _ P 1 _ _ _ (heap_setCell_same w P 0 _ _ _ h))))]
  rfl
theorem OwnG.neFive {w : World} {B g n m cap P : Nat} {l : List Int} {f t d x : Int} {v : Value} (h : OwnG w B (.slice (some ⟨g, 0, none⟩) n cap) m l) (h5 : Five w P f t d v x) : g ≠ P := by
  intro e
  subst e
  rcases h.2 with ⟨h1, _⟩ | ⟨g', c', cur, h1, _, h3, _⟩
  · cases h1
  · simp only [Value.slice.injEq, Option.some.injEq, Addr.mk.injEq] at h1
    obtain ⟨⟨rfl, _⟩, _⟩ := h1
    have h6 := h3.symm.trans h5
    simp only [Option.some.injEq, Obj.cells.injEq] at h6
    exact absurd h6.2.1 (by decide)
theorem six_other {w : World} {P Q k : Nat} {a b c d e g : Value} (h0 : k ≠ P) (h2 : k ≠ Q) : ((((((w.setCell ⟨P, 3, none⟩ a).setCell ⟨Q, 0, none⟩ b).setCell ⟨Q, 1, none⟩ c).setCell ⟨Q, 2, none⟩ d).setCell ⟨Q, 3, none⟩ e).setCell ⟨Q, 4, none⟩ g).heap[k]? = w.heap[k]? := by
  rw [heap_setCell_other _ ⟨Q, 4, none⟩ k _ h2, heap_setCell_other _ ⟨Q, 3, none⟩ k _ h2, heap_setCell_other _ ⟨Q, 2, none⟩ k _ h2, heap_setCell_other _ ⟨Q, 1, none⟩ k _ h2, heap_setCell_other _ ⟨Q, 0, none⟩ k _ h2, heap_setCell_other _ ⟨P, 3, none⟩ k _ h0]
theorem grown_far {w u : World} {P j : Nat} {row : Option Nat} {x : Value} (h : w.grownBy u row) (hP : w.heap.size ≤ P) : w.grownBy (u.setCell ⟨P, j, none⟩ x) row :=
  ⟨h.os, h.tape, h.output, by simpa using h.size, fun k hk hne => (heap_setCell_other u ⟨P, j, none⟩ k x (by show k ≠ P; omega)).trans (h.block k hk hne)⟩
theorem heap3_0 (w : World) (a b c : Obj) : (((w.alloc a).alloc b).alloc c).heap[w.heap.size]? = some a := by
  have h1 : (w.alloc a).heap[w.heap.size]? = some a := Array.getElem?_push_size
  rw [Below.heap_alloc _ c _ (by simp; omega), Below.heap_alloc _ b _ (by simp)]; exact h1
theorem heap3_2 (w : World) (a b c : Obj) : (((w.alloc a).alloc b).alloc c).heap[w.heap.size + 2]? = some c := by
  have h : w.heap.size + 2 = ((w.alloc a).alloc b).heap.size := by simp
  rw [h]; exact Array.getElem?_push_size

set_option maxRecDepth 10000 in
set_option maxHeartbeats 1000000 in
theorem glyph_any (f t d x y0 y1 y2 y3 y4 : Int) (v : Value) (n B : Nat) (l : List Int) (w : World) (ho : OwnG w B v n l) (hB : B ≤ w.heap.size) (hn : n ≤ 1000) (hx0 : -10000000 ≤ x) (hx1 : x ≤ 10000000) (hy0 : 0 ≤ y3) (hy1 : y3 ≤ 20000) :
    Calls Try.prog 56 #[.agg #[.int .i64 f, .int .i64 t, .int .i64 d, v, .int .i64 x], .agg #[.int .i64 y0, .int .i64 y1, .int .i64 y2, .int .i64 y3, .int .i64 y4]] w fun e w' => (∃ v', e = .returned (.agg #[.int .i64 f, .int .i64 t, .int .i64 d, v', .int .i64 (x + y3)]) ∧ OwnG w' B v' (n + 1) (l ++ [y0, y1, x, y3, y4])) ∧ w.grownBy w' v.ownBlock := by
  have HLT : Hid (∀ k, v.ownBlock = some k → k < w.heap.size) := fun k hk => (ho.lt k hk).2
  have HO : Hid (∀ o1 o2 o3 : Obj, OwnG (((w.alloc o1).alloc o2).alloc o3) B v n l) := fun o1 o2 o3 => ho.below (bstep (bstep (below_new _ _) (below_new _ _)) (below_new _ _))
  obtain ⟨a, c, hv⟩ : ∃ a c, v = .slice a n c := by
    rcases ho.forms with ⟨rfl, rfl⟩ | ⟨g, c, rfl, _⟩
    · exact ⟨_, _, rfl⟩
    · exact ⟨_, _, rfl⟩
  subst hv
  have HB3 : Hid (∀ o1 o2 o3 : Obj, B ≤ (((w.alloc o1).alloc o2).alloc o3).heap.size) := fun o1 o2 o3 => by simp; omega
  clear ho
  go_enter Try.func56, Try.ntmps56
  go_wp2_with (at_builtin; refine own_appendG (.tmp 16) (.tmp 18) (HO.out _ _ _) (by omega) (HB3.out _ _ _) rfl rfl rfl (by simp [go_sem]) ?_; intro v4 w4 o4 gr4; obtain ⟨g4, cp4, rfl⟩ := OwnG.form1 o4; have F0 : Five w4 w.heap.size f t d (.slice a n c) (x + y3) := (gr4.block _ (by simp; omega) (fun e => by have := HLT.out _ e.symm; omega)).trans (heap3_0 w _ _ _); have F2 : Five w4 (w.heap.size + 2) 0 0 0 (.slice none 0 0) 0 := (gr4.block _ (by simp) (fun e => by have := HLT.out _ e.symm; omega)).trans (heap3_2 w _ _ _); have n0 := F0.c0; have n1 := F0.c1; have n2 := F0.c2; have n3 := F0.c3; have n4 := F0.c4; have nf := F0.fz 3; have r0 := F2.c0; have r1 := F2.c1; have r2 := F2.c2; have r3 := F2.c3; have r4 := F2.c4; have f0 := F2.fz 0; have f1 := F2.fz 1; have f2 := F2.fz 2; have f3 := F2.fz 3; have f4 := F2.fz 4)
  have FA := Five.all (f' := f) (t' := t) (d' := d) (x' := x + y3) (v' := .slice (some ⟨g4, 0, none⟩) (n + 1) cp4) (F2.far (b := w.heap.size) (j := 3) (y := .slice (some ⟨g4, 0, none⟩) (n + 1) cp4) (by omega))
  have e0 := FA.c0
  have e1 := FA.c1
  have e2 := FA.c2
  have e3 := FA.c3
  have e4 := FA.c4
  have GR : w.grownBy w4 (Value.slice a n c).ownBlock := ⟨gr4.os, gr4.tape, gr4.output, by have := gr4.size; simp at this; omega, fun k hk hne => by
    rw [gr4.block k (by simp; omega) hne, Below.heap_alloc _ _ _ (by simp; omega), Below.heap_alloc _ _ _ (by simp; omega), Below.heap_alloc _ _ _ hk]⟩
  refine bodyPost_ret (v := .agg #[.int .i64 f, .int .i64 t, .int .i64 d, .slice (some ⟨g4, 0, none⟩) (n + 1) cp4, .int .i64 (x + y3)]) (by simp [results, Try.results56, go_sem, e0, e1, e2, e3, e4]) rfl ⟨⟨_, rfl, ?_⟩, ?_⟩
  · have ne0 := o4.neFive F0
    have ne2 := o4.neFive F2
    refine OwnG.kept o4 (fun kk hk => ?_)
    have ek : kk = g4 := by simp [Value.ownBlock] at hk; omega
    subst ek
    exact six_other ne0 ne2
  · exact grown_far (grown_far (grown_far (grown_far (grown_far (grown_far GR (Nat.le_refl _)) (by omega)) (by omega)) (by omega)) (by omega)) (by omega)
end Go.Proofs.Ytgjhhfmhaalcnaa
