import Derived.Test.YtgojdlbidjnmmaaGreatWinMath
import Derived.Test.YtgojdlbidjnmmaaGreatOwnGen
import Derived.Test.YtgojdlbidjnmmaaGreatMates
namespace Go.Proofs.YtgojdlbidjnmmaaGreat
open Go.ChangeShapes Go.WideShapes Go.ChangeAt Go.RowKit
set_option linter.unusedSimpArgs false

def tc (t : Tl) : List Value := [.int .i64 t.level, .int .i64 t.side, .bool t.alone]
/-- What is told, cell by cell. -/
def tcells : List Tl → List Value
  | [] => []
  | x :: r => tc x ++ tcells r
theorem tcells_len (L : List Tl) : (tcells L).length = L.length * 3 := by
  induction L with
  | nil => rfl
  | cons x r ih => simp only [tcells, List.length_append, ih, List.length_cons]; simp only [tc, List.length_cons, List.length_nil]; omega
theorem tcells_app (L M : List Tl) : tcells (L ++ M) = tcells L ++ tcells M := by
  induction L with
  | nil => rfl
  | cons x r ih => simp only [List.cons_append, tcells, ih, List.append_assoc]
theorem tcells_last (L : List Tl) (x : Tl) (j : Nat) : (tcells (L ++ [x]))[L.length * 3 + j]? = (tc x)[j]? := by
  rw [tcells_app, List.getElem?_append_right (by rw [tcells_len]; omega), tcells_len, show L.length * 3 + j - L.length * 3 = j by omega]
  simp [tcells]

/-- What l3Walk holds in memory. -/
structure WIn (w : World) (B W gl gc n : Nat) (vr vs : Value) (lv cls : List Int) (s : TS) (al : Int) : Prop where
  ge : B ≤ W
  lt : W < w.heap.size
  c0 : w.cell? ⟨W, 0, none⟩ = some vr
  c1 : w.cell? ⟨W, 1, none⟩ = some (.slice (some ⟨gl, 0, none⟩) n n)
  c2 : w.cell? ⟨W, 2, none⟩ = some (.slice (some ⟨gc, 0, none⟩) n n)
  c3 : w.cell? ⟨W, 3, none⟩ = some vs
  c4 : w.cell? ⟨W, 4, none⟩ = some (.int .i64 s.lost)
  c5 : w.cell? ⟨W, 5, none⟩ = some (.int .i64 s.skip)
  c6 : w.cell? ⟨W, 6, none⟩ = some (.int .i64 al)
  fz : ∀ j, w.frozen? ⟨W, j, none⟩ = false
  ol : OwnI w B (.slice (some ⟨gl, 0, none⟩) n n) lv
  oc : OwnI w B (.slice (some ⟨gc, 0, none⟩) n n) cls
  os : OwnV 105 3 w B vs s.st.length (tcells s.st.reverse)
  nlc : gl ≠ gc
  nWl : gl ≠ W
  nWc : gc ≠ W
  ns : ∀ k, vs.ownBlock = some k → k ≠ W ∧ k ≠ gl ∧ k ≠ gc

section
variable {w w' : World} {B W gl gc n : Nat} {vr vs : Value} {lv cls : List Int} {s : TS} {al : Int}
theorem WIn.kept (h : WIn w B W gl gc n vr vs lv cls s al) (hs : w.heap.size ≤ w'.heap.size) (hW : w'.heap[W]? = w.heap[W]?) (hl : w'.heap[gl]? = w.heap[gl]?) (hc : w'.heap[gc]? = w.heap[gc]?) (hv : ∀ k, vs.ownBlock = some k → w'.heap[k]? = w.heap[k]?) : WIn w' B W gl gc n vr vs lv cls s al := by
  have hcell : ∀ j, w'.cell? ⟨W, j, none⟩ = w.cell? ⟨W, j, none⟩ := fun j => World.cell?_of_block hW
  exact ⟨h.ge, Nat.lt_of_lt_of_le h.lt hs, (hcell _).trans h.c0, (hcell _).trans h.c1, (hcell _).trans h.c2, (hcell _).trans h.c3, (hcell _).trans h.c4, (hcell _).trans h.c5, (hcell _).trans h.c6,
    fun j => (World.frozen?_of_block hW).trans (h.fz j), h.ol.kept (fun k hk => by simp [Value.ownBlock] at hk; subst hk; exact hl), h.oc.kept (fun k hk => by simp [Value.ownBlock] at hk; subst hk; exact hc), h.os.kept hv, h.nlc, h.nWl, h.nWc, h.ns⟩
theorem WIn.gllt (h : WIn w B W gl gc n vr vs lv cls s al) : B ≤ gl ∧ gl < w.heap.size := h.ol.lt gl rfl
theorem WIn.gclt (h : WIn w B W gl gc n vr vs lv cls s al) : B ≤ gc ∧ gc < w.heap.size := h.oc.lt gc rfl
theorem WIn.below (h : WIn w B W gl gc n vr vs lv cls s al) (hb : Below w.heap.size w w') : WIn w' B W gl gc n vr vs lv cls s al :=
  h.kept hb.size (hb.block _ h.lt) (hb.block _ h.gllt.2) (hb.block _ h.gclt.2) (fun k hk => hb.block _ (h.os.lt k hk).2)
theorem WIn.drewN (h : WIn w B W gl gc n vr vs lv cls s al) (m : Nat) : WIn (w.drewN m) B W gl gc n vr vs lv cls s al := h.below (below_draws w m)
theorem set_same {w : World} {b i : Nat} {x u : Value} (h : w.cell? ⟨b, i, none⟩ = some u) : (w.setCell ⟨b, i, none⟩ x).cell? ⟨b, i, none⟩ = some x := World.cell?_setCell_same _ _ _ h
theorem set_diff {w : World} {b i j : Nat} {x v : Value} (hne : i ≠ j) (h : w.cell? ⟨b, j, none⟩ = some v) : (w.setCell ⟨b, i, none⟩ x).cell? ⟨b, j, none⟩ = some v := by
  rw [World.cell?_setCell_other _ _ _ _ (by intro e; apply hne; injection e)]; exact h
/-- A store into one of the cells. -/
theorem WIn.put (h : WIn w B W gl gc n vr vs lv cls s al) {j : Nat} {x : Value} {vs' : Value} {s' : TS} {al' : Int}
    (e0 : (w.setCell ⟨W, j, none⟩ x).cell? ⟨W, 0, none⟩ = some vr) (e1 : (w.setCell ⟨W, j, none⟩ x).cell? ⟨W, 1, none⟩ = some (.slice (some ⟨gl, 0, none⟩) n n)) (e2 : (w.setCell ⟨W, j, none⟩ x).cell? ⟨W, 2, none⟩ = some (.slice (some ⟨gc, 0, none⟩) n n))
    (e3 : (w.setCell ⟨W, j, none⟩ x).cell? ⟨W, 3, none⟩ = some vs') (e4 : (w.setCell ⟨W, j, none⟩ x).cell? ⟨W, 4, none⟩ = some (.int .i64 s'.lost)) (e5 : (w.setCell ⟨W, j, none⟩ x).cell? ⟨W, 5, none⟩ = some (.int .i64 s'.skip)) (e6 : (w.setCell ⟨W, j, none⟩ x).cell? ⟨W, 6, none⟩ = some (.int .i64 al'))
    (ho : OwnV 105 3 w B vs' s'.st.length (tcells s'.st.reverse)) (hn : ∀ k, vs'.ownBlock = some k → k ≠ W ∧ k ≠ gl ∧ k ≠ gc) : WIn (w.setCell ⟨W, j, none⟩ x) B W gl gc n vr vs' lv cls s' al' := by
  have hblk : ∀ c, c ≠ W → (w.setCell ⟨W, j, none⟩ x).heap[c]? = w.heap[c]? := fun c hc => heap_setCell_other w ⟨W, j, none⟩ c x hc
  exact ⟨h.ge, by rw [World.size_setCell]; exact h.lt, e0, e1, e2, e3, e4, e5, e6, fun q => by rw [World.frozen?_setCell]; exact h.fz q,
    h.ol.kept (fun k hk => by simp [Value.ownBlock] at hk; subst hk; exact hblk _ h.nWl), h.oc.kept (fun k hk => by simp [Value.ownBlock] at hk; subst hk; exact hblk _ h.nWc), ho.kept (fun k hk => hblk _ (hn k hk).1), h.nlc, h.nWl, h.nWc, hn⟩
theorem WIn.put4 {st : List Tl} {lost skip : Int} (h : WIn w B W gl gc n vr vs lv cls ⟨st, lost, skip⟩ al) (x : Int) : WIn (w.setCell ⟨W, 4, none⟩ (.int .i64 x)) B W gl gc n vr vs lv cls ⟨st, x, skip⟩ al :=
  h.put (set_diff (by omega) h.c0) (set_diff (by omega) h.c1) (set_diff (by omega) h.c2) (set_diff (by omega) h.c3) (set_same h.c4) (set_diff (by omega) h.c5) (set_diff (by omega) h.c6) h.os h.ns
theorem WIn.put5 {st : List Tl} {lost skip : Int} (h : WIn w B W gl gc n vr vs lv cls ⟨st, lost, skip⟩ al) (x : Int) : WIn (w.setCell ⟨W, 5, none⟩ (.int .i64 x)) B W gl gc n vr vs lv cls ⟨st, lost, x⟩ al :=
  h.put (set_diff (by omega) h.c0) (set_diff (by omega) h.c1) (set_diff (by omega) h.c2) (set_diff (by omega) h.c3) (set_diff (by omega) h.c4) (set_same h.c5) (set_diff (by omega) h.c6) h.os h.ns
theorem WIn.put6 {st : List Tl} {lost skip : Int} (h : WIn w B W gl gc n vr vs lv cls ⟨st, lost, skip⟩ al) (x : Int) : WIn (w.setCell ⟨W, 6, none⟩ (.int .i64 x)) B W gl gc n vr vs lv cls ⟨st, lost, skip⟩ x :=
  h.put (set_diff (by omega) h.c0) (set_diff (by omega) h.c1) (set_diff (by omega) h.c2) (set_diff (by omega) h.c3) (set_diff (by omega) h.c4) (set_diff (by omega) h.c5) (set_same h.c6) h.os h.ns
/-- The first ones of the stack alone are left. -/
theorem WIn.put3 {st st' : List Tl} {lost skip : Int} {gs m m' cap : Nat} (h : WIn w B W gl gc n vr (.slice (some ⟨gs, 0, none⟩) m cap) lv cls ⟨st, lost, skip⟩ al) (hm : st.length = m) (hm' : st'.length = m') (p : List Tl) (hp : st = p ++ st') : WIn (w.setCell ⟨W, 3, none⟩ (.slice (some ⟨gs, 0, none⟩) m' cap)) B W gl gc n vr (.slice (some ⟨gs, 0, none⟩) m' cap) lv cls ⟨st', lost, skip⟩ al := by
  have hos := h.os
  simp only at hos
  rw [hm] at hos
  have hl : st.length = p.length + st'.length := by rw [hp, List.length_append]
  refine h.put (set_diff (by omega) h.c0) (set_diff (by omega) h.c1) (set_diff (by omega) h.c2) (set_same h.c3) (set_diff (by omega) h.c4) (set_diff (by omega) h.c5) (set_diff (by omega) h.c6) ?_ (fun k hk => h.ns k (by simpa [Value.ownBlock] using hk))
  have := hos.head m' (by omega)
  show OwnV 105 3 w B _ st'.length (tcells st'.reverse)
  rw [hm']
  have e : (tcells st.reverse).take (m' * 3) = tcells st'.reverse := by
    rw [hp, List.reverse_append, tcells_app, List.take_append_of_le_length (by rw [tcells_len, List.length_reverse]; omega), List.take_of_length_le (by rw [tcells_len, List.length_reverse]; omega)]
  rwa [e] at this
/-- One more on the stack. -/
theorem WIn.push {st : List Tl} {lost skip : Int} {x : Tl} {vs' : Value} (h : WIn w B W gl gc n vr vs lv cls ⟨st, lost, skip⟩ al) (hg : w.grownBy w' vs.ownBlock) (ho : OwnV 105 3 w' B vs' (st.length + 1) (tcells st.reverse ++ tc x)) (hv : vs'.ownBlock = vs.ownBlock ∨ ∃ H, vs'.ownBlock = some H ∧ w.heap.size ≤ H) :
    WIn (w'.setCell ⟨W, 3, none⟩ vs') B W gl gc n vr vs' lv cls ⟨x :: st, lost, skip⟩ al := by
  have hne : ∀ b, b = W ∨ b = gl ∨ b = gc → some b ≠ vs.ownBlock := fun b hb e => by
    have := h.ns b e.symm; omega
  have hW : w'.heap[W]? = w.heap[W]? := hg.block _ h.lt (hne _ (.inl rfl))
  have hl : w'.heap[gl]? = w.heap[gl]? := hg.block _ h.gllt.2 (hne _ (.inr (.inl rfl)))
  have hc : w'.heap[gc]? = w.heap[gc]? := hg.block _ h.gclt.2 (hne _ (.inr (.inr rfl)))
  have hcell : ∀ j, w'.cell? ⟨W, j, none⟩ = w.cell? ⟨W, j, none⟩ := fun j => World.cell?_of_block hW
  have hns : ∀ k, vs'.ownBlock = some k → k ≠ W ∧ k ≠ gl ∧ k ≠ gc := fun k hk => by
    rcases hv with e | ⟨H, e, hH⟩
    · exact h.ns k (by rw [← e]; exact hk)
    · rw [hk] at e; simp at e; have := h.lt; have := h.gllt.2; have := h.gclt.2; omega
  have hblk : ∀ c, c ≠ W → (w'.setCell ⟨W, 3, none⟩ vs').heap[c]? = w'.heap[c]? := fun c hc => heap_setCell_other w' ⟨W, 3, none⟩ c vs' hc
  refine ⟨h.ge, by rw [World.size_setCell]; exact Nat.lt_of_lt_of_le h.lt hg.size, set_diff (by omega) ((hcell _).trans h.c0), set_diff (by omega) ((hcell _).trans h.c1), set_diff (by omega) ((hcell _).trans h.c2), set_same ((hcell _).trans h.c3), set_diff (by omega) ((hcell _).trans h.c4), set_diff (by omega) ((hcell _).trans h.c5), set_diff (by omega) ((hcell _).trans h.c6),
    fun q => by rw [World.frozen?_setCell]; exact (World.frozen?_of_block hW).trans (h.fz q), ?_, ?_, ?_, h.nlc, h.nWl, h.nWc, hns⟩
  · exact h.ol.kept (fun k hk => by simp [Value.ownBlock] at hk; subst hk; exact (hblk _ h.nWl).trans hl)
  · exact h.oc.kept (fun k hk => by simp [Value.ownBlock] at hk; subst hk; exact (hblk _ h.nWc).trans hc)
  · have := OwnV.kept ho (fun k hk => hblk _ (hns k hk).1)
    show OwnV 105 3 _ B vs' (x :: st).length (tcells (x :: st).reverse)
    rw [List.reverse_cons, tcells_app, List.length_cons]
    simpa [tcells] using this
/-- A store into one of the two rows. -/
theorem WIn.setL (h : WIn w B W gl gc n vr vs lv cls s al) (i : Nat) (x : Int) : WIn (w.setCell ⟨gl, i, none⟩ (.int .i64 x)) B W gl gc n vr vs (lv.set i x) cls s al := by
  have hblk : ∀ c, c ≠ gl → (w.setCell ⟨gl, i, none⟩ (.int .i64 x)).heap[c]? = w.heap[c]? := fun c hc => heap_setCell_other w ⟨gl, i, none⟩ c _ hc
  have hW := hblk W (fun e => h.nWl e.symm)
  have hcell : ∀ j, (w.setCell ⟨gl, i, none⟩ (.int .i64 x)).cell? ⟨W, j, none⟩ = w.cell? ⟨W, j, none⟩ := fun j => World.cell?_of_block hW
  exact ⟨h.ge, by rw [World.size_setCell]; exact h.lt, (hcell _).trans h.c0, (hcell _).trans h.c1, (hcell _).trans h.c2, (hcell _).trans h.c3, (hcell _).trans h.c4, (hcell _).trans h.c5, (hcell _).trans h.c6,
    fun j => by rw [World.frozen?_setCell]; exact h.fz j, h.ol.storedN i x, h.oc.kept (fun k hk => by simp [Value.ownBlock] at hk; subst hk; exact hblk _ (fun e => h.nlc e.symm)), h.os.kept (fun k hk => hblk _ (h.ns k hk).2.1), h.nlc, h.nWl, h.nWc, h.ns⟩
theorem WIn.setC (h : WIn w B W gl gc n vr vs lv cls s al) (i : Nat) (x : Int) : WIn (w.setCell ⟨gc, i, none⟩ (.int .i64 x)) B W gl gc n vr vs lv (cls.set i x) s al := by
  have hblk : ∀ c, c ≠ gc → (w.setCell ⟨gc, i, none⟩ (.int .i64 x)).heap[c]? = w.heap[c]? := fun c hc => heap_setCell_other w ⟨gc, i, none⟩ c _ hc
  have hW := hblk W (fun e => h.nWc e.symm)
  have hcell : ∀ j, (w.setCell ⟨gc, i, none⟩ (.int .i64 x)).cell? ⟨W, j, none⟩ = w.cell? ⟨W, j, none⟩ := fun j => World.cell?_of_block hW
  exact ⟨h.ge, by rw [World.size_setCell]; exact h.lt, (hcell _).trans h.c0, (hcell _).trans h.c1, (hcell _).trans h.c2, (hcell _).trans h.c3, (hcell _).trans h.c4, (hcell _).trans h.c5, (hcell _).trans h.c6,
    fun j => by rw [World.frozen?_setCell]; exact h.fz j, h.ol.kept (fun k hk => by simp [Value.ownBlock] at hk; subst hk; exact hblk _ h.nlc), h.oc.storedN i x, h.os.kept (fun k hk => hblk _ (h.ns k hk).2.2), h.nlc, h.nWl, h.nWc, h.ns⟩
theorem WIn.blwL (h : WIn w B W gl gc n vr vs lv cls s al) {w0 : World} (hb : Below B w0 w) (j : Nat) (x : Value) : Below B w0 (w.setCell ⟨gl, j, none⟩ x) := hb.setCell h.gllt.1 _
theorem WIn.blwC (h : WIn w B W gl gc n vr vs lv cls s al) {w0 : World} (hb : Below B w0 w) (j : Nat) (x : Value) : Below B w0 (w.setCell ⟨gc, j, none⟩ x) := hb.setCell h.gclt.1 _
theorem WIn.pushBelow (h : WIn w B W gl gc n vr vs lv cls s al) {w0 : World} {vs' : Value} (hb : Below B w0 w) (hB : B ≤ w.heap.size) (hg : w.grownBy w' vs.ownBlock) : Below B w0 (w'.setCell ⟨W, 3, none⟩ vs') :=
  (hb.grown hg hB (fun k hk => (h.os.lt k hk).1)).setCell h.ge _
theorem WIn.blw (h : WIn w B W gl gc n vr vs lv cls s al) {w0 : World} (hb : Below B w0 w) (j : Nat) (x : Value) : Below B w0 (w.setCell ⟨W, j, none⟩ x) := hb.setCell h.ge _
end

set_option maxHeartbeats 1000000 in
theorem specUp (lv : Int) (right : Bool) (w : World) (h0 : 0 ≤ lv) (h1 : lv ≤ 100) : Calls Tryz.prog 154 #[.int .i64 lv, .bool right] w fun e w' => e = .returned (.int .i64 (upL lv right)) ∧ w' = w := by
  by_cases hq : (right == ((lv % 2) == 0)) = true
  · go_enter Tryz.func154, Tryz.ntmps154
    go_wp2
    go_ret
    refine ⟨retInt ?_, rfl⟩
    have h2 : right = (lv % 2 == 0) := by simpa using hq
    exact (if_pos h2).symm
  · go_enter Tryz.func154, Tryz.ntmps154
    go_wp2
    go_ret
    refine ⟨retInt ?_, rfl⟩
    have h2 : ¬ right = (lv % 2 == 0) := by simpa using hq
    exact (if_neg h2).symm
end Go.Proofs.YtgojdlbidjnmmaaGreat
