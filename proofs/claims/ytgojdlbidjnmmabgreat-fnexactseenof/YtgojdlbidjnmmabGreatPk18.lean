import Derived.Deep.RegionHeld3
import Derived.Deep.LoopGhost
import Derived.RegionTactic
import Derived.BigRegion
import Derived.Test.YtgojdlbidjnmmabGreatPk1
import Derived.Test.YtgojdlbidjnmmabGreatPk2
import Derived.Test.YtgojdlbidjnmmabGreatPk5
import Derived.Test.YtgojdlbidjnmmabGreatPk4
namespace Go.Proofs.YtgojdlbidjnmmabGreat
set_option linter.unusedSimpArgs false

theorem bidi_nsm (r : Int) : bidi r = 9 ↔ (768 ≤ r ∧ r ≤ 879) := by
  unfold bidi signs moves; repeat' split
  all_goals omega
theorem bidi_hi (r : Int) : 14 ≤ bidi r ↔ ((8234 ≤ r ∧ r ≤ 8238) ∨ (8294 ≤ r ∧ r ≤ 8297)) := by
  unfold bidi signs moves; repeat' split
  all_goals omega
theorem bidi_en (r : Int) : bidi r = 4 ↔ (48 ≤ r ∧ r ≤ 57) := by
  unfold bidi signs moves; repeat' split
  all_goals omega
theorem bidi_an (r : Int) : bidi r = 7 ↔ (1632 ≤ r ∧ r ≤ 1641) := by
  unfold bidi signs moves; repeat' split
  all_goals omega
theorem bidi_rng (r : Int) : 1 ≤ bidi r ∧ bidi r ≤ 22 := by
  unfold bidi signs moves; repeat' split
  all_goals omega

/-- The class of a letter by its range, its class by side being known. -/
def lineR (c r : Int) : Int :=
  if 19968 ≤ r ∧ r ≤ 40959 then 15 else if c = 9 ∨ 14 ≤ c then 7 else if c = 4 ∨ c = 7 then 2 else 1
def lineI (r : Int) : Int :=
  if r = 10 then 4 else if r = 32 then 3 else if r = 160 then 5 else if r = 8203 then 6 else if r = 8205 then 7 else
  if r = 40 ∨ r = 91 ∨ r = 123 then 8 else if r = 41 ∨ r = 93 ∨ r = 125 then 9 else if r = 33 ∨ r = 63 then 10 else
  if r = 34 then 11 else if r = 45 then 12 else if r = 44 ∨ r = 46 ∨ r = 58 ∨ r = 59 ∨ r = 47 then 13 else
  if r = 9 ∨ r = 173 then 14 else lineR (bidi r) r
def lineG (r : Int) : Int :=
  if r = 40 ∨ r = 91 ∨ r = 123 then 8 else if r = 41 ∨ r = 93 ∨ r = 125 then 9 else if r = 33 ∨ r = 63 then 10 else
  if r = 34 then 11 else if r = 45 then 12 else if r = 44 ∨ r = 46 ∨ r = 58 ∨ r = 59 ∨ r = 47 then 13 else
  if r = 9 ∨ r = 173 then 14 else 1
def lineS (c r : Int) : Int :=
  if r = 10 then 4 else if r = 32 then 3 else if r = 160 then 5 else if r = 8203 then 6 else
  if c = 9 ∨ r = 8205 ∨ 14 ≤ c then 7 else if (48 ≤ r ∧ r ≤ 57) ∨ (1632 ≤ r ∧ r ≤ 1641) then 2 else if 19968 ≤ r ∧ r ≤ 40959 then 15 else lineG r

theorem line_same (r : Int) : lineI r = lineS (bidi r) r := by
  have h1 := bidi_nsm r
  have h2 := bidi_hi r
  have h3 := bidi_en r
  have h4 := bidi_an r
  unfold lineI lineR lineS
  simp only [h1, h2, h3, h4]
  clear h1 h2 h3 h4
  by_cases a : r = 10 ∨ r = 32 ∨ r = 160 ∨ r = 8203 ∨ r = 8205
  · rcases a with rfl | rfl | rfl | rfl | rfl <;> simp
  · by_cases b : r = 40 ∨ r = 91 ∨ r = 123 ∨ r = 41 ∨ r = 93 ∨ r = 125 ∨ r = 33 ∨ r = 63 ∨ r = 34 ∨ r = 45 ∨ r = 44 ∨ r = 46 ∨ r = 58 ∨ r = 59 ∨ r = 47 ∨ r = 9 ∨ r = 173
    · rcases b with rfl | rfl | rfl | rfl | rfl | rfl | rfl | rfl | rfl | rfl | rfl | rfl | rfl | rfl | rfl | rfl | rfl <;> simp [lineG]
    · have hg : lineG r = 1 := by
        unfold lineG
        repeat (first | rfl | rw [if_neg (by omega)])
      rw [hg]
      repeat' split
      all_goals omega
theorem lineS_rng (r : Int) : 1 ≤ lineS (bidi r) r ∧ lineS (bidi r) r ≤ 15 := by
  unfold lineS lineG
  repeat' split
  all_goals omega
end Go.Proofs.YtgojdlbidjnmmabGreat
namespace Go.Proofs.YtgojdlbidjnmmabGreat
open Go.ChangeShapes Go.WideShapes Go.ChangeAt Go.RowKit
set_option linter.unusedSimpArgs false

def tc (t : Tl) : List Value := [.int .i64 t.level, .int .i64 t.side, .bool t.alone]
/-- What is told, cell by cell. -/
def tcells : List Tl → List Value
  | [] => []
  | x :: r => tc x ++ tcells r
theorem tcells_len (L : List Tl) : (tcells L).length = L.length * 3 := by
  induction L with
  | nil => rfl
  | cons x r ih => simp only [tcells, List.length_append, ih, List.length_cons]; simp only [tc, List.length_cons, List.length_nil]; omega
theorem tcells_app (L M : List Tl) : tcells (L ++ M) = tcells L ++ tcells M := by
  induction L with
  | nil => rfl
  | cons x r ih => simp only [List.cons_append, tcells, ih, List.append_assoc]
theorem tcells_last (L : List Tl) (x : Tl) (j : Nat) : (tcells (L ++ [x]))[L.length * 3 + j]? = (tc x)[j]? := by
  rw [tcells_app, List.getElem?_append_right (by rw [tcells_len]; omega), tcells_len, show L.length * 3 + j - L.length * 3 = j by omega]
  simp [tcells]

/-- What l3Walk holds in memory. -/
structure WIn (w : World) (B W gl gc n : Nat) (vr vs : Value) (lv cls : List Int) (s : TS) (al : Int) : Prop where
  ge : B ≤ W
  lt : W < w.heap.size
  c0 : w.cell? ⟨W, 0, none⟩ = some vr
  c1 : w.cell? ⟨W, 1, none⟩ = some (.slice (some ⟨gl, 0, none⟩) n n)
  c2 : w.cell? ⟨W, 2, none⟩ = some (.slice (some ⟨gc, 0, none⟩) n n)
  c3 : w.cell? ⟨W, 3, none⟩ = some vs
  c4 : w.cell? ⟨W, 4, none⟩ = some (.int .i64 s.lost)
  c5 : w.cell? ⟨W, 5, none⟩ = some (.int .i64 s.skip)
  c6 : w.cell? ⟨W, 6, none⟩ = some (.int .i64 al)
  fz : ∀ j, w.frozen? ⟨W, j, none⟩ = false
  ol : OwnI w B (.slice (some ⟨gl, 0, none⟩) n n) lv
  oc : OwnI w B (.slice (some ⟨gc, 0, none⟩) n n) cls
  os : OwnV 61 3 w B vs s.st.length (tcells s.st.reverse)
  nlc : gl ≠ gc
  nWl : gl ≠ W
  nWc : gc ≠ W
  ns : ∀ k, vs.ownBlock = some k → k ≠ W ∧ k ≠ gl ∧ k ≠ gc

section
variable {w w' : World} {B W gl gc n : Nat} {vr vs : Value} {lv cls : List Int} {s : TS} {al : Int}
theorem WIn.kept (h : WIn w B W gl gc n vr vs lv cls s al) (hs : w.heap.size ≤ w'.heap.size) (hW : w'.heap[W]? = w.heap[W]?) (hl : w'.heap[gl]? = w.heap[gl]?) (hc : w'.heap[gc]? = w.heap[gc]?) (hv : ∀ k, vs.ownBlock = some k → w'.heap[k]? = w.heap[k]?) : WIn w' B W gl gc n vr vs lv cls s al := by
  have hcell : ∀ j, w'.cell? ⟨W, j, none⟩ = w.cell? ⟨W, j, none⟩ := fun j => World.cell?_of_block hW
  exact ⟨h.ge, Nat.lt_of_lt_of_le h.lt hs, (hcell _).trans h.c0, (hcell _).trans h.c1, (hcell _).trans h.c2, (hcell _).trans h.c3, (hcell _).trans h.c4, (hcell _).trans h.c5, (hcell _).trans h.c6,
    fun j => (World.frozen?_of_block hW).trans (h.fz j), h.ol.kept (fun k hk => by simp [Value.ownBlock] at hk; subst hk; exact hl), h.oc.kept (fun k hk => by simp [Value.ownBlock] at hk; subst hk; exact hc), h.os.kept hv, h.nlc, h.nWl, h.nWc, h.ns⟩
theorem WIn.gllt (h : WIn w B W gl gc n vr vs lv cls s al) : B ≤ gl ∧ gl < w.heap.size := h.ol.lt gl rfl
theorem WIn.gclt (h : WIn w B W gl gc n vr vs lv cls s al) : B ≤ gc ∧ gc < w.heap.size := h.oc.lt gc rfl
theorem WIn.below (h : WIn w B W gl gc n vr vs lv cls s al) (hb : Below w.heap.size w w') : WIn w' B W gl gc n vr vs lv cls s al :=
  h.kept hb.size (hb.block _ h.lt) (hb.block _ h.gllt.2) (hb.block _ h.gclt.2) (fun k hk => hb.block _ (h.os.lt k hk).2)
theorem WIn.drewN (h : WIn w B W gl gc n vr vs lv cls s al) (m : Nat) : WIn (w.drewN m) B W gl gc n vr vs lv cls s al := h.below (below_draws w m)
theorem set_same {w : World} {b i : Nat} {x u : Value} (h : w.cell? ⟨b, i, none⟩ = some u) : (w.setCell ⟨b, i, none⟩ x).cell? ⟨b, i, none⟩ = some x := World.cell?_setCell_same _ _ _ h
theorem set_diff {w : World} {b i j : Nat} {x v : Value} (hne : i ≠ j) (h : w.cell? ⟨b, j, none⟩ = some v) : (w.setCell ⟨b, i, none⟩ x).cell? ⟨b, j, none⟩ = some v := by
  rw [World.cell?_setCell_other _ _ _ _ (by intro e; apply hne; injection e)]; exact h
/-- A store into one of the cells. -/
theorem WIn.put (h : WIn w B W gl gc n vr vs lv cls s al) {j : Nat} {x : Value} {vs' : Value} {s' : TS} {al' : Int}
    (e0 : (w.setCell ⟨W, j, none⟩ x).cell? ⟨W, 0, none⟩ = some vr) (e1 : (w.setCell ⟨W, j, none⟩ x).cell? ⟨W, 1, none⟩ = some (.slice (some ⟨gl, 0, none⟩) n n)) (e2 : (w.setCell ⟨W, j, none⟩ x).cell? ⟨W, 2, none⟩ = some (.slice (some ⟨gc, 0, none⟩) n n))
    (e3 : (w.setCell ⟨W, j, none⟩ x).cell? ⟨W, 3, none⟩ = some vs') (e4 : (w.setCell ⟨W, j, none⟩ x).cell? ⟨W, 4, none⟩ = some (.int .i64 s'.lost)) (e5 : (w.setCell ⟨W, j, none⟩ x).cell? ⟨W, 5, none⟩ = some (.int .i64 s'.skip)) (e6 : (w.setCell ⟨W, j, none⟩ x).cell? ⟨W, 6, none⟩ = some (.int .i64 al'))
    (ho : OwnV 61 3 w B vs' s'.st.length (tcells s'.st.reverse)) (hn : ∀ k, vs'.ownBlock = some k → k ≠ W ∧ k ≠ gl ∧ k ≠ gc) : WIn (w.setCell ⟨W, j, none⟩ x) B W gl gc n vr vs' lv cls s' al' := by
  have hblk : ∀ c, c ≠ W → (w.setCell ⟨W, j, none⟩ x).heap[c]? = w.heap[c]? := fun c hc => heap_setCell_other w ⟨W, j, none⟩ c x hc
  exact ⟨h.ge, by rw [World.size_setCell]; exact h.lt, e0, e1, e2, e3, e4, e5, e6, fun q => by rw [World.frozen?_setCell]; exact h.fz q,
    h.ol.kept (fun k hk => by simp [Value.ownBlock] at hk; subst hk; exact hblk _ h.nWl), h.oc.kept (fun k hk => by simp [Value.ownBlock] at hk; subst hk; exact hblk _ h.nWc), ho.kept (fun k hk => hblk _ (hn k hk).1), h.nlc, h.nWl, h.nWc, hn⟩
theorem WIn.put4 {st : List Tl} {lost skip : Int} (h : WIn w B W gl gc n vr vs lv cls ⟨st, lost, skip⟩ al) (x : Int) : WIn (w.setCell ⟨W, 4, none⟩ (.int .i64 x)) B W gl gc n vr vs lv cls ⟨st, x, skip⟩ al :=
  h.put (set_diff (by omega) h.c0) (set_diff (by omega) h.c1) (set_diff (by omega) h.c2) (set_diff (by omega) h.c3) (set_same h.c4) (set_diff (by omega) h.c5) (set_diff (by omega) h.c6) h.os h.ns
theorem WIn.put5 {st : List Tl} {lost skip : Int} (h : WIn w B W gl gc n vr vs lv cls ⟨st, lost, skip⟩ al) (x : Int) : WIn (w.setCell ⟨W, 5, none⟩ (.int .i64 x)) B W gl gc n vr vs lv cls ⟨st, lost, x⟩ al :=
  h.put (set_diff (by omega) h.c0) (set_diff (by omega) h.c1) (set_diff (by omega) h.c2) (set_diff (by omega) h.c3) (set_diff (by omega) h.c4) (set_same h.c5) (set_diff (by omega) h.c6) h.os h.ns
theorem WIn.put6 {st : List Tl} {lost skip : Int} (h : WIn w B W gl gc n vr vs lv cls ⟨st, lost, skip⟩ al) (x : Int) : WIn (w.setCell ⟨W, 6, none⟩ (.int .i64 x)) B W gl gc n vr vs lv cls ⟨st, lost, skip⟩ x :=
  h.put (set_diff (by omega) h.c0) (set_diff (by omega) h.c1) (set_diff (by omega) h.c2) (set_diff (by omega) h.c3) (set_diff (by omega) h.c4) (set_diff (by omega) h.c5) (set_same h.c6) h.os h.ns
/-- The first ones of the stack alone are left. -/
theorem WIn.put3 {st st' : List Tl} {lost skip : Int} {gs m m' cap : Nat} (h : WIn w B W gl gc n vr (.slice (some ⟨gs, 0, none⟩) m cap) lv cls ⟨st, lost, skip⟩ al) (hm : st.length = m) (hm' : st'.length = m') (p : List Tl) (hp : st = p ++ st') : WIn (w.setCell ⟨W, 3, none⟩ (.slice (some ⟨gs, 0, none⟩) m' cap)) B W gl gc n vr (.slice (some ⟨gs, 0, none⟩) m' cap) lv cls ⟨st', lost, skip⟩ al := by
  have hos := h.os
  simp only at hos
  rw [hm] at hos
  have hl : st.length = p.length + st'.length := by rw [hp, List.length_append]
  refine h.put (set_diff (by omega) h.c0) (set_diff (by omega) h.c1) (set_diff (by omega) h.c2) (set_same h.c3) (set_diff (by omega) h.c4) (set_diff (by omega) h.c5) (set_diff (by omega) h.c6) ?_ (fun k hk => h.ns k (by simpa [Value.ownBlock] using hk))
  have := hos.head m' (by omega)
  show OwnV 61 3 w B _ st'.length (tcells st'.reverse)
  rw [hm']
  have e : (tcells st.reverse).take (m' * 3) = tcells st'.reverse := by
    rw [hp, List.reverse_append, tcells_app, List.take_append_of_le_length (by rw [tcells_len, List.length_reverse]; omega), List.take_of_length_le (by rw [tcells_len, List.length_reverse]; omega)]
  rwa [e] at this
/-- One more on the stack. -/
theorem WIn.push {st : List Tl} {lost skip : Int} {x : Tl} {vs' : Value} (h : WIn w B W gl gc n vr vs lv cls ⟨st, lost, skip⟩ al) (hg : w.grownBy w' vs.ownBlock) (ho : OwnV 61 3 w' B vs' (st.length + 1) (tcells st.reverse ++ tc x)) (hv : vs'.ownBlock = vs.ownBlock ∨ ∃ H, vs'.ownBlock = some H ∧ w.heap.size ≤ H) :
    WIn (w'.setCell ⟨W, 3, none⟩ vs') B W gl gc n vr vs' lv cls ⟨x :: st, lost, skip⟩ al := by
  have hne : ∀ b, b = W ∨ b = gl ∨ b = gc → some b ≠ vs.ownBlock := fun b hb e => by
    have := h.ns b e.symm; omega
  have hW : w'.heap[W]? = w.heap[W]? := hg.block _ h.lt (hne _ (.inl rfl))
  have hl : w'.heap[gl]? = w.heap[gl]? := hg.block _ h.gllt.2 (hne _ (.inr (.inl rfl)))
  have hc : w'.heap[gc]? = w.heap[gc]? := hg.block _ h.gclt.2 (hne _ (.inr (.inr rfl)))
  have hcell : ∀ j, w'.cell? ⟨W, j, none⟩ = w.cell? ⟨W, j, none⟩ := fun j => World.cell?_of_block hW
  have hns : ∀ k, vs'.ownBlock = some k → k ≠ W ∧ k ≠ gl ∧ k ≠ gc := fun k hk => by
    rcases hv with e | ⟨H, e, hH⟩
    · exact h.ns k (by rw [← e]; exact hk)
    · rw [hk] at e; simp at e; have := h.lt; have := h.gllt.2; have := h.gclt.2; omega
  have hblk : ∀ c, c ≠ W → (w'.setCell ⟨W, 3, none⟩ vs').heap[c]? = w'.heap[c]? := fun c hc => heap_setCell_other w' ⟨W, 3, none⟩ c vs' hc
  refine ⟨h.ge, by rw [World.size_setCell]; exact Nat.lt_of_lt_of_le h.lt hg.size, set_diff (by omega) ((hcell _).trans h.c0), set_diff (by omega) ((hcell _).trans h.c1), set_diff (by omega) ((hcell _).trans h.c2), set_same ((hcell _).trans h.c3), set_diff (by omega) ((hcell _).trans h.c4), set_diff (by omega) ((hcell _).trans h.c5), set_diff (by omega) ((hcell _).trans h.c6),
    fun q => by rw [World.frozen?_setCell]; exact (World.frozen?_of_block hW).trans (h.fz q), ?_, ?_, ?_, h.nlc, h.nWl, h.nWc, hns⟩
  · exact h.ol.kept (fun k hk => by simp [Value.ownBlock] at hk; subst hk; exact (hblk _ h.nWl).trans hl)
  · exact h.oc.kept (fun k hk => by simp [Value.ownBlock] at hk; subst hk; exact (hblk _ h.nWc).trans hc)
  · have := OwnV.kept ho (fun k hk => hblk _ (hns k hk).1)
    show OwnV 61 3 _ B vs' (x :: st).length (tcells (x :: st).reverse)
    rw [List.reverse_cons, tcells_app, List.length_cons]
    simpa [tcells] using this
/-- A store into one of the two rows. -/
theorem WIn.setL (h : WIn w B W gl gc n vr vs lv cls s al) (i : Nat) (x : Int) : WIn (w.setCell ⟨gl, i, none⟩ (.int .i64 x)) B W gl gc n vr vs (lv.set i x) cls s al := by
  have hblk : ∀ c, c ≠ gl → (w.setCell ⟨gl, i, none⟩ (.int .i64 x)).heap[c]? = w.heap[c]? := fun c hc => heap_setCell_other w ⟨gl, i, none⟩ c _ hc
  have hW := hblk W (fun e => h.nWl e.symm)
  have hcell : ∀ j, (w.setCell ⟨gl, i, none⟩ (.int .i64 x)).cell? ⟨W, j, none⟩ = w.cell? ⟨W, j, none⟩ := fun j => World.cell?_of_block hW
  exact ⟨h.ge, by rw [World.size_setCell]; exact h.lt, (hcell _).trans h.c0, (hcell _).trans h.c1, (hcell _).trans h.c2, (hcell _).trans h.c3, (hcell _).trans h.c4, (hcell _).trans h.c5, (hcell _).trans h.c6,
    fun j => by rw [World.frozen?_setCell]; exact h.fz j, h.ol.storedN i x, h.oc.kept (fun k hk => by simp [Value.ownBlock] at hk; subst hk; exact hblk _ (fun e => h.nlc e.symm)), h.os.kept (fun k hk => hblk _ (h.ns k hk).2.1), h.nlc, h.nWl, h.nWc, h.ns⟩
theorem WIn.setC (h : WIn w B W gl gc n vr vs lv cls s al) (i : Nat) (x : Int) : WIn (w.setCell ⟨gc, i, none⟩ (.int .i64 x)) B W gl gc n vr vs lv (cls.set i x) s al := by
  have hblk : ∀ c, c ≠ gc → (w.setCell ⟨gc, i, none⟩ (.int .i64 x)).heap[c]? = w.heap[c]? := fun c hc => heap_setCell_other w ⟨gc, i, none⟩ c _ hc
  have hW := hblk W (fun e => h.nWc e.symm)
  have hcell : ∀ j, (w.setCell ⟨gc, i, none⟩ (.int .i64 x)).cell? ⟨W, j, none⟩ = w.cell? ⟨W, j, none⟩ := fun j => World.cell?_of_block hW
  exact ⟨h.ge, by rw [World.size_setCell]; exact h.lt, (hcell _).trans h.c0, (hcell _).trans h.c1, (hcell _).trans h.c2, (hcell _).trans h.c3, (hcell _).trans h.c4, (hcell _).trans h.c5, (hcell _).trans h.c6,
    fun j => by rw [World.frozen?_setCell]; exact h.fz j, h.ol.kept (fun k hk => by simp [Value.ownBlock] at hk; subst hk; exact hblk _ h.nlc), h.oc.storedN i x, h.os.kept (fun k hk => hblk _ (h.ns k hk).2.2), h.nlc, h.nWl, h.nWc, h.ns⟩
theorem WIn.blwL (h : WIn w B W gl gc n vr vs lv cls s al) {w0 : World} (hb : Below B w0 w) (j : Nat) (x : Value) : Below B w0 (w.setCell ⟨gl, j, none⟩ x) := hb.setCell h.gllt.1 _
theorem WIn.blwC (h : WIn w B W gl gc n vr vs lv cls s al) {w0 : World} (hb : Below B w0 w) (j : Nat) (x : Value) : Below B w0 (w.setCell ⟨gc, j, none⟩ x) := hb.setCell h.gclt.1 _
theorem WIn.pushBelow (h : WIn w B W gl gc n vr vs lv cls s al) {w0 : World} {vs' : Value} (hb : Below B w0 w) (hB : B ≤ w.heap.size) (hg : w.grownBy w' vs.ownBlock) : Below B w0 (w'.setCell ⟨W, 3, none⟩ vs') :=
  (hb.grown hg hB (fun k hk => (h.os.lt k hk).1)).setCell h.ge _
theorem WIn.blw (h : WIn w B W gl gc n vr vs lv cls s al) {w0 : World} (hb : Below B w0 w) (j : Nat) (x : Value) : Below B w0 (w.setCell ⟨W, j, none⟩ x) := hb.setCell h.ge _
end

set_option maxHeartbeats 1000000 in
theorem specUp (lv : Int) (right : Bool) (w : World) (h0 : 0 ≤ lv) (h1 : lv ≤ 100) : Calls Tryz.prog 117 #[.int .i64 lv, .bool right] w fun e w' => e = .returned (.int .i64 (upL lv right)) ∧ w' = w := by
  by_cases hq : (right == ((lv % 2) == 0)) = true
  · go_enter Tryz.func117, Tryz.ntmps117
    go_wp2
    go_ret
    refine ⟨retInt ?_, rfl⟩
    have h2 : right = (lv % 2 == 0) := by simpa using hq
    exact (if_pos h2).symm
  · go_enter Tryz.func117, Tryz.ntmps117
    go_wp2
    go_ret
    refine ⟨retInt ?_, rfl⟩
    have h2 : ¬ right = (lv % 2 == 0) := by simpa using hq
    exact (if_neg h2).symm
end Go.Proofs.YtgojdlbidjnmmabGreat
namespace Go.Proofs.YtgojdlbidjnmmabGreat
open Go.ChangeShapes Go.WideShapes Go.ChangeAt Go.RowKit
set_option linter.unusedSimpArgs false
set_option linter.unusedVariables false

/-- What stands on top. -/
theorem WIn.top {w : World} {W gl gc n B k : Nat} {vr vs : Value} {lv cls : List Int} {s : TS} {al base : Int} (h : WIn w B W gl gc n vr vs lv cls s al) (hg : GoodS base k s) (hk : k ≤ 1000) :
    ∃ m gs cap xl xs xa, s.st.length = m + 1 ∧ m ≤ 1000 ∧ vs = .slice (some ⟨gs, 0, none⟩) (m + 1) cap ∧ m + 1 ≤ cap ∧ w.cell? ⟨gs, m * 3, none⟩ = some (.int .i64 xl) ∧ w.cell? ⟨gs, m * 3 + 1, none⟩ = some (.int .i64 xs) ∧ w.cell? ⟨gs, m * 3 + 2, none⟩ = some (.bool xa) ∧ topL s.st = xl ∧ topS s.st = xs ∧ topA s.st = xa ∧ gs < w.heap.size := by
  obtain ⟨x, r, hx⟩ := good_ne hg
  have hlen : s.st.length = r.length + 1 := by rw [hx, List.length_cons]
  have hm80 : r.length ≤ 1000 := by have := hg.len; omega
  have hos := h.os
  rw [hlen] at hos
  obtain ⟨gs, cap, rfl, hgs0, hgs1, hgs2, hgs3⟩ := hos.form1 (by omega)
  have ct : ∀ j, j < 3 → w.cell? ⟨gs, r.length * 3 + j, none⟩ = (tc x)[j]? := fun j hj => by
    rw [hos.cell (r.length * 3 + j) (by omega), hx, List.reverse_cons]
    have := tcells_last r.reverse x j
    rw [List.length_reverse] at this
    exact this
  exact ⟨r.length, gs, cap, x.level, x.side, x.alone, hlen, hm80, rfl, hgs2, ct 0 (by omega), ct 1 (by omega), ct 2 (by omega), by rw [hx]; rfl, by rw [hx]; rfl, by rw [hx]; rfl, hgs1⟩

theorem below_new (w : World) (o : Obj) : Below w.heap.size w (w.alloc o) := (Below.refl _ _).alloc (Nat.le_refl _) _

set_option maxHeartbeats 2000000 in
theorem specHere {W gl gc n B k : Nat} {vr vs : Value} {lv cls : List Int} {s : TS} {al base : Int} (w : World) (h : WIn w B W gl gc n vr vs lv cls s al) (hg : GoodS base k s) (hk : k ≤ 1000) (hB : B ≤ w.heap.size) (i : Nat) (hi : i < n) (c : Int) :
    Calls Tryz.prog 89 #[.pointer (some ⟨W, 0, none⟩), .int .i64 i, .int .i64 c] w fun e w' => e = .returned (.tuple #[]) ∧ WIn w' B W gl gc n vr vs (lv.set i (topL s.st)) (cls.set i (sdT s.st c)) s al ∧ Below B w w' := by
  obtain ⟨m, gs, cap, xl, xs, xa, hlen, hm, rfl, hmc, ct0, ct1, ct2, e0, e1, e2, hgs⟩ := h.top hg hk
  unfold sdT
  rw [e0, e1]
  have E0 : Hid _ := e0
  have E1 : Hid _ := e1
  have HL : Hid _ := hlen
  have c3 := h.c3
  have H : Hid _ := h
  have hw0 : IntKind.i64.wrap (m : Int) = (m : Int) := by rw [IntKind.wrap_i64]; omega
  have hp0 : (0 : Int) ≤ (m : Int) := by omega
  have hp1 : (m : Int) < (m : Int) + 1 := by omega
  clear hlen e0 e1 e2 h hg
  go_enter Tryz.func89, Tryz.ntmps89
  go_wp2_with fail
  go_region_held3 (fun w' => w'.cell? ⟨W, 3, none⟩ = some (.slice (some ⟨gs, 0, none⟩) (m + 1) cap) ∧ w'.cell? ⟨gs, m * 3, none⟩ = some (.int .i64 xl) ∧ w'.cell? ⟨gs, m * 3 + 1, none⟩ = some (.int .i64 xs) ∧ w'.cell? ⟨gs, m * 3 + 2, none⟩ = some (.bool xa)) (go_keep) (fail)
  go_wp2_with fail
  obtain ⟨b, hb⟩ : ∃ b, w.heap.size = b := ⟨_, rfl⟩
  have k0 : (w.alloc (.cells #[.int .i64 xl, .int .i64 xs, .bool xa] 61)).cell? ⟨w.heap.size, 0, none⟩ = some (.int .i64 xl) := by go_simp
  have k1 : (w.alloc (.cells #[.int .i64 xl, .int .i64 xs, .bool xa] 61)).cell? ⟨w.heap.size, 1, none⟩ = some (.int .i64 xs) := by go_simp
  have HW1 : Hid (WIn (w.alloc (.cells #[.int .i64 xl, .int .i64 xs, .bool xa] 61)).drew B W gl gc n vr (.slice (some ⟨gs, 0, none⟩) (m + 1) cap) lv cls s al) := H.out.below ((below_new _ _).drew)
  have B1 : Hid (Below B w (w.alloc (.cells #[.int .i64 xl, .int .i64 xs, .bool xa] 61)).drew) := ((below_new w _).drew).mono hB
  obtain ⟨w1, hw1⟩ : ∃ W', (w.alloc (.cells #[.int .i64 xl, .int .i64 xs, .bool xa] 61)).drew = W' := ⟨_, rfl⟩
  replace k0 : w1.cell? ⟨b, 0, none⟩ = some (.int .i64 xl) := by rw [← hw1, ← hb]; exact k0
  replace k1 : w1.cell? ⟨b, 1, none⟩ = some (.int .i64 xs) := by rw [← hw1, ← hb]; exact k1
  have hbg : b ≠ gl ∧ b ≠ gc := by have := H.out.gllt.2; have := H.out.gclt.2; omega
  rw [hw1] at HW1 B1 ⊢
  rw [hb]
  clear hw1 hb c3 ct0 ct1 ct2
  have c1 := HW1.out.c1
  have c2 := HW1.out.c2
  have q1 : ¬ gl = W := H.out.nWl
  have q2 : ¬ gl = b := fun e => hbg.1 e.symm
  have q3 : ¬ gc = W := H.out.nWc
  have q4 : ¬ gc = b := fun e => hbg.2 e.symm
  have hi0 : (0 : Int) ≤ (i : Int) := by omega
  have hi1 : (i : Int) < (n : Int) := by omega
  have cl := HW1.out.ol.cellN i hi
  have fl := HW1.out.ol.frozenN i
  have q5 : ¬ gl = gc := H.out.nlc
  have cc := HW1.out.oc.cellN i hi
  have fc := HW1.out.oc.frozenN i
  have fin : ∀ y, Hid (WIn ((w1.setCell ⟨gl, i, none⟩ (.int .i64 xl)).setCell ⟨gc, i, none⟩ (.int .i64 y)).drew B W gl gc n vr (.slice (some ⟨gs, 0, none⟩) (m + 1) cap) (lv.set i xl) (cls.set i y) s al ∧ Below B w ((w1.setCell ⟨gl, i, none⟩ (.int .i64 xl)).setCell ⟨gc, i, none⟩ (.int .i64 y)).drew) := fun y =>
    ⟨((HW1.out.setL i xl).setC i y).below (Below.refl _ _).drew, ((HW1.out.setL i xl).blwC (HW1.out.blwL B1.out i _) i _).drew⟩
  have FIN : Hid _ := fin
  clear fin
  by_cases hx : xs = 0
  · have hx1 : (xs != 0) = false := by simpa using hx
    have HX : Hid _ := hx
    clear hx
    go_region_held3 (fun w' => w'.cell? ⟨W, 1, none⟩ = some (.slice (some ⟨gl, 0, none⟩) n n) ∧ w'.cell? ⟨b, 0, none⟩ = some (.int .i64 xl)) (go_keep) (fail)
    all_goals go_wp2_with fail
    all_goals (go_end0; refine ⟨rfl, ?_⟩; (try rw [if_neg (by rw [HX.out]; simp)]); exact (FIN.out c).out)
  · have hx1 : (xs != 0) = true := by simpa using hx
    have HX : Hid _ := hx
    clear hx
    go_region_held3 (fun w' => w'.cell? ⟨W, 1, none⟩ = some (.slice (some ⟨gl, 0, none⟩) n n) ∧ w'.cell? ⟨b, 0, none⟩ = some (.int .i64 xl)) (go_keep) (fail)
    all_goals go_wp2_with fail
    all_goals (go_end0; refine ⟨rfl, ?_⟩; (try rw [if_pos HX.out]); exact (FIN.out xs).out)
end Go.Proofs.YtgojdlbidjnmmabGreat
namespace Go.Proofs.YtgojdlbidjnmmabGreat
open Go.ChangeShapes Go.WideShapes Go.ChangeAt Go.RowKit
set_option linter.unusedSimpArgs false
set_option linter.unusedVariables false

theorem end_lost {st : List Tl} {lost skip : Int} (h : 0 < lost) : endT ⟨st, lost, skip⟩ = ⟨st, lost - 1, skip⟩ := by unfold endT; exact if_pos h
theorem end_none {st : List Tl} {lost skip : Int} (h : ¬ 0 < lost) (ha : cntA st = 0) : endT ⟨st, lost, skip⟩ = ⟨st, lost, skip⟩ := by
  unfold endT
  rw [if_neg (by exact h), if_neg]
  rw [hasA_cnt]; show ¬ 0 < cntA st; omega
theorem end_some {st : List Tl} {lost skip : Int} (h : ¬ 0 < lost) (ha : 0 < cntA st) : endT ⟨st, lost, skip⟩ = ⟨cutA st, lost, 0⟩ := by
  unfold endT
  rw [if_neg (by exact h), if_pos ((hasA_cnt _).2 ha)]
/-- What stands on top, by a stack that is known. -/
theorem WIn.topc {w : World} {W gl gc n B : Nat} {vr vs : Value} {lv cls : List Int} {al lost skip : Int} {x : Tl} {r : List Tl} (h : WIn w B W gl gc n vr vs lv cls ⟨x :: r, lost, skip⟩ al) :
    ∃ gs cap, vs = .slice (some ⟨gs, 0, none⟩) (r.length + 1) cap ∧ r.length + 1 ≤ cap ∧ w.cell? ⟨gs, r.length * 3, none⟩ = some (.int .i64 x.level) ∧ w.cell? ⟨gs, r.length * 3 + 1, none⟩ = some (.int .i64 x.side) ∧ w.cell? ⟨gs, r.length * 3 + 2, none⟩ = some (.bool x.alone) := by
  have hos := h.os
  simp only [List.length_cons] at hos
  obtain ⟨gs, cap, rfl, hgs0, hgs1, hgs2, hgs3⟩ := hos.form1 (by omega)
  have ct : ∀ j, j < 3 → w.cell? ⟨gs, r.length * 3 + j, none⟩ = (tc x)[j]? := fun j hj => by
    rw [hos.cell (r.length * 3 + j) (by omega), List.reverse_cons]
    have := tcells_last r.reverse x j
    rw [List.length_reverse] at this
    exact this
  exact ⟨gs, cap, rfl, hgs2, ct 0 (by omega), ct 1 (by omega), ct 2 (by omega)⟩

set_option maxHeartbeats 2000000 in
theorem specEnds {W gl gc n B : Nat} {vr vs : Value} {lv cls : List Int} {s : TS} (w : World) (h : WIn w B W gl gc n vr vs lv cls s (cntA s.st)) (hl : s.st.length ≤ 1001) (h0 : 0 ≤ s.lost) (h1 : s.lost ≤ 1000) (hB : B ≤ w.heap.size) :
    Calls Tryz.prog 91 #[.pointer (some ⟨W, 0, none⟩)] w fun e w' => e = .returned (.tuple #[]) ∧ (∃ vs', WIn w' B W gl gc n vr vs' lv cls (endT s) (cntA (endT s).st)) ∧ Below B w w' := by
  obtain ⟨st, lost, skip⟩ := s
  have c4 := h.c4
  have c6 := h.c6
  have f4 := h.fz 4
  have hb1 := cntA_nn st
  have hb2 := cntA_le st
  simp only at c4 c6 h0 h1 hl h
  obtain ⟨al, hal⟩ : ∃ al, cntA st = al := ⟨_, rfl⟩
  rw [hal] at c6 h hb1 hb2
  have H : Hid _ := h
  have HAL : Hid _ := hal
  by_cases hp : 0 < lost
  · rw [end_lost hp]
    have hp1 : decide (lost > 0) = true := by simpa using hp
    clear h hal
    go_enter Tryz.func91, Tryz.ntmps91
    go_wp2_with fail
    refine bodyPost_ret (results_none rfl _ _ _) rfl ?_
    exact ⟨rfl, ⟨_, by rw [HAL.out]; exact H.out.put4 (lost - 1)⟩, H.out.blw (Below.refl _ _) 4 _⟩
  · have hp1 : decide (lost > 0) = false := by simpa using hp
    have hz : lost = 0 := by omega
    subst hz
    by_cases ha : al = 0
    · rw [end_none (by omega) (by omega)]
      subst ha
      clear h hal
      go_enter Tryz.func91, Tryz.ntmps91
      go_wp2_with fail
      refine bodyPost_ret (results_none rfl _ _ _) rfl ?_
      exact ⟨rfl, ⟨_, by show WIn _ B W gl gc n vr _ lv cls ⟨st, 0, skip⟩ (cntA st); rw [HAL.out]; exact H.out⟩, Below.refl _ _⟩
    · rw [end_some (by omega) (by omega)]
      have ha1 : (al == 0) = false := by simpa using ha
      have c5 := h.c5
      have f5 := h.fz 5
      have H5 : Hid (WIn (w.setCell ⟨W, 5, none⟩ (.int .i64 0)) B W gl gc n vr vs lv cls ⟨st, 0, 0⟩ al) := h.put5 0
      have B5 : Hid (Below B w (w.setCell ⟨W, 5, none⟩ (.int .i64 0))) := h.blw (Below.refl _ _) 5 _
      clear h hal
      go_enter Tryz.func91, Tryz.ntmps91
      go_wp2_with fail
      go_loopg [] 1001 (fun g wr => ∃ (vs' : Value) (st' : List Tl), WIn wr B W gl gc n vr vs' lv cls ⟨st', 0, 0⟩ al ∧ st'.length ≤ g ∧ Hid (cntA st' = al) ∧ Hid (cutA st' = cutA st) ∧ Below B w wr ∧ g ≤ 1001)
      case atStart => exact ⟨vs, st, H5.out, hl, HAL.out, rfl, B5.out, by omega⟩
      case round =>
        obtain ⟨vs', st', hw, hlen, hc1, hc2, hbw, hg⟩ := hrel
        cases st' with
        | nil => exfalso; have := hc1.out; simp [cntA] at this; omega
        | cons x r =>
          obtain ⟨gs, cap, rfl, hcap, t0, t1, t2⟩ := hw.topc
          have hlen2 : r.length + 1 ≤ gk := by simpa using hlen
          obtain ⟨m, hm⟩ : ∃ m, r.length = m := ⟨_, rfl⟩
          rw [hm] at hlen2 hcap t2 hw
          have HM : Hid _ := hm
          have d3 := hw.c3
          have d6 := hw.c6
          have e3 := hw.fz 3
          have e6 := hw.fz 6
          have hw0 : IntKind.i64.wrap (m : Int) = (m : Int) := by rw [IntKind.wrap_i64]; omega
          have hp0 : (0 : Int) ≤ (m : Int) := by omega
          have hp1 : (m : Int) < (m : Int) + 1 := by omega
          have hp2 : (m : Int) ≤ (cap : Int) := by omega
          have HW : Hid _ := hw
          obtain ⟨xa, hxa⟩ : ∃ xa, x.alone = xa := ⟨_, rfl⟩
          rw [hxa] at t2
          have HXA : Hid _ := hxa
          clear t0 t1 hm hw hlen hxa
          have hx3 : ∀ q, WIn ((wr.drewN q).setCell ⟨W, 3, none⟩ (.slice (some ⟨gs, 0, none⟩) m cap)) B W gl gc n vr (.slice (some ⟨gs, 0, none⟩) m cap) lv cls ⟨r, 0, 0⟩ al := fun q =>
            (HW.out.drewN q).put3 (by rw [List.length_cons, HM.out]) HM.out [x] rfl
          have hx4 : ∀ q, Below B w ((wr.drewN q).setCell ⟨W, 3, none⟩ (.slice (some ⟨gs, 0, none⟩) m cap)) := fun q => (HW.out.drewN q).blw (hbw.trans ((below_draws wr q).mono (Nat.le_trans hB hbw.size))) 3 _
          have HX3 : Hid _ := hx3
          have HX4 : Hid _ := hx4
          clear hx3 hx4
          cases xa
          · go_wp2_with fail
            go_quiet (fail)
            go_wp2_with fail
            go_region
            all_goals go_wp2_with fail
            all_goals
              go_roundg (gk - 1)
              case measure => omega
              case rel =>
                refine ⟨_, r, HX3.out _, by rw [HM.out]; omega, ?_, ?_, HX4.out _, by omega⟩
                · show cntA r = al
                  have := hc1.out; simp only [cntA] at this; rw [HXA.out] at this; simpa using this
                · show cutA r = cutA st
                  rw [← hc2.out]; simp only [cutA]; rw [HXA.out]; simp
          · go_wp2_with fail
            go_quiet (fail)
            go_wp2_with fail
            go_region
            all_goals go_wp2_with fail
            all_goals
              go_end0
              have e1 : cutA st = r := by rw [← hc2.out]; simp only [cutA]; rw [HXA.out]; simp
              have e2 : cntA r = al - 1 := by
                have := hc1.out; simp only [cntA] at this; rw [HXA.out] at this; simp at this; omega
              rw [e1, e2]
              exact ⟨rfl, ⟨_, (HX3.out _).put6 (al - 1)⟩, (HX3.out _).blw (HX4.out _) 6 _⟩

theorem drop_lost {st : List Tl} {lost skip : Int} (h : 0 < lost) : dropT ⟨st, lost, skip⟩ = ⟨st, lost, skip⟩ := by unfold dropT; exact if_pos h
theorem drop_skip {st : List Tl} {lost skip : Int} (h : ¬ 0 < lost) (h2 : 0 < skip) : dropT ⟨st, lost, skip⟩ = ⟨st, lost, skip - 1⟩ := by unfold dropT; rw [if_neg (by exact h)]; exact if_pos h2
theorem drop_top {st : List Tl} {lost skip : Int} (h : ¬ 0 < lost) (h2 : ¬ 0 < skip) : dropT ⟨st, lost, skip⟩ = ⟨dropL st, lost, skip⟩ := by unfold dropT; rw [if_neg (by exact h), if_neg (by exact h2)]

set_option maxHeartbeats 2000000 in
theorem specDrops {W gl gc n B : Nat} {vr vs : Value} {lv cls : List Int} {s : TS} (w : World) (h : WIn w B W gl gc n vr vs lv cls s (cntA s.st)) (hne : ∃ x r, s.st = x :: r) (hl : s.st.length ≤ 1001) (h0 : 0 ≤ s.lost) (h1 : s.lost ≤ 1000) (h2 : 0 ≤ s.skip) (h3 : s.skip ≤ 1000) (hB : B ≤ w.heap.size) :
    Calls Tryz.prog 88 #[.pointer (some ⟨W, 0, none⟩)] w fun e w' => e = .returned (.tuple #[]) ∧ (∃ vs', WIn w' B W gl gc n vr vs' lv cls (dropT s) (cntA (dropT s).st)) ∧ Below B w w' := by
  obtain ⟨st, lost, skip⟩ := s
  obtain ⟨x, r, hx⟩ := hne
  simp only at hx h0 h1 h2 h3 hl h
  subst hx
  have c4 := h.c4
  have c5 := h.c5
  have f5 := h.fz 5
  simp only at c4 c5
  have H : Hid _ := h
  by_cases hp : 0 < lost
  · rw [drop_lost hp]
    have hp1 : decide (lost > 0) = true := by simpa using hp
    clear h
    go_enter Tryz.func88, Tryz.ntmps88
    go_wp2_with fail
    refine bodyPost_ret (results_none rfl _ _ _) rfl ?_
    exact ⟨rfl, ⟨_, H.out⟩, Below.refl _ _⟩
  · have hp1 : decide (lost > 0) = false := by simpa using hp
    by_cases hs : 0 < skip
    · rw [drop_skip hp hs]
      have hs1 : decide (skip > 0) = true := by simpa using hs
      clear h
      go_enter Tryz.func88, Tryz.ntmps88
      go_wp2_with fail
      refine bodyPost_ret (results_none rfl _ _ _) rfl ?_
      exact ⟨rfl, ⟨_, H.out.put5 (skip - 1)⟩, H.out.blw (Below.refl _ _) 5 _⟩
    · rw [drop_top hp hs]
      have hs1 : decide (skip > 0) = false := by simpa using hs
      obtain ⟨gs, cap, rfl, hcap, t0, t1, t2⟩ := h.topc
      obtain ⟨m, hm⟩ : ∃ m, r.length = m := ⟨_, rfl⟩
      have hm2 : m ≤ 1000 := by simp only [List.length_cons] at hl; omega
      rw [hm] at hcap t2 h
      have HM : Hid _ := hm
      have c3 := h.c3
      have f3 := h.fz 3
      obtain ⟨xa, hxa⟩ : ∃ xa, x.alone = xa := ⟨_, rfl⟩
      rw [hxa] at t2
      have HXA : Hid _ := hxa
      have HW : Hid _ := h
      have hw0 : IntKind.i64.wrap (m : Int) = (m : Int) := by rw [IntKind.wrap_i64]; omega
      have hp0 : (0 : Int) ≤ (m : Int) := by omega
      have hq1 : (m : Int) < (m : Int) + 1 := by omega
      have hp2 : (m : Int) ≤ (cap : Int) := by omega
      clear t0 t1 hm h H hxa hl
      cases xa
      · have hnx : (!false) = true := rfl
        cases r with
        | nil =>
          have e0 : m = 0 := HM.out.symm
          subst e0
          go_enter Tryz.func88, Tryz.ntmps88
          go_wp2_with fail
          go_quiet (fail)
          go_wp2_with fail
          go_end0
          exact ⟨rfl, ⟨_, (HW.out.drewN _)⟩, (below_draws w _).mono hB⟩
        | cons y r =>
          have hm0 : 0 < m := by rw [← HM.out]; simp
          have hmd : decide ((m : Int) + 1 > 1) = true := by simp; omega
          have hd1 : cntA (x :: y :: r) = cntA (y :: r) := by
            show (if x.alone = true then 1 else 0) + cntA (y :: r) = _; rw [HXA.out]; simp
          have hd2 : dropL (x :: y :: r) = y :: r := by
            show (if x.alone = true then x :: y :: r else y :: r) = _; rw [HXA.out]; simp
          have HD1 : Hid _ := hd1
          have hx3 : ∀ q, WIn ((w.drewN q).setCell ⟨W, 3, none⟩ (.slice (some ⟨gs, 0, none⟩) m cap)) B W gl gc n vr (.slice (some ⟨gs, 0, none⟩) m cap) lv cls ⟨y :: r, lost, skip⟩ (cntA (x :: y :: r)) := fun q =>
            (HW.out.drewN q).put3 (by rw [List.length_cons, HM.out]) HM.out [x] rfl
          have hx4 : ∀ q, Below B w ((w.drewN q).setCell ⟨W, 3, none⟩ (.slice (some ⟨gs, 0, none⟩) m cap)) := fun q => (HW.out.drewN q).blw ((below_draws w q).mono hB) 3 _
          have HX3 : Hid _ := hx3
          have HX4 : Hid _ := hx4
          rw [hd2]
          clear hx3 hx4 hd1 hd2
          go_enter Tryz.func88, Tryz.ntmps88
          go_wp2_with fail
          go_quiet (fail)
          go_wp2_with fail
          go_region
          all_goals go_wp2_with fail
          all_goals
            go_end0
            refine ⟨rfl, ⟨.slice (some ⟨gs, 0, none⟩) m cap, ?_⟩, HX4.out _⟩
            show WIn _ B W gl gc n vr _ lv cls ⟨y :: r, lost, skip⟩ (cntA (y :: r))
            rw [← HD1.out]
            exact HX3.out _
      · go_enter Tryz.func88, Tryz.ntmps88
        go_wp2_with fail
        go_quiet (fail)
        go_wp2_with fail
        go_end0
        have hd2 : dropL (x :: r) = x :: r := by
          cases r with
          | nil => rfl
          | cons y r => show (if x.alone = true then x :: y :: r else y :: r) = _; rw [HXA.out]; simp
        rw [hd2]
        exact ⟨rfl, ⟨_, (HW.out.drewN _)⟩, (below_draws w _).mono hB⟩
end Go.Proofs.YtgojdlbidjnmmabGreat
