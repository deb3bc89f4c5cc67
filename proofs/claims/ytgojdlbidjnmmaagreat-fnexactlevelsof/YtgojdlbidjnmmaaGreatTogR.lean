import Derived.Test.YtgojdlbidjnmmaaGreatPRow
import Derived.Test.YtgojdlbidjnmmaaGreatToldI
import Derived.Maps.Range
namespace Go.Proofs.YtgojdlbidjnmmaaGreat
open Go.ChangeShapes Go.WideShapes Go.ChangeAt Go.RowKit
set_option linter.unusedSimpArgs false
set_option linter.unusedVariables false

/-- As PR, but of the rows from q on alone: those ahead may have been grown over. -/
structure PRL (w : World) (B : Nat) (v : Value) (P : List (Value × Int)) (rows : List (List Int)) (q : Nat) : Prop where
  len : P.length = rows.length
  own : OwnV 49 2 w B v rows.length (pcells P)
  row : ∀ j, q ≤ j → j < rows.length → OwnI w B (pN P j).1 (rN rows j)
  apv : ∀ j, q ≤ j → j < rows.length → Apart v (pN P j).1
  app : ∀ i j, q ≤ i → i < j → j < rows.length → Apart (pN P i).1 (pN P j).1
/-- Two lists of pieces: the one from q on, the other one made of what stood ahead. -/
structure TG (w : World) (B : Nat) (v : Value) (P : List (Value × Int)) (rows : List (List Int)) (q : Nat) (vw : Value) (Pw : List (Value × Int)) (Rw : List (List Int)) : Prop where
  ll : PRL w B v P rows q
  wh : PR w B vw Pw Rw
  vvw : Apart v vw
  vr : ∀ i, i < Rw.length → Apart v (pN Pw i).1
  wl : ∀ j, q ≤ j → j < rows.length → Apart vw (pN P j).1
  rl : ∀ i j, i < Rw.length → q ≤ j → j < rows.length → Apart (pN Pw i).1 (pN P j).1
section
variable {w w' : World} {B q : Nat} {v vw : Value} {P Pw : List (Value × Int)} {rows Rw : List (List Int)}
theorem PRL.below (h : PRL w B v P rows q) (hb : Below w.heap.size w w') : PRL w' B v P rows q :=
  ⟨h.len, h.own.below hb, fun j h1 hj => (h.row j h1 hj).below hb, h.apv, h.app⟩
theorem TG.below (h : TG w B v P rows q vw Pw Rw) (hb : Below w.heap.size w w') : TG w' B v P rows q vw Pw Rw :=
  ⟨h.ll.below hb, h.wh.below hb, h.vvw, h.vr, h.wl, h.rl⟩
theorem TG.start (h : PR w B v P rows) : TG w B v P rows 0 (.slice none 0 0) [] [] :=
  ⟨⟨h.len, h.own, fun j _ hj => h.row j hj, fun j _ hj => h.apv j hj, fun i j _ => h.app i j⟩, PR.nil _ _, apart_nil _, fun i hi => by simp at hi, fun j _ _ b hb => by simp [Value.ownBlock] at hb, fun i j hi => by simp at hi⟩
theorem TG.skip (h : TG w B v P rows q vw Pw Rw) : TG w B v P rows (q + 1) vw Pw Rw :=
  ⟨⟨h.ll.len, h.ll.own, fun j h1 hj => h.ll.row j (by omega) hj, fun j h1 hj => h.ll.apv j (by omega) hj, fun i j h1 => h.ll.app i j (by omega)⟩, h.wh, h.vvw, h.vr, fun j h1 => h.wl j (by omega), fun i j hi h1 => h.rl i j hi (by omega)⟩
/-- The piece at q has grown as it wanted: nothing else has turned. -/
theorem TG.grown (h : TG w B v P rows q vw Pw Rw) (hq : q < rows.length) (hg : w.grownBy w' (pN P q).1.ownBlock) : TG w' B v P rows (q + 1) vw Pw Rw := by
  have hne : ∀ {z : Value} {b : Nat}, Apart (pN P q).1 z → z.ownBlock = some b → some b ≠ (pN P q).1.ownBlock := fun ha hb e => ha _ e.symm hb
  refine ⟨⟨h.ll.len, h.ll.own.kept (fun b hb => hg.block b (h.ll.own.lt b hb).2 (hne (h.ll.apv q (Nat.le_refl _) hq).symm hb)), fun j h1 hj => (h.ll.row j (by omega) hj).kept (fun b hb => hg.block b ((h.ll.row j (by omega) hj).lt b hb).2 (hne (h.ll.app q j (Nat.le_refl _) (by omega) hj) hb)), fun j h1 hj => h.ll.apv j (by omega) hj, fun i j h1 => h.ll.app i j (by omega)⟩, ?_, h.vvw, h.vr, fun j h1 => h.wl j (by omega), fun i j hi h1 => h.rl i j hi (by omega)⟩
  refine h.wh.kept (fun b hb => ?_)
  rcases hb with hb | ⟨j, hj, hb⟩
  · exact hg.block b (h.wh.lt b hb).2 (hne (h.wl q (Nat.le_refl _) hq).symm hb)
  · exact hg.block b ((h.wh.row j hj).lt b hb).2 (hne (h.rl j q hj (Nat.le_refl _) hq).symm hb)
/-- .. and it is laid behind the others. -/
theorem TG.add {w3 w4 : World} {u vw' : Value} {x : Int} {r : List Int} {c S : Nat} (hc : Rw.length = c) (h : TG w B v P rows q vw Pw Rw) (hq : q < rows.length) (hS : w.heap.size = S) (hg : w.grownBy w3 (pN P q).1.ownBlock) (hu : OwnI w3 B u r) (hub : u.ownBlock = (pN P q).1.ownBlock ∨ ∃ H, u.ownBlock = some H ∧ S ≤ H)
    (ho : OwnV 49 2 w4 B vw' (c + 1) (pcells Pw ++ [u, .int .i64 x])) (hg2 : w3.grownBy w4 vw.ownBlock) (hv : vw'.ownBlock = vw.ownBlock ∨ vw'.ownBlock = some (w3.heap.size + 1)) :
    TG w4 B v P rows (q + 1) vw' (Pw ++ [(u, x)]) (Rw ++ [r]) := by
  subst hS
  subst hc
  have h3 := h.grown hq hg
  have hsz := hg.size
  -- what is apart from the piece at q is apart from it, grown
  have hapu : ∀ (z : Value), Apart z (pN P q).1 → (∀ b, z.ownBlock = some b → b < w.heap.size) → Apart z u := fun z hz hzl b h1 h2 => by
    rcases hub with e | ⟨H, e, hH⟩
    · exact hz b h1 (by rw [← e]; exact h2)
    · rw [e] at h2; simp at h2; have := hzl b h1; omega
  have hwu : Apart vw u := hapu vw (h.wl q (Nat.le_refl _) hq) (fun b hb => (h.wh.lt b hb).2)
  have hru : ∀ j, j < Rw.length → Apart (pN Pw j).1 u := fun j hj => hapu _ (h.rl j q hj (Nat.le_refl _) hq) (fun b hb => ((h.wh.row j hj).lt b hb).2)
  have hvu : Apart v u := hapu v (h.ll.apv q (Nat.le_refl _) hq) (fun b hb => (h.ll.own.lt b hb).2)
  have hlu : ∀ j, q + 1 ≤ j → j < rows.length → Apart (pN P j).1 u := fun j h1 hj => hapu _ (h.ll.app q j (Nat.le_refl _) (by omega) hj).symm (fun b hb => ((h.ll.row j (by omega) hj).lt b hb).2)
  have hwh := h3.wh.snoc hu hwu hru ho hg2 hv
  have hlen := h.wh.len
  have hnew : ∀ (z : Value), Apart vw z → (∀ b, z.ownBlock = some b → b < w3.heap.size) → Apart vw' z := fun z hz hzl b h1 h2 => by
    rcases hv with e | e
    · exact hz b (by rw [← e]; exact h1) h2
    · rw [e] at h1; simp at h1; have := hzl b h2; omega
  have hvl : ∀ b, v.ownBlock = some b → b < w3.heap.size := fun b hb => by have := (h.ll.own.lt b hb).2; omega
  have hjl : ∀ j, q + 1 ≤ j → j < rows.length → ∀ b, (pN P j).1.ownBlock = some b → b < w3.heap.size := fun j h1 hj b hb => by have := ((h.ll.row j (by omega) hj).lt b hb).2; omega
  refine ⟨⟨h.ll.len, h3.ll.own.kept (fun b hb => hg2.block b (hvl b hb) (fun e => h.vvw b hb e.symm)), fun j h1 hj => (h3.ll.row j h1 hj).kept (fun b hb => hg2.block b (hjl j h1 hj b hb) (fun e => h.wl j (by omega) hj b e.symm hb)), h3.ll.apv, h3.ll.app⟩, hwh, (hnew v h.vvw.symm hvl).symm, fun i hi => ?_, fun j h1 hj => hnew _ (h.wl j (by omega) hj) (hjl j h1 hj), fun i j hi h1 hj => ?_⟩
  · simp at hi
    by_cases e : i = Rw.length
    · subst e; rw [← hlen, pN_last]; exact hvu
    · rw [pN_left (by omega)]; exact h.vr i (by omega)
  · simp at hi
    by_cases e : i = Rw.length
    · subst e; rw [← hlen, pN_last]; exact (hlu j h1 hj).symm
    · rw [pN_left (by omega)]; exact h.rl i j (by omega) (by omega) hj
end
/-- A piece in a box of its own that takes in others. -/
structure Inn (w0 wr : World) (B Bx : Nat) (blk : Option Nat) (u : Value) (cur : List Int) (lvl : Int) : Prop where
  sz : w0.heap.size = Bx
  grow : w0.grownBy wr blk
  own : OwnI wr B u cur
  ub : u.ownBlock = blk ∨ ∃ H, u.ownBlock = some H ∧ Bx < H
  c0 : wr.cell? ⟨Bx, 0, none⟩ = some u
  c1 : wr.cell? ⟨Bx, 1, none⟩ = some (.int .i64 lvl)
  fz : wr.frozen? ⟨Bx, 0, none⟩ = false
  lt : Bx < wr.heap.size
  bl : ∀ b, blk = some b → b < Bx
theorem Inn.start {w0 : World} {B : Nat} {u : Value} {cur : List Int} {lvl : Int} {T : TypeId} (h : OwnI w0 B u cur) : Inn w0 (w0.alloc (.cells #[u, .int .i64 lvl] T)) B w0.heap.size u.ownBlock u cur lvl := by
  have hb : Below w0.heap.size w0 (w0.alloc (.cells #[u, .int .i64 lvl] T)) := (Below.refl _ _).alloc (Nat.le_refl _) _
  have hc := fun j => cell_of_row (w0.alloc (.cells #[u, .int .i64 lvl] T)) w0.heap.size j _ _ (0, 0) (heap_alloc_new w0 _)
  refine ⟨rfl, ⟨rfl, rfl, rfl, by simp, fun i hi _ => hb.block i hi⟩, h.below hb, .inl rfl, by rw [hc]; rfl, by rw [hc]; rfl, frozen_of_row _ _ _ _ _ (heap_alloc_new w0 _), by simp, fun b hb => (h.lt b hb).2⟩
theorem Inn.below {w0 wr w' : World} {B Bx : Nat} {blk : Option Nat} {u : Value} {cur : List Int} {lvl : Int} (h : Inn w0 wr B Bx blk u cur lvl) (hb : Below wr.heap.size wr w') : Inn w0 w' B Bx blk u cur lvl :=
  ⟨h.sz, h.grow.trans ⟨hb.os, hb.tape, hb.output, hb.size, fun i hi _ => hb.block i hi⟩, h.own.below hb, h.ub, (hb.cell (p := ⟨Bx, 0, none⟩) h.lt).trans h.c0, (hb.cell (p := ⟨Bx, 1, none⟩) h.lt).trans h.c1, (World.frozen?_of_block (hb.block Bx h.lt)).trans h.fz, Nat.lt_of_lt_of_le h.lt hb.size, h.bl⟩
theorem Inn.ne {w0 wr : World} {B Bx : Nat} {blk : Option Nat} {u : Value} {cur : List Int} {lvl : Int} (h : Inn w0 wr B Bx blk u cur lvl) : u.ownBlock ≠ some Bx := by
  intro e
  rcases h.ub with q | ⟨H, q, hH⟩
  · have := h.bl Bx (by rw [← q]; exact e); omega
  · rw [e] at q; simp at q; omega
/-- One more taken in. -/
theorem Inn.step {w0 wr w' : World} {B Bx : Nat} {blk : Option Nat} {u u' : Value} {cur cur' : List Int} {lvl : Int} (h : Inn w0 wr B Bx blk u cur lvl) (ho : OwnI w' B u' cur') (hg : wr.grownBy w' u.ownBlock) (hn : u'.ownBlock = u.ownBlock ∨ u'.ownBlock = some wr.heap.size) :
    Inn w0 (w'.setCell ⟨Bx, 0, none⟩ u') B Bx blk u' cur' lvl := by
  have hne := h.ne
  have hlt := h.lt
  have hsz := h.sz
  have hub : u'.ownBlock = blk ∨ ∃ H, u'.ownBlock = some H ∧ Bx < H := by
    rcases hn with e | e
    · rw [e]; exact h.ub
    · exact .inr ⟨_, e, hlt⟩
  have hne' : u'.ownBlock ≠ some Bx := by
    rcases hn with e | e
    · rw [e]; exact hne
    · rw [e]; intro q; simp at q; omega
  have hgr : w0.grownBy w' blk := by
    refine h.grow.andThen hg (fun j hj => ?_)
    rcases h.ub with e | ⟨H, e, hH⟩
    · exact .inr (by rw [← e]; exact hj)
    · rw [hj] at e; simp at e; exact .inl (by omega)
  have hkb : w'.heap[Bx]? = wr.heap[Bx]? := hg.block Bx hlt (fun e => hne e.symm)
  have hc0 : w'.cell? ⟨Bx, 0, none⟩ = some u := (World.cell?_of_block hkb).trans h.c0
  have hc1 : w'.cell? ⟨Bx, 1, none⟩ = some (.int .i64 lvl) := (World.cell?_of_block hkb).trans h.c1
  have hfz : w'.frozen? ⟨Bx, 0, none⟩ = false := (World.frozen?_of_block hkb).trans h.fz
  refine ⟨hsz, ⟨hgr.os, hgr.tape, hgr.output, by rw [World.size_setCell]; exact hgr.size, fun i hi hr => ?_⟩, ho.kept (fun k hk => heap_setCell_other w' ⟨Bx, 0, none⟩ k u' (fun e => hne' (by rw [hk]; exact congrArg some e))), hub, setI_same hc0, setI_diff (by omega) hc1, ?_, ?_, h.bl⟩
  · rw [heap_setCell_other w' ⟨Bx, 0, none⟩ i u' (fun e => by have e2 : i = Bx := e; omega)]; exact hgr.block i hi hr
  · rw [World.frozen?_setCell]; exact hfz
  · rw [World.size_setCell]; exact Nat.lt_of_lt_of_le hlt hg.size
theorem PRL.cellAt {w : World} {B g n cap q : Nat} {P : List (Value × Int)} {rows : List (List Int)} (h : PRL w B (.slice (some ⟨g, 0, none⟩) n cap) P rows q) (j : Nat) (hj : j < n) : w.cell? ⟨g, j * 2, none⟩ = some (pN P j).1 ∧ w.cell? ⟨g, j * 2 + 1, none⟩ = some (.int .i64 (pN P j).2) := by
  have hown := h.own
  obtain ⟨a, c, e⟩ := hown.slc
  simp only [Value.slice.injEq] at e
  obtain ⟨rfl, rfl, rfl⟩ := e
  have hl := h.len
  rw [hown.cell _ (by omega), hown.cell _ (by omega)]
  exact pcells_at (by omega)
end Go.Proofs.YtgojdlbidjnmmaaGreat
