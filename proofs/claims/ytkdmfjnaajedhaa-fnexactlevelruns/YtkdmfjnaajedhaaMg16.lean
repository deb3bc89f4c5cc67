import Derived.Test.YtkdmfjnaajedhaaMg15
import Derived.Test.YtkdmfjnaajedhaaMg13
import Derived.Test.YtkdmfjnaajedhaaMg14
import Derived.Maps.Range
import Derived.Test.YtkdmfjnaajedhaaMg8
import Derived.Deep.AppendLies
namespace Go.Proofs.Ytkdmfjnaajedhaa
set_option linter.unusedSimpArgs false
set_option linter.unusedVariables false

section
variable {c lv : Nat → Int} {n : Nat} {mt : Nat → Nat} {M : List Int}
theorem begN_le {k m : Nat} (h : k ≤ m) : ∃ r, begN lv m = begN lv k ++ r := by
  induction m with
  | zero => have : k = 0 := by omega
            subst this; exact ⟨[], by simp⟩
  | succ m ih =>
    by_cases e : k = m + 1
    · subst e; exact ⟨[], by simp⟩
    · obtain ⟨r, hr⟩ := ih (by omega)
      rw [begN_succ, hr, List.append_assoc]; exact ⟨_, rfl⟩
/-- What begins at b stands behind all that have begun ahead of it. -/
theorem begN_idx {b : Nat} (hb : begB lv b = true) (hbn : b < n) : ∃ r, begN lv n = begN lv b ++ b :: r := by
  obtain ⟨r, hr⟩ := begN_le (lv := lv) (show b + 1 ≤ n by omega)
  rw [begN_succ, if_pos hb, List.append_assoc] at hr
  exact ⟨r, hr⟩
theorem begN_lt {b : Nat} (hb : begB lv b = true) (hbn : b < n) : (begN lv b).length < (begN lv n).length := by
  obtain ⟨r, hr⟩ := begN_idx hb hbn
  rw [hr, List.length_append, List.length_cons]; omega
theorem begN_order {b j : Nat} (hb : begB lv b = true) (h : b < j) : (begN lv b).length < (begN lv j).length := begN_lt hb h
/-- The piece at a place of the list. -/
theorem begN_at {q : Nat} (hq : q < (begN lv n).length) : ∃ b, b < n ∧ begB lv b = true ∧ (begN lv b).length = q := by
  obtain ⟨b, hbe⟩ : ∃ b, (begN lv n)[q] = b := ⟨_, rfl⟩
  have hm : b ∈ begN lv n := by rw [← hbe]; exact List.getElem_mem hq
  obtain ⟨h1, h2⟩ := begN_mem.1 hm
  refine ⟨b, h1, h2, ?_⟩
  obtain ⟨r, hr⟩ := begN_idx h2 h1
  have hnd : (begN lv n).Pairwise (· < ·) := by unfold begN; exact (List.pairwise_lt_range).filter _
  have hlt := begN_lt h2 h1
  have hat : (begN lv n)[(begN lv b).length] = b := by
    have : (begN lv n)[(begN lv b).length]? = some b := by rw [hr]; simp
    rw [List.getElem?_eq_getElem hlt] at this
    exact Option.some.inj this
  rcases Nat.lt_trichotomy (begN lv b).length q with h | h | h
  · have := (List.pairwise_iff_getElem.1 hnd) _ _ hlt hq h; omega
  · exact h
  · have := (List.pairwise_iff_getElem.1 hnd) _ _ hq hlt h; omega
theorem pcs_at {b : Nat} (hb : begB lv b = true) (hbn : b < n) : rN (natR (pcsN lv n)) (begN lv b).length = natL (pieceN lv b n) := by
  obtain ⟨r, hr⟩ := begN_idx hb hbn
  unfold pcsN natR rN
  rw [hr, List.getD_eq_getElem?_getD]
  simp
theorem pcs_len : (natR (pcsN lv n)).length = (begN lv n).length := by unfold pcsN natR; simp
theorem lev_at {P : List (Value × Int)} (h : levTo lv n P) {b : Nat} (hb : begB lv b = true) (hbn : b < n) : (pN P (begN lv b).length).2 = lv b := by
  obtain ⟨r, hr⟩ := begN_idx hb hbn
  unfold levTo at h
  have hl : (begN lv b).length < P.length := by rw [lev_len h]; exact begN_lt hb hbn
  have : (P.map (·.2))[(begN lv b).length]? = some (lv b) := by rw [h, hr]; simp
  rw [List.getElem?_map, List.getElem?_eq_getElem hl] at this
  simp at this
  unfold pN
  rw [List.getD_eq_getElem?_getD, List.getElem?_eq_getElem hl]
  exact this
/-- Where what is read together begins, up to a place. -/
def stN (c lv : Nat → Int) (mt : Nat → Nat) (k : Nat) : List Nat := (List.range k).filter (startN c lv mt)
theorem stN_succ (k : Nat) : stN c lv mt (k + 1) = stN c lv mt k ++ (if startN c lv mt k = true then [k] else []) := by
  unfold stN
  rw [List.range_succ, List.filter_append]
  congr 1
  simp only [List.filter_cons, List.filter_nil]
theorem stN_more {k m : Nat} (h : k ≤ m) (hno : ∀ x, k ≤ x → x < m → begB lv x = false) : stN c lv mt m = stN c lv mt k := by
  induction m with
  | zero => have : k = 0 := by omega
            subst this; rfl
  | succ m ih =>
    by_cases e : k = m + 1
    · subst e; rfl
    · rw [stN_succ, if_neg (by rw [no_start (hno m (by omega) (by omega))]; simp), List.append_nil, ih (by omega) (fun x a b => hno x a (by omega))]
/-- No piece begins between two that stand side by side in the list. -/
theorem no_beg_between {b b2 : Nat} (hb : begB lv b = true) (h : (begN lv b2).length = (begN lv b).length + 1) {x : Nat} (h1 : b + 1 ≤ x) (h2 : x < b2) : begB lv x = false := by
  cases hx : begB lv x with
  | false => rfl
  | true =>
    have := begN_order hb (show b < x by omega)
    have := begN_order hx h2
    omega
theorem begN_none {b : Nat} (h : (begN lv b).length = 0) {x : Nat} (h2 : x < b) : begB lv x = false := by
  cases hx : begB lv x with
  | false => rfl
  | true => have := begN_order hx h2; omega
theorem runsTo_st (k : Nat) : runsTo c lv n mt k = (stN c lv mt k).map (chainN c lv n mt) := rfl
theorem stN_len (k : Nat) : (stN c lv mt k).length ≤ k := by unfold stN; have := List.length_filter_le (startN c lv mt) (List.range k); rwa [List.length_range] at this
theorem begN_mono {k m : Nat} (h : k ≤ m) : (begN lv k).length ≤ (begN lv m).length := by
  obtain ⟨r, hr⟩ := begN_le (lv := lv) h
  rw [hr, List.length_append]; omega
/-- Where as many have begun, the same have. -/
theorem stN_to {k m : Nat} (h : k ≤ m) (he : (begN lv m).length = (begN lv k).length) : stN c lv mt m = stN c lv mt k :=
  stN_more h fun x h1 h2 => by
    cases hx : begB lv x with
    | false => rfl
    | true => have := begN_order hx h2; have := begN_mono (lv := lv) h1; omega
/-- Behind the last piece. -/
theorem no_beg_rest {b : Nat} (hb : begB lv b = true) (hbn : b < n) (h : (begN lv n).length = (begN lv b).length + 1) {x : Nat} (h1 : b + 1 ≤ x) (h2 : x < n) : begB lv x = false := no_beg_between hb h h1 h2

/-- The mate of the last letter of a piece, as the list has it. -/
def molF (c : Nat → Int) (M : List Int) (x : Nat) : Int := if opensB (c x) = true then fn M x else -1
theorem mol_some (hs : SameMates c n mt M) {x j : Nat} (hx : x < n) (ho : opensB (c x) = true) (hm : mt x = j) (hj : j < n) : molF c M x = (j : Int) := by
  unfold molF
  rw [if_pos ho]
  rcases hs x hx ho with ⟨_, e⟩ | ⟨e, _⟩
  · rw [e, hm]
  · omega
theorem mol_none (hs : SameMates c n mt M) {b : Nat} (hb : begB lv b = true) (hbn : b < n) (h : scN c lv n mt b = none) : molF c M (lastP lv b n) = -1 := by
  obtain ⟨_, a2, _⟩ := last_spec hb hbn
  unfold scN at h
  unfold molF
  split at h
  · cases h
  · rename_i hc
    by_cases ho : opensB (c (lastP lv b n)) = true
    · rw [if_pos ho]
      rcases hs _ a2 ho with ⟨e, _⟩ | ⟨_, e⟩
      · exact absurd ⟨ho, e⟩ hc
      · exact e
    · rw [if_neg ho]
/-- What closes nothing, by the list. -/
theorem clos_ge (ht : Txt c lv n mt) (hs : SameMates c n mt M) (hcl : ClosTo c n M) {b : Nat} (hbn : b < n) (h22 : c b = 22) : decide (0 ≤ fn M b) = closN c mt b := by
  have hno : opensB (c b) = false := by rw [h22]; decide
  rcases hcl b hbn hno with ⟨i, hi, ho, hm, e⟩ | ⟨e, hn⟩
  · rw [e]
    have : mt i = b := by
      rcases ht.mates i (by omega) ho with ⟨q, _⟩ | ⟨_, q⟩
      · exact mate_unique q hm
      · exact (mate_not hm hbn q).elim
    have h1 : closN c mt b = true := by
      unfold closN; rw [List.any_eq_true]
      exact ⟨i, by rw [List.mem_range]; exact hi, by simp [ho, this]⟩
    rw [h1]; simp
  · rw [e]
    have h1 : closN c mt b = false := by
      unfold closN; rw [List.any_eq_false]
      intro i hi
      rw [List.mem_range] at hi
      intro h2
      rw [Bool.and_eq_true] at h2
      obtain ⟨ho, h3⟩ := h2
      have hmb : mt i = b := by simpa using h3
      rcases ht.mates i (by omega) ho with ⟨q, _⟩ | ⟨q, _⟩
      · exact hn i hi ho (by rw [← hmb]; exact q)
      · omega
    rw [h1]; decide
end
end Go.Proofs.Ytkdmfjnaajedhaa
namespace Go.Proofs.Ytkdmfjnaajedhaa
open Go.ChangeShapes Go.WideShapes Go.ChangeAt Go.RowKit
set_option linter.unusedSimpArgs false
set_option linter.unusedVariables false

/-- As PR, but of the rows from q on alone: those ahead may have been grown over. -/
structure PRL (w : World) (B : Nat) (v : Value) (P : List (Value × Int)) (rows : List (List Int)) (q : Nat) : Prop where
  len : P.length = rows.length
  own : OwnV 47 2 w B v rows.length (pcells P)
  row : ∀ j, q ≤ j → j < rows.length → OwnI w B (pN P j).1 (rN rows j)
  apv : ∀ j, q ≤ j → j < rows.length → Apart v (pN P j).1
  app : ∀ i j, q ≤ i → i < j → j < rows.length → Apart (pN P i).1 (pN P j).1
/-- Two lists of pieces: the one from q on, the other one made of what stood ahead. -/
structure TG (w : World) (B : Nat) (v : Value) (P : List (Value × Int)) (rows : List (List Int)) (q : Nat) (vw : Value) (Pw : List (Value × Int)) (Rw : List (List Int)) : Prop where
  ll : PRL w B v P rows q
  wh : PR w B vw Pw Rw
  vvw : Apart v vw
  vr : ∀ i, i < Rw.length → Apart v (pN Pw i).1
  wl : ∀ j, q ≤ j → j < rows.length → Apart vw (pN P j).1
  rl : ∀ i j, i < Rw.length → q ≤ j → j < rows.length → Apart (pN Pw i).1 (pN P j).1
section
variable {w w' : World} {B q : Nat} {v vw : Value} {P Pw : List (Value × Int)} {rows Rw : List (List Int)}
theorem PRL.below (h : PRL w B v P rows q) (hb : Below w.heap.size w w') : PRL w' B v P rows q :=
  ⟨h.len, h.own.below hb, fun j h1 hj => (h.row j h1 hj).below hb, h.apv, h.app⟩
theorem TG.below (h : TG w B v P rows q vw Pw Rw) (hb : Below w.heap.size w w') : TG w' B v P rows q vw Pw Rw :=
  ⟨h.ll.below hb, h.wh.below hb, h.vvw, h.vr, h.wl, h.rl⟩
theorem TG.start (h : PR w B v P rows) : TG w B v P rows 0 (.slice none 0 0) [] [] :=
  ⟨⟨h.len, h.own, fun j _ hj => h.row j hj, fun j _ hj => h.apv j hj, fun i j _ => h.app i j⟩, PR.nil _ _, apart_nil _, fun i hi => by simp at hi, fun j _ _ b hb => by simp [Value.ownBlock] at hb, fun i j hi => by simp at hi⟩
theorem TG.skip (h : TG w B v P rows q vw Pw Rw) : TG w B v P rows (q + 1) vw Pw Rw :=
  ⟨⟨h.ll.len, h.ll.own, fun j h1 hj => h.ll.row j (by omega) hj, fun j h1 hj => h.ll.apv j (by omega) hj, fun i j h1 => h.ll.app i j (by omega)⟩, h.wh, h.vvw, h.vr, fun j h1 => h.wl j (by omega), fun i j hi h1 => h.rl i j hi (by omega)⟩
/-- The piece at q has grown as it wanted: nothing else has turned. -/
theorem TG.grown (h : TG w B v P rows q vw Pw Rw) (hq : q < rows.length) (hg : w.grownBy w' (pN P q).1.ownBlock) : TG w' B v P rows (q + 1) vw Pw Rw := by
  have hne : ∀ {z : Value} {b : Nat}, Apart (pN P q).1 z → z.ownBlock = some b → some b ≠ (pN P q).1.ownBlock := fun ha hb e => ha _ e.symm hb
  refine ⟨⟨h.ll.len, h.ll.own.kept (fun b hb => hg.block b (h.ll.own.lt b hb).2 (hne (h.ll.apv q (Nat.le_refl _) hq).symm hb)), fun j h1 hj => (h.ll.row j (by omega) hj).kept (fun b hb => hg.block b ((h.ll.row j (by omega) hj).lt b hb).2 (hne (h.ll.app q j (Nat.le_refl _) (by omega) hj) hb)), fun j h1 hj => h.ll.apv j (by omega) hj, fun i j h1 => h.ll.app i j (by omega)⟩, ?_, h.vvw, h.vr, fun j h1 => h.wl j (by omega), fun i j hi h1 => h.rl i j hi (by omega)⟩
  refine h.wh.kept (fun b hb => ?_)
  rcases hb with hb | ⟨j, hj, hb⟩
  · exact hg.block b (h.wh.lt b hb).2 (hne (h.wl q (Nat.le_refl _) hq).symm hb)
  · exact hg.block b ((h.wh.row j hj).lt b hb).2 (hne (h.rl j q hj (Nat.le_refl _) hq).symm hb)
/-- .. and it is laid behind the others. -/
theorem TG.add {w3 w4 : World} {u vw' : Value} {x : Int} {r : List Int} {c S : Nat} (hc : Rw.length = c) (h : TG w B v P rows q vw Pw Rw) (hq : q < rows.length) (hS : w.heap.size = S) (hg : w.grownBy w3 (pN P q).1.ownBlock) (hu : OwnI w3 B u r) (hub : u.ownBlock = (pN P q).1.ownBlock ∨ ∃ H, u.ownBlock = some H ∧ S ≤ H)
    (ho : OwnV 47 2 w4 B vw' (c + 1) (pcells Pw ++ [u, .int .i64 x])) (hg2 : w3.grownBy w4 vw.ownBlock) (hv : vw'.ownBlock = vw.ownBlock ∨ vw'.ownBlock = some (w3.heap.size + 1)) :
    TG w4 B v P rows (q + 1) vw' (Pw ++ [(u, x)]) (Rw ++ [r]) := by
  subst hS
  subst hc
  have h3 := h.grown hq hg
  have hsz := hg.size
  -- what is apart from the piece at q is apart from it, grown
  have hapu : ∀ (z : Value), Apart z (pN P q).1 → (∀ b, z.ownBlock = some b → b < w.heap.size) → Apart z u := fun z hz hzl b h1 h2 => by
    rcases hub with e | ⟨H, e, hH⟩
    · exact hz b h1 (by rw [← e]; exact h2)
    · rw [e] at h2; simp at h2; have := hzl b h1; omega
  have hwu : Apart vw u := hapu vw (h.wl q (Nat.le_refl _) hq) (fun b hb => (h.wh.lt b hb).2)
  have hru : ∀ j, j < Rw.length → Apart (pN Pw j).1 u := fun j hj => hapu _ (h.rl j q hj (Nat.le_refl _) hq) (fun b hb => ((h.wh.row j hj).lt b hb).2)
  have hvu : Apart v u := hapu v (h.ll.apv q (Nat.le_refl _) hq) (fun b hb => (h.ll.own.lt b hb).2)
  have hlu : ∀ j, q + 1 ≤ j → j < rows.length → Apart (pN P j).1 u := fun j h1 hj => hapu _ (h.ll.app q j (Nat.le_refl _) (by omega) hj).symm (fun b hb => ((h.ll.row j (by omega) hj).lt b hb).2)
  have hwh := h3.wh.snoc hu hwu hru ho hg2 hv
  have hlen := h.wh.len
  have hnew : ∀ (z : Value), Apart vw z → (∀ b, z.ownBlock = some b → b < w3.heap.size) → Apart vw' z := fun z hz hzl b h1 h2 => by
    rcases hv with e | e
    · exact hz b (by rw [← e]; exact h1) h2
    · rw [e] at h1; simp at h1; have := hzl b h2; omega
  have hvl : ∀ b, v.ownBlock = some b → b < w3.heap.size := fun b hb => by have := (h.ll.own.lt b hb).2; omega
  have hjl : ∀ j, q + 1 ≤ j → j < rows.length → ∀ b, (pN P j).1.ownBlock = some b → b < w3.heap.size := fun j h1 hj b hb => by have := ((h.ll.row j (by omega) hj).lt b hb).2; omega
  refine ⟨⟨h.ll.len, h3.ll.own.kept (fun b hb => hg2.block b (hvl b hb) (fun e => h.vvw b hb e.symm)), fun j h1 hj => (h3.ll.row j h1 hj).kept (fun b hb => hg2.block b (hjl j h1 hj b hb) (fun e => h.wl j (by omega) hj b e.symm hb)), h3.ll.apv, h3.ll.app⟩, hwh, (hnew v h.vvw.symm hvl).symm, fun i hi => ?_, fun j h1 hj => hnew _ (h.wl j (by omega) hj) (hjl j h1 hj), fun i j hi h1 hj => ?_⟩
  · simp at hi
    by_cases e : i = Rw.length
    · subst e; rw [← hlen, pN_last]; exact hvu
    · rw [pN_left (by omega)]; exact h.vr i (by omega)
  · simp at hi
    by_cases e : i = Rw.length
    · subst e; rw [← hlen, pN_last]; exact (hlu j h1 hj).symm
    · rw [pN_left (by omega)]; exact h.rl i j (by omega) (by omega) hj
end
/-- A piece in a box of its own that takes in others. -/
structure Inn (w0 wr : World) (B Bx : Nat) (blk : Option Nat) (u : Value) (cur : List Int) (lvl : Int) : Prop where
  sz : w0.heap.size = Bx
  grow : w0.grownBy wr blk
  own : OwnI wr B u cur
  ub : u.ownBlock = blk ∨ ∃ H, u.ownBlock = some H ∧ Bx < H
  c0 : wr.cell? ⟨Bx, 0, none⟩ = some u
  c1 : wr.cell? ⟨Bx, 1, none⟩ = some (.int .i64 lvl)
  fz : wr.frozen? ⟨Bx, 0, none⟩ = false
  lt : Bx < wr.heap.size
  bl : ∀ b, blk = some b → b < Bx
theorem Inn.start {w0 : World} {B : Nat} {u : Value} {cur : List Int} {lvl : Int} {T : TypeId} (h : OwnI w0 B u cur) : Inn w0 (w0.alloc (.cells #[u, .int .i64 lvl] T)) B w0.heap.size u.ownBlock u cur lvl := by
  have hb : Below w0.heap.size w0 (w0.alloc (.cells #[u, .int .i64 lvl] T)) := (Below.refl _ _).alloc (Nat.le_refl _) _
  have hc := fun j => cell_of_row (w0.alloc (.cells #[u, .int .i64 lvl] T)) w0.heap.size j _ _ (0, 0) (heap_alloc_new w0 _)
  refine ⟨rfl, ⟨rfl, rfl, rfl, by simp, fun i hi _ => hb.block i hi⟩, h.below hb, .inl rfl, by rw [hc]; rfl, by rw [hc]; rfl, frozen_of_row _ _ _ _ _ (heap_alloc_new w0 _), by simp, fun b hb => (h.lt b hb).2⟩
theorem Inn.below {w0 wr w' : World} {B Bx : Nat} {blk : Option Nat} {u : Value} {cur : List Int} {lvl : Int} (h : Inn w0 wr B Bx blk u cur lvl) (hb : Below wr.heap.size wr w') : Inn w0 w' B Bx blk u cur lvl :=
  ⟨h.sz, h.grow.trans ⟨hb.os, hb.tape, hb.output, hb.size, fun i hi _ => hb.block i hi⟩, h.own.below hb, h.ub, (hb.cell (p := ⟨Bx, 0, none⟩) h.lt).trans h.c0, (hb.cell (p := ⟨Bx, 1, none⟩) h.lt).trans h.c1, (World.frozen?_of_block (hb.block Bx h.lt)).trans h.fz, Nat.lt_of_lt_of_le h.lt hb.size, h.bl⟩
theorem Inn.ne {w0 wr : World} {B Bx : Nat} {blk : Option Nat} {u : Value} {cur : List Int} {lvl : Int} (h : Inn w0 wr B Bx blk u cur lvl) : u.ownBlock ≠ some Bx := by
  intro e
  rcases h.ub with q | ⟨H, q, hH⟩
  · have := h.bl Bx (by rw [← q]; exact e); omega
  · rw [e] at q; simp at q; omega
/-- One more taken in. -/
theorem Inn.step {w0 wr w' : World} {B Bx : Nat} {blk : Option Nat} {u u' : Value} {cur cur' : List Int} {lvl : Int} (h : Inn w0 wr B Bx blk u cur lvl) (ho : OwnI w' B u' cur') (hg : wr.grownBy w' u.ownBlock) (hn : u'.ownBlock = u.ownBlock ∨ u'.ownBlock = some wr.heap.size) :
    Inn w0 (w'.setCell ⟨Bx, 0, none⟩ u') B Bx blk u' cur' lvl := by
  have hne := h.ne
  have hlt := h.lt
  have hsz := h.sz
  have hub : u'.ownBlock = blk ∨ ∃ H, u'.ownBlock = some H ∧ Bx < H := by
    rcases hn with e | e
    · rw [e]; exact h.ub
    · exact .inr ⟨_, e, hlt⟩
  have hne' : u'.ownBlock ≠ some Bx := by
    rcases hn with e | e
    · rw [e]; exact hne
    · rw [e]; intro q; simp at q; omega
  have hgr : w0.grownBy w' blk := by
    refine h.grow.andThen hg (fun j hj => ?_)
    rcases h.ub with e | ⟨H, e, hH⟩
    · exact .inr (by rw [← e]; exact hj)
    · rw [hj] at e; simp at e; exact .inl (by omega)
  have hkb : w'.heap[Bx]? = wr.heap[Bx]? := hg.block Bx hlt (fun e => hne e.symm)
  have hc0 : w'.cell? ⟨Bx, 0, none⟩ = some u := (World.cell?_of_block hkb).trans h.c0
  have hc1 : w'.cell? ⟨Bx, 1, none⟩ = some (.int .i64 lvl) := (World.cell?_of_block hkb).trans h.c1
  have hfz : w'.frozen? ⟨Bx, 0, none⟩ = false := (World.frozen?_of_block hkb).trans h.fz
  refine ⟨hsz, ⟨hgr.os, hgr.tape, hgr.output, by rw [World.size_setCell]; exact hgr.size, fun i hi hr => ?_⟩, ho.kept (fun k hk => heap_setCell_other w' ⟨Bx, 0, none⟩ k u' (fun e => hne' (by rw [hk]; exact congrArg some e))), hub, setI_same hc0, setI_diff (by omega) hc1, ?_, ?_, h.bl⟩
  · rw [heap_setCell_other w' ⟨Bx, 0, none⟩ i u' (fun e => by have e2 : i = Bx := e; omega)]; exact hgr.block i hi hr
  · rw [World.frozen?_setCell]; exact hfz
  · rw [World.size_setCell]; exact Nat.lt_of_lt_of_le hlt hg.size
theorem PRL.cellAt {w : World} {B g n cap q : Nat} {P : List (Value × Int)} {rows : List (List Int)} (h : PRL w B (.slice (some ⟨g, 0, none⟩) n cap) P rows q) (j : Nat) (hj : j < n) : w.cell? ⟨g, j * 2, none⟩ = some (pN P j).1 ∧ w.cell? ⟨g, j * 2 + 1, none⟩ = some (.int .i64 (pN P j).2) := by
  have hown := h.own
  obtain ⟨a, c, e⟩ := hown.slc
  simp only [Value.slice.injEq] at e
  obtain ⟨rfl, rfl, rfl⟩ := e
  have hl := h.len
  rw [hown.cell _ (by omega), hown.cell _ (by omega)]
  exact pcells_at (by omega)
end Go.Proofs.Ytkdmfjnaajedhaa
namespace Go.Proofs.Ytkdmfjnaajedhaa
open Go.ChangeShapes Go.WideShapes Go.ChangeAt Go.RowKit Go.Deep
set_option linter.unusedSimpArgs false
set_option linter.unusedVariables false

/-- 'append(out, more...)' of places, and where the new row lies. -/
theorem own_appendR {ops : Array Oper} {rest : List Oper} {o : Oper} {a : Act} {Q : Exit → Act → World → Prop} {wr : World} {v : Value} {l m : List Int} {B B2 g n cap : Nat} {TS : TypeId} (s x : Operand) (hTS : Try.prog.underlying TS = some (.slice 3)) (hown : OwnI wr B v l) (hm : OwnI wr B2 (.slice (some ⟨g, 0, none⟩) n cap) m) (hl : l.length + n ≤ 1048576) (hB : B ≤ wr.heap.size)
    (hgd : o.guard = none) (ho : o.op = .call { callee := .builtin .append, args := #[s, x], argTypes := #[TS, TS] }) (hs : a.eval s = v)
    (hx : a.eval x = .slice (some ⟨g, 0, none⟩) n cap)
    (h : ∀ v' w', OwnI w' B v' (l ++ m) → wr.grownBy w' v.ownBlock → (v'.ownBlock = v.ownBlock ∨ v'.ownBlock = some wr.heap.size) → wpList Try.prog ops Q rest (a.put o.dst v') w') :
    wpList Try.prog ops Q (o :: rest) a wr := by
  obtain ⟨i0, hi, hz0, hz1, hz2⟩ := info_parts infoI
  have hlen := hm.len
  refine wpList_append_own_at _ hgd s x TS ho B 3 i0 (.int .i64 0) 1 8 hTS hi hz0 hz1 hz2 rfl (by decide) v l.length (l.map (Value.int .i64)) hs hown ⟨g, 0, none⟩ n cap (m.map (Value.int .i64)) hx (by simp [hlen]) ?_ ?_ ?_ ?_ ?_ ?_
  · intro j u hj
    rw [List.getElem?_map] at hj
    have hjm : j < m.length := by
      rcases Nat.lt_or_ge j m.length with h | h
      · exact h
      · rw [List.getElem?_eq_none h] at hj; cases hj
    rw [List.getElem?_eq_getElem hjm] at hj
    simp at hj
    have hadd : (⟨g, 0, none⟩ : Addr).add j = ⟨g, j, none⟩ := by unfold Addr.add; split <;> simp_all
    rw [hadd, hm.cellN j (by omega), ← hj, fn_get hjm]
  · intro u hu; simp at hu; obtain ⟨y, _, rfl⟩ := hu; rfl
  · unfold maxLen; omega
  · omega
  · omega
  · intro v' w' h1 h2 _ h3
    refine h v' w' ?_ h2 h3
    unfold OwnI; rw [List.length_append, List.map_append, hlen]; exact h1

/-- .. at a step of a region that draws its order. -/
theorem step_appendR {ops : Array Oper} {o : Oper} {a : Act} {K : Act → World → Prop} {Q : Exit → Act → World → Prop} {E : Prop} {wr : World} {v : Value} {l m : List Int} {B B2 g n cap : Nat} {TS : TypeId} (s x : Operand) (hTS : Try.prog.underlying TS = some (.slice 3)) (hown : OwnI wr B v l) (hm : OwnI wr B2 (.slice (some ⟨g, 0, none⟩) n cap) m) (hn : 0 < n) (hl : l.length + n ≤ 1048576) (hB : B ≤ wr.heap.size)
    (hgd : o.guard = none) (ho : o.op = .call { callee := .builtin .append, args := #[s, x], argTypes := #[TS, TS] }) (hs : a.eval s = v)
    (hx : a.eval x = .slice (some ⟨g, 0, none⟩) n cap)
    (h : ∀ g' c' w', OwnI w' B (.slice (some ⟨g', 0, none⟩) (l.length + n) c') (l ++ m) → wr.grownBy w' v.ownBlock → (v.ownBlock = some g' ∨ g' = wr.heap.size) → K (a.put o.dst (.slice (some ⟨g', 0, none⟩) (l.length + n) c')) w') :
    if Region.wanted o (yielded ops a.tmps) = true then Oper.wp Try.prog o a wr K Q else E := by
  obtain ⟨i0, hi, hz0, hz1, hz2⟩ := info_parts infoI
  have hlen := hm.len
  refine step_append_lies wr hgd s x TS ho B 3 i0 (.int .i64 0) 1 8 hTS hi hz0 hz1 hz2 rfl (by decide) v l.length (l.map (Value.int .i64)) hs hown ⟨g, 0, none⟩ n cap (m.map (Value.int .i64)) hx (by simp [hlen]) ?_ ?_ hn ?_ ?_ hB _ rfl ?_
  · intro j u hj
    rw [List.getElem?_map] at hj
    have hjm : j < m.length := by
      rcases Nat.lt_or_ge j m.length with h | h
      · exact h
      · rw [List.getElem?_eq_none h] at hj; cases hj
    rw [List.getElem?_eq_getElem hjm] at hj
    simp at hj
    have hadd : (⟨g, 0, none⟩ : Addr).add j = ⟨g, j, none⟩ := by unfold Addr.add; split <;> simp_all
    rw [hadd, hm.cellN j (by omega), ← hj, fn_get hjm]
  · intro u hu; simp at hu; obtain ⟨y, _, rfl⟩ := hu; rfl
  · unfold maxLen; omega
  · omega
  · intro g' c' w' h1 h2 h3 h4
    refine h g' c' w' ?_ h2 h3
    unfold OwnI; rw [List.length_append, List.map_append, hlen]; exact h1
theorem quiet_of_more {f : FuncId} {args : Array Value} {w : World} {k n : Nat} {v : Value} (h : Calls Try.prog f args (w.drewN (k + n)) fun e w' => e = .returned v ∧ w' = w.drewN (k + n)) : Calls Try.prog f args (w.drewN (k + n)) fun e w'' => e = .returned v ∧ ∃ m, w'' = w.drewN (k + m) :=
  h.mono fun _ _ ⟨he, hm⟩ => ⟨he, n, hm⟩
theorem placesFirst (g n cap : Nat) (x : Int) (w : World) (hc : w.cell? ⟨g, 0, none⟩ = some (.int .i64 x)) (hn : 0 < n) :
    Calls Try.prog 44 #[.slice (some ⟨g, 0, none⟩) n cap] w fun e w' => e = .returned (.int .i64 x) ∧ w' = w := by
  have hn2 : (0 : Int) < (n : Int) := by omega
  go_enter Try.func44, Try.ntmps44
  go_wp2_with fail
  go_ret
  exact ⟨rfl, rfl⟩
theorem placesLast (g m cap : Nat) (x : Int) (w : World) (hc : w.cell? ⟨g, m, none⟩ = some (.int .i64 x)) (hm : m ≤ 1048576) :
    Calls Try.prog 65 #[.slice (some ⟨g, 0, none⟩) (m + 1) cap] w fun e w' => e = .returned (.int .i64 x) ∧ w' = w := by
  go_enter Try.func65, Try.ntmps65
  go_wp2_with fail
  go_ret
  exact ⟨rfl, rfl⟩

theorem implMol (g m cap x : Nat) (lvl : Int) {B T gm gq gl gc n : Nat} {base : Int} {cs M L cls : List Int} {c : Nat → Int} (w : World) (h : TT w B T gm gq gl gc n base cs M L cls) (hn80 : n ≤ 1000) (hc : w.cell? ⟨g, m, none⟩ = some (.int .i64 (x : Int))) (hm : m ≤ 1048576) (hx : x < n) (hg : g < w.heap.size) (hcs : ∀ j, j < n → fn cs j = c j) :
    Calls Try.prog 45 #[.pointer (some ⟨T, 0, none⟩), .agg #[.slice (some ⟨g, 0, none⟩) (m + 1) cap, .int .i64 lvl]] w fun e w' => e = .returned (.int .i64 (molF c M x)) ∧ Below w.heap.size w w' := by
  obtain ⟨W, hW⟩ : ∃ W, w.alloc (.cells #[.slice (some ⟨g, 0, none⟩) (m + 1) cap, .int .i64 lvl] 47) = W := ⟨_, rfl⟩
  have hBW : Below w.heap.size w W := by rw [← hW]; exact (Below.refl _ _).alloc (Nat.le_refl _) _
  have t0 : W.heap[w.heap.size]? = some (.cells #[.slice (some ⟨g, 0, none⟩) (m + 1) cap, .int .i64 lvl] 47) := by rw [← hW]; exact heap_alloc_new _ _
  have b0 : W.cell? ⟨w.heap.size, 0, none⟩ = _ := cell_of_row W w.heap.size 0 _ _ (0, 0) t0
  simp only [Array.getElem?_toList, List.getElem?_toArray, List.getElem?_cons_zero] at b0
  have h2 := h.below hBW
  have c1 := h2.c1
  have c2 := h2.c2
  have hcx : W.cell? ⟨gm, x, none⟩ = some (.int .i64 (c x)) := by rw [h2.om.cellN x hx, hcs x hx]
  have hqx : W.cell? ⟨gq, x, none⟩ = some (.int .i64 (fn M x)) := h2.oq.cellN x hx
  have hcl : W.cell? ⟨g, m, none⟩ = some (.int .i64 (x : Int)) := (World.cell?_of_block (hBW.block g hg)).trans hc
  have hxi : (x : Int) < (n : Int) := by omega
  have HL : Hid (∀ q, Calls Try.prog 65 #[.slice (some ⟨g, 0, none⟩) (m + 1) cap] (W.drewN q) fun e w' => e = .returned (.int .i64 (x : Int)) ∧ w' = W.drewN q) := fun q => placesLast g m cap (x : Int) (W.drewN q) hcl hm
  have HO : Hid (∀ q, Calls Try.prog 58 #[.int .i64 (c x)] (W.drewN q) fun e w' => e = .returned (.bool (opensB (c x))) ∧ w' = W.drewN q) := fun q => implOpens _ _
  have HW : Hid _ := hW
  have HBW : Hid _ := hBW
  unfold molF
  obtain ⟨q, hq⟩ : ∃ q, opensB (c x) = q := ⟨_, rfl⟩
  rw [hq] at HO ⊢
  clear h h2 t0 hW hBW hcs hq hc
  cases q
  · rw [if_neg (by simp)]
    go_enter Try.func45, Try.ntmps45
    go_upto_region 1 with fail
    rw [HW.out]
    go_quiet (first | (go_at_call 65; with_reducible exact Calls.quiet_of_same (HL.out _)) | (go_at_call 58; with_reducible exact Calls.quiet_of_same (HO.out _)))
    go_wp2_with fail
    go_ret
    exact ⟨rfl, HBW.out.trans ((below_draws _ _).mono HBW.out.size)⟩
  · rw [if_pos rfl]
    go_enter Try.func45, Try.ntmps45
    go_upto_region 1 with fail
    rw [HW.out]
    go_quiet (first | (go_at_call 65; with_reducible exact Calls.quiet_of_same (HL.out _)) | (go_at_call 58; with_reducible exact Calls.quiet_of_same (HO.out _)))
    go_wp2_with fail
    go_quiet ((go_at_call 65; with_reducible exact quiet_of_more (HL.out _)))
    go_wp2_with fail
    go_ret
    exact ⟨rfl, (HBW.out.trans ((below_draws _ _).mono HBW.out.size)).trans ((below_draws _ _).mono HBW.out.size)⟩
end Go.Proofs.Ytkdmfjnaajedhaa
