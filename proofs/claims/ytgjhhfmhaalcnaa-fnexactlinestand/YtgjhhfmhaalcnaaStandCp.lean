import Derived.Test.YtgjhhfmhaalcnaaStandFn
import Derived.Test.YtgjhhfmhaalcnaaGlyAll
import Derived.Lib.Builder
namespace Go.Proofs.Ytgjhhfmhaalcnaa
open Go.ChangeShapes Go.WideShapes Go.ChangeAt Go.RowKit
set_option linter.unusedSimpArgs false
attribute [local go_sem ↓] Go.wp_at_zero Go.wp_at_succ

/-- A line that lies in a block of its own. -/
def Lies (w : World) (P : Nat) (f t d : Int) (v : Value) : Prop := w.heap[P]? = some (.cells #[.int .i64 f, .int .i64 t, .int .i64 d, v] 25 (0, 0))
theorem Lies.c0 {w : World} {P : Nat} {f t d : Int} {v : Value} (h : Lies w P f t d v) : w.cell? ⟨P, 0, none⟩ = some (.int .i64 f) := by rw [Lib.cell_of_heap h]; rfl
theorem Lies.c1 {w : World} {P : Nat} {f t d : Int} {v : Value} (h : Lies w P f t d v) : w.cell? ⟨P, 1, none⟩ = some (.int .i64 t) := by rw [Lib.cell_of_heap h]; rfl
theorem Lies.c2 {w : World} {P : Nat} {f t d : Int} {v : Value} (h : Lies w P f t d v) : w.cell? ⟨P, 2, none⟩ = some (.int .i64 d) := by rw [Lib.cell_of_heap h]; rfl
theorem Lies.c3 {w : World} {P : Nat} {f t d : Int} {v : Value} (h : Lies w P f t d v) : w.cell? ⟨P, 3, none⟩ = some v := by rw [Lib.cell_of_heap h]; rfl
theorem Lies.fz {w : World} {P : Nat} {f t d : Int} {v : Value} (h : Lies w P f t d v) (j : Nat) : w.frozen? ⟨P, j, none⟩ = false := Lib.frozen_of_heap h j
theorem Lies.lt {w : World} {P : Nat} {f t d : Int} {v : Value} (h : Lies w P f t d v) : P < w.heap.size := (Array.getElem?_eq_some_iff.1 h).1
theorem Lies.kept {w w' : World} {P : Nat} {f t d : Int} {v : Value} (h : Lies w P f t d v) (e : w'.heap[P]? = w.heap[P]?) : Lies w' P f t d v := e.trans h
theorem Lies.below {w w' : World} {P : Nat} {f t d : Int} {v : Value} (h : Lies w P f t d v) (hb : Below w.heap.size w w') : Lies w' P f t d v := h.kept (hb.block P h.lt)
theorem Lies.grown {w w' : World} {P : Nat} {row : Option Nat} {f t d : Int} {v : Value} (h : Lies w P f t d v) (hg : w.grownBy w' row) (hne : row ≠ some P) : Lies w' P f t d v := h.kept (hg.block P h.lt (fun e => hne e.symm))
theorem Lies.far {w : World} {P b j : Nat} {f t d : Int} {v x : Value} (h : Lies w P f t d v) (hne : P ≠ b) : Lies (w.setCell ⟨b, j, none⟩ x) P f t d v := h.kept (heap_setCell_other w ⟨b, j, none⟩ P x hne)
theorem Lies.set3 {w : World} {P : Nat} {f t d : Int} {v x : Value} (h : Lies w P f t d v) : Lies (w.setCell ⟨P, 3, none⟩ x) P f t d x := by
  unfold Lies; rw [heap_setCell_same w P 3 _ _ _ h]; rfl
theorem lies_new (w : World) (f t d : Int) (v : Value) : Lies (w.alloc (.cells #[.int .i64 f, .int .i64 t, .int .i64 d, v] 25)) w.heap.size f t d v := by
  show (w.heap.push _)[w.heap.size]? = _; simp
theorem Lies.alloc {w : World} {P : Nat} {f t d : Int} {v : Value} (h : Lies w P f t d v) (o : Obj) : Lies (w.alloc o) P f t d v := h.below (below_new _ _)
/-- The four cells of a line, stored one behind the other. -/
theorem Lies.four {w : World} {P : Nat} {f t d f' t' d' : Int} {v v' : Value} (h : Lies w P f t d v) : Lies ((((w.setCell ⟨P, 0, none⟩ (.int .i64 f')).setCell ⟨P, 1, none⟩ (.int .i64 t')).setCell ⟨P, 2, none⟩ (.int .i64 d')).setCell ⟨P, 3, none⟩ v') P f' t' d' v' := by
  unfold Lies at h ⊢
  rw [heap_setCell_same _ P 3 _ _ _ (heap_setCell_same _ P 2 _ _ _ (heap_setCell_same _ P 1 _ _ _ (heap_setCell_same w P 0 _ _ _ h)))]
  rfl

/-- How far all has been moved. -/
def mvTo (z : Nat → Int) (b : Int) (n k : Nat) (L : List Int) : Prop := ∀ j, j < n * 5 → fn L j = if j < k * 5 then mvF z b j else z j
theorem mvTo_set {z : Nat → Int} {b : Int} {n k : Nat} {L : List Int} (h : mvTo z b n k L) (hl : L.length = n * 5) (hk : k < n) : mvTo z b n (k + 1) (L.set (k * 5 + 2) (z (k * 5 + 2) + b)) := by
  intro j hj
  by_cases e : k * 5 + 2 = j
  · subst e
    rw [fn_set_same (by omega), if_pos (by omega)]
    unfold mvF; rw [if_pos (by omega)]
  · rw [fn_set_other e, h j hj]
    by_cases h1 : j < k * 5
    · rw [if_pos h1, if_pos (by omega)]
    · rw [if_neg h1]
      by_cases h2 : j < (k + 1) * 5
      · rw [if_pos h2]; unfold mvF; rw [if_neg (by omega)]
      · rw [if_neg h2]
theorem mvTo_end {z : List Int} {b : Int} {n : Nat} {L : List Int} (h : mvTo (fn z) b n n L) (hl : L.length = n * 5) : L = mvL z n b :=
  ext_fn (by rw [hl, mvL_len]) (fun j hj => by rw [hl] at hj; rw [h j hj, if_pos hj, fn_mvL hj])
theorem OwnG.formN {w : World} {v : Value} {l : List Int} {B n : Nat} (h : OwnG w B v (0 + n) l) (hn : 0 < n) : ∃ g cap, v = .slice (some ⟨g, 0, none⟩) n cap ∧ B ≤ g ∧ g < w.heap.size := by
  rcases h.forms with ⟨_, e⟩ | ⟨g, cap, e, h1, h2, _⟩
  · omega
  · exact ⟨g, cap, by rw [e]; simp, h1, h2⟩
def rowOf (z : List Int) (n : Nat) : List Int := (List.range (n * 5)).map (fn z)
theorem rowOf_len (z : List Int) (n : Nat) : (rowOf z n).length = n * 5 := by simp [rowOf]
theorem fn_rowOf {z : List Int} {n j : Nat} (h : j < n * 5) : fn (rowOf z n) j = fn z j := by simp [fn, rowOf, h]

set_option maxRecDepth 10000 in
set_option maxHeartbeats 4000000 in
theorem specCopy_row (f t d : Int) (g0 c0 n : Nat) (z : List Int) (by0 : Int) (w : World) (hg : g0 < w.heap.size) (hat : ∀ j, j < n * 5 → w.cell? ⟨g0, j, none⟩ = some (.int .i64 (fn z j))) (hn0 : 0 < n) (hn : n ≤ 80) (hbd : Hid (glyBd (fn z) n)) (h0 : -2000000 ≤ by0) (h1 : by0 ≤ 2000000) :
    Calls Try.prog 74 #[.agg #[.int .i64 f, .int .i64 t, .int .i64 d, .slice (some ⟨g0, 0, none⟩) n c0], .int .i64 by0] w fun e w' => (∃ v', e = .returned (.agg #[.int .i64 f, .int .i64 t, .int .i64 d, v']) ∧ OwnG w' w.heap.size v' n (mvL z n by0)) ∧ Below w.heap.size w w' := by
  obtain ⟨W2, hW2⟩ : ∃ W, (w.alloc (.cells #[.int .i64 f, .int .i64 t, .int .i64 d, .slice (some ⟨g0, 0, none⟩) n c0] 25)).alloc (.cells #[.int .i64 0, .int .i64 0, .int .i64 0, .slice none 0 0] 25) = W := ⟨_, rfl⟩
  have B2 : Below w.heap.size w W2 := by rw [← hW2]; go_grown
  have hs2 : W2.heap.size = w.heap.size + 2 := by rw [← hW2]; simp
  have L0 : Lies W2 w.heap.size f t d (.slice (some ⟨g0, 0, none⟩) n c0) := by rw [← hW2]; exact (lies_new w f t d _).alloc _
  have L1 : Lies W2 (w.heap.size + 1) 0 0 0 (.slice none 0 0) := by
    rw [← hW2]
    have := lies_new (w.alloc (.cells #[.int .i64 f, .int .i64 t, .int .i64 d, .slice (some ⟨g0, 0, none⟩) n c0] 25)) 0 0 0 (.slice none 0 0)
    rwa [size_new] at this
  have ho : OwnG (W2.alloc (.cells #[] 31)) (w.heap.size + 2) (.slice (some ⟨w.heap.size + 2, 0, none⟩) 0 0) 0 [] := by
    have := own_emptyG W2 W2.heap.size 31 (Nat.le_refl _) rfl
    rwa [hs2] at this
  have HO : Hid _ := ho
  have HB3 : Hid (w.heap.size + 2 ≤ (W2.alloc (.cells #[] 31)).heap.size) := by show _ ≤ _; rw [size_new, hs2]; omega
  have hat3 : ∀ j, j < n * 5 → (W2.alloc (.cells #[] 31)).cell? ⟨g0, j, none⟩ = some (.int .i64 (fn (rowOf z n) j)) := fun j hj => by
    rw [fn_rowOf hj, ← hat j hj]
    exact (bstep B2 (below_new _ _)).cell (p := ⟨g0, j, none⟩) hg
  have k3 := L0.c3
  have HAT3 : Hid _ := hat3
  have HL0 : Hid _ := L0
  have HL1 : Hid _ := L1
  clear hat hat3 L0 L1 ho
  go_enter Try.func74, Try.ntmps74
  go_wp2_with (at_builtin; refine own_appendAllG (.tmp 6) (.tmp 8) HO.out (rowOf_len z n) (by omega) HB3.out HAT3.out rfl rfl rfl rfl ?_; intro v4 w4 o4 gr4; have q3 := Lies.grown (Lies.alloc (f := f) (t := t) (d := d) HL0.out (.cells #[] 31)) gr4 (by simp [Value.ownBlock]); have q33 := q3.c3; have qf3 := q3.fz 3; obtain ⟨g4, cp4, rfl, hg4, hg4w⟩ := OwnG.formN o4 hn0)
  have q1 := Lies.grown (Lies.alloc (f := 0) (t := 0) (d := 0) HL1.out (.cells #[] 31)) gr4 (by simp [Value.ownBlock])
  have b4 : Below w.heap.size w w4 := (bstep B2 (below_new _ _)).grown gr4 (by rw [size_new, hs2]; omega) (fun k hk => by simp [Value.ownBlock] at hk; omega)
  rw [Nat.zero_add, List.nil_append] at o4
  have HS : Hid (∃ L, OwnG (w4.setCell ⟨w.heap.size, 3, none⟩ (.slice (some ⟨g4, 0, none⟩) n cp4)) (w.heap.size + 2) (.slice (some ⟨g4, 0, none⟩) n cp4) n L ∧ mvTo (fn z) by0 n 0 L) :=
    ⟨_, o4.kept (fun k hk => by simp [Value.ownBlock] at hk; subst hk; exact heap_setCell_other _ _ _ _ (by show g4 ≠ w.heap.size; omega)), fun j hj => by rw [fn_rowOf hj, if_neg (by omega)]⟩
  have HL : Hid (Lies (w4.setCell ⟨w.heap.size, 3, none⟩ (.slice (some ⟨g4, 0, none⟩) n cp4)) w.heap.size f t d (.slice (some ⟨g4, 0, none⟩) n cp4)) := q3.set3
  have HR : Hid (Lies (w4.setCell ⟨w.heap.size, 3, none⟩ (.slice (some ⟨g4, 0, none⟩) n cp4)) (w.heap.size + 1) 0 0 0 (.slice none 0 0)) := q1.far (by omega)
  have HB : Hid (Below w.heap.size w (w4.setCell ⟨w.heap.size, 3, none⟩ (.slice (some ⟨g4, 0, none⟩) n cp4))) := b4.setCell (Nat.le_refl _) _
  clear q3 q1 q33 qf3 gr4 o4 b4 hW2 B2 HL0 HL1 HO HAT3 HB3 k3 hs2
  go_loopw [5] (fun i wr => ∃ k : Nat, k ≤ n ∧ i = .int .i64 k ∧ Hid (∃ L, OwnG wr (w.heap.size + 2) (.slice (some ⟨g4, 0, none⟩) n cp4) n L ∧ mvTo (fn z) by0 n k L) ∧ Hid (Lies wr w.heap.size f t d (.slice (some ⟨g4, 0, none⟩) n cp4)) ∧ Hid (Lies wr (w.heap.size + 1) 0 0 0 (.slice none 0 0)) ∧ Hid (Below w.heap.size w wr)) (fun i _ => n - (intOf i).toNat)
  case atStart => exact ⟨0, Nat.zero_le _, rfl, HS, HL, HR, HB⟩
  case round =>
    obtain ⟨k, hk, rfl, hown, hl, hr, hb⟩ := hrel
    have k0 := Lies.c0 hl.out
    have k1 := Lies.c1 hl.out
    have k2 := Lies.c2 hl.out
    have k3 := Lies.c3 hl.out
    by_cases hlt : k < n
    · obtain ⟨L, ho, hm⟩ := hown.out
      have hc : wr.cell? ⟨g4, k * 5 + 2, none⟩ = some (.int .i64 (fn z (k * 5 + 2))) := by
        rw [ho.cell _ (by omega), hm _ (by omega), if_neg (by omega)]
      have hf := ho.frozen (k * 5 + 2)
      have hbd2 := hbd.out k hlt
      have hki : (k : Int) < (n : Int) := by omega
      have HO : Hid _ := ho
      have HM : Hid _ := hm
      have hw1 : IntKind.i64.wrap (fn z (k * 5 + 2) + by0) = fn z (k * 5 + 2) + by0 := by simp [IntKind.wrap, IntKind.bits, IntKind.signed]; omega
      have hne : g4 ≠ w.heap.size := by omega
      clear ho hm
      go_wp2_with fail
      go_region_with (fail)
      all_goals (go_wp2_with fail)
      all_goals
        refine ⟨⟨k + 1, by omega, by go_num, ⟨_, OwnG.stored HO.out (k * 5 + 2) _, mvTo_set HM.out (OwnG.len HO.out) hlt⟩, Lies.far (w := wr) hl.out (by omega), Lies.far (w := wr) hr.out (by omega), (Below.setCell (p := ⟨g4, k * 5 + 2, none⟩) hb.out (by show w.heap.size ≤ g4; omega) _).drew⟩, by simp only [intOf]; omega⟩
    · have e : k = n := by omega
      subst e
      obtain ⟨L, ho, hm⟩ := hown.out
      rw [mvTo_end hm ho.len] at ho
      have r0 := Lies.c0 hr.out
      have r1 := Lies.c1 hr.out
      have r2 := Lies.c2 hr.out
      have r3 := Lies.c3 hr.out
      have p0 := Lies.fz hr.out 0
      have p1 := Lies.fz hr.out 1
      have p2 := Lies.fz hr.out 2
      have p3 := Lies.fz hr.out 3
      have HO : Hid (OwnG wr (w.heap.size + 2) (.slice (some ⟨g4, 0, none⟩) k cp4) k (mvL z k by0)) := ho
      have HLL := Lies.four (f' := f) (t' := t) (d' := d) (v' := .slice (some ⟨g4, 0, none⟩) k cp4) hr.out
      have HLF : Hid _ := HLL
      clear ho hm HLL
      go_wp2_with fail
      have e0 := Lies.c0 HLF.out
      have e1 := Lies.c1 HLF.out
      have e2 := Lies.c2 HLF.out
      have e3 := Lies.c3 HLF.out
      refine bodyPost_ret (v := .agg #[.int .i64 f, .int .i64 t, .int .i64 d, .slice (some ⟨g4, 0, none⟩) k cp4]) (by simp [results, Try.results74, go_sem, e0, e1, e2, e3]) rfl ⟨⟨_, rfl, ?_⟩, ?_⟩
      · refine OwnG.mono (OwnG.kept HO.out (fun kk hk => ?_)) (by omega)
        have ek : kk = g4 := by simp [Value.ownBlock] at hk; omega
        subst ek
        rw [heap_setCell_other _ _ _ _ (by show kk ≠ w.heap.size + 1; omega), heap_setCell_other _ _ _ _ (by show kk ≠ w.heap.size + 1; omega), heap_setCell_other _ _ _ _ (by show kk ≠ w.heap.size + 1; omega), heap_setCell_other _ _ _ _ (by show kk ≠ w.heap.size + 1; omega)]
      · exact (((hb.out.setCell (by show w.heap.size ≤ w.heap.size + 1; omega) _).setCell (by show w.heap.size ≤ w.heap.size + 1; omega) _).setCell (by show w.heap.size ≤ w.heap.size + 1; omega) _).setCell (by show w.heap.size ≤ w.heap.size + 1; omega) _

set_option maxRecDepth 10000 in
set_option maxHeartbeats 2000000 in
theorem specCopy_nil (f t d : Int) (a : Option Addr) (c0 : Nat) (by0 : Int) (w : World) :
    Calls Try.prog 74 #[.agg #[.int .i64 f, .int .i64 t, .int .i64 d, .slice a 0 c0], .int .i64 by0] w fun e w' => (∃ v', e = .returned (.agg #[.int .i64 f, .int .i64 t, .int .i64 d, v']) ∧ OwnG w' w.heap.size v' 0 []) ∧ Below w.heap.size w w' := by
  have HO : Hid (∀ o1 o2 : Obj, OwnG (((w.alloc o1).alloc o2).alloc (.cells #[] 31)) w.heap.size (.slice (some ⟨w.heap.size + 2, 0, none⟩) 0 0) 0 []) := fun o1 o2 => by
    have := own_emptyG ((w.alloc o1).alloc o2) w.heap.size 31 (by simp; omega) rfl
    rwa [show ((w.alloc o1).alloc o2).heap.size = w.heap.size + 2 by simp] at this
  cases a with
  | none =>
    go_enter Try.func74, Try.ntmps74
    go_wp2
    go_rounds 1
    exact bodyPost_ret (v := .agg #[.int .i64 f, .int .i64 t, .int .i64 d, .slice (some ⟨w.heap.size + 2, 0, none⟩) 0 0]) (by simp [results, Try.results74, go_sem]) rfl ⟨⟨_, rfl, HO.out _ _⟩, by go_grown⟩
  | some ad =>
    go_enter Try.func74, Try.ntmps74
    go_wp2
    go_rounds 1
    exact bodyPost_ret (v := .agg #[.int .i64 f, .int .i64 t, .int .i64 d, .slice (some ⟨w.heap.size + 2, 0, none⟩) 0 0]) (by simp [results, Try.results74, go_sem]) rfl ⟨⟨_, rfl, HO.out _ _⟩, by go_grown⟩

theorem specCopy (f t d : Int) (u : Value) (n : Nat) (z : List Int) (by0 : Int) (w : World) (hu : ArgG w u n z) (hn : n ≤ 80) (hbd : Hid (glyBd (fn z) n)) (h0 : -2000000 ≤ by0) (h1 : by0 ≤ 2000000) :
    Calls Try.prog 74 #[.agg #[.int .i64 f, .int .i64 t, .int .i64 d, u], .int .i64 by0] w fun e w' => (∃ v', e = .returned (.agg #[.int .i64 f, .int .i64 t, .int .i64 d, v']) ∧ OwnG w' w.heap.size v' n (mvL z n by0)) ∧ Below w.heap.size w w' := by
  by_cases h : n = 0
  · subst h
    obtain ⟨a, c, rfl⟩ : ∃ a c, u = .slice a 0 c := by
      rcases hu with ⟨a, c, rfl, _⟩ | ⟨g, c, rfl, _⟩
      · exact ⟨_, _, rfl⟩
      · exact ⟨_, _, rfl⟩
    have e : mvL z 0 by0 = [] := by simp [mvL]
    rw [e]
    exact specCopy_nil f t d a c by0 w
  · rcases hu with ⟨a, c, rfl, e⟩ | ⟨g, c, rfl, hg, _, _, hat⟩
    · exact absurd e h
    · exact specCopy_row f t d g c n z by0 w hg hat (by omega) hn hbd h0 h1
end Go.Proofs.Ytgjhhfmhaalcnaa
