import Derived.Test.YtgojdlbidjnmmabGreatPk3
import Derived.Test.YtgojdlbidjnmmabGreatPk2
namespace Go.Proofs.YtgojdlbidjnmmabGreat
open Go.ChangeShapes Go.WideShapes Go.ChangeAt Go.RowKit
set_option linter.unusedSimpArgs false

theorem zeroValueTab (w : World) : Sem.run Tryz.prog (zeroValue 86) w = .ok (.agg zeros) w := by
  simp only [zeroValue, Sem.run_bind, Tryz.typeInfo86, Result.andThen_ok]
  kernel_rfl

theorem at_buildTab {ops : Array Oper} {rest : List Oper} {o : Oper} {a : Act} {w : World} {Q : Exit → Act → World → Prop} (hg : o.guard = none) (parts : Array (Nat × Operand)) (ho : o.op = .build 86 parts)
    (hb : Tryz.prog.built 86 (parts.map fun (i, x) => (i, a.eval x)).toList = some tab)
    (h : wpList Tryz.prog ops Q rest (a.put o.dst (.agg tab)) w) : wpList Tryz.prog ops Q (o :: rest) a w :=
  wpList_build hg 86 parts ho (by rw [hb]; rfl) (by rw [hb]; exact h)

theorem laid_new (w : World) : (w.alloc (.cells zeros 86)).heap[w.heap.size]? = some (.cells zeros 86 (0, 0)) := by show (w.heap.push _)[w.heap.size]? = _; simp

theorem laid_newZ (w : World) (Z : Array Value) : (w.alloc (.cells Z 86)).heap[w.heap.size]? = some (.cells Z 86 (0, 0)) := by show (w.heap.push _)[w.heap.size]? = _; simp

theorem laid (w : World) : ∃ W, (w.alloc (.cells zeros 86)).setRow w.heap.size tab = W ∧ W.heap.size = w.heap.size + 1 ∧ Below w.heap.size w W ∧ ∀ j, W.cell? ⟨w.heap.size, j, none⟩ = tab[j]? := by
  refine ⟨_, rfl, by simp, ⟨rfl, rfl, rfl, by simp, fun k hk => ?_⟩, fun j => ?_⟩
  · rw [setRow_other _ _ _ _ (by omega)]
    exact Below.heap_alloc w _ k hk
  · exact cell_setRow_same _ _ j zeros tab 86 (0, 0) (laid_new w)

attribute [local go_sem 2000] zeroValueTab
set_option maxRecDepth 100000 in
set_option maxHeartbeats 4000000 in
theorem implBidi (r : Int) (w : World) : Calls Tryz.prog 48 #[.int .i64 r] w fun e w' => e = .returned (.int .i64 (bidi r)) ∧ Below w.heap.size w w' := by
  obtain ⟨W, hW, hsz, hB, hcell⟩ := laid w
  have HW : Hid _ := hW
  have HC : Hid _ := hcell
  clear hcell hW
  go_enter Tryz.func48, Tryz.ntmps48
  go_wp2_with (first | (refine at_buildTab rfl _ rfl (by kernel_rfl) ?_) | (refine wpList_store_row rfl 86 _ _ rfl w.heap.size tab rfl rfl 86 zeros (laid_new w) (by kernel_rfl) (by kernel_rfl) (by kernel_rfl) ?_; rw [HW.out]) | (refine wpList_store_row rfl 86 _ _ rfl w.heap.size tab rfl rfl 86 Tryz.zeroCells86 (laid_newZ w _) (by kernel_rfl) (by kernel_rfl) (by kernel_rfl) ?_; rw [show Tryz.zeroCells86 = zeros by kernel_rfl, HW.out]))
  refine (first_any w.heap.size lasts 28 (by omega) r W lasts_up (fun m hm => by rw [HC.out]; exact tab_last m hm)).mono ?_
  rintro e w' ⟨⟨k, rfl, hk, hkk⟩, rfl⟩
  by_cases h28 : k < 28
  · have c1 : w'.cell? ⟨w.heap.size, k * 3, none⟩ = some (.int .i64 (firsts k)) := by rw [HC.out]; exact tab_first k h28
    have c2 : w'.cell? ⟨w.heap.size, k * 3 + 2, none⟩ = some (.int .i64 (kinds k)) := by rw [HC.out]; exact tab_kind k h28
    have hne : ((k : Int) == 28) = false := by simp; omega
    have hki : (k : Int) < 28 := by omega
    by_cases hf : r < firsts k
    · go_wp2
      go_ret
      exact ⟨ret_int (tab_miss r k h28 (fun h0 => hkk.out.1 _ (by omega)) hf).symm, hB⟩
    · go_wp2
      go_ret
      exact ⟨ret_int (tab_hit r k h28 (hkk.out.2 h28) (by omega)).symm, hB⟩
  · have e : k = 28 := by omega
    subst e
    go_wp2
    go_ret
    exact ⟨ret_int (tab_end r (hkk.out.1 27 (by omega))).symm, hB⟩
end Go.Proofs.YtgojdlbidjnmmabGreat
namespace Go.Proofs.YtgojdlbidjnmmabGreat
open Go.ChangeShapes Go.WideShapes Go.ChangeAt Go.RowKit
set_option linter.unusedSimpArgs false

set_option maxHeartbeats 1000000 in
theorem implOpens (c : Int) (w : World) : Calls Tryz.prog 93 #[.int .i64 c] w fun e w' => e = .returned (.bool (opensB c)) ∧ w' = w := by
  go_enter Tryz.func93, Tryz.ntmps93
  go_wp2
  all_goals (go_ret; refine ⟨retBool ?_, rfl⟩)
  all_goals (rw [Bool.eq_iff_iff]; simp [opensB]; omega)

set_option maxHeartbeats 1000000 in
theorem specOpens (c : Int) (w : World) : Calls Tryz.prog 59 #[.int .i64 c] w fun e w' => e = .returned (.bool (opensB c)) ∧ w' = w := by
  go_enter Tryz.func59, Tryz.ntmps59
  go_wp2_with (go_at_call 17; refine (specIn _ _ _ _).mono ?_; rintro e w' ⟨rfl, rfl⟩)
  go_ret
  exact ⟨rfl, rfl⟩

theorem infoN : (Tryz.prog.info? 3).map (fun i => (i.zero, i.size, i.bytes)) = some (some (.int .i64 0), 1, 8) := by kernel_rfl
theorem made_row {w : World} {B g n : Nat} (h : w.ownsRow B 3 1 (.slice (some ⟨g, 0, none⟩) n n) n (madeCells (Value.cells (.int .i64 0)) (n * 1)).toList) :
    OwnI w B (.slice (some ⟨g, 0, none⟩) n n) (List.replicate n 0) := by
  have e : (madeCells (Value.cells (.int .i64 0)) (n * 1)).toList = (List.replicate n (0 : Int)).map (Value.int .i64) := by
    rw [Nat.mul_one, show Value.cells (.int .i64 0) = #[.int .i64 0] from rfl, toList_madeCells_one]; simp
  rw [e] at h
  unfold OwnI
  rw [List.length_replicate]
  exact h

def clsL (l : List Int) : List Int := l.map bidi
theorem clsL_len (l : List Int) : (clsL l).length = l.length := by simp [clsL]
theorem fn_clsL {l : List Int} {j : Nat} (h : j < l.length) : fn (clsL l) j = cl l j := by simp [fn, clsL, cl, h]

set_option maxHeartbeats 2000000 in
theorem classes_any (v : Value) (l : List Int) (w : World) (hv : Arg w v l) (hl : l.length ≤ 1048576) :
    Calls Tryz.prog 72 #[v] w fun e w' => (∃ g, e = .returned (.slice (some ⟨g, 0, none⟩) l.length l.length) ∧ OwnI w' w.heap.size (.slice (some ⟨g, 0, none⟩) l.length l.length) (clsL l)) ∧ Below w.heap.size w w' := by
  obtain ⟨i0, hi, hz0, hz1, hz2⟩ := info_parts infoN
  rcases hv with ⟨a0, c0, rfl, rfl⟩ | ⟨b, off, cap, rfl, hb, hlc, hcm, hat⟩
  · go_enter Tryz.func72, Tryz.ntmps72
    go_wp2_with (first | (at_make; refine wpList_make_full _ rfl _ _ 22 rfl w.heap.size 3 i0 (.int .i64 0) 1 Tryz.underlying22 hi hz0 hz1 _ _ _ _ 0 rfl rfl rfl rfl (by omega) (by unfold maxLen; omega) (Nat.le_refl _) ?_; intro w1 hown hgrow))
    go_rounds 1
    go_ret
    exact ⟨⟨_, rfl, made_row hown⟩, (Below.refl _ _).grown hgrow (Nat.le_refl _) (by simp)⟩
  · obtain ⟨n, hn⟩ : ∃ n, l.length = n := ⟨_, rfl⟩
    rw [hn] at hl ⊢
    go_enter Tryz.func72, Tryz.ntmps72
    go_wp2_with (first | (at_make; refine wpList_make_full _ rfl _ _ 22 rfl w.heap.size 3 i0 (.int .i64 0) 1 Tryz.underlying22 hi hz0 hz1 _ _ _ _ n rfl rfl rfl rfl (by rw [hz2]; omega) (by unfold maxLen; omega) (Nat.le_refl _) ?_; intro w1 hown hgrow))
    have hB : Below w.heap.size w w1 := (Below.refl _ _).grown hgrow (Nat.le_refl _) (by simp)
    have ho : OwnI w1 w.heap.size (.slice (some ⟨w.heap.size, 0, none⟩) n n) (List.replicate n 0) := made_row hown
    clear hown hgrow
    go_loopw [11] (fun i wr => ∃ (k : Nat) (l' : List Int), k ≤ n ∧ i = .int .i64 k ∧ OwnI wr w.heap.size (.slice (some ⟨w.heap.size, 0, none⟩) n n) l' ∧ Hid (∀ j, j < k → fn l' j = cl l j) ∧ Below w.heap.size w wr) (fun i _ => n - (intOf i).toNat)
    case atStart => exact ⟨0, _, Nat.zero_le _, rfl, ho, fun j hj => by omega, hB⟩
    case round =>
      obtain ⟨k, l', hk, rfl, hown, hsame, hbel⟩ := hrel
      by_cases hlt : k < n
      · have hcell : wr.cell? ⟨b, off + k, none⟩ = some (.int .i64 (fn l k)) := (hbel.cell (p := ⟨b, off + k, none⟩) hb).trans (hat k (by omega))
        go_wp2_with fail
        refine (implBidi _ _).mono ?_
        rintro e w2 ⟨rfl, b2⟩
        have hown2 := hown.below b2
        have hbel2 := bstep hbel b2
        have hf : w2.frozen? ⟨w.heap.size, k, none⟩ = false := hown2.frozenN k
        have hc2 : w2.cell? ⟨w.heap.size, k, none⟩ = some (.int .i64 (fn l' k)) := hown2.cellN k hlt
        go_wp2_with fail
        go_roundw
        case rel =>
          refine ⟨k + 1, l'.set k (bidi (fn l k)), by omega, by go_num, hown2.storedN k _, fun j hj => ?_, hbel2.setCell (Nat.le_refl _) _⟩
          have e := hown.len
          by_cases ej : j = k
          · subst ej; exact fn_set_same (by omega)
          · rw [fn_set_other (by omega)]; exact hsame.out j (by omega)
        case measure => simp only [intOf]; omega
      · have e : k = n := by omega
        subst e
        go_wp2_with fail
        go_ret
        have e := hown.len
        have el : l' = clsL l := ext_fn (by rw [clsL_len]; omega) (fun j hj => by rw [fn_clsL (by omega)]; exact hsame.out j (by omega))
        rw [el] at hown
        exact ⟨⟨_, rfl, hown⟩, hbel⟩

theorem OwnI.take {w : World} {g n cap q B : Nat} {l : List Int} (h : OwnI w B (.slice (some ⟨g, 0, none⟩) n cap) l) (hq : q ≤ n) : OwnI w B (.slice (some ⟨g, 0, none⟩) q cap) (l.take q) := by
  have e := h.len
  have hl : (l.take q).length = q := by rw [List.length_take]; omega
  unfold OwnI
  rw [hl]
  refine ⟨by rw [List.length_map, hl]; omega, .inr ?_⟩
  rcases h.2 with ⟨h1, _⟩ | ⟨g', cap', cur, h1, h2, h3, h4, h5, h6, h7⟩
  · cases h1
  · simp only [Value.slice.injEq, Option.some.injEq, Addr.mk.injEq] at h1
    obtain ⟨⟨rfl, _⟩, _, rfl⟩ := h1
    refine ⟨g, cap, cur, rfl, h2, h3, by omega, h5, h6, ?_⟩
    rw [List.map_take, ← h7, List.take_take]
    congr 1; omega
end Go.Proofs.YtgojdlbidjnmmabGreat
namespace Go.Proofs.YtgojdlbidjnmmabGreat
open Go.ChangeShapes Go.WideShapes Go.ChangeAt Go.RowKit
set_option linter.unusedSimpArgs false

theorem mt_open {c : Nat → Int} {k : Nat} {S M : List Int} (h : MatesTo c k S M) (hk : k < M.length) : MatesTo c (k + 1) (S ++ [(k : Int)]) (M.set k (-1)) := by
  intro i hi ho
  by_cases e : i = k
  · subst e
    exact .inr ⟨fn_set_same hk, S.length, by simp, fn_snoc_last S _⟩
  · rcases h i (by omega) ho with ⟨j, h1, h2, h3⟩ | ⟨h1, t, h2, h3⟩
    · exact .inl ⟨j, by omega, h2, by rw [fn_set_other (by omega)]; exact h3⟩
    · exact .inr ⟨by rw [fn_set_other (by omega)]; exact h1, t, by simp; omega, by rw [fn_append_left h2]; exact h3⟩
theorem mt_stay {c : Nat → Int} {k : Nat} {S M : List Int} (h : MatesTo c k S M) (hno : opensB (c k) = false) : MatesTo c (k + 1) S (M.set k (-1)) := by
  intro i hi ho
  by_cases e : i = k
  · subst e; rw [hno] at ho; cases ho
  · rcases h i (by omega) ho with ⟨j, h1, h2, h3⟩ | ⟨h1, t, h2, h3⟩
    · exact .inl ⟨j, by omega, h2, by rw [fn_set_other (by omega)]; exact h3⟩
    · exact .inr ⟨by rw [fn_set_other (by omega)]; exact h1, t, h2, h3⟩
theorem mt_pop {c : Nat → Int} {k q i0 : Nat} {S M : List Int} (h : MatesTo c k S M) (hno : opensB (c k) = false) (hq : S.length = q + 1) (he : fn S q = (i0 : Int)) (hi0 : i0 < k) (hk : k < M.length) (hm : MateIs c i0 k) :
    MatesTo c (k + 1) (S.take q) (((M.set k (-1)).set k (i0 : Int)).set i0 (k : Int)) := by
  intro i hi ho
  by_cases e : i = k
  · subst e; rw [hno] at ho; cases ho
  · by_cases e0 : i = i0
    · subst e0
      exact .inl ⟨k, by omega, hm, fn_set_same (by simp; omega)⟩
    · have hf : fn (((M.set k (-1)).set k (i0 : Int)).set i0 (k : Int)) i = fn M i := by
        rw [fn_set_other (by omega), fn_set_other (by omega), fn_set_other (by omega)]
      rcases h i (by omega) ho with ⟨j, h1, h2, h3⟩ | ⟨h1, t, h2, h3⟩
      · exact .inl ⟨j, by omega, h2, by rw [hf]; exact h3⟩
      · have htq : t < q := by
          rcases Nat.lt_or_ge t q with a | a
          · exact a
          · have : t = q := by omega
            subst this; omega
        exact .inr ⟨by rw [hf]; exact h1, t, by rw [List.length_take]; omega, by rw [fn_take htq]; exact h3⟩

theorem own_append2 {ops : Array Oper} {rest : List Oper} {o : Oper} {a : Act} {Q : Exit → Act → World → Prop} {wr : World} {T : TypeId} {v : Value} {l : List Int} {B g : Nat} {xv : Int} (s x : Operand) (hown : OwnI wr B v l) (hl : l.length ≤ 1073741824) (hB : B ≤ wr.heap.size) (hg : wr.heap.size = g)
    (hgd : o.guard = none) (ho : o.op = .call { callee := .builtin .append, args := #[s, x], argTypes := #[22, 22] }) (hs : a.eval s = v)
    (hx : a.eval x = .slice (some ⟨g, 0, none⟩) 1 1)
    (h : ∀ v' w', OwnI w' B v' (l ++ [xv]) → wr.grownBy w' v.ownBlock → wpList Tryz.prog ops Q rest (a.put o.dst v') w') :
    wpList Tryz.prog ops Q (o :: rest) a (wr.alloc (.cells #[.int .i64 xv] T)) := by
  subst hg
  exact own_append s x hown hl hB hgd ho hs hx h
theorem OwnI.setOther {w : World} {v : Value} {l : List Int} {B g j : Nat} {x : Value} (h : OwnI w B v l) (hg : g < B) : OwnI (w.setCell ⟨g, j, none⟩ x) B v l :=
  h.kept fun k hk => heap_setCell_other w ⟨g, j, none⟩ k x (fun e => by have := (h.lt k hk).1; simp at e; omega)
theorem OwnI.keptRow {w w' : World} {v u : Value} {l l2 : List Int} {B B2 : Nat} (h : OwnI w B v l) (ho : OwnI w B2 u l2) (hg : w.grownBy w' u.ownBlock) (hB : ∀ k, v.ownBlock = some k → k < B2) : OwnI w' B v l :=
  h.kept fun k hk => hg.block k (h.lt k hk).2 (fun e => by have := (ho.lt k e.symm).1; have := hB k hk; omega)

theorem clos_class {c : Nat → Int} {i j : Nat} (h : MateIs c i j) : c j = 22 := by
  have h1 := h.pos (j - i) (by have := h.lt; omega) (Nat.le_refl _)
  have h2 := h.zero
  rw [show j + 1 - i = (j - i) + 1 by have := h.lt; omega, dp_succ, show i + (j - i) = j by have := h.lt; omega] at h2
  unfold del at h2
  by_cases a : opensB (c j) = true
  · rw [if_pos a] at h2; omega
  · rw [if_neg a] at h2
    by_cases b : c j = 22
    · exact b
    · rw [if_neg b] at h2; omega
theorem cs_set {c : Nat → Int} {k q : Nat} {M : List Int} {x : Int} (h : ClosTo c k M) (hq : k ≤ q ∨ opensB (c q) = true) : ClosTo c k (M.set q x) := by
  intro j hj ho
  have hne : q ≠ j := by
    intro e; subst e
    rcases hq with hq | hq
    · omega
    · rw [hq] at ho; cases ho
  rcases h j hj ho with ⟨i, a, b, d, e⟩ | ⟨a, b⟩
  · exact .inl ⟨i, a, b, d, by rw [fn_set_other hne]; exact e⟩
  · exact .inr ⟨by rw [fn_set_other hne]; exact a, b⟩
theorem cs_open {c : Nat → Int} {k : Nat} {M : List Int} (h : ClosTo c k M) (ho : opensB (c k) = true) : ClosTo c (k + 1) M := by
  intro j hj hn
  by_cases e : j = k
  · subst e; rw [ho] at hn; cases hn
  · exact h j (by omega) hn
theorem cs_stay {c : Nat → Int} {k : Nat} {S M : List Int} (h : ClosTo c k M) (hm : MatesTo c k S M) (hk : k < M.length) (hs : c k ≠ 22 ∨ S = []) : ClosTo c (k + 1) (M.set k (-1)) := by
  intro j hj hn
  by_cases e : j = k
  · subst e
    refine .inr ⟨fn_set_same hk, fun i hi ho hM => ?_⟩
    rcases hs with hs | rfl
    · exact hs (clos_class hM)
    · rcases hm i hi ho with ⟨j2, h1, h2, _⟩ | ⟨_, t, h2, _⟩
      · have := mate_unique hM h2; omega
      · simp at h2
  · exact cs_set h (.inl (Nat.le_refl _)) j (by omega) hn
theorem cs_pop {c : Nat → Int} {k i0 : Nat} {M : List Int} (h : ClosTo c k M) (hk : k < M.length) (hi0 : i0 < k) (ho0 : opensB (c i0) = true) (hm : MateIs c i0 k) : ClosTo c (k + 1) (((M.set k (-1)).set k (i0 : Int)).set i0 (k : Int)) := by
  intro j hj hn
  by_cases e : j = k
  · subst e
    exact .inl ⟨i0, hi0, ho0, hm, by rw [fn_set_other (by omega), fn_set_same (by simp; omega)]⟩
  · exact cs_set (cs_set (cs_set h (.inl (Nat.le_refl _))) (.inl (Nat.le_refl _))) (.inr ho0) j (by omega) hn

set_option maxRecDepth 10000 in
set_option maxHeartbeats 4000000 in
theorem mates_rowC (b off cap n : Nat) (cs : List Int) (c : Nat → Int) (w : World) (hn : cs.length = n) (hl : n ≤ 1048576) (hb : b < w.heap.size) (hat : At w b off cs) (hc : Hid (∀ j, j < n → fn cs j = c j)) :
    Calls Tryz.prog 73 #[.slice (some ⟨b, off, none⟩) n cap] w fun e w' => (∃ g M, e = .returned (.slice (some ⟨g, 0, none⟩) n n) ∧ OwnI w' w.heap.size (.slice (some ⟨g, 0, none⟩) n n) M ∧ Hid (∀ i, i < n → opensB (c i) = true → ((∃ j, j < n ∧ MateIs c i j ∧ fn M i = (j : Int)) ∨ (fn M i = -1 ∧ NoMate c n i))) ∧ Hid (ClosTo c n M)) ∧ Below w.heap.size w w' := by
  obtain ⟨i0, hi, hz0, hz1, hz2⟩ := info_parts infoN
  go_enter Tryz.func73, Tryz.ntmps73
  go_wp2_with (first | (at_make; refine wpList_make_full _ rfl _ _ 22 rfl w.heap.size 3 i0 (.int .i64 0) 1 Tryz.underlying22 hi hz0 hz1 _ _ _ _ n rfl rfl rfl rfl (by rw [hz2]; omega) (by unfold maxLen; omega) (Nat.le_refl _) ?_; intro w1 hown hgrow))
  have hB : Below w.heap.size w w1 := (Below.refl _ _).grown hgrow (Nat.le_refl _) (by simp)
  have ho : OwnI w1 w.heap.size (.slice (some ⟨w.heap.size, 0, none⟩) n n) (List.replicate n 0) := made_row hown
  have hs1 : w.heap.size + 1 ≤ w1.heap.size := (ho.lt w.heap.size rfl).2
  clear hown hgrow
  go_loopw [4, 13] (fun q i wr => ∃ (k : Nat) (S M : List Int), k ≤ n ∧ i = .int .i64 k ∧ OwnI wr w.heap.size (.slice (some ⟨w.heap.size, 0, none⟩) n n) M ∧ OwnI wr (w.heap.size + 1) q S ∧ Hid (Stack c k S ∧ MatesTo c k S M ∧ S.length ≤ k ∧ ClosTo c k M) ∧ Below w.heap.size w wr ∧ w.heap.size + 1 ≤ wr.heap.size) (fun _ i _ => n - (intOf i).toNat)
  case atStart => exact ⟨0, [], _, Nat.zero_le _, rfl, ho, OwnI.nil _ _, ⟨stack_zero c, fun i hi => by omega, Nat.le_refl _, fun i hi => by omega⟩, hB, hs1⟩
  case round =>
    obtain ⟨k, S, M, hk, rfl, hoM, hoS, hinv, hbel, hsz⟩ := hrel
    have hMl := hoM.len
    by_cases hlt : k < n
    · have hcell : wr.cell? ⟨b, off + k, none⟩ = some (.int .i64 (c k)) := by
        rw [← hc.out k hlt]; exact (hbel.cell (p := ⟨b, off + k, none⟩) hb).trans (hat k (by omega))
      have hf : wr.frozen? ⟨w.heap.size, k, none⟩ = false := hoM.frozenN k
      have hcm : wr.cell? ⟨w.heap.size, k, none⟩ = some (.int .i64 (fn M k)) := hoM.cellN k hlt
      have hoM1 := hoM.storedN k (-1)
      have hoS1 := hoS.setOther (g := w.heap.size) (j := k) (x := .int .i64 (-1)) (by omega)
      have hbel1 := hbel.setCell (p := ⟨w.heap.size, k, none⟩) (Nat.le_refl _) (.int .i64 (-1))
      have hSk : S.length ≤ k := hinv.out.2.2.1
      cases hop : opensB (c k)
      · by_cases hpop : c k = 22 ∧ 0 < S.length
        · obtain ⟨hc22, hS0⟩ := hpop
          obtain ⟨q, hq⟩ : ∃ q, S.length = q + 1 := ⟨S.length - 1, by omega⟩
          have h22 : (c k == 22) = true := by simpa using hc22
          obtain ⟨hst, hmate⟩ := stack_pop hinv.out.1 hq hc22
          obtain ⟨i0, he⟩ : ∃ i0 : Nat, fn S q = (i0 : Int) := ⟨(fn S q).toNat, by have := (hinv.out.1.lt q (by omega)).1; omega⟩
          have hi0 : i0 < k := by have := (hinv.out.1.lt q (by omega)).2.1; omega
          rw [he, show ((i0 : Int)).toNat = i0 by omega] at hmate
          have ho0 : opensB (c i0) = true := by have := (hinv.out.1.lt q (by omega)).2.2; rwa [he, show ((i0 : Int)).toNat = i0 by omega] at this
          have hinv2 : Hid (Stack c (k + 1) (S.take q) ∧ MatesTo c (k + 1) (S.take q) (((M.set k (-1)).set k (i0 : Int)).set i0 (k : Int)) ∧ (S.take q).length ≤ k + 1 ∧ ClosTo c (k + 1) (((M.set k (-1)).set k (i0 : Int)).set i0 (k : Int))) :=
            ⟨hst, mt_pop hinv.out.2.1 hop hq he hi0 (by omega) hmate, by rw [List.length_take]; omega, cs_pop hinv.out.2.2.2 (by omega) hi0 ho0 hmate⟩
          clear ho0
          rcases hoS1.forms with ⟨_, hs0⟩ | ⟨g', cp, rfl, hg', hgw', hlc', hcm', hat'⟩
          · exfalso; rw [hs0] at hq; simp at hq
          · rw [hq] at hoS1 hlc' ⊢
            have hcl : (wr.setCell ⟨w.heap.size, k, none⟩ (.int .i64 (-1))).cell? ⟨g', q, none⟩ = some (.int .i64 (i0 : Int)) := by
              have := hat' q (by omega)
              rwa [Nat.zero_add, he] at this
            have hf0 : wr.frozen? ⟨w.heap.size, i0, none⟩ = false := hoM.frozenN i0
            have hc0 : wr.cell? ⟨w.heap.size, i0, none⟩ = some (.int .i64 (fn M i0)) := hoM.cellN i0 (by omega)
            have hne : g' ≠ w.heap.size := by omega
            have hi0n : (i0 : Int) < (n : Int) := by omega
            have hqc : (q : Int) ≤ (cp : Int) := by omega
            have hoM2 := (hoM1.storedN k (i0 : Int)).storedN i0 (k : Int)
            have hoS2 := ((hoS1.take (q := q) (by omega)).setOther (g := w.heap.size) (j := k) (x := .int .i64 (i0 : Int)) (by omega)).setOther (g := w.heap.size) (j := i0) (x := .int .i64 (k : Int)) (by omega)
            have hbel2 := (hbel1.setCell (p := ⟨w.heap.size, k, none⟩) (Nat.le_refl _) (.int .i64 (i0 : Int))).setCell (p := ⟨w.heap.size, i0, none⟩) (Nat.le_refl _) (.int .i64 (k : Int))
            clear hc22 hst hmate hat' hoS hinv hoM
            go_wp2_with (go_at_call 93; refine (implOpens _ _).mono ?_; rintro e w5 ⟨rfl, rfl⟩)
            go_roundw
            case rel => exact ⟨k + 1, S.take q, _, by omega, by go_num, hoM2, hoS2, hinv2, hbel2, by simp only [World.size_setCell]; exact hsz⟩
            case measure => simp only [intOf]; omega
        · have hinv2 : Hid (Stack c (k + 1) S ∧ MatesTo c (k + 1) S (M.set k (-1)) ∧ S.length ≤ k + 1 ∧ ClosTo c (k + 1) (M.set k (-1))) := by
            refine ⟨stack_stay hinv.out.1 ?_, mt_stay hinv.out.2.1 hop, by omega, cs_stay hinv.out.2.2.2 hinv.out.2.1 (by omega) (by by_cases h22 : c k = 22; exact .inr (List.eq_nil_of_length_eq_zero (by omega)); exact .inl h22)⟩
            by_cases h22 : c k = 22
            · exact .inr (List.eq_nil_of_length_eq_zero (by omega))
            · left; simp [del, hop, h22]
          clear hinv
          by_cases h22 : c k = 22
          · have h22b : (c k == 22) = true := by simpa using h22
            have hS0 : S = [] := List.eq_nil_of_length_eq_zero (by omega)
            rcases hoS1.forms with ⟨rfl, _⟩ | ⟨g', cp, rfl, hg', hgw', hlc', hcm', hat'⟩
            all_goals
              subst hS0
              go_wp2_with (go_at_call 93; refine (implOpens _ _).mono ?_; rintro e w5 ⟨rfl, rfl⟩)
              refine ⟨⟨k + 1, [], _, by omega, by go_num, hoM1, hoS1, hinv2, hbel1, by simp only [World.size_setCell]; exact hsz⟩, by simp only [intOf]; omega⟩
          · have h22b : (c k == 22) = false := by simpa using h22
            go_wp2_with (go_at_call 93; refine (implOpens _ _).mono ?_; rintro e w5 ⟨rfl, rfl⟩)
            go_roundw
            case rel => exact ⟨k + 1, S, _, by omega, by go_num, hoM1, hoS1, hinv2, hbel1, by simp only [World.size_setCell]; exact hsz⟩
            case measure => simp only [intOf]; omega
      · go_wp2_with (first | (go_at_call 93; refine (implOpens _ _).mono ?_; rintro e w5 ⟨rfl, rfl⟩) | (at_builtin; refine own_append2 (.tmp 23) (.tmp 25) hoS1 (by omega) (by rw [World.size_setCell]; exact hsz) (World.size_setCell _ _ _) rfl rfl rfl rfl ?_; intro v' w6 hoS6 hgr6))
        go_roundw
        case rel =>
          have hbl : ∀ kk, (Value.slice (some ⟨w.heap.size, 0, none⟩) n n).ownBlock = some kk → kk < w.heap.size + 1 := fun kk hk2 => by simp [Value.ownBlock] at hk2; omega
          refine ⟨k + 1, S ++ [(k : Int)], M.set k (-1), by omega, by go_num, hoM1.keptRow hoS1 hgr6 hbl, hoS6, ⟨stack_push hinv.out.1 hop, mt_open hinv.out.2.1 (by omega), by simp; omega, cs_open (cs_set hinv.out.2.2.2 (.inl (Nat.le_refl _))) hop⟩, ?_, ?_⟩
          · exact grown_below hbel1 hgr6 hoS1 (by omega) (by rw [World.size_setCell]; omega)
          · have := hgr6.size; rw [World.size_setCell] at this; omega
        case measure => simp only [intOf]; omega
    · have e : k = n := by omega
      subst e
      go_wp2_with fail
      go_ret
      exact ⟨⟨_, M, rfl, hoM, fun i hi ho => mates_end hinv.out.1 hinv.out.2.1 i hi ho, hinv.out.2.2.2⟩, hbel⟩

theorem mates_row (b off cap n : Nat) (cs : List Int) (c : Nat → Int) (w : World) (hn : cs.length = n) (hl : n ≤ 1048576) (hb : b < w.heap.size) (hat : At w b off cs) (hc : Hid (∀ j, j < n → fn cs j = c j)) :
    Calls Tryz.prog 73 #[.slice (some ⟨b, off, none⟩) n cap] w fun e w' => (∃ g M, e = .returned (.slice (some ⟨g, 0, none⟩) n n) ∧ OwnI w' w.heap.size (.slice (some ⟨g, 0, none⟩) n n) M ∧ Hid (∀ i, i < n → opensB (c i) = true → ((∃ j, j < n ∧ MateIs c i j ∧ fn M i = (j : Int)) ∨ (fn M i = -1 ∧ NoMate c n i)))) ∧ Below w.heap.size w w' := by
  refine (mates_rowC b off cap n cs c w hn hl hb hat hc).mono ?_
  rintro e w1 ⟨⟨g, M, rfl, ho, hm, _⟩, b1⟩
  exact ⟨⟨g, M, rfl, ho, hm⟩, b1⟩
end Go.Proofs.YtgojdlbidjnmmabGreat
namespace Go.Proofs.YtgojdlbidjnmmabGreat
open Go.ChangeShapes Go.WideShapes Go.ChangeAt Go.RowKit
set_option linter.unusedSimpArgs false

theorem del_bounds (c : Int) : -1 ≤ del c ∧ del c ≤ 1 := by
  unfold del; split
  · omega
  · split <;> omega
theorem nomate_or {c : Nat → Int} {n i : Nat} (hi : i < n) (ho : opensB (c i) = true) : (∃ j, j < n ∧ MateIs c i j) ∨ NoMate c n i := by
  by_cases h : ∃ j, j < n ∧ MateIs c i j
  · exact .inl h
  · right
    intro m
    induction m using Nat.strongRecOn with
    | _ m ih =>
      intro h1 h2
      by_cases e : m = 1
      · subst e; simp [dp, del, ho]
      · obtain ⟨q, rfl⟩ : ∃ q, m = q + 1 := ⟨m - 1, by omega⟩
        have hq := ih q (by omega) (by omega) (by omega)
        have hd := del_bounds (c (i + q))
        have hs := dp_succ c i q
        by_cases hz : dp c i (q + 1) = 0
        · exfalso
          refine h ⟨i + q, by omega, by omega, ?_, fun m' a b => ?_⟩
          · rw [show i + q + 1 - i = q + 1 by omega]; exact hz
          · exact ih m' (by omega) a (by omega)
        · omega
theorem mt_exists (c : Nat → Int) (n : Nat) : ∃ mt, MateFn c n mt := by
  have : ∀ i, ∃ j, i < n → opensB (c i) = true → (MateIs c i j ∧ j < n) ∨ (j = n ∧ NoMate c n i) := by
    intro i
    by_cases hi : i < n
    · by_cases ho : opensB (c i) = true
      · rcases nomate_or hi ho with ⟨j, h1, h2⟩ | h
        · exact ⟨j, fun _ _ => .inl ⟨h2, h1⟩⟩
        · exact ⟨n, fun _ _ => .inr ⟨rfl, h⟩⟩
      · exact ⟨0, fun _ h => absurd h ho⟩
    · exact ⟨0, fun h => absurd h hi⟩
  exact ⟨fun i => Classical.choose (this i), fun i hi ho => Classical.choose_spec (this i) hi ho⟩
theorem mate_not {c : Nat → Int} {n i j : Nat} (h : MateIs c i j) (hj : j < n) (hn : NoMate c n i) : False := by
  have := hn (j + 1 - i) (by have := h.lt; omega) (by have := h.lt; omega)
  have := h.zero; omega
theorem mt_gt {c : Nat → Int} {n : Nat} {mt : Nat → Nat} (h : MateFn c n mt) {i : Nat} (hi : i < n) (ho : opensB (c i) = true) : i < mt i ∧ mt i ≤ n := by
  rcases h i hi ho with ⟨a, b⟩ | ⟨a, _⟩
  · exact ⟨a.lt, by omega⟩
  · omega

/-- The side of letters from a place up to another one. -/
def sideG (c : Nat → Int) (mt : Nat → Nat) (tt : Nat) : Nat → Nat → Int
  | 0, _ => 0
  | d + 1, i => if i < tt then (if c i = 1 then 0 else if c i = 2 ∨ c i = 3 then 1 else
      if opensB (c i) = true then (if i < mt i then sideG c mt tt d (mt i + 1) else 0) else sideG c mt tt d (i + 1)) else 0
theorem sideG_more (c : Nat → Int) (mt : Nat → Nat) (tt : Nat) : ∀ d e i, tt - i ≤ d → tt - i ≤ e → sideG c mt tt d i = sideG c mt tt e i := by
  intro d
  induction d with
  | zero =>
    intro e i hd he
    cases e with
    | zero => rfl
    | succ e => simp only [sideG]; rw [if_neg (by omega)]
  | succ d ih =>
    intro e i hd he
    by_cases h : i < tt
    · cases e with
      | zero => omega
      | succ e =>
        simp only [sideG]
        rw [if_pos h, if_pos h]
        by_cases hm : i < mt i
        · rw [if_pos hm, if_pos hm, ih e (mt i + 1) (by omega) (by omega), ih e (i + 1) (by omega) (by omega)]
        · rw [if_neg hm, if_neg hm, ih e (i + 1) (by omega) (by omega)]
    · simp only [sideG]
      rw [if_neg h]
      cases e with
      | zero => rfl
      | succ e => simp only [sideG]; rw [if_neg h]
def sideFrom (c : Nat → Int) (mt : Nat → Nat) (tt i : Nat) : Int := sideG c mt tt (tt - i) i
theorem side_eq (c : Nat → Int) (mt : Nat → Nat) (tt i : Nat) : sideFrom c mt tt i =
  if _h : i < tt then
    if c i = 1 then 0 else if c i = 2 ∨ c i = 3 then 1 else
    if opensB (c i) = true then (if _h2 : i < mt i then sideFrom c mt tt (mt i + 1) else 0) else sideFrom c mt tt (i + 1)
  else 0 := by
  unfold sideFrom
  by_cases h : i < tt
  · rw [dif_pos h]
    obtain ⟨d, hd⟩ : ∃ d, tt - i = d + 1 := ⟨tt - i - 1, by omega⟩
    rw [hd]
    simp only [sideG]
    rw [if_pos h]
    by_cases hm : i < mt i
    · rw [if_pos hm, dif_pos hm, sideG_more c mt tt d (tt - (mt i + 1)) (mt i + 1) (by omega) (by omega), sideG_more c mt tt d (tt - (i + 1)) (i + 1) (by omega) (by omega)]
    · rw [if_neg hm, dif_neg hm, sideG_more c mt tt d (tt - (i + 1)) (i + 1) (by omega) (by omega)]
  · rw [dif_neg h, show tt - i = 0 by omega]
    rfl
theorem side_end {c : Nat → Int} {mt : Nat → Nat} {tt i : Nat} (h : ¬ i < tt) : sideFrom c mt tt i = 0 := by rw [side_eq, dif_neg h]
theorem side_L {c : Nat → Int} {mt : Nat → Nat} {tt i : Nat} (h : i < tt) (hc : c i = 1) : sideFrom c mt tt i = 0 := by rw [side_eq, dif_pos h, if_pos hc]
theorem side_R {c : Nat → Int} {mt : Nat → Nat} {tt i : Nat} (h : i < tt) (hn : c i ≠ 1) (hc : c i = 2 ∨ c i = 3) : sideFrom c mt tt i = 1 := by rw [side_eq, dif_pos h, if_neg hn, if_pos hc]
theorem side_open {c : Nat → Int} {mt : Nat → Nat} {tt i : Nat} (h : i < tt) (hn : c i ≠ 1) (hc : ¬ (c i = 2 ∨ c i = 3)) (ho : opensB (c i) = true) (hm : i < mt i) : sideFrom c mt tt i = sideFrom c mt tt (mt i + 1) := by
  rw [side_eq, dif_pos h, if_neg hn, if_neg hc, if_pos ho, dif_pos hm]
theorem side_other {c : Nat → Int} {mt : Nat → Nat} {tt i : Nat} (h : i < tt) (hn : c i ≠ 1) (hc : ¬ (c i = 2 ∨ c i = 3)) (ho : opensB (c i) = false) : sideFrom c mt tt i = sideFrom c mt tt (i + 1) := by
  rw [side_eq, dif_pos h, if_neg hn, if_neg hc, if_neg (by simp [ho])]

/-- The list of mates and the function say the same. -/
def SameMates (c : Nat → Int) (n : Nat) (mt : Nat → Nat) (M : List Int) : Prop :=
  ∀ i, i < n → opensB (c i) = true → (mt i < n ∧ fn M i = (mt i : Int)) ∨ (mt i = n ∧ fn M i = -1)
theorem same_mates {c : Nat → Int} {n : Nat} {mt : Nat → Nat} {M : List Int} (h : MateFn c n mt)
    (hM : ∀ i, i < n → opensB (c i) = true → ((∃ j, j < n ∧ MateIs c i j ∧ fn M i = (j : Int)) ∨ (fn M i = -1 ∧ NoMate c n i))) : SameMates c n mt M := by
  intro i hi ho
  rcases h i hi ho with ⟨a, b⟩ | ⟨a, b⟩
  · rcases hM i hi ho with ⟨j, h1, h2, h3⟩ | ⟨h1, h2⟩
    · have := mate_unique a h2; exact .inl ⟨b, by rw [h3, this]⟩
    · exact (mate_not a b h2).elim
  · rcases hM i hi ho with ⟨j, h1, h2, h3⟩ | ⟨h1, h2⟩
    · exact (mate_not h2 h1 b).elim
    · exact .inr ⟨a, h1⟩

set_option maxHeartbeats 4000000 in
theorem specMateL (b off cap n : Nat) (l : List Int) (mt : Nat → Nat) (a : Int) (p : Nat) (w : World) (hn : l.length = n) (hb : b < w.heap.size) (hat : At w b off l) (hl : n ≤ 4194304) (hmt : Hid (MateFn (cl l) n mt)) (ha : a = (p : Int)) (hp : p < n) (hop : opensB (cl l p) = true) :
    Calls Tryz.prog 60 #[.slice (some ⟨b, off, none⟩) n cap, .int .i64 a] w fun e w' => e = .returned (.int .i64 (mt p : Int)) ∧ Below w.heap.size w w' := by
  subst ha
  go_enter Tryz.func60, Tryz.ntmps60
  go_wp2
  go_loopw [5, 6] (fun d i wr => ∃ (k : Nat) (D : Int), p ≤ k ∧ k ≤ n ∧ i = .int .i64 k ∧ d = .int .i64 D ∧ 0 ≤ D ∧ D ≤ (k : Int) ∧ Hid (D = dp (cl l) p (k - p) ∧ ∀ m, 1 ≤ m → m ≤ k - p → 1 ≤ dp (cl l) p m) ∧ Below w.heap.size w wr) (fun _ i _ => n - (intOf i).toNat)
  case atStart => exact ⟨p, 0, Nat.le_refl _, by omega, rfl, rfl, by omega, by omega, ⟨by simp [dp], fun m h1 h2 => by omega⟩, Below.refl _ _⟩
  case round =>
    obtain ⟨k, D, hpk, hk, rfl, rfl, hD0, hDk, hinv, hbel⟩ := hrel
    by_cases hlt : k < n
    · have hcell : wr.cell? ⟨b, off + k, none⟩ = some (.int .i64 (fn l k)) := (hat.below hbel hb) k (by omega)
      have HS : Hid (dp (cl l) p (k + 1 - p) = D + del (cl l k)) := by
        show dp (cl l) p (k + 1 - p) = D + del (cl l k)
        rw [show k + 1 - p = k - p + 1 by omega, dp_succ, ← hinv.out.1, show p + (k - p) = k by omega]
      have hstep : ∀ D' : Int, D' = dp (cl l) p (k + 1 - p) → 1 ≤ D' → Hid (D' = dp (cl l) p (k + 1 - p) ∧ ∀ m, 1 ≤ m → m ≤ k + 1 - p → 1 ≤ dp (cl l) p m) := by
        intro D' h1 h2
        refine ⟨h1, fun m a1 a2 => ?_⟩
        by_cases e : m = k + 1 - p
        · subst e; omega
        · exact hinv.out.2 m a1 (by omega)
      have HST : Hid _ := hstep
      clear hstep
      obtain ⟨ck, hck⟩ : ∃ ck, cl l k = ck := ⟨_, rfl⟩
      have HCK : Hid (bidi (fn l k) = ck) := hck
      rw [hck] at HS
      have hpos : k = p → ck = cl l p := fun e => by rw [← hck, e]
      have HP : Hid _ := hpos
      clear hpos hck
      cases ho : opensB ck
      · by_cases h22 : ck = 22
        · have h22b : (ck == 22) = true := by simpa using h22
          have hd : del ck = -1 := by rw [h22]; decide
          have hkp : k ≠ p := fun e => by rw [HP.out e, hop] at ho; cases ho
          have hD1 : 1 ≤ D := by rw [hinv.out.1]; exact hinv.out.2 (k - p) (by omega) (Nat.le_refl _)
          by_cases hz : D = 1
          · have hzb : (D - 1 == 0) = true := by simp; omega
            have HM : Hid (mt p = k) := by
              show mt p = k
              have hmk : MateIs (cl l) p k := ⟨by omega, by rw [HS.out, hd]; omega, fun m a1 a2 => hinv.out.2 m a1 a2⟩
              rcases hmt.out p hp hop with ⟨h1, _⟩ | ⟨_, h2⟩
              · exact mate_unique h1 hmk
              · exact (mate_not hmk hlt h2).elim
            clear h22 hd hz
            go_wp2_with (first | (go_at_call 33; refine (specBidi _ _).mono ?_; rintro e w2 ⟨rfl, b2⟩; rw [HCK.out]) | (go_at_call 59; refine (specOpens _ _).mono ?_; rintro e w3 ⟨rfl, rfl⟩))
            go_ret
            exact ⟨by rw [HM.out]; rfl, bstep hbel b2⟩
          · have hzb : (D - 1 == 0) = false := by simp; omega
            clear h22
            go_wp2_with (first | (go_at_call 33; refine (specBidi _ _).mono ?_; rintro e w2 ⟨rfl, b2⟩; rw [HCK.out]) | (go_at_call 59; refine (specOpens _ _).mono ?_; rintro e w3 ⟨rfl, rfl⟩))
            go_roundw
            case rel => exact ⟨k + 1, D - 1, by omega, by omega, by go_num, by go_num, by omega, by omega, HST.out _ (by rw [HS.out, hd]; omega) (by omega), bstep hbel b2⟩
            case measure => simp only [intOf]; omega
        · have h22b : (ck == 22) = false := by simpa using h22
          have hd : del ck = 0 := by simp [del, ho, h22]
          have hkp : k ≠ p := fun e => by rw [HP.out e, hop] at ho; cases ho
          have hD1 : 1 ≤ D := by rw [hinv.out.1]; exact hinv.out.2 (k - p) (by omega) (Nat.le_refl _)
          have hzb : (D == 0) = false := by simp; omega
          clear h22
          go_wp2_with (first | (go_at_call 33; refine (specBidi _ _).mono ?_; rintro e w2 ⟨rfl, b2⟩; rw [HCK.out]) | (go_at_call 59; refine (specOpens _ _).mono ?_; rintro e w3 ⟨rfl, rfl⟩))
          go_roundw
          case rel => exact ⟨k + 1, D, by omega, by omega, by go_num, rfl, by omega, by omega, HST.out _ (by rw [HS.out, hd]; omega) (by omega), bstep hbel b2⟩
          case measure => simp only [intOf]; omega
      · have h22b : (ck == 22) = false := by simp [opensB] at ho; simp; omega
        have hd : del ck = 1 := by simp [del, ho]
        have hzb : (D + 1 == 0) = false := by simp; omega
        go_wp2_with (first | (go_at_call 33; refine (specBidi _ _).mono ?_; rintro e w2 ⟨rfl, b2⟩; rw [HCK.out]) | (go_at_call 59; refine (specOpens _ _).mono ?_; rintro e w3 ⟨rfl, rfl⟩))
        go_roundw
        case rel => exact ⟨k + 1, D + 1, by omega, by omega, by go_num, by go_num, by omega, by omega, HST.out _ (by rw [HS.out, hd]) (by omega), bstep hbel b2⟩
        case measure => simp only [intOf]; omega
    · have e : k = n := by omega
      subst e
      have HM : Hid (mt p = k) := by
        show mt p = k
        rcases hmt.out p hp hop with ⟨h1, h2⟩ | ⟨h1, _⟩
        · exact (mate_not h1 h2 (fun m a1 a2 => hinv.out.2 m a1 a2)).elim
        · exact h1
      go_wp2_with fail
      go_ret
      exact ⟨by rw [HM.out]; rfl, hbel⟩
end Go.Proofs.YtgojdlbidjnmmabGreat
