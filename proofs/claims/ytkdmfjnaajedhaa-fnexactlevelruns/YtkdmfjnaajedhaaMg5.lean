import Derived.Test.YtkdmfjnaajedhaaMg4
import Derived.Test.YtkdmfjnaajedhaaMg2
namespace Go.Proofs.Ytkdmfjnaajedhaa
open Go.ChangeShapes Go.WideShapes Go.ChangeAt Go.RowKit
set_option linter.unusedSimpArgs false

theorem zeroValueTab (w : World) : Sem.run Try.prog (zeroValue 94) w = .ok (.agg zeros) w := by
  simp only [zeroValue, Sem.run_bind, Try.typeInfo94, Result.andThen_ok]
  kernel_rfl

theorem at_buildTab {ops : Array Oper} {rest : List Oper} {o : Oper} {a : Act} {w : World} {Q : Exit → Act → World → Prop} (hg : o.guard = none) (parts : Array (Nat × Operand)) (ho : o.op = .build 94 parts)
    (hb : Try.prog.built 94 (parts.map fun (i, x) => (i, a.eval x)).toList = some tab)
    (h : wpList Try.prog ops Q rest (a.put o.dst (.agg tab)) w) : wpList Try.prog ops Q (o :: rest) a w :=
  wpList_build hg 94 parts ho (by rw [hb]; rfl) (by rw [hb]; exact h)

theorem laid_new (w : World) : (w.alloc (.cells zeros 94)).heap[w.heap.size]? = some (.cells zeros 94 (0, 0)) := by show (w.heap.push _)[w.heap.size]? = _; simp

theorem laid_newZ (w : World) (Z : Array Value) : (w.alloc (.cells Z 94)).heap[w.heap.size]? = some (.cells Z 94 (0, 0)) := by show (w.heap.push _)[w.heap.size]? = _; simp

theorem laid (w : World) : ∃ W, (w.alloc (.cells zeros 94)).setRow w.heap.size tab = W ∧ W.heap.size = w.heap.size + 1 ∧ Below w.heap.size w W ∧ ∀ j, W.cell? ⟨w.heap.size, j, none⟩ = tab[j]? := by
  refine ⟨_, rfl, by simp, ⟨rfl, rfl, rfl, by simp, fun k hk => ?_⟩, fun j => ?_⟩
  · rw [setRow_other _ _ _ _ (by omega)]
    exact Below.heap_alloc w _ k hk
  · exact cell_setRow_same _ _ j zeros tab 94 (0, 0) (laid_new w)

attribute [local go_sem 2000] zeroValueTab
set_option maxRecDepth 100000 in
set_option maxHeartbeats 4000000 in
theorem implBidi (r : Int) (w : World) : Calls Try.prog 57 #[.int .i64 r] w fun e w' => e = .returned (.int .i64 (bidi r)) ∧ Below w.heap.size w w' := by
  obtain ⟨W, hW, hsz, hB, hcell⟩ := laid w
  have HW : Hid _ := hW
  have HC : Hid _ := hcell
  clear hcell hW
  go_enter Try.func57, Try.ntmps57
  go_wp2_with (first | (refine at_buildTab rfl _ rfl (by kernel_rfl) ?_) | (refine wpList_store_row rfl 94 _ _ rfl w.heap.size tab rfl rfl 94 zeros (laid_new w) (by kernel_rfl) (by kernel_rfl) (by kernel_rfl) ?_; rw [HW.out]) | (refine wpList_store_row rfl 94 _ _ rfl w.heap.size tab rfl rfl 94 Try.zeroCells94 (laid_newZ w _) (by kernel_rfl) (by kernel_rfl) (by kernel_rfl) ?_; rw [show Try.zeroCells94 = zeros by kernel_rfl, HW.out]))
  refine (first_any w.heap.size lasts 28 (by omega) r W lasts_up (fun m hm => by rw [HC.out]; exact tab_last m hm)).mono ?_
  rintro e w' ⟨⟨k, rfl, hk, hkk⟩, rfl⟩
  by_cases h28 : k < 28
  · have c1 : w'.cell? ⟨w.heap.size, k * 3, none⟩ = some (.int .i64 (firsts k)) := by rw [HC.out]; exact tab_first k h28
    have c2 : w'.cell? ⟨w.heap.size, k * 3 + 2, none⟩ = some (.int .i64 (kinds k)) := by rw [HC.out]; exact tab_kind k h28
    have hne : ((k : Int) == 28) = false := by simp; omega
    have hki : (k : Int) < 28 := by omega
    by_cases hf : r < firsts k
    · go_wp2
      go_ret
      exact ⟨ret_int (tab_miss r k h28 (fun h0 => hkk.out.1 _ (by omega)) hf).symm, hB⟩
    · go_wp2
      go_ret
      exact ⟨ret_int (tab_hit r k h28 (hkk.out.2 h28) (by omega)).symm, hB⟩
  · have e : k = 28 := by omega
    subst e
    go_wp2
    go_ret
    exact ⟨ret_int (tab_end r (hkk.out.1 27 (by omega))).symm, hB⟩
end Go.Proofs.Ytkdmfjnaajedhaa
namespace Go.Proofs.Ytkdmfjnaajedhaa
open Go.ChangeShapes Go.WideShapes Go.ChangeAt Go.RowKit
set_option linter.unusedSimpArgs false

set_option maxHeartbeats 1000000 in
theorem implOpens (c : Int) (w : World) : Calls Try.prog 58 #[.int .i64 c] w fun e w' => e = .returned (.bool (opensB c)) ∧ w' = w := by
  go_enter Try.func58, Try.ntmps58
  go_wp2
  all_goals (go_ret; refine ⟨retBool ?_, rfl⟩)
  all_goals (rw [Bool.eq_iff_iff]; simp [opensB]; omega)

set_option maxHeartbeats 1000000 in
theorem specOpens (c : Int) (w : World) : Calls Try.prog 64 #[.int .i64 c] w fun e w' => e = .returned (.bool (opensB c)) ∧ w' = w := by
  go_enter Try.func64, Try.ntmps64
  go_wp2_with (go_at_call 33; refine (specIn _ _ _ _).mono ?_; rintro e w' ⟨rfl, rfl⟩)
  go_ret
  exact ⟨rfl, rfl⟩

theorem infoN : (Try.prog.info? 3).map (fun i => (i.zero, i.size, i.bytes)) = some (some (.int .i64 0), 1, 8) := by kernel_rfl
theorem made_row {w : World} {B g n : Nat} (h : w.ownsRow B 3 1 (.slice (some ⟨g, 0, none⟩) n n) n (madeCells (Value.cells (.int .i64 0)) (n * 1)).toList) :
    OwnI w B (.slice (some ⟨g, 0, none⟩) n n) (List.replicate n 0) := by
  have e : (madeCells (Value.cells (.int .i64 0)) (n * 1)).toList = (List.replicate n (0 : Int)).map (Value.int .i64) := by
    rw [Nat.mul_one, show Value.cells (.int .i64 0) = #[.int .i64 0] from rfl, toList_madeCells_one]; simp
  rw [e] at h
  unfold OwnI
  rw [List.length_replicate]
  exact h

def clsL (l : List Int) : List Int := l.map bidi
theorem clsL_len (l : List Int) : (clsL l).length = l.length := by simp [clsL]
theorem fn_clsL {l : List Int} {j : Nat} (h : j < l.length) : fn (clsL l) j = cl l j := by simp [fn, clsL, cl, h]

set_option maxHeartbeats 2000000 in
theorem classes_any (v : Value) (l : List Int) (w : World) (hv : Arg w v l) (hl : l.length ≤ 1048576) :
    Calls Try.prog 35 #[v] w fun e w' => (∃ g, e = .returned (.slice (some ⟨g, 0, none⟩) l.length l.length) ∧ OwnI w' w.heap.size (.slice (some ⟨g, 0, none⟩) l.length l.length) (clsL l)) ∧ Below w.heap.size w w' := by
  obtain ⟨i0, hi, hz0, hz1, hz2⟩ := info_parts infoN
  rcases hv with ⟨a0, c0, rfl, rfl⟩ | ⟨b, off, cap, rfl, hb, hlc, hcm, hat⟩
  · go_enter Try.func35, Try.ntmps35
    go_wp2_with (first | (at_make; refine wpList_make_full _ rfl _ _ 22 rfl w.heap.size 3 i0 (.int .i64 0) 1 Try.underlying22 hi hz0 hz1 _ _ _ _ 0 rfl rfl rfl rfl (by omega) (by unfold maxLen; omega) (Nat.le_refl _) ?_; intro w1 hown hgrow))
    go_rounds 1
    go_ret
    exact ⟨⟨_, rfl, made_row hown⟩, (Below.refl _ _).grown hgrow (Nat.le_refl _) (by simp)⟩
  · obtain ⟨n, hn⟩ : ∃ n, l.length = n := ⟨_, rfl⟩
    rw [hn] at hl ⊢
    go_enter Try.func35, Try.ntmps35
    go_wp2_with (first | (at_make; refine wpList_make_full _ rfl _ _ 22 rfl w.heap.size 3 i0 (.int .i64 0) 1 Try.underlying22 hi hz0 hz1 _ _ _ _ n rfl rfl rfl rfl (by rw [hz2]; omega) (by unfold maxLen; omega) (Nat.le_refl _) ?_; intro w1 hown hgrow))
    have hB : Below w.heap.size w w1 := (Below.refl _ _).grown hgrow (Nat.le_refl _) (by simp)
    have ho : OwnI w1 w.heap.size (.slice (some ⟨w.heap.size, 0, none⟩) n n) (List.replicate n 0) := made_row hown
    clear hown hgrow
    go_loopw [11] (fun i wr => ∃ (k : Nat) (l' : List Int), k ≤ n ∧ i = .int .i64 k ∧ OwnI wr w.heap.size (.slice (some ⟨w.heap.size, 0, none⟩) n n) l' ∧ Hid (∀ j, j < k → fn l' j = cl l j) ∧ Below w.heap.size w wr) (fun i _ => n - (intOf i).toNat)
    case atStart => exact ⟨0, _, Nat.zero_le _, rfl, ho, fun j hj => by omega, hB⟩
    case round =>
      obtain ⟨k, l', hk, rfl, hown, hsame, hbel⟩ := hrel
      by_cases hlt : k < n
      · have hcell : wr.cell? ⟨b, off + k, none⟩ = some (.int .i64 (fn l k)) := (hbel.cell (p := ⟨b, off + k, none⟩) hb).trans (hat k (by omega))
        go_wp2_with fail
        refine (implBidi _ _).mono ?_
        rintro e w2 ⟨rfl, b2⟩
        have hown2 := hown.below b2
        have hbel2 := bstep hbel b2
        have hf : w2.frozen? ⟨w.heap.size, k, none⟩ = false := hown2.frozenN k
        have hc2 : w2.cell? ⟨w.heap.size, k, none⟩ = some (.int .i64 (fn l' k)) := hown2.cellN k hlt
        go_wp2_with fail
        go_roundw
        case rel =>
          refine ⟨k + 1, l'.set k (bidi (fn l k)), by omega, by go_num, hown2.storedN k _, fun j hj => ?_, hbel2.setCell (Nat.le_refl _) _⟩
          have e := hown.len
          by_cases ej : j = k
          · subst ej; exact fn_set_same (by omega)
          · rw [fn_set_other (by omega)]; exact hsame.out j (by omega)
        case measure => simp only [intOf]; omega
      · have e : k = n := by omega
        subst e
        go_wp2_with fail
        go_ret
        have e := hown.len
        have el : l' = clsL l := ext_fn (by rw [clsL_len]; omega) (fun j hj => by rw [fn_clsL (by omega)]; exact hsame.out j (by omega))
        rw [el] at hown
        exact ⟨⟨_, rfl, hown⟩, hbel⟩

theorem OwnI.take {w : World} {g n cap q B : Nat} {l : List Int} (h : OwnI w B (.slice (some ⟨g, 0, none⟩) n cap) l) (hq : q ≤ n) : OwnI w B (.slice (some ⟨g, 0, none⟩) q cap) (l.take q) := by
  have e := h.len
  have hl : (l.take q).length = q := by rw [List.length_take]; omega
  unfold OwnI
  rw [hl]
  refine ⟨by rw [List.length_map, hl]; omega, .inr ?_⟩
  rcases h.2 with ⟨h1, _⟩ | ⟨g', cap', cur, h1, h2, h3, h4, h5, h6, h7⟩
  · cases h1
  · simp only [Value.slice.injEq, Option.some.injEq, Addr.mk.injEq] at h1
    obtain ⟨⟨rfl, _⟩, _, rfl⟩ := h1
    refine ⟨g, cap, cur, rfl, h2, h3, by omega, h5, h6, ?_⟩
    rw [List.map_take, ← h7, List.take_take]
    congr 1; omega
end Go.Proofs.Ytkdmfjnaajedhaa
namespace Go.Proofs.Ytkdmfjnaajedhaa
open Go.ChangeShapes Go.WideShapes Go.ChangeAt Go.RowKit
set_option linter.unusedSimpArgs false

theorem mt_open {c : Nat → Int} {k : Nat} {S M : List Int} (h : MatesTo c k S M) (hk : k < M.length) : MatesTo c (k + 1) (S ++ [(k : Int)]) (M.set k (-1)) := by
  intro i hi ho
  by_cases e : i = k
  · subst e
    exact .inr ⟨fn_set_same hk, S.length, by simp, fn_snoc_last S _⟩
  · rcases h i (by omega) ho with ⟨j, h1, h2, h3⟩ | ⟨h1, t, h2, h3⟩
    · exact .inl ⟨j, by omega, h2, by rw [fn_set_other (by omega)]; exact h3⟩
    · exact .inr ⟨by rw [fn_set_other (by omega)]; exact h1, t, by simp; omega, by rw [fn_append_left h2]; exact h3⟩
theorem mt_stay {c : Nat → Int} {k : Nat} {S M : List Int} (h : MatesTo c k S M) (hno : opensB (c k) = false) : MatesTo c (k + 1) S (M.set k (-1)) := by
  intro i hi ho
  by_cases e : i = k
  · subst e; rw [hno] at ho; cases ho
  · rcases h i (by omega) ho with ⟨j, h1, h2, h3⟩ | ⟨h1, t, h2, h3⟩
    · exact .inl ⟨j, by omega, h2, by rw [fn_set_other (by omega)]; exact h3⟩
    · exact .inr ⟨by rw [fn_set_other (by omega)]; exact h1, t, h2, h3⟩
theorem mt_pop {c : Nat → Int} {k q i0 : Nat} {S M : List Int} (h : MatesTo c k S M) (hno : opensB (c k) = false) (hq : S.length = q + 1) (he : fn S q = (i0 : Int)) (hi0 : i0 < k) (hk : k < M.length) (hm : MateIs c i0 k) :
    MatesTo c (k + 1) (S.take q) (((M.set k (-1)).set k (i0 : Int)).set i0 (k : Int)) := by
  intro i hi ho
  by_cases e : i = k
  · subst e; rw [hno] at ho; cases ho
  · by_cases e0 : i = i0
    · subst e0
      exact .inl ⟨k, by omega, hm, fn_set_same (by simp; omega)⟩
    · have hf : fn (((M.set k (-1)).set k (i0 : Int)).set i0 (k : Int)) i = fn M i := by
        rw [fn_set_other (by omega), fn_set_other (by omega), fn_set_other (by omega)]
      rcases h i (by omega) ho with ⟨j, h1, h2, h3⟩ | ⟨h1, t, h2, h3⟩
      · exact .inl ⟨j, by omega, h2, by rw [hf]; exact h3⟩
      · have htq : t < q := by
          rcases Nat.lt_or_ge t q with a | a
          · exact a
          · have : t = q := by omega
            subst this; omega
        exact .inr ⟨by rw [hf]; exact h1, t, by rw [List.length_take]; omega, by rw [fn_take htq]; exact h3⟩

theorem own_append2 {ops : Array Oper} {rest : List Oper} {o : Oper} {a : Act} {Q : Exit → Act → World → Prop} {wr : World} {T : TypeId} {v : Value} {l : List Int} {B g : Nat} {xv : Int} (s x : Operand) (hown : OwnI wr B v l) (hl : l.length ≤ 1073741824) (hB : B ≤ wr.heap.size) (hg : wr.heap.size = g)
    (hgd : o.guard = none) (ho : o.op = .call { callee := .builtin .append, args := #[s, x], argTypes := #[22, 22] }) (hs : a.eval s = v)
    (hx : a.eval x = .slice (some ⟨g, 0, none⟩) 1 1)
    (h : ∀ v' w', OwnI w' B v' (l ++ [xv]) → wr.grownBy w' v.ownBlock → wpList Try.prog ops Q rest (a.put o.dst v') w') :
    wpList Try.prog ops Q (o :: rest) a (wr.alloc (.cells #[.int .i64 xv] T)) := by
  subst hg
  exact own_append s x hown hl hB hgd ho hs hx h
theorem OwnI.setOther {w : World} {v : Value} {l : List Int} {B g j : Nat} {x : Value} (h : OwnI w B v l) (hg : g < B) : OwnI (w.setCell ⟨g, j, none⟩ x) B v l :=
  h.kept fun k hk => heap_setCell_other w ⟨g, j, none⟩ k x (fun e => by have := (h.lt k hk).1; simp at e; omega)
theorem OwnI.keptRow {w w' : World} {v u : Value} {l l2 : List Int} {B B2 : Nat} (h : OwnI w B v l) (ho : OwnI w B2 u l2) (hg : w.grownBy w' u.ownBlock) (hB : ∀ k, v.ownBlock = some k → k < B2) : OwnI w' B v l :=
  h.kept fun k hk => hg.block k (h.lt k hk).2 (fun e => by have := (ho.lt k e.symm).1; have := hB k hk; omega)

theorem clos_class {c : Nat → Int} {i j : Nat} (h : MateIs c i j) : c j = 22 := by
  have h1 := h.pos (j - i) (by have := h.lt; omega) (Nat.le_refl _)
  have h2 := h.zero
  rw [show j + 1 - i = (j - i) + 1 by have := h.lt; omega, dp_succ, show i + (j - i) = j by have := h.lt; omega] at h2
  unfold del at h2
  by_cases a : opensB (c j) = true
  · rw [if_pos a] at h2; omega
  · rw [if_neg a] at h2
    by_cases b : c j = 22
    · exact b
    · rw [if_neg b] at h2; omega
theorem cs_set {c : Nat → Int} {k q : Nat} {M : List Int} {x : Int} (h : ClosTo c k M) (hq : k ≤ q ∨ opensB (c q) = true) : ClosTo c k (M.set q x) := by
  intro j hj ho
  have hne : q ≠ j := by
    intro e; subst e
    rcases hq with hq | hq
    · omega
    · rw [hq] at ho; cases ho
  rcases h j hj ho with ⟨i, a, b, d, e⟩ | ⟨a, b⟩
  · exact .inl ⟨i, a, b, d, by rw [fn_set_other hne]; exact e⟩
  · exact .inr ⟨by rw [fn_set_other hne]; exact a, b⟩
theorem cs_open {c : Nat → Int} {k : Nat} {M : List Int} (h : ClosTo c k M) (ho : opensB (c k) = true) : ClosTo c (k + 1) M := by
  intro j hj hn
  by_cases e : j = k
  · subst e; rw [ho] at hn; cases hn
  · exact h j (by omega) hn
theorem cs_stay {c : Nat → Int} {k : Nat} {S M : List Int} (h : ClosTo c k M) (hm : MatesTo c k S M) (hk : k < M.length) (hs : c k ≠ 22 ∨ S = []) : ClosTo c (k + 1) (M.set k (-1)) := by
  intro j hj hn
  by_cases e : j = k
  · subst e
    refine .inr ⟨fn_set_same hk, fun i hi ho hM => ?_⟩
    rcases hs with hs | rfl
    · exact hs (clos_class hM)
    · rcases hm i hi ho with ⟨j2, h1, h2, _⟩ | ⟨_, t, h2, _⟩
      · have := mate_unique hM h2; omega
      · simp at h2
  · exact cs_set h (.inl (Nat.le_refl _)) j (by omega) hn
theorem cs_pop {c : Nat → Int} {k i0 : Nat} {M : List Int} (h : ClosTo c k M) (hk : k < M.length) (hi0 : i0 < k) (ho0 : opensB (c i0) = true) (hm : MateIs c i0 k) : ClosTo c (k + 1) (((M.set k (-1)).set k (i0 : Int)).set i0 (k : Int)) := by
  intro j hj hn
  by_cases e : j = k
  · subst e
    exact .inl ⟨i0, hi0, ho0, hm, by rw [fn_set_other (by omega), fn_set_same (by simp; omega)]⟩
  · exact cs_set (cs_set (cs_set h (.inl (Nat.le_refl _))) (.inl (Nat.le_refl _))) (.inr ho0) j (by omega) hn

set_option maxRecDepth 10000 in
set_option maxHeartbeats 4000000 in
theorem mates_rowC (b off cap n : Nat) (cs : List Int) (c : Nat → Int) (w : World) (hn : cs.length = n) (hl : n ≤ 1048576) (hb : b < w.heap.size) (hat : At w b off cs) (hc : Hid (∀ j, j < n → fn cs j = c j)) :
    Calls Try.prog 36 #[.slice (some ⟨b, off, none⟩) n cap] w fun e w' => (∃ g M, e = .returned (.slice (some ⟨g, 0, none⟩) n n) ∧ OwnI w' w.heap.size (.slice (some ⟨g, 0, none⟩) n n) M ∧ Hid (∀ i, i < n → opensB (c i) = true → ((∃ j, j < n ∧ MateIs c i j ∧ fn M i = (j : Int)) ∨ (fn M i = -1 ∧ NoMate c n i))) ∧ Hid (ClosTo c n M)) ∧ Below w.heap.size w w' := by
  obtain ⟨i0, hi, hz0, hz1, hz2⟩ := info_parts infoN
  go_enter Try.func36, Try.ntmps36
  go_wp2_with (first | (at_make; refine wpList_make_full _ rfl _ _ 22 rfl w.heap.size 3 i0 (.int .i64 0) 1 Try.underlying22 hi hz0 hz1 _ _ _ _ n rfl rfl rfl rfl (by rw [hz2]; omega) (by unfold maxLen; omega) (Nat.le_refl _) ?_; intro w1 hown hgrow))
  have hB : Below w.heap.size w w1 := (Below.refl _ _).grown hgrow (Nat.le_refl _) (by simp)
  have ho : OwnI w1 w.heap.size (.slice (some ⟨w.heap.size, 0, none⟩) n n) (List.replicate n 0) := made_row hown
  have hs1 : w.heap.size + 1 ≤ w1.heap.size := (ho.lt w.heap.size rfl).2
  clear hown hgrow
  go_loopw [4, 13] (fun q i wr => ∃ (k : Nat) (S M : List Int), k ≤ n ∧ i = .int .i64 k ∧ OwnI wr w.heap.size (.slice (some ⟨w.heap.size, 0, none⟩) n n) M ∧ OwnI wr (w.heap.size + 1) q S ∧ Hid (Stack c k S ∧ MatesTo c k S M ∧ S.length ≤ k ∧ ClosTo c k M) ∧ Below w.heap.size w wr ∧ w.heap.size + 1 ≤ wr.heap.size) (fun _ i _ => n - (intOf i).toNat)
  case atStart => exact ⟨0, [], _, Nat.zero_le _, rfl, ho, OwnI.nil _ _, ⟨stack_zero c, fun i hi => by omega, Nat.le_refl _, fun i hi => by omega⟩, hB, hs1⟩
  case round =>
    obtain ⟨k, S, M, hk, rfl, hoM, hoS, hinv, hbel, hsz⟩ := hrel
    have hMl := hoM.len
    by_cases hlt : k < n
    · have hcell : wr.cell? ⟨b, off + k, none⟩ = some (.int .i64 (c k)) := by
        rw [← hc.out k hlt]; exact (hbel.cell (p := ⟨b, off + k, none⟩) hb).trans (hat k (by omega))
      have hf : wr.frozen? ⟨w.heap.size, k, none⟩ = false := hoM.frozenN k
      have hcm : wr.cell? ⟨w.heap.size, k, none⟩ = some (.int .i64 (fn M k)) := hoM.cellN k hlt
      have hoM1 := hoM.storedN k (-1)
      have hoS1 := hoS.setOther (g := w.heap.size) (j := k) (x := .int .i64 (-1)) (by omega)
      have hbel1 := hbel.setCell (p := ⟨w.heap.size, k, none⟩) (Nat.le_refl _) (.int .i64 (-1))
      have hSk : S.length ≤ k := hinv.out.2.2.1
      cases hop : opensB (c k)
      · by_cases hpop : c k = 22 ∧ 0 < S.length
        · obtain ⟨hc22, hS0⟩ := hpop
          obtain ⟨q, hq⟩ : ∃ q, S.length = q + 1 := ⟨S.length - 1, by omega⟩
          have h22 : (c k == 22) = true := by simpa using hc22
          obtain ⟨hst, hmate⟩ := stack_pop hinv.out.1 hq hc22
          obtain ⟨i0, he⟩ : ∃ i0 : Nat, fn S q = (i0 : Int) := ⟨(fn S q).toNat, by have := (hinv.out.1.lt q (by omega)).1; omega⟩
          have hi0 : i0 < k := by have := (hinv.out.1.lt q (by omega)).2.1; omega
          rw [he, show ((i0 : Int)).toNat = i0 by omega] at hmate
          have ho0 : opensB (c i0) = true := by have := (hinv.out.1.lt q (by omega)).2.2; rwa [he, show ((i0 : Int)).toNat = i0 by omega] at this
          have hinv2 : Hid (Stack c (k + 1) (S.take q) ∧ MatesTo c (k + 1) (S.take q) (((M.set k (-1)).set k (i0 : Int)).set i0 (k : Int)) ∧ (S.take q).length ≤ k + 1 ∧ ClosTo c (k + 1) (((M.set k (-1)).set k (i0 : Int)).set i0 (k : Int))) :=
            ⟨hst, mt_pop hinv.out.2.1 hop hq he hi0 (by omega) hmate, by rw [List.length_take]; omega, cs_pop hinv.out.2.2.2 (by omega) hi0 ho0 hmate⟩
          clear ho0
          rcases hoS1.forms with ⟨_, hs0⟩ | ⟨g', cp, rfl, hg', hgw', hlc', hcm', hat'⟩
          · exfalso; rw [hs0] at hq; simp at hq
          · rw [hq] at hoS1 hlc' ⊢
            have hcl : (wr.setCell ⟨w.heap.size, k, none⟩ (.int .i64 (-1))).cell? ⟨g', q, none⟩ = some (.int .i64 (i0 : Int)) := by
              have := hat' q (by omega)
              rwa [Nat.zero_add, he] at this
            have hf0 : wr.frozen? ⟨w.heap.size, i0, none⟩ = false := hoM.frozenN i0
            have hc0 : wr.cell? ⟨w.heap.size, i0, none⟩ = some (.int .i64 (fn M i0)) := hoM.cellN i0 (by omega)
            have hne : g' ≠ w.heap.size := by omega
            have hi0n : (i0 : Int) < (n : Int) := by omega
            have hqc : (q : Int) ≤ (cp : Int) := by omega
            have hoM2 := (hoM1.storedN k (i0 : Int)).storedN i0 (k : Int)
            have hoS2 := ((hoS1.take (q := q) (by omega)).setOther (g := w.heap.size) (j := k) (x := .int .i64 (i0 : Int)) (by omega)).setOther (g := w.heap.size) (j := i0) (x := .int .i64 (k : Int)) (by omega)
            have hbel2 := (hbel1.setCell (p := ⟨w.heap.size, k, none⟩) (Nat.le_refl _) (.int .i64 (i0 : Int))).setCell (p := ⟨w.heap.size, i0, none⟩) (Nat.le_refl _) (.int .i64 (k : Int))
            clear hc22 hst hmate hat' hoS hinv hoM
            go_wp2_with (go_at_call 58; refine (implOpens _ _).mono ?_; rintro e w5 ⟨rfl, rfl⟩)
            go_roundw
            case rel => exact ⟨k + 1, S.take q, _, by omega, by go_num, hoM2, hoS2, hinv2, hbel2, by simp only [World.size_setCell]; exact hsz⟩
            case measure => simp only [intOf]; omega
        · have hinv2 : Hid (Stack c (k + 1) S ∧ MatesTo c (k + 1) S (M.set k (-1)) ∧ S.length ≤ k + 1 ∧ ClosTo c (k + 1) (M.set k (-1))) := by
            refine ⟨stack_stay hinv.out.1 ?_, mt_stay hinv.out.2.1 hop, by omega, cs_stay hinv.out.2.2.2 hinv.out.2.1 (by omega) (by by_cases h22 : c k = 22; exact .inr (List.eq_nil_of_length_eq_zero (by omega)); exact .inl h22)⟩
            by_cases h22 : c k = 22
            · exact .inr (List.eq_nil_of_length_eq_zero (by omega))
            · left; simp [del, hop, h22]
          clear hinv
          by_cases h22 : c k = 22
          · have h22b : (c k == 22) = true := by simpa using h22
            have hS0 : S = [] := List.eq_nil_of_length_eq_zero (by omega)
            rcases hoS1.forms with ⟨rfl, _⟩ | ⟨g', cp, rfl, hg', hgw', hlc', hcm', hat'⟩
            all_goals
              subst hS0
              go_wp2_with (go_at_call 58; refine (implOpens _ _).mono ?_; rintro e w5 ⟨rfl, rfl⟩)
              refine ⟨⟨k + 1, [], _, by omega, by go_num, hoM1, hoS1, hinv2, hbel1, by simp only [World.size_setCell]; exact hsz⟩, by simp only [intOf]; omega⟩
          · have h22b : (c k == 22) = false := by simpa using h22
            go_wp2_with (go_at_call 58; refine (implOpens _ _).mono ?_; rintro e w5 ⟨rfl, rfl⟩)
            go_roundw
            case rel => exact ⟨k + 1, S, _, by omega, by go_num, hoM1, hoS1, hinv2, hbel1, by simp only [World.size_setCell]; exact hsz⟩
            case measure => simp only [intOf]; omega
      · go_wp2_with (first | (go_at_call 58; refine (implOpens _ _).mono ?_; rintro e w5 ⟨rfl, rfl⟩) | (at_builtin; refine own_append2 (.tmp 23) (.tmp 25) hoS1 (by omega) (by rw [World.size_setCell]; exact hsz) (World.size_setCell _ _ _) rfl rfl rfl rfl ?_; intro v' w6 hoS6 hgr6))
        go_roundw
        case rel =>
          have hbl : ∀ kk, (Value.slice (some ⟨w.heap.size, 0, none⟩) n n).ownBlock = some kk → kk < w.heap.size + 1 := fun kk hk2 => by simp [Value.ownBlock] at hk2; omega
          refine ⟨k + 1, S ++ [(k : Int)], M.set k (-1), by omega, by go_num, hoM1.keptRow hoS1 hgr6 hbl, hoS6, ⟨stack_push hinv.out.1 hop, mt_open hinv.out.2.1 (by omega), by simp; omega, cs_open (cs_set hinv.out.2.2.2 (.inl (Nat.le_refl _))) hop⟩, ?_, ?_⟩
          · exact grown_below hbel1 hgr6 hoS1 (by omega) (by rw [World.size_setCell]; omega)
          · have := hgr6.size; rw [World.size_setCell] at this; omega
        case measure => simp only [intOf]; omega
    · have e : k = n := by omega
      subst e
      go_wp2_with fail
      go_ret
      exact ⟨⟨_, M, rfl, hoM, fun i hi ho => mates_end hinv.out.1 hinv.out.2.1 i hi ho, hinv.out.2.2.2⟩, hbel⟩

theorem mates_row (b off cap n : Nat) (cs : List Int) (c : Nat → Int) (w : World) (hn : cs.length = n) (hl : n ≤ 1048576) (hb : b < w.heap.size) (hat : At w b off cs) (hc : Hid (∀ j, j < n → fn cs j = c j)) :
    Calls Try.prog 36 #[.slice (some ⟨b, off, none⟩) n cap] w fun e w' => (∃ g M, e = .returned (.slice (some ⟨g, 0, none⟩) n n) ∧ OwnI w' w.heap.size (.slice (some ⟨g, 0, none⟩) n n) M ∧ Hid (∀ i, i < n → opensB (c i) = true → ((∃ j, j < n ∧ MateIs c i j ∧ fn M i = (j : Int)) ∨ (fn M i = -1 ∧ NoMate c n i)))) ∧ Below w.heap.size w w' := by
  refine (mates_rowC b off cap n cs c w hn hl hb hat hc).mono ?_
  rintro e w1 ⟨⟨g, M, rfl, ho, hm, _⟩, b1⟩
  exact ⟨⟨g, M, rfl, ho, hm⟩, b1⟩
end Go.Proofs.Ytkdmfjnaajedhaa
