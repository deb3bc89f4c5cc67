import Derived.Deep.AppendLies
import Derived.Test.YtgojdlbidjnmmabGreatPk9
import Derived.Test.YtgojdlbidjnmmabGreatPk5
import Derived.Test.YtgojdlbidjnmmabGreatPk6
import Derived.Test.YtgojdlbidjnmmabGreatPk2
import Derived.Test.YtgojdlbidjnmmabGreatPk1
namespace Go.Proofs.YtgojdlbidjnmmabGreat
open Go.ChangeShapes Go.WideShapes Go.ChangeAt Go.RowKit Go.Deep
set_option linter.unusedSimpArgs false
set_option linter.unusedVariables false

/-- 'append(out, more...)' of places, and where the new row lies. -/
theorem own_appendR {ops : Array Oper} {rest : List Oper} {o : Oper} {a : Act} {Q : Exit → Act → World → Prop} {wr : World} {v : Value} {l m : List Int} {B B2 g n cap : Nat} {TS : TypeId} (s x : Operand) (hTS : Tryz.prog.underlying TS = some (.slice 3)) (hown : OwnI wr B v l) (hm : OwnI wr B2 (.slice (some ⟨g, 0, none⟩) n cap) m) (hl : l.length + n ≤ 1048576) (hB : B ≤ wr.heap.size)
    (hgd : o.guard = none) (ho : o.op = .call { callee := .builtin .append, args := #[s, x], argTypes := #[TS, TS] }) (hs : a.eval s = v)
    (hx : a.eval x = .slice (some ⟨g, 0, none⟩) n cap)
    (h : ∀ v' w', OwnI w' B v' (l ++ m) → wr.grownBy w' v.ownBlock → (v'.ownBlock = v.ownBlock ∨ v'.ownBlock = some wr.heap.size) → wpList Tryz.prog ops Q rest (a.put o.dst v') w') :
    wpList Tryz.prog ops Q (o :: rest) a wr := by
  obtain ⟨i0, hi, hz0, hz1, hz2⟩ := info_parts infoI
  have hlen := hm.len
  refine wpList_append_own_at _ hgd s x TS ho B 3 i0 (.int .i64 0) 1 8 hTS hi hz0 hz1 hz2 rfl (by decide) v l.length (l.map (Value.int .i64)) hs hown ⟨g, 0, none⟩ n cap (m.map (Value.int .i64)) hx (by simp [hlen]) ?_ ?_ ?_ ?_ ?_ ?_
  · intro j u hj
    rw [List.getElem?_map] at hj
    have hjm : j < m.length := by
      rcases Nat.lt_or_ge j m.length with h | h
      · exact h
      · rw [List.getElem?_eq_none h] at hj; cases hj
    rw [List.getElem?_eq_getElem hjm] at hj
    simp at hj
    have hadd : (⟨g, 0, none⟩ : Addr).add j = ⟨g, j, none⟩ := by unfold Addr.add; split <;> simp_all
    rw [hadd, hm.cellN j (by omega), ← hj, fn_get hjm]
  · intro u hu; simp at hu; obtain ⟨y, _, rfl⟩ := hu; rfl
  · unfold maxLen; omega
  · omega
  · omega
  · intro v' w' h1 h2 _ h3
    refine h v' w' ?_ h2 h3
    unfold OwnI; rw [List.length_append, List.map_append, hlen]; exact h1

/-- .. at a step of a region that draws its order. -/
theorem step_appendR {ops : Array Oper} {o : Oper} {a : Act} {K : Act → World → Prop} {Q : Exit → Act → World → Prop} {E : Prop} {wr : World} {v : Value} {l m : List Int} {B B2 g n cap : Nat} {TS : TypeId} (s x : Operand) (hTS : Tryz.prog.underlying TS = some (.slice 3)) (hown : OwnI wr B v l) (hm : OwnI wr B2 (.slice (some ⟨g, 0, none⟩) n cap) m) (hn : 0 < n) (hl : l.length + n ≤ 1048576) (hB : B ≤ wr.heap.size)
    (hgd : o.guard = none) (ho : o.op = .call { callee := .builtin .append, args := #[s, x], argTypes := #[TS, TS] }) (hs : a.eval s = v)
    (hx : a.eval x = .slice (some ⟨g, 0, none⟩) n cap)
    (h : ∀ g' c' w', OwnI w' B (.slice (some ⟨g', 0, none⟩) (l.length + n) c') (l ++ m) → wr.grownBy w' v.ownBlock → (v.ownBlock = some g' ∨ g' = wr.heap.size) → K (a.put o.dst (.slice (some ⟨g', 0, none⟩) (l.length + n) c')) w') :
    if Region.wanted o (yielded ops a.tmps) = true then Oper.wp Tryz.prog o a wr K Q else E := by
  obtain ⟨i0, hi, hz0, hz1, hz2⟩ := info_parts infoI
  have hlen := hm.len
  refine step_append_lies wr hgd s x TS ho B 3 i0 (.int .i64 0) 1 8 hTS hi hz0 hz1 hz2 rfl (by decide) v l.length (l.map (Value.int .i64)) hs hown ⟨g, 0, none⟩ n cap (m.map (Value.int .i64)) hx (by simp [hlen]) ?_ ?_ hn ?_ ?_ hB _ rfl ?_
  · intro j u hj
    rw [List.getElem?_map] at hj
    have hjm : j < m.length := by
      rcases Nat.lt_or_ge j m.length with h | h
      · exact h
      · rw [List.getElem?_eq_none h] at hj; cases hj
    rw [List.getElem?_eq_getElem hjm] at hj
    simp at hj
    have hadd : (⟨g, 0, none⟩ : Addr).add j = ⟨g, j, none⟩ := by unfold Addr.add; split <;> simp_all
    rw [hadd, hm.cellN j (by omega), ← hj, fn_get hjm]
  · intro u hu; simp at hu; obtain ⟨y, _, rfl⟩ := hu; rfl
  · unfold maxLen; omega
  · omega
  · intro g' c' w' h1 h2 h3 h4
    refine h g' c' w' ?_ h2 h3
    unfold OwnI; rw [List.length_append, List.map_append, hlen]; exact h1
theorem quiet_of_more {f : FuncId} {args : Array Value} {w : World} {k n : Nat} {v : Value} (h : Calls Tryz.prog f args (w.drewN (k + n)) fun e w' => e = .returned v ∧ w' = w.drewN (k + n)) : Calls Tryz.prog f args (w.drewN (k + n)) fun e w'' => e = .returned v ∧ ∃ m, w'' = w.drewN (k + m) :=
  h.mono fun _ _ ⟨he, hm⟩ => ⟨he, n, hm⟩
theorem placesFirst (g n cap : Nat) (x : Int) (w : World) (hc : w.cell? ⟨g, 0, none⟩ = some (.int .i64 x)) (hn : 0 < n) :
    Calls Tryz.prog 76 #[.slice (some ⟨g, 0, none⟩) n cap] w fun e w' => e = .returned (.int .i64 x) ∧ w' = w := by
  have hn2 : (0 : Int) < (n : Int) := by omega
  go_enter Tryz.func76, Tryz.ntmps76
  go_wp2_with fail
  go_ret
  exact ⟨rfl, rfl⟩
theorem placesLast (g m cap : Nat) (x : Int) (w : World) (hc : w.cell? ⟨g, m, none⟩ = some (.int .i64 x)) (hm : m ≤ 1048576) :
    Calls Tryz.prog 98 #[.slice (some ⟨g, 0, none⟩) (m + 1) cap] w fun e w' => e = .returned (.int .i64 x) ∧ w' = w := by
  go_enter Tryz.func98, Tryz.ntmps98
  go_wp2_with fail
  go_ret
  exact ⟨rfl, rfl⟩

theorem implMol (g m cap x : Nat) (lvl : Int) {B T gm gq gl gc n : Nat} {base : Int} {cs M L cls : List Int} {c : Nat → Int} (w : World) (h : TT w B T gm gq gl gc n base cs M L cls) (hn80 : n ≤ 1000) (hc : w.cell? ⟨g, m, none⟩ = some (.int .i64 (x : Int))) (hm : m ≤ 1048576) (hx : x < n) (hg : g < w.heap.size) (hcs : ∀ j, j < n → fn cs j = c j) :
    Calls Tryz.prog 77 #[.pointer (some ⟨T, 0, none⟩), .agg #[.slice (some ⟨g, 0, none⟩) (m + 1) cap, .int .i64 lvl]] w fun e w' => e = .returned (.int .i64 (molF c M x)) ∧ Below w.heap.size w w' := by
  obtain ⟨W, hW⟩ : ∃ W, w.alloc (.cells #[.slice (some ⟨g, 0, none⟩) (m + 1) cap, .int .i64 lvl] 57) = W := ⟨_, rfl⟩
  have hBW : Below w.heap.size w W := by rw [← hW]; exact (Below.refl _ _).alloc (Nat.le_refl _) _
  have t0 : W.heap[w.heap.size]? = some (.cells #[.slice (some ⟨g, 0, none⟩) (m + 1) cap, .int .i64 lvl] 57) := by rw [← hW]; exact heap_alloc_new _ _
  have b0 : W.cell? ⟨w.heap.size, 0, none⟩ = _ := cell_of_row W w.heap.size 0 _ _ (0, 0) t0
  simp only [Array.getElem?_toList, List.getElem?_toArray, List.getElem?_cons_zero] at b0
  have h2 := h.below hBW
  have c1 := h2.c1
  have c2 := h2.c2
  have hcx : W.cell? ⟨gm, x, none⟩ = some (.int .i64 (c x)) := by rw [h2.om.cellN x hx, hcs x hx]
  have hqx : W.cell? ⟨gq, x, none⟩ = some (.int .i64 (fn M x)) := h2.oq.cellN x hx
  have hcl : W.cell? ⟨g, m, none⟩ = some (.int .i64 (x : Int)) := (World.cell?_of_block (hBW.block g hg)).trans hc
  have hxi : (x : Int) < (n : Int) := by omega
  have HL : Hid (∀ q, Calls Tryz.prog 98 #[.slice (some ⟨g, 0, none⟩) (m + 1) cap] (W.drewN q) fun e w' => e = .returned (.int .i64 (x : Int)) ∧ w' = W.drewN q) := fun q => placesLast g m cap (x : Int) (W.drewN q) hcl hm
  have HO : Hid (∀ q, Calls Tryz.prog 93 #[.int .i64 (c x)] (W.drewN q) fun e w' => e = .returned (.bool (opensB (c x))) ∧ w' = W.drewN q) := fun q => implOpens _ _
  have HW : Hid _ := hW
  have HBW : Hid _ := hBW
  unfold molF
  obtain ⟨q, hq⟩ : ∃ q, opensB (c x) = q := ⟨_, rfl⟩
  rw [hq] at HO ⊢
  clear h h2 t0 hW hBW hcs hq hc
  cases q
  · rw [if_neg (by simp)]
    go_enter Tryz.func77, Tryz.ntmps77
    go_upto_region 1 with fail
    rw [HW.out]
    go_quiet (first | (go_at_call 98; with_reducible exact Calls.quiet_of_same (HL.out _)) | (go_at_call 93; with_reducible exact Calls.quiet_of_same (HO.out _)))
    go_wp2_with fail
    go_ret
    exact ⟨rfl, HBW.out.trans ((below_draws _ _).mono HBW.out.size)⟩
  · rw [if_pos rfl]
    go_enter Tryz.func77, Tryz.ntmps77
    go_upto_region 1 with fail
    rw [HW.out]
    go_quiet (first | (go_at_call 98; with_reducible exact Calls.quiet_of_same (HL.out _)) | (go_at_call 93; with_reducible exact Calls.quiet_of_same (HO.out _)))
    go_wp2_with fail
    go_quiet ((go_at_call 98; with_reducible exact quiet_of_more (HL.out _)))
    go_wp2_with fail
    go_ret
    exact ⟨rfl, (HBW.out.trans ((below_draws _ _).mono HBW.out.size)).trans ((below_draws _ _).mono HBW.out.size)⟩
end Go.Proofs.YtgojdlbidjnmmabGreat
namespace Go.Proofs.YtgojdlbidjnmmabGreat
set_option linter.unusedSimpArgs false
set_option linter.unusedVariables false

/-- The last place of a list of open ones at which m stands. -/
def scanF (l : Nat → Int) (O : List Nat) (m : Int) : Nat → Option Nat
  | 0 => none
  | k + 1 => if l (O.getD k 0) = m then some k else scanF l O m k
theorem scan_some {l : Nat → Int} {O : List Nat} {m : Int} {n k : Nat} (h : scanF l O m n = some k) : k < n ∧ l (O.getD k 0) = m ∧ ∀ j, k < j → j < n → l (O.getD j 0) ≠ m := by
  induction n with
  | zero => cases h
  | succ n ih =>
    simp only [scanF] at h
    by_cases e : l (O.getD n 0) = m
    · rw [if_pos e] at h
      simp at h; subst h
      exact ⟨by omega, e, fun j h1 h2 => by omega⟩
    · rw [if_neg e] at h
      obtain ⟨a, b, c⟩ := ih h
      refine ⟨by omega, b, fun j h1 h2 => ?_⟩
      by_cases ej : j = n
      · subst ej; exact e
      · exact c j h1 (by omega)
theorem scan_none {l : Nat → Int} {O : List Nat} {m : Int} {n : Nat} (h : scanF l O m n = none) : ∀ j, j < n → l (O.getD j 0) ≠ m := by
  induction n with
  | zero => intro j hj; omega
  | succ n ih =>
    simp only [scanF] at h
    by_cases e : l (O.getD n 0) = m
    · rw [if_pos e] at h; cases h
    · rw [if_neg e] at h
      intro j hj
      by_cases ej : j = n
      · subst ej; exact e
      · exact ih h j (by omega)
/-- Of a letter that closes m: what is open and what goes together. -/
def shutB (l : Nat → Int) (m : Int) (i : Nat) (O : List Nat) (P : List (Nat × Nat)) : Option Nat → List Nat × List (Nat × Nat)
  | none => (O, P)
  | some k => (O.take k, P ++ [(O.getD k 0, i)])
def stepB (l c : Nat → Int) (mate : Int → Int) (i : Nat) (O : List Nat) (P : List (Nat × Nat)) : List Nat × List (Nat × Nat) :=
  if mate (l i) = 0 ∨ c i ≠ 13 then (O, P)
  else if l i < mate (l i) then (O ++ [i], P)
  else shutB l (mate (l i)) i O P (scanF l O (mate (l i)) O.length)
def stB (l c : Nat → Int) (mate : Int → Int) : Nat → List Nat × List (Nat × Nat)
  | 0 => ([], [])
  | i + 1 => stepB l c mate i (stB l c mate i).1 (stB l c mate i).2
/-- Places that are open ascend; of pairs no two begin at one place, and none at an open one. -/
structure GoodB (n : Nat) (O : List Nat) (P : List (Nat × Nat)) : Prop where
  inc : O.Pairwise (· < ·)
  lt : ∀ x ∈ O, x < n
  ne : P.Pairwise (fun a b => a.1 ≠ b.1)
  lt2 : ∀ p ∈ P, p.1 < p.2 ∧ p.2 < n
  off : ∀ p ∈ P, p.1 ∉ O
theorem goodB_step {l c : Nat → Int} {mate : Int → Int} {i : Nat} {O : List Nat} {P : List (Nat × Nat)} (h : GoodB i O P) : GoodB (i + 1) (stepB l c mate i O P).1 (stepB l c mate i O P).2 := by
  have hup : GoodB (i + 1) O P := ⟨h.inc, fun x hx => by have := h.lt x hx; omega, h.ne, fun p hp => by have := h.lt2 p hp; omega, h.off⟩
  unfold stepB
  split
  · exact hup
  · split
    · refine ⟨?_, ?_, h.ne, fun p hp => by have := h.lt2 p hp; omega, ?_⟩
      · rw [List.pairwise_append]
        exact ⟨h.inc, by simp, fun a ha b hb => by simp at hb; subst hb; exact h.lt a ha⟩
      · intro x hx; simp at hx
        rcases hx with hx | rfl
        · have := h.lt x hx; omega
        · omega
      · intro p hp hx; simp at hx
        rcases hx with hx | hx
        · exact h.off p hp hx
        · have := h.lt2 p hp; omega
    · cases hs : scanF l O (mate (l i)) O.length with
      | none => exact hup
      | some k =>
        obtain ⟨hk, _, _⟩ := scan_some hs
        have hget : O.getD k 0 = O[k] := by simp [hk]
        have hmem : O[k] ∈ O := List.getElem_mem hk
        show GoodB (i + 1) (O.take k) (P ++ [(O.getD k 0, i)])
        rw [hget]
        refine ⟨h.inc.sublist (List.take_sublist _ _), fun x hx => by have := h.lt x (List.mem_of_mem_take hx); omega, ?_, ?_, ?_⟩
        · rw [List.pairwise_append]
          exact ⟨h.ne, by simp, fun a ha b hb => by simp at hb; subst hb; intro e; exact h.off a ha (by rw [e]; exact hmem)⟩
        · intro p hp; simp at hp
          rcases hp with hp | rfl
          · have := h.lt2 p hp; omega
          · have := h.lt _ hmem; exact ⟨by simpa using this, by simp⟩
        · intro p hp hx; simp at hp
          rcases hp with hp | rfl
          · exact h.off p hp (List.mem_of_mem_take hx)
          · have h2 := h.inc
            rw [← List.take_append_drop k O, List.pairwise_append] at h2
            have := h2.2.2 _ hx (O[k]) (by rw [List.drop_eq_getElem_cons hk]; exact List.mem_cons_self)
            simp at this
theorem good_st (l c : Nat → Int) (mate : Int → Int) (n : Nat) : GoodB n (stB l c mate n).1 (stB l c mate n).2 := by
  induction n with
  | zero => exact ⟨by simp [stB], by simp [stB], by simp [stB], by simp [stB], by simp [stB]⟩
  | succ n ih => exact goodB_step ih
theorem st_len (l c : Nat → Int) (mate : Int → Int) (n : Nat) : (stB l c mate n).1.length ≤ n ∧ (stB l c mate n).2.length ≤ n := by
  induction n with
  | zero => simp [stB]
  | succ n ih =>
    simp only [stB]
    unfold stepB
    split
    · show (stB l c mate n).1.length ≤ n + 1 ∧ (stB l c mate n).2.length ≤ n + 1; omega
    · split
      · simp; omega
      · cases hs : scanF l (stB l c mate n).1 (mate (l n)) (stB l c mate n).1.length with
        | none => simp only [shutB]; omega
        | some k => simp only [shutB, List.length_take, List.length_append, List.length_singleton]; omega

/-- A pair put among others, by where it begins. -/
def insP : List (Nat × Nat) → Nat × Nat → List (Nat × Nat)
  | [], p => [p]
  | q :: r, p => if q.1 < p.1 then q :: insP r p else p :: q :: r
def srtB (P : List (Nat × Nat)) : List (Nat × Nat) := P.foldl insP []
theorem ins_perm (L : List (Nat × Nat)) (p : Nat × Nat) : (insP L p).Perm (p :: L) := by
  induction L with
  | nil => exact List.Perm.refl _
  | cons q r ih =>
    simp only [insP]
    split
    · exact (ih.cons q).trans (List.Perm.swap p q r)
    · exact List.Perm.refl _
theorem ins_len (L : List (Nat × Nat)) (p : Nat × Nat) : (insP L p).length = L.length + 1 := by
  have := (ins_perm L p).length_eq; simpa using this
theorem ins_sorted {L : List (Nat × Nat)} {p : Nat × Nat} (h : L.Pairwise (fun a b => a.1 < b.1)) (hp : ∀ q ∈ L, q.1 ≠ p.1) : (insP L p).Pairwise (fun a b => a.1 < b.1) := by
  induction L with
  | nil => simp [insP]
  | cons q r ih =>
    simp only [insP]
    rw [List.pairwise_cons] at h
    split
    · rename_i hq
      rw [List.pairwise_cons]
      refine ⟨fun x hx => ?_, ih h.2 (fun y hy => hp y (by simp [hy]))⟩
      have := (ins_perm r p).mem_iff.1 hx
      simp at this
      rcases this with rfl | hx
      · exact hq
      · exact h.1 x hx
    · rename_i hq
      have hne := hp q (by simp)
      rw [List.pairwise_cons, List.pairwise_cons]
      refine ⟨fun x hx => ?_, h⟩
      simp at hx
      rcases hx with rfl | hx
      · omega
      · have := h.1 x hx; omega
/-- Where it is put. -/
theorem ins_at {L : List (Nat × Nat)} {p : Nat × Nat} {k : Nat} (hk : k ≤ L.length) (h1 : ∀ j, (hj : j < L.length) → j < k → (L[j]).1 < p.1) (h2 : ∀ (hj : k < L.length), ¬ (L[k]).1 < p.1) : insP L p = L.take k ++ [p] ++ L.drop k := by
  induction L generalizing k with
  | nil => simp at hk; subst hk; rfl
  | cons q r ih =>
    cases k with
    | zero =>
      simp only [insP]
      rw [if_neg (by have := h2 (by simp); simpa using this)]; simp
    | succ k =>
      simp only [insP]
      rw [if_pos (by have := h1 0 (by simp) (by omega); simpa using this)]
      rw [ih (by simpa using hk) (fun j hj hjk => by have := h1 (j + 1) (by simpa using hj) (by omega); simpa using this) (fun hj => by have := h2 (by simpa using hj); simpa using this)]
      simp
theorem srt_snoc (P : List (Nat × Nat)) (p : Nat × Nat) : srtB (P ++ [p]) = insP (srtB P) p := by unfold srtB; rw [List.foldl_append]; rfl
theorem srt_perm (P : List (Nat × Nat)) : (srtB P).Perm P := by
  have : ∀ (P L : List (Nat × Nat)), (P.foldl insP L).Perm (L ++ P) := by
    intro P
    induction P with
    | nil => intro L; simp
    | cons p r ih =>
      intro L
      rw [List.foldl_cons]
      refine (ih _).trans ?_
      refine ((ins_perm L p).append_right r).trans ?_
      simpa using (List.perm_middle (a := p) (l₁ := L) (l₂ := r)).symm
  have h := this P []
  rwa [List.nil_append] at h
theorem srt_sorted {P : List (Nat × Nat)} (h : P.Pairwise (fun a b => a.1 ≠ b.1)) : (srtB P).Pairwise (fun a b => a.1 < b.1) := by
  have : ∀ (P L : List (Nat × Nat)), P.Pairwise (fun a b => a.1 ≠ b.1) → L.Pairwise (fun a b => a.1 < b.1) → (∀ a ∈ L, ∀ b ∈ P, a.1 ≠ b.1) → (P.foldl insP L).Pairwise (fun a b => a.1 < b.1) := by
    intro P
    induction P with
    | nil => intro L _ h2 _; exact h2
    | cons p r ih =>
      intro L h1 h2 h3
      rw [List.pairwise_cons] at h1
      rw [List.foldl_cons]
      refine ih _ h1.2 (ins_sorted h2 (fun q hq => h3 q hq p (by simp))) (fun a ha b hb => ?_)
      have := (ins_perm L p).mem_iff.1 ha
      simp at this
      rcases this with rfl | ha
      · exact h1.1 b hb
      · exact h3 a ha b (by simp [hb])
  exact this P [] h (by simp) (by simp)
theorem srt_len (P : List (Nat × Nat)) : (srtB P).length = P.length := (srt_perm P).length_eq
/-- What is sorted and has the same pairs is the same. -/
theorem srt_uniq {P Q : List (Nat × Nat)} (hp : Q.Perm P) (hn : P.Pairwise (fun a b => a.1 ≠ b.1)) (hs : Q.Pairwise (fun a b => ¬ b.1 < a.1)) : Q = srtB P := by
  have h1 := srt_sorted hn
  have hpq : Q.Perm (srtB P) := hp.trans (srt_perm P).symm
  have hqn : Q.Pairwise (fun a b => a.1 ≠ b.1) := hp.symm.pairwise hn (fun h => fun e => h e.symm)
  have hq : Q.Pairwise (fun a b => a.1 < b.1) := by
    have := hqn.and hs
    exact this.imp (fun ⟨a, b⟩ => by omega)
  exact List.Perm.eq_of_pairwise (le := fun a b => a.1 < b.1) (fun a b _ _ h1 h2 => by omega) hq h1 hpq
/-- A pair as a row. -/
def rowP (p : Nat × Nat) : List Int := [(p.1 : Int), (p.2 : Int)]
def rowsP (P : List (Nat × Nat)) : List (List Int) := P.map rowP
theorem rowsP_len (P : List (Nat × Nat)) : (rowsP P).length = P.length := by simp [rowsP]
theorem rowsP_at {P : List (Nat × Nat)} {j : Nat} (h : j < P.length) : rN (rowsP P) j = rowP P[j] := by simp [rN, rowsP, h]
end Go.Proofs.YtgojdlbidjnmmabGreat
namespace Go.Proofs.YtgojdlbidjnmmabGreat
set_option linter.unusedSimpArgs false

/-- A list by what stands at each place. -/
def mkL (n : Nat) (f : Nat → Int) : List Int := (List.range n).map f
theorem mkL_len (n : Nat) (f : Nat → Int) : (mkL n f).length = n := by simp [mkL]
theorem fn_mkL {n : Nat} {f : Nat → Int} {j : Nat} (h : j < n) : fn (mkL n f) j = f j := by simp [fn, mkL, h]
theorem mkL_eq {n : Nat} {f : Nat → Int} {l : List Int} (hl : l.length = n) (h : ∀ j, j < n → f j = fn l j) : mkL n f = l :=
  ext_fn (by rw [mkL_len, hl]) (fun j hj => by rw [mkL_len] at hj; rw [fn_mkL hj, h j hj])

def m1 (z : Nat → Int) (before : Int) : Nat → Int
  | 0 => if z 0 = 9 then before else z 0
  | k + 1 => if z (k + 1) = 9 then (if opensB (m1 z before k) = true ∨ m1 z before k = 22 then 13 else m1 z before k) else z (k + 1)
def strong (z : Nat → Int) (before : Int) : Nat → Int
  | 0 => before
  | k + 1 => if z k = 1 ∨ z k = 2 ∨ z k = 3 then z k else strong z before k
def m2 (z : Nat → Int) (before : Int) (k : Nat) : Int := if z k = 4 ∧ strong z before k = 3 then 7 else z k
def m3 (z : Nat → Int) (k : Nat) : Int := if z k = 3 then 2 else z k
def btw (a c b : Int) : Bool := decide (a = b ∧ (a = 4 ∧ (c = 5 ∨ c = 8) ∨ a = 7 ∧ c = 8))
def m4 (z : Nat → Int) (n : Nat) : Nat → Int
  | 0 => z 0
  | k + 1 => if k + 2 < n ∧ btw (m4 z n k) (z (k + 1)) (z (k + 2)) = true then m4 z n k else z (k + 1)
def ah6 (z : Nat → Int) : Nat → Int
  | 0 => 0
  | k + 1 => if z k = 6 then ah6 z k else z k
def bh6 (z : Nat → Int) (n : Nat) : Nat → Int
  | 0 => 0
  | d + 1 => if z (n - (d + 1)) = 6 then bh6 z n d else z (n - (d + 1))
def m5 (z : Nat → Int) (n : Nat) (k : Nat) : Int := if z k = 6 ∧ (ah6 z k = 4 ∨ bh6 z n (n - k) = 4) then 4 else z k
def m6 (z : Nat → Int) (k : Nat) : Int := if z k = 5 ∨ z k = 6 ∨ z k = 8 then 13 else z k
def m7 (z : Nat → Int) (before : Int) (k : Nat) : Int := if z k = 4 ∧ strong z before k = 1 then 1 else z k

def r1 (l : List Int) (b : Int) : List Int := mkL l.length (m1 (fn l) b)
def r2 (l : List Int) (b : Int) : List Int := mkL l.length (m2 (fn l) b)
def r3 (l : List Int) : List Int := mkL l.length (m3 (fn l))
def r4 (l : List Int) : List Int := mkL l.length (m4 (fn l) l.length)
def r5 (l : List Int) : List Int := mkL l.length (m5 (fn l) l.length)
def r6 (l : List Int) : List Int := mkL l.length (m6 (fn l))
def r7 (l : List Int) (b : Int) : List Int := mkL l.length (m7 (fn l) b)
def weakL (l : List Int) (b : Int) : List Int := r7 (r6 (r5 (r4 (r3 (r2 (r1 l b) b))))) b
def weakR (l : List Int) (b : Int) : List Int := if clsOk (fn l) l.length = true ∧ sideB b = true then weakL l b else []
theorem r1_len (l : List Int) (b : Int) : (r1 l b).length = l.length := mkL_len _ _
theorem r2_len (l : List Int) (b : Int) : (r2 l b).length = l.length := mkL_len _ _
theorem r3_len (l : List Int) : (r3 l).length = l.length := mkL_len _ _
theorem r4_len (l : List Int) : (r4 l).length = l.length := mkL_len _ _
theorem r5_len (l : List Int) : (r5 l).length = l.length := mkL_len _ _
theorem r6_len (l : List Int) : (r6 l).length = l.length := mkL_len _ _
theorem r7_len (l : List Int) (b : Int) : (r7 l b).length = l.length := mkL_len _ _
theorem weakL_len (l : List Int) (b : Int) : (weakL l b).length = l.length := by simp [weakL, r7_len, r6_len, r5_len, r4_len, r3_len, r2_len, r1_len]
theorem weakR_len (l : List Int) (b : Int) : (weakR l b).length ≤ l.length := by
  unfold weakR; split
  · rw [weakL_len]; exact Nat.le_refl _
  · simp
theorem weakR_no {l : List Int} {b : Int} (h : ¬ (clsOk (fn l) l.length = true ∧ sideB b = true)) : weakR l b = [] := by
  unfold weakR; rw [if_neg h]
theorem weakR_yes {l : List Int} {b : Int} (h : clsOk (fn l) l.length = true ∧ sideB b = true) : weakR l b = weakL l b := by
  unfold weakR; rw [if_pos h]

/-- How far a row has been done in place: ahead of f as it shall be, from f on as it was. -/
def upTo (m z : Nat → Int) (n f : Nat) (L : List Int) : Prop := (∀ j, j < f → fn L j = m j) ∧ ∀ j, f ≤ j → j < n → fn L j = z j
theorem upTo_zero (m z : Nat → Int) (n : Nat) (L : List Int) (h : ∀ j, j < n → fn L j = z j) : upTo m z n 0 L := ⟨fun j hj => by omega, fun j _ h2 => h j h2⟩
theorem upTo_keep {m z : Nat → Int} {n f : Nat} {L : List Int} (h : upTo m z n f L) (hf : f < n) (e : m f = z f) : upTo m z n (f + 1) L := by
  refine ⟨fun j hj => ?_, fun j h1 h2 => h.2 j (by omega) h2⟩
  by_cases ej : j = f
  · subst ej; rw [h.2 j (Nat.le_refl _) hf, e]
  · exact h.1 j (by omega)
theorem upTo_set {m z : Nat → Int} {n f : Nat} {L : List Int} {x : Int} (h : upTo m z n f L) (hl : L.length = n) (hf : f < n) (e : m f = x) : upTo m z n (f + 1) (L.set f x) := by
  refine ⟨fun j hj => ?_, fun j h1 h2 => by rw [fn_set_other (by omega)]; exact h.2 j (by omega) h2⟩
  by_cases ej : j = f
  · subst ej; rw [fn_set_same (by omega), e]
  · rw [fn_set_other (by omega)]; exact h.1 j (by omega)
theorem upTo_end {m z : Nat → Int} {n : Nat} {L : List Int} (h : upTo m z n n L) (hl : L.length = n) : L = mkL n m :=
  (mkL_eq hl (fun j hj => (h.1 j hj).symm)).symm

theorem ah6_run {z : Nat → Int} {f t : Nat} (hft : f ≤ t) (h : ∀ j, f ≤ j → j < t → z j = 6) : ah6 z t = ah6 z f := by
  induction t with
  | zero => have : f = 0 := by omega
            subst this; rfl
  | succ t ih =>
    by_cases e : f = t + 1
    · subst e; rfl
    · simp only [ah6]
      rw [if_pos (h t (by omega) (by omega))]
      exact ih (by omega) (fun j a b => h j a (by omega))
theorem bh6_step {z : Nat → Int} {n : Nat} {k : Nat} (hk : k < n) (h : z k = 6) : bh6 z n (n - k) = bh6 z n (n - (k + 1)) := by
  obtain ⟨m, hm⟩ : ∃ m, n - k = m + 1 := ⟨n - k - 1, by omega⟩
  have e : n - (m + 1) = k := by omega
  have e2 : n - (k + 1) = m := by omega
  rw [hm, e2]; simp only [bh6, e]; rw [if_pos h]
theorem bh6_hit {z : Nat → Int} {n : Nat} {k : Nat} (hk : k < n) (h : z k ≠ 6) : bh6 z n (n - k) = z k := by
  obtain ⟨m, hm⟩ : ∃ m, n - k = m + 1 := ⟨n - k - 1, by omega⟩
  have e : n - (m + 1) = k := by omega
  rw [hm]; simp only [bh6, e]; rw [if_neg h]
theorem bh6_run {z : Nat → Int} {n : Nat} {f t : Nat} (hft : f ≤ t) (htn : t ≤ n) (h : ∀ j, f ≤ j → j < t → z j = 6) : bh6 z n (n - f) = bh6 z n (n - t) := by
  induction t with
  | zero => have : f = 0 := by omega
            subst this; rfl
  | succ t ih =>
    by_cases e : f = t + 1
    · subst e; rfl
    · rw [ih (by omega) (by omega) (fun j a b => h j a (by omega)), bh6_step (by omega) (h t (by omega) (by omega))]
theorem m5_run {z : Nat → Int} {n : Nat} {f t : Nat} (htn : t ≤ n) (h : ∀ j, f ≤ j → j < t → z j = 6) {j : Nat} (h1 : f ≤ j) (h2 : j < t) : m5 z n j = if ah6 z f = 4 ∨ bh6 z n (n - t) = 4 then 4 else 6 := by
  unfold m5
  rw [ah6_run h1 (fun i a b => h i a (by omega)), bh6_run (f := j) (t := t) (by omega) htn (fun i a b => h i (by omega) b), h j h1 h2]
  simp

/-! What holds of the rules, one behind the other. -/
def noneOf (z : Nat → Int) (n : Nat) (s : List Int) : Prop := ∀ j, j < n → z j ∉ s
theorem m1_not9 {z : Nat → Int} {b : Int} (hb : b ≠ 9) (k : Nat) : m1 z b k ≠ 9 := by
  induction k with
  | zero => simp only [m1]; split <;> omega
  | succ k ih => simp only [m1]; split
                 · split <;> omega
                 · assumption
theorem m1_keep {z : Nat → Int} {b : Int} {k : Nat} (h : z k ≠ 9) : m1 z b k = z k := by
  cases k with
  | zero => simp [m1, h]
  | succ k => simp [m1, h]
theorem m1_in {z : Nat → Int} {b : Int} (hb : 1 ≤ b ∧ b ≤ 22) {n : Nat} (h : ∀ j, j < n → 1 ≤ z j ∧ z j ≤ 22) : ∀ k, k < n → 1 ≤ m1 z b k ∧ m1 z b k ≤ 22 := by
  intro k
  induction k with
  | zero => intro hk; simp only [m1]; split
            · exact hb
            · exact h 0 hk
  | succ k ih =>
    intro hk
    have := ih (by omega)
    simp only [m1]; split
    · split <;> omega
    · exact h _ hk
theorem m4_is {z : Nat → Int} {n k : Nat} : m4 z n k = z k ∨ ((z k = 5 ∨ z k = 8) ∧ (m4 z n k = 4 ∨ m4 z n k = 7)) := by
  cases k with
  | zero => left; rfl
  | succ k =>
    simp only [m4]
    split
    · rename_i h
      have h2 := h.2
      simp only [btw, decide_eq_true_eq] at h2
      right; omega
    · left; rfl
theorem strong_not3 {z : Nat → Int} {b : Int} {n : Nat} (hb : b ≠ 3) (h : ∀ j, j < n → z j ≠ 3) : ∀ k, k ≤ n → strong z b k ≠ 3 := by
  intro k
  induction k with
  | zero => intro _; exact hb
  | succ k ih => intro hk; simp only [strong]; split
                 · exact h k (by omega)
                 · exact ih (by omega)

/-- What all seven rules make of a class: nothing that they take away is left. -/
structure WeakIs (z x : Int) : Prop where
  left : x ≠ 3 ∧ x ≠ 5 ∧ x ≠ 6 ∧ x ≠ 8 ∧ x ≠ 9
  L : z = 1 → x = 1
  R : z = 2 ∨ z = 3 → x = 2
  cls : 1 ≤ x ∧ x ≤ 22
theorem weak_is {l : List Int} {b : Int} (hb : b = 1 ∨ b = 2) (hl : ∀ j, j < l.length → 1 ≤ fn l j ∧ fn l j ≤ 22) {k : Nat} (hk : k < l.length) : WeakIs (fn l k) (fn (weakL l b) k) := by
  have e1 : fn (r1 l b) k = m1 (fn l) b k := fn_mkL hk
  have e2 : fn (r2 (r1 l b) b) k = m2 (fn (r1 l b)) b k := fn_mkL (by rw [r1_len]; exact hk)
  have e3 : fn (r3 (r2 (r1 l b) b)) k = m3 (fn (r2 (r1 l b) b)) k := fn_mkL (by rw [r2_len, r1_len]; exact hk)
  have e4 : fn (r4 (r3 (r2 (r1 l b) b))) k = m4 (fn (r3 (r2 (r1 l b) b))) _ k := fn_mkL (by rw [r3_len, r2_len, r1_len]; exact hk)
  have e5 : fn (r5 (r4 (r3 (r2 (r1 l b) b)))) k = m5 (fn (r4 (r3 (r2 (r1 l b) b)))) _ k := fn_mkL (by rw [r4_len, r3_len, r2_len, r1_len]; exact hk)
  have e6 : fn (r6 (r5 (r4 (r3 (r2 (r1 l b) b))))) k = m6 (fn (r5 (r4 (r3 (r2 (r1 l b) b))))) k := fn_mkL (by rw [r5_len, r4_len, r3_len, r2_len, r1_len]; exact hk)
  have e7 : fn (weakL l b) k = m7 (fn (r6 (r5 (r4 (r3 (r2 (r1 l b) b)))))) b k := fn_mkL (by rw [r6_len, r5_len, r4_len, r3_len, r2_len, r1_len]; exact hk)
  have a1 := m1_not9 (z := fn l) (b := b) (by omega) k
  have b1 := m1_in (z := fn l) (b := b) (by omega) hl k hk
  have c1 : fn l k ≠ 9 → m1 (fn l) b k = fn l k := m1_keep
  have a4 := m4_is (z := fn (r3 (r2 (r1 l b) b))) (n := (r3 (r2 (r1 l b) b)).length) (k := k)
  rw [← e1] at a1 b1 c1
  rw [← e4] at a4
  unfold m2 at e2
  unfold m3 at e3
  unfold m5 at e5
  unfold m6 at e6
  unfold m7 at e7
  generalize fn (weakL l b) k = x at *
  generalize fn (r6 (r5 (r4 (r3 (r2 (r1 l b) b))))) k = x6 at *
  generalize fn (r5 (r4 (r3 (r2 (r1 l b) b)))) k = x5 at *
  generalize fn (r4 (r3 (r2 (r1 l b) b))) k = x4 at *
  generalize fn (r3 (r2 (r1 l b) b)) k = x3 at *
  generalize fn (r2 (r1 l b) b) k = x2 at *
  generalize fn (r1 l b) k = x1 at *
  generalize fn l k = x0 at *
  clear e1 e4
  have f2 : x2 = x1 ∨ (x1 = 4 ∧ x2 = 7) := by
    split at e2
    · rename_i h; exact .inr ⟨h.1, e2⟩
    · exact .inl e2
  have f3 : (x2 = 3 ∧ x3 = 2) ∨ (x2 ≠ 3 ∧ x3 = x2) := by
    split at e3
    · rename_i h; exact .inl ⟨h, e3⟩
    · rename_i h; exact .inr ⟨h, e3⟩
  have f5 : x5 = x4 ∨ (x4 = 6 ∧ x5 = 4) := by
    split at e5
    · rename_i h; exact .inr ⟨h.1, e5⟩
    · exact .inl e5
  have f6 : ((x5 = 5 ∨ x5 = 6 ∨ x5 = 8) ∧ x6 = 13) ∨ (¬ (x5 = 5 ∨ x5 = 6 ∨ x5 = 8) ∧ x6 = x5) := by
    split at e6
    · rename_i h; exact .inl ⟨h, e6⟩
    · rename_i h; exact .inr ⟨h, e6⟩
  have f7 : x = x6 ∨ (x6 = 4 ∧ x = 1) := by
    split at e7
    · rename_i h; exact .inr ⟨h.1, e7⟩
    · exact .inl e7
  clear e2 e3 e5 e6 e7
  exact ⟨by omega, fun h => by have := c1 (by omega); omega, fun h => by have := c1 (by omega); omega, by omega⟩

theorem strong_m7 {z x : Nat → Int} {b : Int} {n : Nat} (h : ∀ j, j < n → x j = m7 z b j) : ∀ k, k ≤ n → strong x b k = strong z b k := by
  intro k
  induction k with
  | zero => intro _; rfl
  | succ k ih =>
    intro hk
    have e := h k (by omega)
    have ih := ih (by omega)
    unfold m7 at e
    simp only [strong]
    by_cases q : z k = 4 ∧ strong z b k = 1
    · rw [if_pos q] at e
      rw [e, if_pos (by omega), if_neg (by omega), q.2]
    · rw [if_neg q] at e
      rw [e, ih]
/-- Again nothing changes. -/
theorem weak_again {l : List Int} {b : Int} (hb : b = 1 ∨ b = 2) (hl : ∀ j, j < l.length → 1 ≤ fn l j ∧ fn l j ≤ 22) : weakL (weakL l b) b = weakL l b := by
  obtain ⟨x, hx⟩ : ∃ x, weakL l b = x := ⟨_, rfl⟩
  have hlen : x.length = l.length := by rw [← hx, weakL_len]
  have hw : ∀ j, j < x.length → fn x j ≠ 3 ∧ fn x j ≠ 5 ∧ fn x j ≠ 6 ∧ fn x j ≠ 8 ∧ fn x j ≠ 9 := fun j hj => by
    have := (weak_is (b := b) hb hl (k := j) (by omega)).left
    rwa [hx] at this
  rw [hx]
  have q1 : r1 x b = x := mkL_eq rfl (fun j hj => m1_keep (hw j hj).2.2.2.2)
  have q2 : r2 x b = x := mkL_eq rfl (fun j hj => by
    unfold m2; rw [if_neg]; intro h; exact strong_not3 (by omega) (fun i hi => (hw i hi).1) j (by omega) h.2)
  have q3 : r3 x = x := mkL_eq rfl (fun j hj => by unfold m3; rw [if_neg (hw j hj).1])
  have q4 : r4 x = x := mkL_eq rfl (fun j hj => by
    rcases m4_is (z := fn x) (n := x.length) (k := j) with h | h
    · exact h
    · have := hw j hj; omega)
  have q5 : r5 x = x := mkL_eq rfl (fun j hj => by unfold m5; rw [if_neg (fun h => (hw j hj).2.2.1 h.1)])
  have q6 : r6 x = x := mkL_eq rfl (fun j hj => by unfold m6; rw [if_neg (by have := hw j hj; omega)])
  have q7 : r7 x b = x := mkL_eq rfl (fun j hj => by
    obtain ⟨y, hy, hyl⟩ : ∃ y : List Int, x = r7 y b ∧ y.length = x.length := ⟨_, hx.symm, by rw [hlen]; simp [r6_len, r5_len, r4_len, r3_len, r2_len, r1_len]⟩
    have hxy : ∀ i, i < x.length → fn x i = m7 (fn y) b i := fun i hi => by
      have : fn (r7 y b) i = m7 (fn y) b i := fn_mkL (by omega)
      rwa [← hy] at this
    unfold m7
    rw [if_neg]
    rintro ⟨h4, h1⟩
    rw [strong_m7 hxy j (by omega)] at h1
    have := hxy j hj
    unfold m7 at this
    by_cases q : fn y j = 4
    · rw [if_pos ⟨q, h1⟩] at this; omega
    · rw [if_neg (fun h => q h.1)] at this; omega)
  unfold weakL
  rw [q1, q2, q3, q4, q5, q6, q7]
end Go.Proofs.YtgojdlbidjnmmabGreat
namespace Go.Proofs.YtgojdlbidjnmmabGreat
open Go.ChangeShapes Go.WideShapes Go.ChangeAt Go.RowKit

def mate (r : Int) : Int :=
  if r = 40 then 41 else if r = 41 then 40 else if r = 91 then 93 else if r = 93 then 91 else if r = 123 then 125 else if r = 125 then 123 else 0

def mirror (r : Int) : Int :=
  if mate r = 0 then (if r = 60 then 62 else if r = 62 then 60 else r) else mate r

set_option maxHeartbeats 1000000 in
theorem implMate (r : Int) (w : World) : Calls Tryz.prog 50 #[.int .i64 r] w fun e w' => e = .returned (.int .i64 (mate r)) ∧ w' = w := by
  go_enter Tryz.func50, Tryz.ntmps50
  go_wp2
  all_goals (go_ret; exact ⟨ret_int (by simp_all [mate]), rfl⟩)

set_option maxHeartbeats 1000000 in
theorem specMate (r : Int) (w : World) : Calls Tryz.prog 21 #[.int .i64 r] w fun e w' => e = .returned (.int .i64 (mate r)) ∧ Below w.heap.size w w' := by
  go_enter Tryz.func21, Tryz.ntmps21
  go_wp2
  go_rounds 7
  all_goals (go_ret; refine ⟨ret_int ?_, by go_grown⟩)
  all_goals (simp_all [mate])
  all_goals (first | (subst_vars; rfl) | (repeat (rw [if_neg (by omega)])))

end Go.Proofs.YtgojdlbidjnmmabGreat
