import Derived.Test.YtkdmfjnaajedhaaMg4
import Derived.Maps.AppendAt
import Derived.Test.YtkdmfjnaajedhaaMg6
import Derived.Test.YtkdmfjnaajedhaaMg1
import Derived.Test.YtkdmfjnaajedhaaMg2
namespace Go.Proofs.Ytkdmfjnaajedhaa
open Go.ChangeShapes Go.WideShapes Go.ChangeAt Go.RowKit
set_option linter.unusedSimpArgs false

/-- As own_append, and where the new row lies. -/
theorem own_append_at {ops : Array Oper} {rest : List Oper} {o : Oper} {a : Act} {Q : Exit → Act → World → Prop} {wr : World} {T : TypeId} {v : Value} {l : List Int} {B : Nat} {xv : Int} (s x : Operand) (hown : OwnI wr B v l) (hl : l.length ≤ 1073741824) (hB : B ≤ wr.heap.size)
    (hgd : o.guard = none) (ho : o.op = .call { callee := .builtin .append, args := #[s, x], argTypes := #[22, 22] }) (hs : a.eval s = v) 
    (hx : a.eval x = .slice (some ⟨wr.heap.size, 0, none⟩) 1 1)
    (h : ∀ v' w', OwnI w' B v' (l ++ [xv]) → wr.grownBy w' v.ownBlock → (v'.ownBlock = v.ownBlock ∨ v'.ownBlock = some (wr.heap.size + 1)) → wpList Try.prog ops Q rest (a.put o.dst v') w') :
    wpList Try.prog ops Q (o :: rest) a (wr.alloc (.cells #[.int .i64 xv] T)) := by
  obtain ⟨i0, hi, hz0, hz1, hz2⟩ := info_parts infoI
  refine wpList_append_own_at _ hgd s x 22 ho B 3 i0 (.int .i64 0) 1 8 Try.underlying22 hi hz0 hz1 hz2 rfl (by decide) v l.length (l.map (Value.int .i64)) hs (World.ownsRow.alloc hown _) ⟨wr.heap.size, 0, none⟩ 1 1 [.int .i64 xv] hx rfl ?_ ?_ ?_ ?_ ?_ ?_
  · intro j u hj
    match j, hj with
    | 0, hj => simp at hj; subst hj; simp [Addr.add]
  · intro u hu; simp at hu; subst hu; rfl
  · unfold maxLen; omega
  · omega
  · simp; omega
  · intro v' w' h1 h2 _ h3
    refine h v' w' ?_ ?_ ?_
    · unfold OwnI; rw [List.length_append, List.map_append]; exact h1
    · refine ⟨h2.os, h2.tape, h2.output, ?_, fun k hk hne => ?_⟩
      · have := h2.size; simp at this; omega
      · rw [h2.block k (by simp; omega) hne]; exact Below.heap_alloc wr _ k hk
    · simpa using h3

/-- Two rows that lie apart. -/
def Apart (v u : Value) : Prop := ∀ k, v.ownBlock = some k → u.ownBlock ≠ some k
theorem Apart.symm {v u : Value} (h : Apart v u) : Apart u v := fun k hk e => h k e hk
theorem Apart.next {w : World} {v v' u : Value} {B : Nat} {l : List Int} (h : Apart v u) (hu : OwnI w B u l) (h3 : v'.ownBlock = v.ownBlock ∨ v'.ownBlock = some (w.heap.size + 1)) : Apart v' u := by
  intro k hk e
  rcases h3 with h3 | h3
  · exact h k (by rw [← h3]; exact hk) e
  · rw [hk] at h3; have := (hu.lt k e).2; simp at h3; omega
theorem OwnI.apart {w w' : World} {v u : Value} {l : List Int} {B : Nat} (h : OwnI w B v l) (hg : w.grownBy w' u.ownBlock) (ha : Apart u v) : OwnI w' B v l :=
  h.kept fun k hk => hg.block k (h.lt k hk).2 (fun e => ha k e.symm hk)
end Go.Proofs.Ytkdmfjnaajedhaa
namespace Go.Proofs.Ytkdmfjnaajedhaa
open Go.ChangeShapes Go.WideShapes Go.ChangeAt Go.RowKit
set_option linter.unusedSimpArgs false
set_option linter.unusedVariables false

/-- The slice at a place of a list of them. -/
def vN (vs : List Value) (j : Nat) : Value := vs.getD j (.slice none 0 0)
def rN (rows : List (List Int)) (j : Nat) : List Int := rows.getD j []
theorem vN_left {vs us : List Value} {j : Nat} (h : j < vs.length) : vN (vs ++ us) j = vN vs j := by simp [vN, List.getD, List.getElem?_append_left h]
theorem vN_last (vs : List Value) (u : Value) : vN (vs ++ [u]) vs.length = u := by simp [vN]
theorem rN_left {vs us : List (List Int)} {j : Nat} (h : j < vs.length) : rN (vs ++ us) j = rN vs j := by simp [rN, List.getD, List.getElem?_append_left h]
theorem rN_last (vs : List (List Int)) (u : List Int) : rN (vs ++ [u]) vs.length = u := by simp [rN]
/-- A slice that owns rows of numbers, none over another one. -/
structure RR (w : World) (B : Nat) (v : Value) (vs : List Value) (rows : List (List Int)) : Prop where
  len : vs.length = rows.length
  own : OwnV 22 1 w B v rows.length vs
  row : ∀ j, j < rows.length → OwnI w B (vN vs j) (rN rows j)
  apv : ∀ j, j < rows.length → Apart v (vN vs j)
  app : ∀ i j, i < j → j < rows.length → Apart (vN vs i) (vN vs j)
section
variable {w w' : World} {B : Nat} {v : Value} {vs : List Value} {rows : List (List Int)}
theorem RR.kept (h : RR w B v vs rows) (hb : ∀ b, (v.ownBlock = some b ∨ ∃ j, j < rows.length ∧ (vN vs j).ownBlock = some b) → w'.heap[b]? = w.heap[b]?) : RR w' B v vs rows :=
  ⟨h.len, h.own.kept (fun b hk => hb b (.inl hk)), fun j hj => (h.row j hj).kept (fun b hk => hb b (.inr ⟨j, hj, hk⟩)), h.apv, h.app⟩
theorem RR.below (h : RR w B v vs rows) (hb : Below w.heap.size w w') : RR w' B v vs rows :=
  ⟨h.len, h.own.below hb, fun j hj => (h.row j hj).below hb, h.apv, h.app⟩
theorem RR.nil (w : World) (B : Nat) : RR w B (.slice none 0 0) [] [] := ⟨rfl, OwnV.nil _ _ _ _, fun j hj => by simp at hj, fun j hj => by simp at hj, fun i j _ hj => by simp at hj⟩
theorem RR.empty (w : World) (B : Nat) (T : TypeId) (h : B ≤ w.heap.size) (hT : T = 22) : RR (w.alloc (.cells #[] T)) B (.slice (some ⟨w.heap.size, 0, none⟩) 0 0) [] [] :=
  ⟨rfl, OwnV.empty _ _ _ _ _ h hT, fun j hj => by simp at hj, fun j hj => by simp at hj, fun i j _ hj => by simp at hj⟩
theorem RR.slc (h : RR w B v vs rows) : ∃ a cap, v = .slice a rows.length cap := h.own.slc
theorem RR.lt (h : RR w B v vs rows) : ∀ b, v.ownBlock = some b → B ≤ b ∧ b < w.heap.size := h.own.lt
/-- A new row, behind all others. -/
theorem RR.snoc {w2 : World} {vx v' : Value} {x : List Int} (h : RR w B v vs rows) (hB : B ≤ w.heap.size) (hb : Below w.heap.size w w2) (hx : OwnI w2 w.heap.size vx x) (ho : OwnV 22 1 w' B v' (rows.length + 1) (vs ++ [vx])) (hg : w2.grownBy w' v.ownBlock) (hv : v'.ownBlock = v.ownBlock ∨ v'.ownBlock = some (w2.heap.size + 1)) :
    RR w' B v' (vs ++ [vx]) (rows ++ [x]) := by
  have hsz := hb.size
  have hrow : ∀ j, j < rows.length → OwnI w' B (vN vs j) (rN rows j) := fun j hj => ((h.row j hj).below hb).kept (fun b hk => hg.block b (Nat.lt_of_lt_of_le ((h.row j hj).lt b hk).2 hsz) (fun e => h.apv j hj b e.symm hk))
  have hx' : OwnI w' B vx x := (hx.mono hB).kept (fun b hk => hg.block b (hx.lt b hk).2 (fun e => by have := (h.lt b e.symm).2; have := (hx.lt b hk).1; omega))
  have hl := h.len
  refine ⟨by simp [hl], by simpa using ho, fun j hj => ?_, fun j hj => ?_, fun i j hij hj => ?_⟩
  · by_cases e : j = rows.length
    · subst e; rw [rN_last, ← hl, vN_last]; exact hx'
    · simp at hj
      rw [rN_left (by omega), vN_left (by omega)]; exact hrow j (by omega)
  · simp at hj
    by_cases e : j = rows.length
    · subst e; rw [← hl, vN_last]
      intro b h1 h2
      rcases hv with q | q
      · rw [q] at h1; have := (h.lt b h1).2; have := (hx.lt b h2).1; omega
      · rw [q] at h1; simp at h1; have := (hx.lt b h2).2; omega
    · rw [vN_left (by omega)]
      intro b h1 h2
      rcases hv with q | q
      · exact h.apv j (by omega) b (by rw [← q]; exact h1) h2
      · rw [q] at h1; simp at h1; have := ((h.row j (by omega)).lt b h2).2; omega
  · simp at hj
    by_cases e : j = rows.length
    · subst e
      rw [vN_left (by omega), ← hl, vN_last]
      intro b h1 h2
      have := ((h.row i (by omega)).lt b h1).2; have := (hx.lt b h2).1; omega
    · rw [vN_left (by omega), vN_left (by omega)]; exact h.app i j hij (by omega)
end
/-- .. its rows wherever they lie. -/
def RRX (w : World) (B : Nat) (v : Value) (rows : List (List Int)) : Prop := ∃ vs, RR w B v vs rows
theorem RRX.below {w w' : World} {B : Nat} {v : Value} {rows : List (List Int)} (h : RRX w B v rows) (hb : Below w.heap.size w w') : RRX w' B v rows := by
  obtain ⟨vs, h⟩ := h; exact ⟨vs, h.below hb⟩
theorem RRX.slc {w : World} {B : Nat} {v : Value} {rows : List (List Int)} (h : RRX w B v rows) : ∃ a cap, v = .slice a rows.length cap := by
  obtain ⟨vs, h⟩ := h; exact h.slc
theorem rowSS : RowT 22 1 24 := ⟨by kernel_rfl, by kernel_rfl⟩
/-- Places as numbers. -/
def natL (l : List Nat) : List Int := l.map fun (x : Nat) => (x : Int)
theorem natL_len (l : List Nat) : (natL l).length = l.length := by simp [natL]
theorem natL_app (l m : List Nat) : natL (l ++ m) = natL l ++ natL m := by simp [natL]
theorem fn_natL {l : List Nat} {j : Nat} (h : j < l.length) : fn (natL l) j = ((l[j] : Nat) : Int) := by simp [fn, natL, h]
theorem fn_natL_last (p : List Nat) (x : Nat) : fn (natL (p ++ [x])) p.length = (x : Int) := by simp [fn, natL]
def natR (r : List (List Nat)) : List (List Int) := r.map natL
theorem natR_app (r s : List (List Nat)) : natR (r ++ s) = natR r ++ natR s := by simp [natR]
theorem natR_len (r : List (List Nat)) : (natR r).length = r.length := by simp [natR]
end Go.Proofs.Ytkdmfjnaajedhaa
namespace Go.Proofs.Ytkdmfjnaajedhaa
open Go.ChangeShapes Go.WideShapes Go.ChangeAt Go.RowKit
set_option linter.unusedSimpArgs false

def sizeF (r : Int) : Int :=
  if 0 ≤ r ∧ r ≤ 127 then 1 else if 128 ≤ r ∧ r ≤ 2047 then 2 else if 55296 ≤ r ∧ r ≤ 57343 then 0 else if 2048 ≤ r ∧ r ≤ 65535 then 3 else if 65536 ≤ r ∧ r ≤ 1114111 then 4 else 0
theorem sizeF_zero (r : Int) : sizeF r = 0 ↔ letter r = false := by
  unfold sizeF letter
  rw [decide_eq_false_iff_not]
  by_cases h1 : 0 ≤ r ∧ r ≤ 127
  · rw [if_pos h1]; omega
  · by_cases h2 : 128 ≤ r ∧ r ≤ 2047
    · rw [if_neg h1, if_pos h2]; omega
    · by_cases h3 : 55296 ≤ r ∧ r ≤ 57343
      · rw [if_neg h1, if_neg h2, if_pos h3]; omega
      · by_cases h4 : 2048 ≤ r ∧ r ≤ 65535
        · rw [if_neg h1, if_neg h2, if_neg h3, if_pos h4]; omega
        · by_cases h5 : 65536 ≤ r ∧ r ≤ 1114111
          · rw [if_neg h1, if_neg h2, if_neg h3, if_neg h4, if_pos h5]; omega
          · rw [if_neg h1, if_neg h2, if_neg h3, if_neg h4, if_neg h5]; omega

set_option maxHeartbeats 1000000 in
theorem specSize (r : Int) (w : World) : Calls Try.prog 46 #[.int .i64 r] w fun e w' => e = .returned (.int .i64 (sizeF r)) ∧ w' = w := by
  go_enter Try.func46, Try.ntmps46
  go_wp2_with (go_at_call 33; refine (specIn _ _ _ _).mono ?_; rintro e w' ⟨rfl, rfl⟩)
  all_goals (go_ret; refine ⟨retInt ?_, rfl⟩)
  all_goals (try simp only [beq_iff_eq, beq_eq_false_iff_ne, ne_eq, inB, decide_eq_true_eq, decide_eq_false_iff_not] at *)
  all_goals (unfold sizeF)
  all_goals (repeat (first | rfl | rw [if_pos (by omega)] | rw [if_neg (by omega)]))

theorem okF_all {z : Nat → Int} {n : Nat} (h : ∀ j, j < n → letter (z j) = true) : okF z n = decide (n ≤ 80) := by
  have : allB (fun j => letter (z j)) n = true := (allB_iff _ _).2 h
  simp [okF, this]
theorem okF_no {z : Nat → Int} {n k : Nat} (hk : k < n) (h : letter (z k) = false) : okF z n = false := by
  simp [okF, allB_false (p := fun j => letter (z j)) hk h]
theorem okF_long {z : Nat → Int} {n : Nat} (h : 80 < n) : okF z n = false := by
  simp [okF]; omega
theorem okF_len {z : Nat → Int} {n : Nat} (h : okF z n = true) : n ≤ 80 := by
  simp [okF] at h; omega
theorem okF_get {z : Nat → Int} {n : Nat} (h : okF z n = true) {j : Nat} (hj : j < n) : letter (z j) = true := by
  simp only [okF, Bool.and_eq_true] at h; exact (allB_iff _ _).1 h.2 j hj
theorem letter_bounds {r : Int} (h : letter r = true) : 0 ≤ r ∧ r ≤ 1114111 := by
  simp [letter] at h; omega

set_option maxHeartbeats 1000000 in
theorem specOk (v : Value) (l : List Int) (w : World) (hv : Arg w v l) (hl : l.length ≤ 4194304) :
    Calls Try.prog 25 #[v] w fun e w' => e = .returned (.bool (okF (fn l) l.length)) ∧ w' = w := by
  rcases hv with ⟨a0, c0, rfl, rfl⟩ | ⟨b, off, cap, rfl, hb, hlc, hcm, hat⟩
  · go_enter Try.func25, Try.ntmps25
    go_wp2
    go_rounds 1
    go_ret
    exact ⟨rfl, rfl⟩
  · obtain ⟨n, hn⟩ : ∃ n, l.length = n := ⟨_, rfl⟩
    rw [hn] at hl ⊢
    go_enter Try.func25, Try.ntmps25
    go_wp2
    go_loop [3] (fun i => ∃ k : Nat, k ≤ n ∧ i = .int .i64 k ∧ Hid (∀ j, j < k → letter (fn l j) = true)) (fun i => n - (intOf i).toNat)
    case atStart => exact ⟨0, Nat.zero_le _, rfl, fun j hj => by omega⟩
    case round =>
      obtain ⟨k, hk, rfl, hok⟩ := hrel
      by_cases hlt : k < n
      · have hcell : w.cell? ⟨b, off + k, none⟩ = some (.int .i64 (fn l k)) := hat k (by omega)
        by_cases hq : letter (fn l k) = true
        · have hs : (sizeF (fn l k) == 0) = false := by
            rw [beq_eq_false_iff_ne]; intro h; rw [sizeF_zero, hq] at h; cases h
          go_wp2_with (go_at_call 46; refine (specSize _ _).mono ?_; rintro e w' ⟨rfl, rfl⟩)
          go_round
          case rel =>
            refine ⟨k + 1, by omega, by go_num, fun j hj => ?_⟩
            by_cases ej : j = k
            · subst ej; exact hq
            · exact hok.out j (by omega)
          case measure => simp only [intOf]; omega
        · have hs : (sizeF (fn l k) == 0) = true := by
            rw [beq_iff_eq, sizeF_zero]; simpa using hq
          go_wp2_with (go_at_call 46; refine (specSize _ _).mono ?_; rintro e w' ⟨rfl, rfl⟩)
          go_ret
          exact ⟨retBool (okF_no hlt (by simpa using hq)).symm, rfl⟩
      · have e : k = n := by omega
        subst e
        go_wp2
        go_ret
        refine ⟨retBool ?_, rfl⟩
        rw [okF_all hok.out]
        first | rfl | (congr 1; simp; omega)

set_option maxHeartbeats 1000000 in
theorem implOk (v : Value) (l : List Int) (w : World) (hv : Arg w v l) (hl : l.length ≤ 4194304) :
    Calls Try.prog 28 #[v] w fun e w' => e = .returned (.bool (okF (fn l) l.length)) ∧ w' = w := by
  rcases hv with ⟨a0, c0, rfl, rfl⟩ | ⟨b, off, cap, rfl, hb, hlc, hcm, hat⟩
  · go_enter Try.func28, Try.ntmps28
    go_wp2
    go_rounds 1
    go_ret
    exact ⟨rfl, rfl⟩
  · obtain ⟨n, hn⟩ : ∃ n, l.length = n := ⟨_, rfl⟩
    rw [hn] at hl ⊢
    by_cases h80 : 80 < n
    · go_enter Try.func28, Try.ntmps28
      go_wp2
      go_ret
      exact ⟨retBool (okF_long h80).symm, rfl⟩
    · go_enter Try.func28, Try.ntmps28
      go_wp2
      go_loop [10] (fun i => ∃ k : Nat, k ≤ n ∧ i = .int .i64 k ∧ Hid (∀ j, j < k → letter (fn l j) = true)) (fun i => n - (intOf i).toNat)
      case atStart => exact ⟨0, Nat.zero_le _, rfl, fun j hj => by omega⟩
      case round =>
        obtain ⟨k, hk, rfl, hok⟩ := hrel
        by_cases hlt : k < n
        · have hcell : w.cell? ⟨b, off + k, none⟩ = some (.int .i64 (fn l k)) := hat k (by omega)
          go_wp2
          all_goals first
            | (go_ret; exact ⟨retBool (okF_no hlt (by simp only [letter, decide_eq_false_iff_not]; omega)).symm, rfl⟩)
            | (refine ⟨⟨k + 1, by omega, by go_num, fun j hj => ?_⟩, by simp only [intOf]; omega⟩
               by_cases ej : j = k
               · subst ej; simp only [letter, decide_eq_true_eq]; omega
               · exact hok.out j (by omega))
        · have e : k = n := by omega
          subst e
          go_wp2
          go_ret
          refine ⟨retBool ?_, rfl⟩
          rw [okF_all hok.out]
          simp; omega
end Go.Proofs.Ytkdmfjnaajedhaa
