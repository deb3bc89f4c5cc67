import Derived.Test.YtgojdlbidjnmmaaGreatLvI1
namespace Go.Proofs.YtgojdlbidjnmmaaGreat
open Go.ChangeShapes Go.WideShapes Go.ChangeAt Go.RowKit
set_option linter.unusedSimpArgs false
set_option linter.unusedVariables false

/-- Classes in which brackets get their sides, as they lie in memory. -/
structure BT (w : World) (K gt g n cp : Nat) (bf o : Int) (td x : List Int) : Prop where
  lt : K < w.heap.size
  c0 : w.cell? ⟨K, 0, none⟩ = some (.slice (some ⟨gt, 0, none⟩) n n)
  c1 : w.cell? ⟨K, 1, none⟩ = some (.slice (some ⟨g, 0, none⟩) n cp)
  c2 : w.cell? ⟨K, 2, none⟩ = some (.int .i64 bf)
  c3 : w.cell? ⟨K, 3, none⟩ = some (.int .i64 o)
  ot : OwnI w 0 (.slice (some ⟨gt, 0, none⟩) n n) td
  ox : OwnI w 0 (.slice (some ⟨g, 0, none⟩) n cp) x
  n1 : g ≠ gt
  n2 : g ≠ K
theorem grownB_set (w : World) (g j : Nat) (v : Value) : w.grownBy (w.setCell ⟨g, j, none⟩ v) (some g) :=
  ⟨rfl, rfl, rfl, by rw [World.size_setCell]; exact Nat.le_refl _, fun k _ hk => heap_setCell_other w ⟨g, j, none⟩ k v (fun e => hk (by simp at e; rw [e]))⟩
theorem grownB_tr {a b c : World} {row : Option Nat} (h : a.grownBy b row) (k : b.grownBy c row) : a.grownBy c row :=
  ⟨k.os.trans h.os, k.tape.trans h.tape, k.output.trans h.output, Nat.le_trans h.size k.size, fun j hj hne => (k.block j (Nat.lt_of_lt_of_le hj h.size) hne).trans (h.block j hj hne)⟩
theorem grownB_refl (w : World) (row : Option Nat) : w.grownBy w row := ⟨rfl, rfl, rfl, Nat.le_refl _, fun _ _ _ => rfl⟩
theorem grownB_draws (w : World) (q : Nat) (row : Option Nat) : w.grownBy (w.drewN q) row := ⟨rfl, rfl, rfl, Nat.le_refl _, fun _ _ _ => rfl⟩
section
variable {w : World} {K gt g n cp : Nat} {bf o : Int} {td x : List Int}
theorem BT.below {w' : World} (h : BT w K gt g n cp bf o td x) (hb : Below w.heap.size w w') : BT w' K gt g n cp bf o td x := by
  have e : ∀ j, w'.cell? ⟨K, j, none⟩ = w.cell? ⟨K, j, none⟩ := fun j => World.cell?_of_block (hb.block K h.lt)
  exact ⟨Nat.lt_of_lt_of_le h.lt hb.size, (e 0).trans h.c0, (e 1).trans h.c1, (e 2).trans h.c2, (e 3).trans h.c3, h.ot.below hb, h.ox.below hb, h.n1, h.n2⟩
theorem BT.drewN (h : BT w K gt g n cp bf o td x) (q : Nat) : BT (w.drewN q) K gt g n cp bf o td x := h.below (below_draws w q)
theorem BT.set (h : BT w K gt g n cp bf o td x) (j : Nat) (y : Int) : BT (w.setCell ⟨g, j, none⟩ (.int .i64 y)) K gt g n cp bf o td (x.set j y) := by
  have hb : ∀ c, c ≠ g → (w.setCell ⟨g, j, none⟩ (.int .i64 y)).heap[c]? = w.heap[c]? := fun c hc => heap_setCell_other w ⟨g, j, none⟩ c _ hc
  have e : ∀ q, (w.setCell ⟨g, j, none⟩ (.int .i64 y)).cell? ⟨K, q, none⟩ = w.cell? ⟨K, q, none⟩ := fun q => World.cell?_of_block (hb K (fun e => h.n2 e.symm))
  exact ⟨by rw [World.size_setCell]; exact h.lt, (e 0).trans h.c0, (e 1).trans h.c1, (e 2).trans h.c2, (e 3).trans h.c3, h.ot.kept (fun k hk => by simp [Value.ownBlock] at hk; subst hk; exact hb _ (fun e => h.n1 e.symm)), h.ox.storedN j y, h.n1, h.n2⟩
theorem BT.xlen (h : BT w K gt g n cp bf o td x) : x.length = n := h.ox.len
theorem BT.tlen (h : BT w K gt g n cp bf o td x) : td.length = n := h.ot.len
end

set_option maxHeartbeats 1000000 in
theorem implAhead (at_ : Nat) {K gt g n cp : Nat} {bf o : Int} {td x : List Int} (w : World) (h : BT w K gt g n cp bf o td x) (hn : n ≤ 1000) (ha : at_ ≤ n) :
    Calls Tryz.prog 110 #[.pointer (some ⟨K, 0, none⟩), .int .i64 (at_ : Int)] w fun e w' => e = .returned (.int .i64 (shA (fn x) bf at_)) ∧ w' = w := by
  have c1 := h.c1
  have c2 := h.c2
  have HX : Hid (∀ j, j < n → w.cell? ⟨g, j, none⟩ = some (.int .i64 (fn x j))) := fun j hj => h.ox.cellN j hj
  clear h
  go_enter Tryz.func110, Tryz.ntmps110
  go_wp2_with fail
  go_loop [1] (fun z => ∃ k : Nat, z = .int .i64 ((k : Int) - 1) ∧ k ≤ at_ ∧ Hid (shA (fn x) bf at_ = shA (fn x) bf k)) (fun z => (intOf z + 1).toNat)
  case atStart => exact ⟨at_, by first | rfl | (congr 1), Nat.le_refl _, rfl⟩
  case round =>
    obtain ⟨k, rfl, hk, he⟩ := hrel
    cases k with
    | zero =>
      go_wp2_with fail
      go_ret
      exact ⟨retInt he.out.symm, rfl⟩
    | succ k =>
      rw [show ((k + 1 : Nat) : Int) - 1 = (k : Int) by omega]
      have hkn : (k : Int) < (n : Int) := by omega
      have cx := HX.out k (by omega)
      obtain ⟨y, hy⟩ : ∃ y, fn x k = y := ⟨_, rfl⟩
      rw [hy] at cx
      obtain ⟨z, hz⟩ : ∃ z, like y = z := ⟨_, rfl⟩
      have he2 : Hid (shA (fn x) bf at_ = if z = 0 then shA (fn x) bf k else z) := by unfold Hid; rw [he.out]; simp only [shA, hy, hz]
      have HLK : Hid (∀ W, Calls Tryz.prog 109 #[.int .i64 y] W fun e w' => e = .returned (.int .i64 z) ∧ w' = W) := fun W => by rw [← hz]; exact implLike y W
      clear he hy hz
      by_cases h0 : z = 0
      · have hzb : (z == 0) = true := by simpa using h0
        go_wp2_with (go_at_call 109; refine (HLK.out _).mono ?_; rintro e w1 ⟨rfl, hw1⟩; rw [hw1]; clear hw1 w1)
        go_round
        case rel => exact ⟨k, by first | rfl | (congr 1), by omega, by unfold Hid; rw [he2.out, if_pos h0]⟩
        case measure => simp only [intOf]; omega
      · have hzb : (z == 0) = false := by simpa using h0
        go_wp2_with (go_at_call 109; refine (HLK.out _).mono ?_; rintro e w1 ⟨rfl, hw1⟩; rw [hw1]; clear hw1 w1)
        go_ret
        exact ⟨retInt (by rw [he2.out, if_neg h0]), rfl⟩

set_option maxHeartbeats 1000000 in
theorem implGive (at_ : Nat) (s : Int) {K gt g n cp : Nat} {bf o : Int} {td x : List Int} (w : World) (h : BT w K gt g n cp bf o td x) (hn : n ≤ 1000) (ha : at_ < n) :
    Calls Tryz.prog 111 #[.pointer (some ⟨K, 0, none⟩), .int .i64 (at_ : Int), .int .i64 s] w fun e w' => e = .returned (.tuple #[]) ∧ BT w' K gt g n cp bf o td (giveL (fn td) n s x at_) ∧ w.grownBy w' (some g) := by
  have c1 := h.c1
  have HB : Hid (BT w K gt g n cp bf o td x) := h
  have hai : (at_ : Int) < (n : Int) := by omega
  have cx := h.ox.cellN at_ ha
  have fx : w.frozen? ⟨g, at_, none⟩ = false := h.ox.frozenN at_
  clear h
  go_enter Tryz.func111, Tryz.ntmps111
  go_wp2_with fail
  go_loopw [1] (fun z wr => ∃ m : Nat, z = .int .i64 ((at_ + 1 + m : Nat) : Int) ∧ at_ + 1 + m ≤ n ∧ Hid (∀ i, i < m → fn td (at_ + 1 + i) = 9) ∧ Hid (BT wr K gt g n cp bf o td (setSeg x s at_ (1 + m))) ∧ Hid (w.grownBy wr (some g))) (fun z _ => n - (intOf z).toNat)
  case atStart => exact ⟨0, by go_num, by omega, fun i hi => by omega, HB.out.set at_ s, grownB_set _ _ _ _⟩
  case round =>
    obtain ⟨m, rfl, hm, h9, hBT, hgr⟩ := hrel
    have d0 := hBT.out.c0
    have d1 := hBT.out.c1
    obtain ⟨p, hp⟩ : ∃ p, at_ + 1 + m = p := ⟨_, rfl⟩
    rw [hp] at hm ⊢
    have HP : Hid (at_ + 1 + m = p) := hp
    clear hp
    by_cases hlt : p < n
    · have hpi : (p : Int) < (n : Int) := by omega
      have ct := hBT.out.ot.cellN p hlt
      obtain ⟨t, ht⟩ : ∃ t, fn td p = t := ⟨_, rfl⟩
      rw [ht] at ct
      have HT : Hid (fn td p = t) := ht
      clear ht
      by_cases h : t = 9
      · subst h
        have cy := hBT.out.ox.cellN p hlt
        have fy : wr.frozen? ⟨g, p, none⟩ = false := hBT.out.ox.frozenN p
        have hN : Hid (BT (wr.setCell ⟨g, p, none⟩ (.int .i64 s)) K gt g n cp bf o td (setSeg x s at_ (1 + (m + 1)))) := by
          unfold Hid
          rw [show 1 + (m + 1) = (1 + m) + 1 by omega]
          simp only [setSeg]
          rw [show at_ + (1 + m) = p by have := HP.out; omega]
          exact hBT.out.set p s
        go_wp2_with fail
        go_roundw
        case rel =>
          refine ⟨m + 1, by rw [show at_ + 1 + (m + 1) = p + 1 by have := HP.out; omega]; go_num, by have := HP.out; omega, fun i hi => ?_, hN, grownB_tr hgr.out (grownB_set _ _ _ _)⟩
          by_cases e : i = m
          · subst e; rw [HP.out]; exact HT.out
          · exact h9.out i (by omega)
        case measure => simp only [intOf]; omega
      · have htb : (t == 9) = false := by simpa using h
        have hfin : Hid (giveL (fn td) n s x at_ = setSeg x s at_ (1 + m)) := by
          unfold Hid giveL
          rw [k9F_is (n - (at_ + 1)) (at_ + 1) m (by have := HP.out; omega) h9.out (.inr (by rw [HP.out, HT.out]; exact h))]
        go_wp2_with fail
        go_end0
        exact ⟨rfl, by rw [hfin.out]; exact hBT.out, hgr.out⟩
    · have hpn : p = n := by omega
      subst hpn
      have hfin : Hid (giveL (fn td) p s x at_ = setSeg x s at_ (1 + m)) := by
        unfold Hid giveL
        rw [k9F_is (p - (at_ + 1)) (at_ + 1) m (by have := HP.out; omega) h9.out (.inl (by have := HP.out; omega))]
      go_wp2_with fail
      go_end0
      exact ⟨rfl, by rw [hfin.out]; exact hBT.out, hgr.out⟩
end Go.Proofs.YtgojdlbidjnmmaaGreat
