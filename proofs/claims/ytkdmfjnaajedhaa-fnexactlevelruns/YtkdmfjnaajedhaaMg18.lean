import Derived.Test.YtkdmfjnaajedhaaMg2
namespace Go.Proofs.Ytkdmfjnaajedhaa
open Go.ChangeShapes Go.WideShapes Go.ChangeAt Go.RowKit
set_option linter.unusedSimpArgs false

theorem infoInt : (Try.prog.info? 3).map (fun i => (i.zero, i.size, i.bytes)) = some (some (.int .i64 0), 1, 8) := by kernel_rfl

theorem made_own {w : World} {B g n : Nat} (h : w.ownsRow B 3 1 (.slice (some ⟨g, 0, none⟩) n n) n (madeCells (Value.cells (.int .i64 0)) (n * 1)).toList) :
    OwnI w B (.slice (some ⟨g, 0, none⟩) n n) (List.replicate n 0) := by
  have e : (madeCells (Value.cells (.int .i64 0)) (n * 1)).toList = (List.replicate n (0 : Int)).map (Value.int .i64) := by
    rw [Nat.mul_one, show Value.cells (.int .i64 0) = #[.int .i64 0] from rfl, toList_madeCells_one]; simp
  rw [e] at h
  unfold OwnI
  rw [List.length_replicate]
  exact h

set_option maxHeartbeats 2000000 in
theorem toInt_any (v : Value) (l : List Int) (w : World) (hv : Arg w v l) (hl : l.length ≤ 1048576) :
    Calls Try.prog 7 #[v] w fun e w' => (∃ g, e = .returned (.slice (some ⟨g, 0, none⟩) l.length l.length) ∧ OwnI w' w.heap.size (.slice (some ⟨g, 0, none⟩) l.length l.length) l) ∧ Below w.heap.size w w' := by
  obtain ⟨i0, hi, hz0, hz1, hz2⟩ := info_parts infoInt
  rcases hv with ⟨a0, c0, rfl, rfl⟩ | ⟨b, off, cap, rfl, hb, hlc, hcm, hat⟩
  · go_enter Try.func7, Try.ntmps7
    go_wp2_with (first | (at_make; refine wpList_make_full _ rfl _ _ 22 rfl w.heap.size 3 i0 (.int .i64 0) 1 Try.underlying22 hi hz0 hz1 _ _ _ _ 0 rfl rfl rfl rfl (by omega) (by unfold maxLen; omega) (Nat.le_refl _) ?_; intro w1 hown hgrow))
    go_rounds 1
    go_ret
    exact ⟨⟨_, rfl, made_own hown⟩, (Below.refl _ _).grown hgrow (Nat.le_refl _) (by simp)⟩
  · generalize hn : l.length = n at *
    go_enter Try.func7, Try.ntmps7
    go_wp2_with (first | (at_make; refine wpList_make_full _ rfl _ _ 22 rfl w.heap.size 3 i0 (.int .i64 0) 1 Try.underlying22 hi hz0 hz1 _ _ _ _ n rfl rfl rfl rfl (by rw [hz2]; omega) (by unfold maxLen; omega) (Nat.le_refl _) ?_; intro w1 hown hgrow))
    have hB : Below w.heap.size w w1 := (Below.refl _ _).grown hgrow (Nat.le_refl _) (by simp)
    have ho : OwnI w1 w.heap.size (.slice (some ⟨w.heap.size, 0, none⟩) n n) (List.replicate n 0) := made_own hown
    clear hown hgrow
    go_loopw [4] (fun i wr => ∃ (k : Nat) (l' : List Int), k ≤ n ∧ i = .int .i64 k ∧ OwnI wr w.heap.size (.slice (some ⟨w.heap.size, 0, none⟩) n n) l' ∧ Hid (∀ j, j < k → fn l' j = fn l j) ∧ Below w.heap.size w wr) (fun i _ => n - (intOf i).toNat)
    case atStart => exact ⟨0, _, Nat.zero_le _, rfl, ho, fun j hj => by omega, hB⟩
    case round =>
      obtain ⟨k, l', hk, rfl, hown, hsame, hbel⟩ := hrel
      by_cases hlt : k < n
      · have hcell : wr.cell? ⟨b, off + k, none⟩ = some (.int .i64 (fn l k)) := (hbel.cell (p := ⟨b, off + k, none⟩) hb).trans (hat k (by omega))
        have hf : wr.frozen? ⟨w.heap.size, k, none⟩ = false := hown.frozenN k
        have hc2 : wr.cell? ⟨w.heap.size, k, none⟩ = some (.int .i64 (fn l' k)) := hown.cellN k hlt
        go_wp2
        go_roundw
        case rel =>
          refine ⟨k + 1, l'.set k (fn l k), by omega, by go_num, hown.storedN k _, fun j hj => ?_, hbel.setCell (Nat.le_refl _) _⟩
          have e := hown.len
          by_cases ej : j = k
          · subst ej; exact fn_set_same (by omega)
          · rw [fn_set_other (by omega)]; exact hsame.out j (by omega)
        case measure => simp only [intOf]; omega
      · have e : k = n := by omega
        subst e
        go_wp2
        go_ret
        have e := hown.len
        have el : l' = l := ext_fn (by omega) (fun j hj => hsame.out j (by omega))
        rw [el] at hown
        exact ⟨⟨_, rfl, hown⟩, hbel⟩

def eqB (a b : List Int) : Bool := decide (a = b)
theorem eqB_self (a : List Int) : eqB a a = true := by simp [eqB]
theorem eqB_no {a b : List Int} (h : a ≠ b) : eqB a b = false := by simp [eqB, h]

set_option maxHeartbeats 2000000 in
theorem eqInt_any (v1 v2 : Value) (l1 l2 : List Int) (w : World) (h1 : Arg w v1 l1) (h2 : Arg w v2 l2) (hl : l1.length ≤ 4194304) :
    Calls Try.prog 9 #[v1, v2] w fun e w' => e = .returned (.bool (eqB l1 l2)) ∧ ∃ n, w' = w.drewN n := by
  by_cases hn : l1.length = l2.length
  · rcases h1 with ⟨a1, c1, rfl, rfl⟩ | ⟨b, off, cap, rfl, hb, hlc, hcm, hat⟩
    · have e2 : l2 = [] := List.eq_nil_of_length_eq_zero hn.symm
      subst e2
      rcases h2 with ⟨a2, c2, rfl, _⟩ | ⟨b', off', cap', rfl, hb', hlc', hcm', hat'⟩
      all_goals
        go_enter Try.func9, Try.ntmps9
        go_wp2
        go_rounds 1
        go_ret
        exact ⟨rfl, 0, rfl⟩
    · rcases h2 with ⟨a2, c2, rfl, rfl⟩ | ⟨b', off', cap', rfl, hb', hlc', hcm', hat'⟩
      · have e1 : l1 = [] := List.eq_nil_of_length_eq_zero hn
        subst e1
        go_enter Try.func9, Try.ntmps9
        go_wp2
        go_rounds 1
        go_ret
        exact ⟨rfl, 0, rfl⟩
      · obtain ⟨n, hn1⟩ : ∃ n, l1.length = n := ⟨_, rfl⟩
        have hn2 : l2.length = n := by omega
        have hnn : n ≤ 4194304 := by omega
        rw [hn1, hn2]
        clear hn
        go_enter Try.func9, Try.ntmps9
        go_wp2
        go_loopw [5] (fun i wr => ∃ (k m : Nat), k ≤ n ∧ i = .int .i64 k ∧ wr = w.drewN m ∧ Hid (∀ j, j < k → fn l1 j = fn l2 j)) (fun i _ => n - (intOf i).toNat)
        case atStart => exact ⟨0, 0, Nat.zero_le _, rfl, rfl, fun j hj => by omega⟩
        case round =>
          obtain ⟨k, m, hk, rfl, rfl, hsame⟩ := hrel
          by_cases hlt : k < n
          · have hc1 : w.cell? ⟨b, off + k, none⟩ = some (.int .i64 (fn l1 k)) := hat k (by omega)
            have hc2 : w.cell? ⟨b', off' + k, none⟩ = some (.int .i64 (fn l2 k)) := hat' k (by omega)
            have hki : (k : Int) < (n : Int) := by omega
            by_cases hq : fn l1 k = fn l2 k
            · have hq2 : (fn l1 k == fn l2 k) = true := by simpa using hq
              have HQ : Hid _ := hq
              clear hq
              go_wp2
              go_quiet (fail)
              go_wp2
              go_roundw
              case rel =>
                refine ⟨k + 1, _, by omega, by go_num, by first | rfl | rw [World.drewN_drewN], fun j hj => ?_⟩
                by_cases ej : j = k
                · subst ej; exact HQ.out
                · exact hsame.out j (by omega)
              case measure => simp only [intOf]; omega
            · have hq2 : (fn l1 k == fn l2 k) = false := by simpa using hq
              go_wp2
              go_quiet (fail)
              go_wp2
              go_ret
              exact ⟨retBool (eqB_no (fun h => hq (by rw [h]))).symm, _, by first | rfl | rw [World.drewN_drewN]⟩
          · have e : k = n := by omega
            subst e
            go_wp2
            go_ret
            refine ⟨retBool ?_, _, rfl⟩
            rw [ext_fn (l := l1) (r := l2) (by omega) (fun j hj => hsame.out j (by omega)), eqB_self]
  · have hfin := eqB_no (a := l1) (b := l2) (fun h => hn (by rw [h]))
    have HF : Hid _ := hfin
    have hne : ((l1.length : Int) != (l2.length : Int)) = true := by simp; omega
    clear hfin
    rcases h1 with ⟨a1, c1, rfl, e1⟩ | ⟨b, off, cap, rfl, hb, hlc, hcm, hat⟩
    all_goals
      rcases h2 with ⟨a2, c2, rfl, e2⟩ | ⟨b', off', cap', rfl, hb', hlc', hcm', hat'⟩
    · exact absurd (by rw [e1, e2]) hn
    · have hz : ((0 : Int) != (l2.length : Int)) = true := by rw [e1] at hne; exact hne
      clear hne
      go_enter Try.func9, Try.ntmps9
      go_wp2
      go_ret
      exact ⟨retBool HF.out.symm, 0, rfl⟩
    · have hz : ((l1.length : Int) != (0 : Int)) = true := by rw [e2] at hne; exact hne
      clear hne
      go_enter Try.func9, Try.ntmps9
      go_wp2
      go_ret
      exact ⟨retBool HF.out.symm, 0, rfl⟩
    · go_enter Try.func9, Try.ntmps9
      go_wp2
      go_ret
      exact ⟨retBool HF.out.symm, 0, rfl⟩
end Go.Proofs.Ytkdmfjnaajedhaa
namespace Go.Proofs.Ytkdmfjnaajedhaa
open Go.ChangeShapes Go.WideShapes Go.ChangeAt Go.RowKit
set_option linter.unusedSimpArgs false

def marks (k : Int) (n : Nat) : List Int := (List.range n).map fun (j : Nat) => k + (j : Int)
theorem marks_len (k : Int) (n : Nat) : (marks k n).length = n := by simp [marks]
theorem fn_marks {k : Int} {n j : Nat} (h : j < n) : fn (marks k n) j = k + (j : Int) := by simp [fn, marks, h]

set_option maxHeartbeats 2000000 in
theorem mark_any (v : Value) (l : List Int) (B : Nat) (k : Int) (w : World) (hv : OwnI w B v l) (hl : l.length ≤ 1048576) (hk0 : 0 ≤ k) (hk1 : k ≤ 1000000000000) :
    Calls Try.prog 10 #[v, .int .i64 k] w fun e w' => e = .returned (.int .i64 (k + (l.length : Int))) ∧ OwnI w' B v (marks k l.length) ∧ w.grownBy w' v.ownBlock ∧ w'.heap.size = w.heap.size := by
  rcases hv.forms with ⟨rfl, rfl⟩ | ⟨g, cap, rfl, hg, hgw, hlc, hcm, hat⟩
  · go_enter Try.func10, Try.ntmps10
    go_wp2
    go_rounds 1
    go_ret
    exact ⟨retInt (by simp), OwnI.nil _ _, ⟨rfl, rfl, rfl, Nat.le_refl _, fun _ _ _ => rfl⟩, rfl⟩
  · obtain ⟨n, hn⟩ : ∃ n, l.length = n := ⟨_, rfl⟩
    rw [hn] at hv hl ⊢
    clear hat
    go_enter Try.func10, Try.ntmps10
    go_wp2
    go_loopw [1, 5] (fun q i wr => ∃ (m : Nat) (l' : List Int), m ≤ n ∧ i = .int .i64 m ∧ q = .int .i64 (k + (m : Int)) ∧ OwnI wr B (.slice (some ⟨g, 0, none⟩) n cap) l' ∧ Hid (∀ j, j < m → fn l' j = k + (j : Int)) ∧ w.grownBy wr (some g) ∧ Hid (wr.heap.size = w.heap.size)) (fun _ i _ => n - (intOf i).toNat)
    case atStart => exact ⟨0, l, Nat.zero_le _, rfl, by go_num, hv, fun j hj => by omega, ⟨rfl, rfl, rfl, Nat.le_refl _, fun _ _ _ => rfl⟩, rfl⟩
    case round =>
      obtain ⟨m, l', hm, rfl, rfl, hown, hsame, hgr, hsz⟩ := hrel
      by_cases hlt : m < n
      · have hf : wr.frozen? ⟨g, m, none⟩ = false := hown.frozenN m
        have hc2 : wr.cell? ⟨g, m, none⟩ = some (.int .i64 (fn l' m)) := hown.cellN m hlt
        go_wp2
        go_roundw
        case rel =>
          refine ⟨m + 1, l'.set m (k + (m : Int)), by omega, by go_num, by go_num, hown.storedN m _, fun j hj => ?_, ?_, ?_⟩
          · have e := hown.len
            by_cases ej : j = m
            · subst ej; exact fn_set_same (by omega)
            · rw [fn_set_other (by omega)]; exact hsame.out j (by omega)
          · exact ⟨hgr.os, hgr.tape, hgr.output, by simpa using hgr.size, fun i hi hne => (heap_setCell_other wr ⟨g, m, none⟩ i _ (fun e => hne (by rw [e]))).trans (hgr.block i hi hne)⟩
          · show (wr.setCell _ _).heap.size = w.heap.size
            rw [World.size_setCell]; exact hsz.out
        case measure => simp only [intOf]; omega
      · have e : m = n := by omega
        subst e
        go_wp2
        go_ret
        have e := hown.len
        have el : l' = marks k m := ext_fn (by rw [marks_len]; exact e) (fun j hj => by rw [hsame.out j (by omega), fn_marks (by omega)])
        rw [el] at hown
        exact ⟨rfl, hown, hgr, hsz.out⟩
end Go.Proofs.Ytkdmfjnaajedhaa
namespace Go.Proofs.Ytkdmfjnaajedhaa
open Go.ChangeShapes Go.WideShapes Go.ChangeAt Go.RowKit
set_option linter.unusedSimpArgs false

set_option maxHeartbeats 2000000 in
theorem held_any (v : Value) (n : Nat) (k : Int) (w : World) (hv : Arg w v (marks k n)) (hl : n ≤ 1048576) (hk0 : 0 ≤ k) (hk1 : k ≤ 1000000000000) :
    Calls Try.prog 11 #[v, .int .i64 k] w fun e w' => e = .returned (.int .i64 (k + (n : Int))) ∧ w' = w := by
  rcases hv with ⟨a0, c0, rfl, e⟩ | ⟨g, off, cap, rfl, hgw, hlc, hcm, hat⟩
  · have e0 : n = 0 := by have := congrArg List.length e; rw [marks_len] at this; exact this
    subst e0
    go_enter Try.func11, Try.ntmps11
    go_wp2
    go_rounds 1
    go_ret
    exact ⟨retInt (by simp), rfl⟩
  · rw [marks_len] at *
    go_enter Try.func11, Try.ntmps11
    go_wp2
    go_loop [1, 5] (fun q i => ∃ (m : Nat), m ≤ n ∧ i = .int .i64 m ∧ q = .int .i64 (k + (m : Int))) (fun _ i => n - (intOf i).toNat)
    case atStart => exact ⟨0, Nat.zero_le _, rfl, by go_num⟩
    case round =>
      obtain ⟨m, hm, rfl, rfl⟩ := hrel
      by_cases hlt : m < n
      · have hc2 : w.cell? ⟨g, off + m, none⟩ = some (.int .i64 (k + (m : Int))) := by
          rw [hat m (by rw [marks_len]; exact hlt), fn_marks hlt]
        go_wp2
        go_round
        case rel => exact ⟨m + 1, by omega, by go_num, by go_num⟩
        case measure => simp only [intOf]; omega
      · have e : m = n := by omega
        subst e
        go_wp2
        go_ret
        exact ⟨rfl, rfl⟩
end Go.Proofs.Ytkdmfjnaajedhaa
