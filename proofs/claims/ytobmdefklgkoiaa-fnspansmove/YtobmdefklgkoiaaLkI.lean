import Derived.Test.YtobmdefklgkoiaaLkMath
import Derived.Test.YtobmdefklgkoiaaGrow
import Derived.Test.YtobmdefklgkoiaaTop
import Derived.Deep.QuietTactic
import Derived.BigQuiet
import Derived.BigRegion
import Derived.Deep.RegionWith
import Derived.Laws.Rows
import Derived.RangeFuncRecord
namespace Go.Proofs.Ytobmdefklgkoiaa
open Go.ChangeShapes Go.WideShapes Go.ChangeAt Go.RowKit
set_option linter.unusedSimpArgs false

theorem ret_look {f : Func} {p : Tmp} (h : f.results = #[.cell p 71]) (tmps : Array Value) (w : World) (g : Nat) (x y : Int) (T : TypeId) (hp : tmps.getD p undef = .pointer (some ⟨g, 0, none⟩))
    (hg : w.heap[g]? = some (.cells #[.int .i64 x, .int .i64 y] T (0, 0))) : (results f tmps).run Try.prog w = .ok (.agg #[.int .i64 x, .int .i64 y]) w :=
  results_cell_row h tmps w g T _ (0, 0) _ hp hg Try.underlying71 rfl (by kernel_rfl)
theorem lookBase_is (w : World) : Calls Try.prog 49 #[] w fun e w' => e = .returned (.agg #[.int .i64 10, .int .i64 0]) ∧ Below w.heap.size w w' := by
  go_enter Try.func49, Try.ntmps49
  go_wp2_with fail
  refine bodyPost_ret (ret_look rfl _ _ w.heap.size 10 0 _ rfl (World.alloc_heap_new w _)) rfl ⟨rfl, below_new w _⟩
theorem look_is (f t s m : Int) (w : World) : Calls Try.prog 42 #[.agg #[.int .i64 f, .int .i64 t, .int .i64 s, .int .i64 m]] w fun e w' => e = .returned (.agg #[.int .i64 s, .int .i64 m]) ∧ Below w.heap.size w w' := by
  go_enter Try.func42, Try.ntmps42
  go_wp2_with fail
  refine bodyPost_ret (ret_look rfl _ _ (w.heap.size + 1) s m 71 rfl ?_) rfl ⟨rfl, bstep (below_new w _) (below_new _ _)⟩
  have := World.alloc_heap_new (w.alloc (.cells #[.int .i64 f, .int .i64 t, .int .i64 s, .int .i64 m] 32)) (.cells #[.int .i64 s, .int .i64 m] 71)
  rwa [World.size_alloc] at this

theorem grown_none_alloc (w : World) (o : Obj) (row : Option Nat) : w.grownBy (w.alloc o) row := World.grownBy_alloc w o row
theorem grown_drawn {w : World} {o : Obj} {k : Nat} {w2 : World} {row : Option Nat} (h : ((w.alloc o).drewN k).grownBy w2 row) : w.grownBy w2 row :=
  ⟨h.os, h.tape, h.output, by have := h.size; simp at this; omega, fun i hi hne => (h.block i (by simp; omega) hne).trans (Below.heap_alloc w o i hi)⟩
theorem OwnL.alloc {w : World} {v : Value} {l : List Int} {B n : Nat} (h : OwnL w B v n l) (o : Obj) : OwnL (w.alloc o) B v n l := World.ownsRow.alloc h o
theorem OwnL.drewN {w : World} {v : Value} {l : List Int} {B n : Nat} (h : OwnL w B v n l) (m : Nat) : OwnL (w.drewN m) B v n l := h
theorem grown_after {w w1 w2 : World} {row : Option Nat} (h : w.grownBy w1 row) (k : w1.grownBy w2 row) : w.grownBy w2 row :=
  ⟨k.os.trans h.os, k.tape.trans h.tape, k.output.trans h.output, Nat.le_trans h.size k.size, fun i hi hne => (k.block i (Nat.lt_of_lt_of_le hi h.size) hne).trans (h.block i hi hne)⟩

set_option maxHeartbeats 2000000 in
theorem with_is (B : Nat) (v : Value) (R : Runs) (a b : Int) (k : Int) (w : World) (h : OwnL w B v R.length (flatL R)) (hB : B ≤ w.heap.size) (hl : R.length ≤ 1000) (hc : cntR R ≤ 1000000) (hk : k ≤ 1000000) :
    Calls Try.prog 41 #[v, .agg #[.int .i64 a, .int .i64 b], .int .i64 k] w fun e w' => ∃ v', e = .returned v' ∧ OwnL w' B v' (withR R (a, b) k.toNat).length (flatL (withR R (a, b) k.toNat)) ∧ w.grownBy w' v.ownBlock := by
  by_cases h0 : k ≤ 0
  · rw [show k.toNat = 0 by omega, with_zero]
    go_enter Try.func41, Try.ntmps41
    go_wp2_with fail
    go_ret
    exact ⟨_, rfl, h.alloc _, grown_none_alloc _ _ _⟩
  · obtain ⟨n, rfl⟩ : ∃ n : Nat, k = (n : Int) := ⟨k.toNat, by omega⟩
    rw [Int.toNat_natCast]
    have hn : 0 < n := by omega
    rcases List.eq_nil_or_concat R with rfl | ⟨P, ⟨⟨c, d⟩, m⟩, rfl⟩
    · rw [with_nil hn]
      replace h : OwnL w B v 0 [] := h
      have H : Hid _ := h
      rcases h.forms with ⟨rfl, _⟩ | ⟨g, cap, rfl, hg1, hg2, hg3, hg4⟩
      · clear h
        go_enter Try.func41, Try.ntmps41
        go_wp2_with fail
        go_quiet (fail)
        go_wp2_with (at_builtin; refine own_appendLk (.tmp 35) (.tmp 39) (OwnL.drewN (OwnL.alloc H.out _) _) (by omega) (by simp; omega) rfl rfl rfl _ rfl (by simp) ?_; intro v9 w9 hown9 hgr9)
        go_ret
        exact ⟨_, rfl, hown9, grown_drawn hgr9⟩
      · clear h
        go_enter Try.func41, Try.ntmps41
        go_wp2_with fail
        go_quiet (fail)
        go_wp2_with (at_builtin; refine own_appendLk (.tmp 35) (.tmp 39) (OwnL.drewN (OwnL.alloc H.out _) _) (by omega) (by simp; omega) rfl rfl rfl _ rfl (by simp) ?_; intro v9 w9 hown9 hgr9)
        go_ret
        exact ⟨_, rfl, hown9, grown_drawn hgr9⟩
    · rw [List.concat_eq_append] at h hl hc ⊢
      rw [cnt_app] at hc
      have hcm : (m : Int) ≤ 1000000 := by simp [cntR] at hc; omega
      rw [List.length_append] at hl h
      rw [show [((c, d), m)].length = 1 from rfl] at hl h
      obtain ⟨N, hN⟩ : ∃ N, P.length = N := ⟨_, rfl⟩
      obtain ⟨e0, e1, e2⟩ := fn_last P (c, d) m
      rw [hN] at h hl e0 e1 e2
      obtain ⟨g, cap, rfl⟩ := h.form1
      have c0 := (h.alloc (.cells #[.int .i64 a, .int .i64 b] 71)).cell (N * 3) (by omega)
      have c1 := (h.alloc (.cells #[.int .i64 a, .int .i64 b] 71)).cell (N * 3 + 1) (by omega)
      have c2 := (h.alloc (.cells #[.int .i64 a, .int .i64 b] 71)).cell (N * 3 + 2) (by omega)
      have f2 := (h.alloc (.cells #[.int .i64 a, .int .i64 b] 71)).frozen (N * 3 + 2)
      rw [e0] at c0
      rw [e1] at c1
      rw [e2] at c2
      have H : Hid _ := h
      have hNi : (N : Int) ≤ 1000 := by simp at hl; omega
      clear h e0 e1 e2
      by_cases he : (c, d) = (a, b)
      · cases he
        rw [with_same hn]
        go_enter Try.func41, Try.ntmps41
        go_wp2_with fail
        go_quiet (fail)
        go_wp2_with fail
        go_ret
        refine ⟨_, rfl, ?_, ?_⟩
        · have h5 := OwnL.stored (OwnL.alloc H.out (.cells #[.int .i64 a, .int .i64 b] 71)) (N * 3 + 2) ((m : Int) + (n : Int))
          rw [← hN, flatL_last] at h5
          rw [List.length_append, ← hN]
          exact h5
        · exact grown_after (grown_none_alloc _ _ _) ⟨rfl, rfl, rfl, by simp, fun i _ hne => heap_setCell_other _ ⟨g, N * 3 + 2, none⟩ i _ (fun e => hne (by rw [show i = g from e]; rfl))⟩
      · rw [with_other hn he]
        by_cases hca : c = a
        · subst hca
          have hdb : (d == b) = false := by simpa using fun e => he (by rw [e])
          go_enter Try.func41, Try.ntmps41
          go_wp2_with fail
          go_quiet (fail)
          go_wp2_with (at_builtin; refine own_appendLk (.tmp 35) (.tmp 39) (OwnL.drewN (OwnL.alloc H.out _) _) (by omega) (by simp; omega) rfl rfl rfl _ rfl (by simp) ?_; intro v9 w9 hown9 hgr9)
          go_ret
          refine ⟨_, rfl, ?_, grown_drawn hgr9⟩
          rw [List.length_append, List.length_append, hN, flatL_app]
          exact hown9
        · have hcb : (c == a) = false := by simpa using hca
          go_enter Try.func41, Try.ntmps41
          go_wp2_with fail
          go_quiet (fail)
          go_wp2_with (at_builtin; refine own_appendLk (.tmp 35) (.tmp 39) (OwnL.drewN (OwnL.alloc H.out _) _) (by omega) (by simp; omega) rfl rfl rfl _ rfl (by simp) ?_; intro v9 w9 hown9 hgr9)
          go_ret
          refine ⟨_, rfl, ?_, grown_drawn hgr9⟩
          rw [List.length_append, List.length_append, hN, flatL_app]
          exact hown9
end Go.Proofs.Ytobmdefklgkoiaa
