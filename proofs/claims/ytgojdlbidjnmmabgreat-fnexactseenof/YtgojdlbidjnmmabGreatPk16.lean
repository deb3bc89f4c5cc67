import Derived.Lib.SliceRun
import Derived.Deep.RegionWith
import Derived.Deep.DrawnRows
import Derived.Test.YtgojdlbidjnmmabGreatPk9
import Derived.Test.YtgojdlbidjnmmabGreatPk15
import Derived.Test.YtgojdlbidjnmmabGreatPk11
import Derived.Test.YtgojdlbidjnmmabGreatPk14
import Derived.Test.YtgojdlbidjnmmabGreatPk12
namespace Go.Proofs.YtgojdlbidjnmmabGreat
open Go.ChangeShapes Go.WideShapes Go.ChangeAt Go.RowKit
set_option linter.unusedSimpArgs false

set_option maxHeartbeats 1000000 in
theorem clone_row (b off n cap : Nat) (l : List Int) (w : World) (hn : l.length = n) (hl : n ≤ 1048576) (hat : At w b off l) (hb : b < w.heap.size) :
    Calls Tryz.prog 24 #[.slice (some ⟨b, off, none⟩) n cap] w fun e w' => (∃ v', e = .returned v' ∧ OwnI w' w.heap.size v' l) ∧ Below w.heap.size w w' := by
  have HN : Hid _ := hn
  clear hn
  have hnil := fun (w : World) (a : Option Addr) (n c : Nat) => Lib.run_eql_slice_nil (P := Tryz.prog) w 22 3 a n c 0 0 Tryz.underlying22
  go_enter Tryz.func24, Tryz.ntmps24
  have ho := own_empty w w.heap.size 3 (Nat.le_refl _) rfl
  have hat2 : At (w.alloc (.cells #[] 3)) b off l := hat.below (B := w.heap.size) ((Below.refl _ _).alloc (Nat.le_refl _) _) hb
  go_wp2_with (at_builtin; refine own_appendAll (.tmp 5) (.tmp 6) ho HN.out (by simp; omega) (by simp) hat2 rfl rfl rfl rfl ?_; intro v5 w5 hown5 hgr5)
  go_ret
  refine ⟨⟨_, rfl, by simpa using hown5⟩, ?_⟩
  refine ((Below.refl _ _).alloc (Nat.le_refl _) _).grown hgr5 (by simp) (fun k hk => ?_)
  simp [Value.ownBlock] at hk
  omega

set_option maxHeartbeats 1000000 in
theorem clone_any (v : Value) (l : List Int) (w : World) (hv : Arg w v l) (hl : l.length ≤ 1048576) :
    Calls Tryz.prog 24 #[v] w fun e w' => (∃ v', e = .returned v' ∧ OwnI w' w.heap.size v' l) ∧ Below w.heap.size w w' := by
  rcases hv with ⟨a, cap, rfl, rfl⟩ | ⟨b, off, cap, rfl, hb, hlc, hcm, hat⟩
  · cases a with
    | none =>
      have hnil := fun (w : World) (a : Option Addr) (n c : Nat) => Lib.run_eql_slice_nil (P := Tryz.prog) w 22 3 a n c 0 0 Tryz.underlying22
      go_enter Tryz.func24, Tryz.ntmps24
      go_wp2
      go_ret
      exact ⟨⟨_, rfl, OwnI.nil _ _⟩, Below.refl _ _⟩
    | some ad =>
      have hnil := fun (w : World) (a : Option Addr) (n c : Nat) => Lib.run_eql_slice_nil (P := Tryz.prog) w 22 3 a n c 0 0 Tryz.underlying22
      go_enter Tryz.func24, Tryz.ntmps24
      have ho := own_empty w w.heap.size 3 (Nat.le_refl _) rfl
      go_wp2
      go_ret
      exact ⟨⟨_, rfl, ho⟩, by go_grown⟩
  · exact clone_row b off l.length cap l w rfl hl hat hb
end Go.Proofs.YtgojdlbidjnmmabGreat
namespace Go.Proofs.YtgojdlbidjnmmabGreat
open Go.ChangeShapes Go.WideShapes Go.ChangeAt Go.RowKit
set_option linter.unusedSimpArgs false

def stg (l : List Int) (b : Int) : Nat → List Int
  | 0 => l
  | 1 => r1 l b
  | 2 => r2 (r1 l b) b
  | 3 => r3 (r2 (r1 l b) b)
  | 4 => r4 (r3 (r2 (r1 l b) b))
  | 5 => r5 (r4 (r3 (r2 (r1 l b) b)))
  | 6 => r6 (r5 (r4 (r3 (r2 (r1 l b) b))))
  | _ => weakL l b
theorem stg_len (l : List Int) (b : Int) (k : Nat) : (stg l b k).length = l.length := by
  unfold stg; split <;> simp [weakL_len, r6_len, r5_len, r4_len, r3_len, r2_len, r1_len]
theorem no3 (x : List Int) (j : Nat) (hj : j < x.length) : fn (r6 (r5 (r4 (r3 x)))) j ≠ 3 := by
  have e3 : fn (r3 x) j = m3 (fn x) j := fn_mkL hj
  have e4 : fn (r4 (r3 x)) j = m4 (fn (r3 x)) _ j := fn_mkL (by rw [r3_len]; exact hj)
  have e5 : fn (r5 (r4 (r3 x))) j = m5 (fn (r4 (r3 x))) _ j := fn_mkL (by rw [r4_len, r3_len]; exact hj)
  have e6 : fn (r6 (r5 (r4 (r3 x)))) j = m6 (fn (r5 (r4 (r3 x)))) j := fn_mkL (by rw [r5_len, r4_len, r3_len]; exact hj)
  have a4 := m4_is (z := fn (r3 x)) (n := (r3 x).length) (k := j)
  have h3 : fn (r3 x) j ≠ 3 := by rw [e3]; unfold m3; split <;> omega
  rw [← e4] at a4
  have h4 : fn (r4 (r3 x)) j ≠ 3 := by omega
  have h5 : fn (r5 (r4 (r3 x))) j ≠ 3 := by rw [e5]; unfold m5; split <;> omega
  rw [e6]; unfold m6; split <;> omega

/-! No class at all: no rule has a round. -/
structure WT0 (w : World) (R cp : Nat) (a : Option Addr) (b : Int) : Prop where
  c0 : w.cell? ⟨R, 0, none⟩ = some (.slice a 0 cp)
  c1 : w.cell? ⟨R, 1, none⟩ = some (.int .i64 b)
set_option maxHeartbeats 1000000 in
theorem implR1z (R cp : Nat) (a : Option Addr) (b : Int) (w : World) (h : WT0 w R cp a b) : Calls Tryz.prog 102 #[.pointer (some ⟨R, 0, none⟩)] w fun e w' => e = .returned (.tuple #[]) ∧ w' = w := by
  obtain ⟨q0, q1⟩ := h
  go_enter Tryz.func102, Tryz.ntmps102
  go_wp2
  go_rounds 1
  go_end0
  exact ⟨rfl, rfl⟩
set_option maxHeartbeats 1000000 in
theorem implR2z (R cp : Nat) (a : Option Addr) (b : Int) (w : World) (h : WT0 w R cp a b) : Calls Tryz.prog 103 #[.pointer (some ⟨R, 0, none⟩)] w fun e w' => e = .returned (.tuple #[]) ∧ w' = w := by
  obtain ⟨q0, q1⟩ := h
  go_enter Tryz.func103, Tryz.ntmps103
  go_wp2
  go_rounds 1
  go_end0
  exact ⟨rfl, rfl⟩
set_option maxHeartbeats 1000000 in
theorem implR3z (R cp : Nat) (a : Option Addr) (b : Int) (w : World) (h : WT0 w R cp a b) : Calls Tryz.prog 104 #[.pointer (some ⟨R, 0, none⟩)] w fun e w' => e = .returned (.tuple #[]) ∧ w' = w := by
  obtain ⟨q0, q1⟩ := h
  go_enter Tryz.func104, Tryz.ntmps104
  go_wp2
  go_rounds 1
  go_end0
  exact ⟨rfl, rfl⟩
set_option maxHeartbeats 1000000 in
theorem implR4z (R cp : Nat) (a : Option Addr) (b : Int) (w : World) (h : WT0 w R cp a b) : Calls Tryz.prog 105 #[.pointer (some ⟨R, 0, none⟩)] w fun e w' => e = .returned (.tuple #[]) ∧ w' = w := by
  obtain ⟨q0, q1⟩ := h
  go_enter Tryz.func105, Tryz.ntmps105
  go_wp2
  go_rounds 1
  go_end0
  exact ⟨rfl, rfl⟩
set_option maxHeartbeats 1000000 in
theorem implR5z (R cp : Nat) (a : Option Addr) (b : Int) (w : World) (h : WT0 w R cp a b) : Calls Tryz.prog 106 #[.pointer (some ⟨R, 0, none⟩)] w fun e w' => e = .returned (.tuple #[]) ∧ w' = w := by
  obtain ⟨q0, q1⟩ := h
  go_enter Tryz.func106, Tryz.ntmps106
  go_wp2
  go_rounds 1
  go_end0
  exact ⟨rfl, rfl⟩
set_option maxHeartbeats 1000000 in
theorem implR6z (R cp : Nat) (a : Option Addr) (b : Int) (w : World) (h : WT0 w R cp a b) : Calls Tryz.prog 107 #[.pointer (some ⟨R, 0, none⟩)] w fun e w' => e = .returned (.tuple #[]) ∧ w' = w := by
  obtain ⟨q0, q1⟩ := h
  go_enter Tryz.func107, Tryz.ntmps107
  go_wp2
  go_rounds 1
  go_end0
  exact ⟨rfl, rfl⟩
set_option maxHeartbeats 1000000 in
theorem implR7z (R cp : Nat) (a : Option Addr) (b : Int) (w : World) (h : WT0 w R cp a b) : Calls Tryz.prog 108 #[.pointer (some ⟨R, 0, none⟩)] w fun e w' => e = .returned (.tuple #[]) ∧ w' = w := by
  obtain ⟨q0, q1⟩ := h
  go_enter Tryz.func108, Tryz.ntmps108
  go_wp2
  go_rounds 1
  go_end0
  exact ⟨rfl, rfl⟩


theorem store_func {P : Program} {w : World} {a : Addr} {m : Mode} (fn : Fn) (first captured : Array Value) : (store a (.func fn first captured) m).run P w = stored P w a (.func fn first captured) m := run_store P w a _ m rfl
attribute [local go_sem] store_func

theorem index7_0 (w : World) (a0 a1 a2 a3 a4 a5 a6 : Value) : (Instr.index 96 (.agg #[a0, a1, a2, a3, a4, a5, a6]) (.int .i64 0)).run Tryz.prog w = .ok a0 w := by
  simp [Instr.index, run_underlying Tryz.underlying96, asIntOf, part, go_sem]
theorem index7_1 (w : World) (a0 a1 a2 a3 a4 a5 a6 : Value) : (Instr.index 96 (.agg #[a0, a1, a2, a3, a4, a5, a6]) (.int .i64 1)).run Tryz.prog w = .ok a1 w := by
  simp [Instr.index, run_underlying Tryz.underlying96, asIntOf, part, go_sem]
theorem index7_2 (w : World) (a0 a1 a2 a3 a4 a5 a6 : Value) : (Instr.index 96 (.agg #[a0, a1, a2, a3, a4, a5, a6]) (.int .i64 2)).run Tryz.prog w = .ok a2 w := by
  simp [Instr.index, run_underlying Tryz.underlying96, asIntOf, part, go_sem]
theorem index7_3 (w : World) (a0 a1 a2 a3 a4 a5 a6 : Value) : (Instr.index 96 (.agg #[a0, a1, a2, a3, a4, a5, a6]) (.int .i64 3)).run Tryz.prog w = .ok a3 w := by
  simp [Instr.index, run_underlying Tryz.underlying96, asIntOf, part, go_sem]
theorem index7_4 (w : World) (a0 a1 a2 a3 a4 a5 a6 : Value) : (Instr.index 96 (.agg #[a0, a1, a2, a3, a4, a5, a6]) (.int .i64 4)).run Tryz.prog w = .ok a4 w := by
  simp [Instr.index, run_underlying Tryz.underlying96, asIntOf, part, go_sem]
theorem index7_5 (w : World) (a0 a1 a2 a3 a4 a5 a6 : Value) : (Instr.index 96 (.agg #[a0, a1, a2, a3, a4, a5, a6]) (.int .i64 5)).run Tryz.prog w = .ok a5 w := by
  simp [Instr.index, run_underlying Tryz.underlying96, asIntOf, part, go_sem]
theorem index7_6 (w : World) (a0 a1 a2 a3 a4 a5 a6 : Value) : (Instr.index 96 (.agg #[a0, a1, a2, a3, a4, a5, a6]) (.int .i64 6)).run Tryz.prog w = .ok a6 w := by
  simp [Instr.index, run_underlying Tryz.underlying96, asIntOf, part, go_sem]
attribute [local go_sem] index7_0 index7_1 index7_2 index7_3 index7_4 index7_5 index7_6
theorem Ruled.step {w wr w' : World} {B g n cp R : Nat} {b : Int} {L : List Int} (h : Ruled wr w' B g n cp L) (hw : WT wr R g n cp b) (hb : Below w.heap.size w wr) (hg : w.heap.size ≤ g) :
    OwnI w' B (.slice (some ⟨g, 0, none⟩) n cp) L ∧ WT w' R g n cp b ∧ Below w.heap.size w w' :=
  ⟨h.1, hw.kept h.2.1, hb.grown h.2.1 hb.size (fun k hk => by cases hk; exact hg)⟩

set_option maxRecDepth 10000 in
set_option maxHeartbeats 4000000 in
theorem implWeak_row (ba off cap n : Nat) (l : List Int) (b : Int) (w : World) (hn : Hid (l.length = n)) (hn0 : 0 < n) (hl : n ≤ 80) (hlc : n ≤ cap) (hcm : cap ≤ maxLen) (hb : ba < w.heap.size) (hat : At w ba off l) (hok : Hid (clsOk (fn l) n = true)) (h1 : Hid (sideB b = true)) :
    Calls Tryz.prog 80 #[.slice (some ⟨ba, off, none⟩) n cap, .int .i64 b] w fun e w' => (∃ v', e = .returned v' ∧ OwnI w' w.heap.size v' (weakL l b)) ∧ Below w.heap.size w w' := by
  have HA : Arg w (.slice (some ⟨ba, off, none⟩) n cap) l := .inr ⟨ba, off, cap, by rw [hn.out], hb, by rw [hn.out]; exact hlc, hcm, hat⟩
  have HB12 : Hid (b = 1 ∨ b = 2) := by
    show b = 1 ∨ b = 2
    have := h1.out
    unfold sideB at this
    exact of_decide_eq_true this
  go_enter Tryz.func80, Tryz.ntmps80
  go_wp2_with fail
  refine (implCls _ l n w hn.out HA (by omega)).mono ?_
  rintro e w1 ⟨rfl, rfl⟩
  rw [hok.out]
  go_wp2_with fail
  refine (implSide? _ _).mono ?_
  rintro e w2 ⟨rfl, rfl⟩
  rw [h1.out]
  go_wp2_with fail
  refine (clone_row ba off n cap l _ hn.out (by omega) hat hb).mono ?_
  rintro e w4 ⟨⟨v4, rfl, o4⟩, b4⟩
  obtain ⟨g, cp, rfl, hg, hgw, hncp⟩ : ∃ g cp, v4 = .slice (some ⟨g, 0, none⟩) n cp ∧ w2.heap.size ≤ g ∧ g < w4.heap.size ∧ n ≤ cp := by
    rcases o4.forms with ⟨_, e⟩ | ⟨g, cp, e, e1, e2, e3, _⟩
    · exfalso; have := hn.out; rw [e] at this; simp at this; omega
    · rw [hn.out] at e e3; exact ⟨g, cp, e, e1, e2, e3⟩
  have HLEN : Hid (∀ k, (stg l b k).length = n) := fun k => by rw [stg_len, hn.out]
  have HNO : Hid (∀ j, j < n → fn (stg l b 6) j ≠ 3) := fun j hj => no3 _ j (by rw [r2_len, r1_len, hn.out]; exact hj)
  have hs4 := b4.size
  go_wp2_with fail
  go_loopw [38] (fun i wr => ∃ k : Nat, k ≤ 7 ∧ i = .int .i64 k ∧ OwnI wr w2.heap.size (.slice (some ⟨g, 0, none⟩) n cp) (stg l b k) ∧ WT wr w4.heap.size g n cp b ∧ Below w2.heap.size w2 wr) (fun i _ => 7 - (intOf i).toNat)
  case atStart =>
    refine ⟨0, by omega, rfl, ?_, ⟨by simp, by simp, by simp; omega, by omega⟩, ?_⟩
    · exact World.ownsRow.alloc (World.ownsRow.alloc o4 _) _
    · exact (b4.alloc hs4 _).alloc (by simp; omega) _
  case round =>
    obtain ⟨k, hk, rfl, ho, hw, hbel⟩ := hrel
    have HO : Hid _ := ho
    have HW : Hid _ := hw
    have HBEL : Hid _ := hbel
    obtain ⟨q0, q1, q2, q3⟩ := hw
    clear ho hbel o4 b4
    rcases (by omega : k = 0 ∨ k = 1 ∨ k = 2 ∨ k = 3 ∨ k = 4 ∨ k = 5 ∨ k = 6 ∨ k = 7) with rfl | rfl | rfl | rfl | rfl | rfl | rfl | rfl
    · go_wp2_with fail
      refine (implR1 _ g n cp _ b HB12 _ _ HW.out (HLEN.out 0) HO.out hl).mono ?_
      rintro e w' ⟨rfl, hru⟩
      go_wp2_with fail
      obtain ⟨a1, a2, a3⟩ := hru.step HW.out HBEL.out hg
      exact ⟨⟨1, by omega, by go_num, a1, a2, a3⟩, by simp [intOf]⟩
    · go_wp2_with fail
      refine (implR2 _ g n cp _ b _ _ HW.out (HLEN.out 1) HO.out hl).mono ?_
      rintro e w' ⟨rfl, hru⟩
      go_wp2_with fail
      obtain ⟨a1, a2, a3⟩ := hru.step HW.out HBEL.out hg
      exact ⟨⟨2, by omega, by go_num, a1, a2, a3⟩, by simp [intOf]⟩
    · go_wp2_with fail
      refine (implR3 _ g n cp _ b _ _ HW.out (HLEN.out 2) HO.out hl).mono ?_
      rintro e w' ⟨rfl, hru⟩
      go_wp2_with fail
      obtain ⟨a1, a2, a3⟩ := hru.step HW.out HBEL.out hg
      exact ⟨⟨3, by omega, by go_num, a1, a2, a3⟩, by simp [intOf]⟩
    · go_wp2_with fail
      refine (implR4 _ g n cp _ b _ _ HW.out (HLEN.out 3) HO.out hn0 hl).mono ?_
      rintro e w' ⟨rfl, hru⟩
      go_wp2_with fail
      obtain ⟨a1, a2, a3⟩ := hru.step HW.out HBEL.out hg
      exact ⟨⟨4, by omega, by go_num, a1, a2, a3⟩, by simp [intOf]⟩
    · go_wp2_with fail
      refine (implR5 _ g n cp _ b _ _ HW.out (HLEN.out 4) HO.out hl hncp).mono ?_
      rintro e w' ⟨rfl, hru⟩
      go_wp2_with fail
      obtain ⟨a1, a2, a3⟩ := hru.step HW.out HBEL.out hg
      exact ⟨⟨5, by omega, by go_num, a1, a2, a3⟩, by simp [intOf]⟩
    · go_wp2_with fail
      refine (implR6 _ g n cp _ b _ _ HW.out (HLEN.out 5) HO.out hl).mono ?_
      rintro e w' ⟨rfl, hru⟩
      go_wp2_with fail
      obtain ⟨a1, a2, a3⟩ := hru.step HW.out HBEL.out hg
      exact ⟨⟨6, by omega, by go_num, a1, a2, a3⟩, by simp [intOf]⟩
    · go_wp2_with fail
      refine (implR7 _ g n cp _ b _ _ HW.out (HLEN.out 6) HO.out hl HNO).mono ?_
      rintro e w' ⟨rfl, hru⟩
      go_wp2_with fail
      obtain ⟨a1, a2, a3⟩ := hru.step HW.out HBEL.out hg
      exact ⟨⟨7, by omega, by go_num, a1, a2, a3⟩, by simp [intOf]⟩
    · go_wp2_with fail
      go_ret
      exact ⟨⟨_, rfl, HO.out⟩, HBEL.out⟩
end Go.Proofs.YtgojdlbidjnmmabGreat
namespace Go.Proofs.YtgojdlbidjnmmabGreat
open Go.ChangeShapes Go.WideShapes Go.ChangeAt Go.RowKit
set_option linter.unusedSimpArgs false
attribute [local go_sem ↓] Go.wp_at_zero Go.wp_at_succ

/-- How far the row has been done: ahead of f as it shall be, from f on as it was. -/
def doneTo (z : Nat → Int) (n : Nat) (before after lv : Int) (f : Nat) (L : List Int) : Prop :=
  (∀ j, j < f → fn L j = plainAt z n before after lv j) ∧ ∀ j, f ≤ j → j < n → fn L j = z j

theorem done_step {z : Nat → Int} {n : Nat} {before after lv r : Int} {f t : Nat} {L L7 : List Int} (h : doneTo z n before after lv f L) (hft : f ≤ t) (htn : t ≤ n) (hrun : ∀ j, f ≤ j → j < t → noP (z j) = true)
    (hr : among (ahP z before f) (bhP z n after (n - t)) lv = r) (h7 : ∀ j, j < n → fn L7 j = if f ≤ j ∧ j < f + (t - f) then r else fn L j) : doneTo z n before after lv t L7 := by
  refine ⟨fun j hj => ?_, fun j h1 h2 => ?_⟩
  · rw [h7 j (by omega)]
    by_cases e : f ≤ j
    · rw [if_pos (by omega), plain_run htn hrun e hj]; exact hr.symm
    · rw [if_neg (by omega)]; exact h.1 j (by omega)
  · rw [h7 j h2, if_neg (by omega)]; exact h.2 j (by omega) h2

set_option maxHeartbeats 8000000 in
theorem implPlain_row (b off cap n : Nat) (l : List Int) (before after lv : Int) (w : World) (hn : Hid (l.length = n)) (hn0 : 0 < n) (hl : n ≤ 80) (hlc : n ≤ cap) (hcm : cap ≤ maxLen) (hb : b < w.heap.size) (hat : At w b off l) (hok : Hid (clsOk (fn l) n = true)) (h1 : Hid (sideB before = true)) (h2 : Hid (sideB after = true)) (h3 : 0 ≤ lv) (h4 : lv ≤ 22) :
    Calls Tryz.prog 84 #[.slice (some ⟨b, off, none⟩) n cap, .int .i64 before, .int .i64 after, .int .i64 lv] w fun e w' => (∃ v', e = .returned v' ∧ OwnI w' w.heap.size v' (plainL l before after lv)) ∧ Below w.heap.size w w' := by
  have HA : Arg w (.slice (some ⟨b, off, none⟩) n cap) l := .inr ⟨b, off, cap, by rw [hn.out], hb, by rw [hn.out]; exact hlc, hcm, hat⟩
  go_enter Tryz.func84, Tryz.ntmps84
  go_wp2_with fail
  refine (implCls _ l n w hn.out HA (by omega)).mono ?_
  rintro e w1 ⟨rfl, rfl⟩
  rw [hok.out]
  go_wp2_with fail
  refine (implSide? _ _).mono ?_
  rintro e w2 ⟨rfl, rfl⟩
  rw [h1.out]
  go_wp2_with fail
  refine (implSide? _ _).mono ?_
  rintro e w3 ⟨rfl, rfl⟩
  rw [h2.out]
  go_wp2_with fail
  refine (clone_row b off n cap l _ hn.out (by omega) hat hb).mono ?_
  rintro e w4 ⟨⟨v4, rfl, o4⟩, b4⟩
  obtain ⟨g, cp, rfl, hg, hgw, hncp⟩ : ∃ g cp, v4 = .slice (some ⟨g, 0, none⟩) n cp ∧ w3.heap.size ≤ g ∧ g < w4.heap.size ∧ n ≤ cp := by
    rcases o4.forms with ⟨_, e⟩ | ⟨g, cp, e, e1, e2, e3, _⟩
    · exfalso; have := hn.out; rw [e] at this; simp at this; omega
    · rw [hn.out] at e e3; exact ⟨g, cp, e, e1, e2, e3⟩
  go_wp2_with fail
  go_loopw [10, 11] (fun q i wr => ∃ (f : Nat) (L : List Int), f ≤ n ∧ i = .int .i64 f ∧ q = .int .i64 (ahP (fn l) before f) ∧ OwnI wr w3.heap.size (.slice (some ⟨g, 0, none⟩) n cp) L ∧ Hid (doneTo (fn l) n before after lv f L) ∧ Below w3.heap.size w3 wr) (fun _ i _ => n - (intOf i).toNat)
  case atStart => exact ⟨0, l, Nat.zero_le _, rfl, rfl, o4, ⟨fun j hj => by omega, fun j _ _ => rfl⟩, b4⟩
  case round =>
    obtain ⟨f, L, hf, rfl, rfl, hown, hinv, hbel⟩ := hrel
    by_cases hlt : f < n
    · have hcell : ∀ j, f ≤ j → j < n → wr.cell? ⟨g, j, none⟩ = some (.int .i64 (fn l j)) := fun j h1 h2 => by rw [hown.cellN j h2, hinv.out.2 j h1 h2]
      have HC : Hid _ := hcell
      clear hcell
      have c0 := HC.out f (Nat.le_refl _) hlt
      by_cases hq : noP (fn l f) = true
      · have HQ : Hid _ := hq
        clear hq
        go_wp2_with (go_at_call 114; refine (implPlain? _ _).mono ?_; rintro e w5 ⟨rfl, rfl⟩; rw [HQ.out])
        go_loop [12] (fun t => ∃ (t' : Nat), f < t' ∧ t' ≤ n ∧ t = .int .i64 t' ∧ Hid (∀ j, f ≤ j → j < t' → noP (fn l j) = true)) (fun t => n - (intOf t).toNat)
        case atStart => exact ⟨f + 1, by omega, by omega, by go_num, fun j h1 h2 => by
          have : j = f := by omega
          subst this; exact HQ.out⟩
        case round =>
          obtain ⟨t, hft, htn, rfl, hrun⟩ := hrel
          by_cases htl : t < n
          · have ct := HC.out t (by omega) htl
            have hti : (t : Int) < (n : Int) := by omega
            by_cases hqt : noP (fn l t) = true
            · have HT : Hid _ := hqt
              clear hqt
              go_wp2_with (go_at_call 114; refine (implPlain? _ _).mono ?_; rintro e w5 ⟨rfl, rfl⟩; rw [HT.out])
              refine ⟨⟨t + 1, by omega, by omega, by go_num, fun j h1 h2 => ?_⟩, by simp only [intOf]; omega⟩
              by_cases e : j = t
              · subst e; exact HT.out
              · exact hrun.out j h1 (by omega)
            · have hqt' : noP (fn l t) = false := by simpa using hqt
              have HT : Hid _ := hqt'
              clear hqt hqt'
              have g1 : (f : Int) ≤ (t : Int) := by omega
              have g2 : (t : Int) ≤ (cp : Int) := by omega
              have g3 : (f : Int) < (cp : Int) := by omega
              obtain ⟨r, hr⟩ : ∃ r, among (ahP (fn l) before f) (fn l t) lv = r := ⟨_, rfl⟩
              have HR : Hid _ := hr
              clear hr
              go_wp2_with (go_at_call 114; refine (implPlain? _ _).mono ?_; rintro e w5 ⟨rfl, rfl⟩; rw [HT.out])
              go_region_with (first | (go_at_call 116; refine (implAmong _ _ _ _ h3 r HR).mono ?_; rintro e w6 ⟨rfl, rfl⟩) | (go_at_call 115; refine (fill_at g f (t - f) _ n cp L _ r _ (by exact hown.drewN 1) (by omega) (by omega)).mono ?_; rintro e w7 ⟨rfl, ⟨L7, hown7, hL7⟩, hgr7, hsz7⟩))
              all_goals (go_wp2_with fail)
              all_goals (refine ⟨⟨t, L7, by omega, by go_num, by rw [ahP_run (f := f) (t := t) (by omega) hrun.out], hown7, ?_, (hbel.drew).grown hgr7 hbel.size (fun k hk => by cases hk; exact hg)⟩, by simp only [intOf]; omega⟩)
              all_goals (refine done_step hinv.out (by omega) (by omega) hrun.out ?_ hL7.out; rw [bhP_hit htl HT.out]; exact HR.out)
          · have e : t = n := by omega
            have hti : ((t : Int) < (n : Int)) = False := by simp; omega
            have g1 : (f : Int) ≤ (t : Int) := by omega
            have g2 : (t : Int) ≤ (cp : Int) := by omega
            have g3 : (f : Int) < (cp : Int) := by omega
            obtain ⟨r, hr⟩ : ∃ r, among (ahP (fn l) before f) after lv = r := ⟨_, rfl⟩
            have HR : Hid _ := hr
            have HE : Hid _ := e
            clear hr e
            go_wp2_with fail
            go_region_with (first | (go_at_call 116; refine (implAmong _ _ _ _ h3 r HR).mono ?_; rintro e w6 ⟨rfl, rfl⟩) | (go_at_call 115; refine (fill_at g f (t - f) _ n cp L _ r _ (by exact hown.drewN 1) (by omega) (by omega)).mono ?_; rintro e w7 ⟨rfl, ⟨L7, hown7, hL7⟩, hgr7, hsz7⟩))
            all_goals (go_wp2_with fail)
            all_goals (refine ⟨⟨t, L7, by omega, by go_num, by rw [ahP_run (f := f) (t := t) (by omega) hrun.out], hown7, ?_, (hbel.drew).grown hgr7 hbel.size (fun k hk => by cases hk; exact hg)⟩, by simp only [intOf]; omega⟩)
            all_goals (refine done_step hinv.out (by omega) (by omega) hrun.out ?_ hL7.out; rw [show n - t = 0 by omega]; exact HR.out)
      · have hq' : noP (fn l f) = false := by simpa using hq
        have HQ : Hid _ := hq'
        clear hq hq'
        go_wp2_with (go_at_call 114; refine (implPlain? _ _).mono ?_; rintro e w5 ⟨rfl, rfl⟩; rw [HQ.out])
        refine ⟨⟨f + 1, L, by omega, by go_num, by rw [ahP_hit HQ.out], hown, ⟨fun j hj => ?_, fun j a c => hinv.out.2 j (by omega) c⟩, hbel⟩, by simp only [intOf]; omega⟩
        by_cases e : j = f
        · subst e; rw [plain_other HQ.out]; exact hinv.out.2 j (Nat.le_refl _) hlt
        · exact hinv.out.1 j (by omega)
    · have e : f = n := by omega
      subst e
      go_wp2_with fail
      go_ret
      have el : L = plainL l before after lv := by
        refine ext_fn (by rw [plainL_len, hn.out]; exact hown.len) (fun j hj => ?_)
        have hjn : j < f := by rw [← hown.len]; exact hj
        rw [fn_plainL (by rw [hn.out]; exact hjn), hn.out]; exact hinv.out.1 j hjn
      rw [el] at hown
      exact ⟨⟨_, rfl, hown⟩, hbel⟩
end Go.Proofs.YtgojdlbidjnmmabGreat
namespace Go.Proofs.YtgojdlbidjnmmabGreat
open Go.ChangeShapes Go.WideShapes Go.ChangeAt Go.RowKit
set_option linter.unusedSimpArgs false

theorem plainR_len (l : List Int) (b a lv : Int) : (plainR l b a lv).length ≤ l.length := by
  unfold plainR; split
  · rw [plainL_len]; exact Nat.le_refl _
  · simp
theorem plainR_no {l : List Int} {b a lv : Int} (h : ¬ (clsOk (fn l) l.length = true ∧ sideB b = true ∧ sideB a = true ∧ lvB lv = true)) : plainR l b a lv = [] := by
  unfold plainR; rw [if_neg h]
theorem plainR_yes {l : List Int} {b a lv : Int} (h : clsOk (fn l) l.length = true ∧ sideB b = true ∧ sideB a = true ∧ lvB lv = true) : plainR l b a lv = plainL l b a lv := by
  unfold plainR; rw [if_pos h]
theorem lvB_out {lv : Int} (h : lvB lv = true) : 0 ≤ lv ∧ lv ≤ 22 := by simpa [lvB] using h

set_option maxHeartbeats 4000000 in
theorem implPlain (v : Value) (l : List Int) (before after lv : Int) (w : World) (a0 : Option Addr) (cap0 : Nat) (hva : v = .slice a0 l.length cap0) (hv : Arg w v l) (hl : l.length ≤ 1048576) :
    Calls Tryz.prog 84 #[v, .int .i64 before, .int .i64 after, .int .i64 lv] w fun e w' => (∃ v', e = .returned v' ∧ OwnI w' w.heap.size v' (plainR l before after lv)) ∧ Below w.heap.size w w' := by
  subst hva
  by_cases hc : clsOk (fn l) l.length = true
  · by_cases h1 : sideB before = true
    · by_cases h2 : sideB after = true
      · by_cases h3 : lvB lv = true
        · rw [plainR_yes ⟨hc, h1, h2, h3⟩]
          obtain ⟨h4, h5⟩ := lvB_out h3
          by_cases h0 : l = []
          · subst h0
            have HC : Hid _ := hc
            have H1 : Hid _ := h1
            have H2 : Hid _ := h2
            clear hc h1 h2 h3
            go_enter Tryz.func84, Tryz.ntmps84
            go_wp2_with fail
            refine (implCls _ [] 0 w rfl hv (by omega)).mono ?_
            rintro e w1 ⟨rfl, rfl⟩
            go_wp2_with fail
            refine (implSide? _ _).mono ?_
            rintro e w2 ⟨rfl, rfl⟩
            rw [H1.out]
            go_wp2_with fail
            refine (implSide? _ _).mono ?_
            rintro e w3 ⟨rfl, rfl⟩
            rw [H2.out]
            go_wp2_with fail
            refine (clone_any _ [] _ hv (by simp)).mono ?_
            rintro e w4 ⟨⟨v4, rfl, o4⟩, b4⟩
            rcases o4.forms with ⟨rfl, _⟩ | ⟨g, cp, rfl, _⟩
            · go_wp2_with fail
              go_rounds 1
              go_ret
              exact ⟨⟨_, rfl, OwnI.nil _ _⟩, b4⟩
            · go_wp2_with fail
              go_rounds 1
              go_ret
              exact ⟨⟨_, rfl, o4⟩, b4⟩
          · rcases hv with ⟨_, _, _, e⟩ | ⟨b, off, cap, e, hb, hlc, hcm, hat⟩
            · exact absurd e h0
            · cases e
              exact implPlain_row b off cap0 l.length l before after lv w rfl (by cases l with | nil => exact absurd rfl h0 | cons => simp) (clsOk_out hc).1 hlc hcm hb hat hc h1 h2 h4 h5
        · have h3' : lvB lv = false := by simpa using h3
          rw [plainR_no (fun h => h3 h.2.2.2)]
          have HC : Hid _ := hc
          have H1 : Hid _ := h1
          have H2 : Hid _ := h2
          have hlv : lv < 0 ∨ 22 < lv := by
            unfold lvB at h3'; rw [decide_eq_false_iff_not] at h3'; omega
          clear hc h1 h2 h3 h3'
          rcases hlv with hlv | hlv
          · go_enter Tryz.func84, Tryz.ntmps84
            go_wp2_with fail
            refine (implCls _ l l.length w rfl hv (by omega)).mono ?_
            rintro e w1 ⟨rfl, rfl⟩
            rw [HC.out]
            go_wp2_with fail
            refine (implSide? _ _).mono ?_
            rintro e w2 ⟨rfl, rfl⟩
            rw [H1.out]
            go_wp2_with fail
            refine (implSide? _ _).mono ?_
            rintro e w3 ⟨rfl, rfl⟩
            rw [H2.out]
            go_wp2_with fail
            go_ret
            exact ⟨⟨_, rfl, OwnI.nil _ _⟩, Below.refl _ _⟩
          · have hlv0 : 0 ≤ lv := by omega
            go_enter Tryz.func84, Tryz.ntmps84
            go_wp2_with fail
            refine (implCls _ l l.length w rfl hv (by omega)).mono ?_
            rintro e w1 ⟨rfl, rfl⟩
            rw [HC.out]
            go_wp2_with fail
            refine (implSide? _ _).mono ?_
            rintro e w2 ⟨rfl, rfl⟩
            rw [H1.out]
            go_wp2_with fail
            refine (implSide? _ _).mono ?_
            rintro e w3 ⟨rfl, rfl⟩
            rw [H2.out]
            go_wp2_with fail
            go_ret
            exact ⟨⟨_, rfl, OwnI.nil _ _⟩, Below.refl _ _⟩
      · have h2' : sideB after = false := by simpa using h2
        rw [plainR_no (fun h => h2 h.2.2.1)]
        have HC : Hid _ := hc
        have H1 : Hid _ := h1
        have H2 : Hid _ := h2'
        clear hc h1 h2 h2'
        go_enter Tryz.func84, Tryz.ntmps84
        go_wp2_with fail
        refine (implCls _ l l.length w rfl hv (by omega)).mono ?_
        rintro e w1 ⟨rfl, rfl⟩
        rw [HC.out]
        go_wp2_with fail
        refine (implSide? _ _).mono ?_
        rintro e w2 ⟨rfl, rfl⟩
        rw [H1.out]
        go_wp2_with fail
        refine (implSide? _ _).mono ?_
        rintro e w3 ⟨rfl, rfl⟩
        rw [H2.out]
        go_wp2_with fail
        go_ret
        exact ⟨⟨_, rfl, OwnI.nil _ _⟩, Below.refl _ _⟩
    · have h1' : sideB before = false := by simpa using h1
      rw [plainR_no (fun h => h1 h.2.1)]
      have HC : Hid _ := hc
      have H1 : Hid _ := h1'
      clear hc h1 h1'
      go_enter Tryz.func84, Tryz.ntmps84
      go_wp2_with fail
      refine (implCls _ l l.length w rfl hv (by omega)).mono ?_
      rintro e w1 ⟨rfl, rfl⟩
      rw [HC.out]
      go_wp2_with fail
      refine (implSide? _ _).mono ?_
      rintro e w2 ⟨rfl, rfl⟩
      rw [H1.out]
      go_wp2_with fail
      go_ret
      exact ⟨⟨_, rfl, OwnI.nil _ _⟩, Below.refl _ _⟩
  · have hc' : clsOk (fn l) l.length = false := by simpa using hc
    rw [plainR_no (fun h => hc h.1)]
    have HC : Hid _ := hc'
    clear hc hc'
    go_enter Tryz.func84, Tryz.ntmps84
    go_wp2_with fail
    refine (implCls _ l l.length w rfl hv (by omega)).mono ?_
    rintro e w1 ⟨rfl, rfl⟩
    rw [HC.out]
    go_wp2_with fail
    go_ret
    exact ⟨⟨_, rfl, OwnI.nil _ _⟩, Below.refl _ _⟩

end Go.Proofs.YtgojdlbidjnmmabGreat
