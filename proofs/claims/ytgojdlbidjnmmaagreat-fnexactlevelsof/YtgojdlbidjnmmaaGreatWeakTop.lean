import Derived.Test.YtgojdlbidjnmmaaGreatWeakI4
import Derived.Test.YtgojdlbidjnmmaaGreatClone
namespace Go.Proofs.YtgojdlbidjnmmaaGreat
open Go.ChangeShapes Go.WideShapes Go.ChangeAt Go.RowKit
set_option linter.unusedSimpArgs false

def stg (l : List Int) (b : Int) : Nat → List Int
  | 0 => l
  | 1 => r1 l b
  | 2 => r2 (r1 l b) b
  | 3 => r3 (r2 (r1 l b) b)
  | 4 => r4 (r3 (r2 (r1 l b) b))
  | 5 => r5 (r4 (r3 (r2 (r1 l b) b)))
  | 6 => r6 (r5 (r4 (r3 (r2 (r1 l b) b))))
  | _ => weakL l b
theorem stg_len (l : List Int) (b : Int) (k : Nat) : (stg l b k).length = l.length := by
  unfold stg; split <;> simp [weakL_len, r6_len, r5_len, r4_len, r3_len, r2_len, r1_len]
theorem no3 (x : List Int) (j : Nat) (hj : j < x.length) : fn (r6 (r5 (r4 (r3 x)))) j ≠ 3 := by
  have e3 : fn (r3 x) j = m3 (fn x) j := fn_mkL hj
  have e4 : fn (r4 (r3 x)) j = m4 (fn (r3 x)) _ j := fn_mkL (by rw [r3_len]; exact hj)
  have e5 : fn (r5 (r4 (r3 x))) j = m5 (fn (r4 (r3 x))) _ j := fn_mkL (by rw [r4_len, r3_len]; exact hj)
  have e6 : fn (r6 (r5 (r4 (r3 x)))) j = m6 (fn (r5 (r4 (r3 x)))) j := fn_mkL (by rw [r5_len, r4_len, r3_len]; exact hj)
  have a4 := m4_is (z := fn (r3 x)) (n := (r3 x).length) (k := j)
  have h3 : fn (r3 x) j ≠ 3 := by rw [e3]; unfold m3; split <;> omega
  rw [← e4] at a4
  have h4 : fn (r4 (r3 x)) j ≠ 3 := by omega
  have h5 : fn (r5 (r4 (r3 x))) j ≠ 3 := by rw [e5]; unfold m5; split <;> omega
  rw [e6]; unfold m6; split <;> omega

/-! No class at all: no rule has a round. -/
structure WT0 (w : World) (R cp : Nat) (a : Option Addr) (b : Int) : Prop where
  c0 : w.cell? ⟨R, 0, none⟩ = some (.slice a 0 cp)
  c1 : w.cell? ⟨R, 1, none⟩ = some (.int .i64 b)
set_option maxHeartbeats 1000000 in
theorem implR1z (R cp : Nat) (a : Option Addr) (b : Int) (w : World) (h : WT0 w R cp a b) : Calls Tryz.prog 100 #[.pointer (some ⟨R, 0, none⟩)] w fun e w' => e = .returned (.tuple #[]) ∧ w' = w := by
  obtain ⟨q0, q1⟩ := h
  go_enter Tryz.func100, Tryz.ntmps100
  go_wp2
  go_rounds 1
  go_end0
  exact ⟨rfl, rfl⟩
set_option maxHeartbeats 1000000 in
theorem implR2z (R cp : Nat) (a : Option Addr) (b : Int) (w : World) (h : WT0 w R cp a b) : Calls Tryz.prog 101 #[.pointer (some ⟨R, 0, none⟩)] w fun e w' => e = .returned (.tuple #[]) ∧ w' = w := by
  obtain ⟨q0, q1⟩ := h
  go_enter Tryz.func101, Tryz.ntmps101
  go_wp2
  go_rounds 1
  go_end0
  exact ⟨rfl, rfl⟩
set_option maxHeartbeats 1000000 in
theorem implR3z (R cp : Nat) (a : Option Addr) (b : Int) (w : World) (h : WT0 w R cp a b) : Calls Tryz.prog 102 #[.pointer (some ⟨R, 0, none⟩)] w fun e w' => e = .returned (.tuple #[]) ∧ w' = w := by
  obtain ⟨q0, q1⟩ := h
  go_enter Tryz.func102, Tryz.ntmps102
  go_wp2
  go_rounds 1
  go_end0
  exact ⟨rfl, rfl⟩
set_option maxHeartbeats 1000000 in
theorem implR4z (R cp : Nat) (a : Option Addr) (b : Int) (w : World) (h : WT0 w R cp a b) : Calls Tryz.prog 103 #[.pointer (some ⟨R, 0, none⟩)] w fun e w' => e = .returned (.tuple #[]) ∧ w' = w := by
  obtain ⟨q0, q1⟩ := h
  go_enter Tryz.func103, Tryz.ntmps103
  go_wp2
  go_rounds 1
  go_end0
  exact ⟨rfl, rfl⟩
set_option maxHeartbeats 1000000 in
theorem implR5z (R cp : Nat) (a : Option Addr) (b : Int) (w : World) (h : WT0 w R cp a b) : Calls Tryz.prog 104 #[.pointer (some ⟨R, 0, none⟩)] w fun e w' => e = .returned (.tuple #[]) ∧ w' = w := by
  obtain ⟨q0, q1⟩ := h
  go_enter Tryz.func104, Tryz.ntmps104
  go_wp2
  go_rounds 1
  go_end0
  exact ⟨rfl, rfl⟩
set_option maxHeartbeats 1000000 in
theorem implR6z (R cp : Nat) (a : Option Addr) (b : Int) (w : World) (h : WT0 w R cp a b) : Calls Tryz.prog 105 #[.pointer (some ⟨R, 0, none⟩)] w fun e w' => e = .returned (.tuple #[]) ∧ w' = w := by
  obtain ⟨q0, q1⟩ := h
  go_enter Tryz.func105, Tryz.ntmps105
  go_wp2
  go_rounds 1
  go_end0
  exact ⟨rfl, rfl⟩
set_option maxHeartbeats 1000000 in
theorem implR7z (R cp : Nat) (a : Option Addr) (b : Int) (w : World) (h : WT0 w R cp a b) : Calls Tryz.prog 106 #[.pointer (some ⟨R, 0, none⟩)] w fun e w' => e = .returned (.tuple #[]) ∧ w' = w := by
  obtain ⟨q0, q1⟩ := h
  go_enter Tryz.func106, Tryz.ntmps106
  go_wp2
  go_rounds 1
  go_end0
  exact ⟨rfl, rfl⟩


theorem store_func {P : Program} {w : World} {a : Addr} {m : Mode} (fn : Fn) (first captured : Array Value) : (store a (.func fn first captured) m).run P w = stored P w a (.func fn first captured) m := run_store P w a _ m rfl
attribute [local go_sem] store_func

theorem index7_0 (w : World) (a0 a1 a2 a3 a4 a5 a6 : Value) : (Instr.index 100 (.agg #[a0, a1, a2, a3, a4, a5, a6]) (.int .i64 0)).run Tryz.prog w = .ok a0 w := by
  simp [Instr.index, run_underlying Tryz.underlying100, asIntOf, part, go_sem]
theorem index7_1 (w : World) (a0 a1 a2 a3 a4 a5 a6 : Value) : (Instr.index 100 (.agg #[a0, a1, a2, a3, a4, a5, a6]) (.int .i64 1)).run Tryz.prog w = .ok a1 w := by
  simp [Instr.index, run_underlying Tryz.underlying100, asIntOf, part, go_sem]
theorem index7_2 (w : World) (a0 a1 a2 a3 a4 a5 a6 : Value) : (Instr.index 100 (.agg #[a0, a1, a2, a3, a4, a5, a6]) (.int .i64 2)).run Tryz.prog w = .ok a2 w := by
  simp [Instr.index, run_underlying Tryz.underlying100, asIntOf, part, go_sem]
theorem index7_3 (w : World) (a0 a1 a2 a3 a4 a5 a6 : Value) : (Instr.index 100 (.agg #[a0, a1, a2, a3, a4, a5, a6]) (.int .i64 3)).run Tryz.prog w = .ok a3 w := by
  simp [Instr.index, run_underlying Tryz.underlying100, asIntOf, part, go_sem]
theorem index7_4 (w : World) (a0 a1 a2 a3 a4 a5 a6 : Value) : (Instr.index 100 (.agg #[a0, a1, a2, a3, a4, a5, a6]) (.int .i64 4)).run Tryz.prog w = .ok a4 w := by
  simp [Instr.index, run_underlying Tryz.underlying100, asIntOf, part, go_sem]
theorem index7_5 (w : World) (a0 a1 a2 a3 a4 a5 a6 : Value) : (Instr.index 100 (.agg #[a0, a1, a2, a3, a4, a5, a6]) (.int .i64 5)).run Tryz.prog w = .ok a5 w := by
  simp [Instr.index, run_underlying Tryz.underlying100, asIntOf, part, go_sem]
theorem index7_6 (w : World) (a0 a1 a2 a3 a4 a5 a6 : Value) : (Instr.index 100 (.agg #[a0, a1, a2, a3, a4, a5, a6]) (.int .i64 6)).run Tryz.prog w = .ok a6 w := by
  simp [Instr.index, run_underlying Tryz.underlying100, asIntOf, part, go_sem]
attribute [local go_sem] index7_0 index7_1 index7_2 index7_3 index7_4 index7_5 index7_6
theorem Ruled.step {w wr w' : World} {B g n cp R : Nat} {b : Int} {L : List Int} (h : Ruled wr w' B g n cp L) (hw : WT wr R g n cp b) (hb : Below w.heap.size w wr) (hg : w.heap.size ≤ g) :
    OwnI w' B (.slice (some ⟨g, 0, none⟩) n cp) L ∧ WT w' R g n cp b ∧ Below w.heap.size w w' :=
  ⟨h.1, hw.kept h.2.1, hb.grown h.2.1 hb.size (fun k hk => by cases hk; exact hg)⟩

set_option maxRecDepth 10000 in
set_option maxHeartbeats 4000000 in
theorem implWeak_row (ba off cap n : Nat) (l : List Int) (b : Int) (w : World) (hn : Hid (l.length = n)) (hn0 : 0 < n) (hl : n ≤ 80) (hlc : n ≤ cap) (hcm : cap ≤ maxLen) (hb : ba < w.heap.size) (hat : At w ba off l) (hok : Hid (clsOk (fn l) n = true)) (h1 : Hid (sideB b = true)) :
    Calls Tryz.prog 65 #[.slice (some ⟨ba, off, none⟩) n cap, .int .i64 b] w fun e w' => (∃ v', e = .returned v' ∧ OwnI w' w.heap.size v' (weakL l b)) ∧ Below w.heap.size w w' := by
  have HA : Arg w (.slice (some ⟨ba, off, none⟩) n cap) l := .inr ⟨ba, off, cap, by rw [hn.out], hb, by rw [hn.out]; exact hlc, hcm, hat⟩
  have HB12 : Hid (b = 1 ∨ b = 2) := by
    show b = 1 ∨ b = 2
    have := h1.out
    unfold sideB at this
    exact of_decide_eq_true this
  go_enter Tryz.func65, Tryz.ntmps65
  go_wp2_with fail
  refine (implCls _ l n w hn.out HA (by omega)).mono ?_
  rintro e w1 ⟨rfl, rfl⟩
  rw [hok.out]
  go_wp2_with fail
  refine (implSide? _ _).mono ?_
  rintro e w2 ⟨rfl, rfl⟩
  rw [h1.out]
  go_wp2_with fail
  refine (clone_row ba off n cap l _ hn.out (by omega) hat hb).mono ?_
  rintro e w4 ⟨⟨v4, rfl, o4⟩, b4⟩
  obtain ⟨g, cp, rfl, hg, hgw, hncp⟩ : ∃ g cp, v4 = .slice (some ⟨g, 0, none⟩) n cp ∧ w2.heap.size ≤ g ∧ g < w4.heap.size ∧ n ≤ cp := by
    rcases o4.forms with ⟨_, e⟩ | ⟨g, cp, e, e1, e2, e3, _⟩
    · exfalso; have := hn.out; rw [e] at this; simp at this; omega
    · rw [hn.out] at e e3; exact ⟨g, cp, e, e1, e2, e3⟩
  have HLEN : Hid (∀ k, (stg l b k).length = n) := fun k => by rw [stg_len, hn.out]
  have HNO : Hid (∀ j, j < n → fn (stg l b 6) j ≠ 3) := fun j hj => no3 _ j (by rw [r2_len, r1_len, hn.out]; exact hj)
  have hs4 := b4.size
  go_wp2_with fail
  go_loopw [38] (fun i wr => ∃ k : Nat, k ≤ 7 ∧ i = .int .i64 k ∧ OwnI wr w2.heap.size (.slice (some ⟨g, 0, none⟩) n cp) (stg l b k) ∧ WT wr w4.heap.size g n cp b ∧ Below w2.heap.size w2 wr) (fun i _ => 7 - (intOf i).toNat)
  case atStart =>
    refine ⟨0, by omega, rfl, ?_, ⟨by simp, by simp, by simp; omega, by omega⟩, ?_⟩
    · exact World.ownsRow.alloc (World.ownsRow.alloc o4 _) _
    · exact (b4.alloc hs4 _).alloc (by simp; omega) _
  case round =>
    obtain ⟨k, hk, rfl, ho, hw, hbel⟩ := hrel
    have HO : Hid _ := ho
    have HW : Hid _ := hw
    have HBEL : Hid _ := hbel
    obtain ⟨q0, q1, q2, q3⟩ := hw
    clear ho hbel o4 b4
    rcases (by omega : k = 0 ∨ k = 1 ∨ k = 2 ∨ k = 3 ∨ k = 4 ∨ k = 5 ∨ k = 6 ∨ k = 7) with rfl | rfl | rfl | rfl | rfl | rfl | rfl | rfl
    · go_wp2_with fail
      refine (implR1 _ g n cp _ b HB12 _ _ HW.out (HLEN.out 0) HO.out hl).mono ?_
      rintro e w' ⟨rfl, hru⟩
      go_wp2_with fail
      obtain ⟨a1, a2, a3⟩ := hru.step HW.out HBEL.out hg
      exact ⟨⟨1, by omega, by go_num, a1, a2, a3⟩, by simp [intOf]⟩
    · go_wp2_with fail
      refine (implR2 _ g n cp _ b _ _ HW.out (HLEN.out 1) HO.out hl).mono ?_
      rintro e w' ⟨rfl, hru⟩
      go_wp2_with fail
      obtain ⟨a1, a2, a3⟩ := hru.step HW.out HBEL.out hg
      exact ⟨⟨2, by omega, by go_num, a1, a2, a3⟩, by simp [intOf]⟩
    · go_wp2_with fail
      refine (implR3 _ g n cp _ b _ _ HW.out (HLEN.out 2) HO.out hl).mono ?_
      rintro e w' ⟨rfl, hru⟩
      go_wp2_with fail
      obtain ⟨a1, a2, a3⟩ := hru.step HW.out HBEL.out hg
      exact ⟨⟨3, by omega, by go_num, a1, a2, a3⟩, by simp [intOf]⟩
    · go_wp2_with fail
      refine (implR4 _ g n cp _ b _ _ HW.out (HLEN.out 3) HO.out hn0 hl).mono ?_
      rintro e w' ⟨rfl, hru⟩
      go_wp2_with fail
      obtain ⟨a1, a2, a3⟩ := hru.step HW.out HBEL.out hg
      exact ⟨⟨4, by omega, by go_num, a1, a2, a3⟩, by simp [intOf]⟩
    · go_wp2_with fail
      refine (implR5 _ g n cp _ b _ _ HW.out (HLEN.out 4) HO.out hl hncp).mono ?_
      rintro e w' ⟨rfl, hru⟩
      go_wp2_with fail
      obtain ⟨a1, a2, a3⟩ := hru.step HW.out HBEL.out hg
      exact ⟨⟨5, by omega, by go_num, a1, a2, a3⟩, by simp [intOf]⟩
    · go_wp2_with fail
      refine (implR6 _ g n cp _ b _ _ HW.out (HLEN.out 5) HO.out hl).mono ?_
      rintro e w' ⟨rfl, hru⟩
      go_wp2_with fail
      obtain ⟨a1, a2, a3⟩ := hru.step HW.out HBEL.out hg
      exact ⟨⟨6, by omega, by go_num, a1, a2, a3⟩, by simp [intOf]⟩
    · go_wp2_with fail
      refine (implR7 _ g n cp _ b _ _ HW.out (HLEN.out 6) HO.out hl HNO).mono ?_
      rintro e w' ⟨rfl, hru⟩
      go_wp2_with fail
      obtain ⟨a1, a2, a3⟩ := hru.step HW.out HBEL.out hg
      exact ⟨⟨7, by omega, by go_num, a1, a2, a3⟩, by simp [intOf]⟩
    · go_wp2_with fail
      go_ret
      exact ⟨⟨_, rfl, HO.out⟩, HBEL.out⟩
end Go.Proofs.YtgojdlbidjnmmaaGreat
