import Derived.Test.YtgojdlbidjnmmaaGreatToldS
import Derived.Deep.RegionHeld3
namespace Go.Proofs.YtgojdlbidjnmmaaGreat
open Go.ChangeShapes Go.WideShapes Go.ChangeAt Go.RowKit
set_option linter.unusedSimpArgs false
set_option linter.unusedVariables false

/-- What stands on top. -/
theorem WIn.top {w : World} {W gl gc n B k : Nat} {vr vs : Value} {lv cls : List Int} {s : TS} {al base : Int} (h : WIn w B W gl gc n vr vs lv cls s al) (hg : GoodS base k s) (hk : k ≤ 1000) :
    ∃ m gs cap xl xs xa, s.st.length = m + 1 ∧ m ≤ 1000 ∧ vs = .slice (some ⟨gs, 0, none⟩) (m + 1) cap ∧ m + 1 ≤ cap ∧ w.cell? ⟨gs, m * 3, none⟩ = some (.int .i64 xl) ∧ w.cell? ⟨gs, m * 3 + 1, none⟩ = some (.int .i64 xs) ∧ w.cell? ⟨gs, m * 3 + 2, none⟩ = some (.bool xa) ∧ topL s.st = xl ∧ topS s.st = xs ∧ topA s.st = xa ∧ gs < w.heap.size := by
  obtain ⟨x, r, hx⟩ := good_ne hg
  have hlen : s.st.length = r.length + 1 := by rw [hx, List.length_cons]
  have hm80 : r.length ≤ 1000 := by have := hg.len; omega
  have hos := h.os
  rw [hlen] at hos
  obtain ⟨gs, cap, rfl, hgs0, hgs1, hgs2, hgs3⟩ := hos.form1 (by omega)
  have ct : ∀ j, j < 3 → w.cell? ⟨gs, r.length * 3 + j, none⟩ = (tc x)[j]? := fun j hj => by
    rw [hos.cell (r.length * 3 + j) (by omega), hx, List.reverse_cons]
    have := tcells_last r.reverse x j
    rw [List.length_reverse] at this
    exact this
  exact ⟨r.length, gs, cap, x.level, x.side, x.alone, hlen, hm80, rfl, hgs2, ct 0 (by omega), ct 1 (by omega), ct 2 (by omega), by rw [hx]; rfl, by rw [hx]; rfl, by rw [hx]; rfl, hgs1⟩

theorem below_new (w : World) (o : Obj) : Below w.heap.size w (w.alloc o) := (Below.refl _ _).alloc (Nat.le_refl _) _

set_option maxHeartbeats 2000000 in
theorem specHere {W gl gc n B k : Nat} {vr vs : Value} {lv cls : List Int} {s : TS} {al base : Int} (w : World) (h : WIn w B W gl gc n vr vs lv cls s al) (hg : GoodS base k s) (hk : k ≤ 1000) (hB : B ≤ w.heap.size) (i : Nat) (hi : i < n) (c : Int) :
    Calls Tryz.prog 140 #[.pointer (some ⟨W, 0, none⟩), .int .i64 i, .int .i64 c] w fun e w' => e = .returned (.tuple #[]) ∧ WIn w' B W gl gc n vr vs (lv.set i (topL s.st)) (cls.set i (sdT s.st c)) s al ∧ Below B w w' := by
  obtain ⟨m, gs, cap, xl, xs, xa, hlen, hm, rfl, hmc, ct0, ct1, ct2, e0, e1, e2, hgs⟩ := h.top hg hk
  unfold sdT
  rw [e0, e1]
  have E0 : Hid _ := e0
  have E1 : Hid _ := e1
  have HL : Hid _ := hlen
  have c3 := h.c3
  have H : Hid _ := h
  have hw0 : IntKind.i64.wrap (m : Int) = (m : Int) := by rw [IntKind.wrap_i64]; omega
  have hp0 : (0 : Int) ≤ (m : Int) := by omega
  have hp1 : (m : Int) < (m : Int) + 1 := by omega
  clear hlen e0 e1 e2 h hg
  go_enter Tryz.func140, Tryz.ntmps140
  go_wp2_with fail
  go_region_held3 (fun w' => w'.cell? ⟨W, 3, none⟩ = some (.slice (some ⟨gs, 0, none⟩) (m + 1) cap) ∧ w'.cell? ⟨gs, m * 3, none⟩ = some (.int .i64 xl) ∧ w'.cell? ⟨gs, m * 3 + 1, none⟩ = some (.int .i64 xs) ∧ w'.cell? ⟨gs, m * 3 + 2, none⟩ = some (.bool xa)) (go_keep) (fail)
  go_wp2_with fail
  obtain ⟨b, hb⟩ : ∃ b, w.heap.size = b := ⟨_, rfl⟩
  have k0 : (w.alloc (.cells #[.int .i64 xl, .int .i64 xs, .bool xa] 105)).cell? ⟨w.heap.size, 0, none⟩ = some (.int .i64 xl) := by go_simp
  have k1 : (w.alloc (.cells #[.int .i64 xl, .int .i64 xs, .bool xa] 105)).cell? ⟨w.heap.size, 1, none⟩ = some (.int .i64 xs) := by go_simp
  have HW1 : Hid (WIn (w.alloc (.cells #[.int .i64 xl, .int .i64 xs, .bool xa] 105)).drew B W gl gc n vr (.slice (some ⟨gs, 0, none⟩) (m + 1) cap) lv cls s al) := H.out.below ((below_new _ _).drew)
  have B1 : Hid (Below B w (w.alloc (.cells #[.int .i64 xl, .int .i64 xs, .bool xa] 105)).drew) := ((below_new w _).drew).mono hB
  obtain ⟨w1, hw1⟩ : ∃ W', (w.alloc (.cells #[.int .i64 xl, .int .i64 xs, .bool xa] 105)).drew = W' := ⟨_, rfl⟩
  replace k0 : w1.cell? ⟨b, 0, none⟩ = some (.int .i64 xl) := by rw [← hw1, ← hb]; exact k0
  replace k1 : w1.cell? ⟨b, 1, none⟩ = some (.int .i64 xs) := by rw [← hw1, ← hb]; exact k1
  have hbg : b ≠ gl ∧ b ≠ gc := by have := H.out.gllt.2; have := H.out.gclt.2; omega
  rw [hw1] at HW1 B1 ⊢
  rw [hb]
  clear hw1 hb c3 ct0 ct1 ct2
  have c1 := HW1.out.c1
  have c2 := HW1.out.c2
  have q1 : ¬ gl = W := H.out.nWl
  have q2 : ¬ gl = b := fun e => hbg.1 e.symm
  have q3 : ¬ gc = W := H.out.nWc
  have q4 : ¬ gc = b := fun e => hbg.2 e.symm
  have hi0 : (0 : Int) ≤ (i : Int) := by omega
  have hi1 : (i : Int) < (n : Int) := by omega
  have cl := HW1.out.ol.cellN i hi
  have fl := HW1.out.ol.frozenN i
  have q5 : ¬ gl = gc := H.out.nlc
  have cc := HW1.out.oc.cellN i hi
  have fc := HW1.out.oc.frozenN i
  have fin : ∀ y, Hid (WIn ((w1.setCell ⟨gl, i, none⟩ (.int .i64 xl)).setCell ⟨gc, i, none⟩ (.int .i64 y)).drew B W gl gc n vr (.slice (some ⟨gs, 0, none⟩) (m + 1) cap) (lv.set i xl) (cls.set i y) s al ∧ Below B w ((w1.setCell ⟨gl, i, none⟩ (.int .i64 xl)).setCell ⟨gc, i, none⟩ (.int .i64 y)).drew) := fun y =>
    ⟨((HW1.out.setL i xl).setC i y).below (Below.refl _ _).drew, ((HW1.out.setL i xl).blwC (HW1.out.blwL B1.out i _) i _).drew⟩
  have FIN : Hid _ := fin
  clear fin
  by_cases hx : xs = 0
  · have hx1 : (xs != 0) = false := by simpa using hx
    have HX : Hid _ := hx
    clear hx
    go_region_held3 (fun w' => w'.cell? ⟨W, 1, none⟩ = some (.slice (some ⟨gl, 0, none⟩) n n) ∧ w'.cell? ⟨b, 0, none⟩ = some (.int .i64 xl)) (go_keep) (fail)
    all_goals go_wp2_with fail
    all_goals (go_end0; refine ⟨rfl, ?_⟩; (try rw [if_neg (by rw [HX.out]; simp)]); exact (FIN.out c).out)
  · have hx1 : (xs != 0) = true := by simpa using hx
    have HX : Hid _ := hx
    clear hx
    go_region_held3 (fun w' => w'.cell? ⟨W, 1, none⟩ = some (.slice (some ⟨gl, 0, none⟩) n n) ∧ w'.cell? ⟨b, 0, none⟩ = some (.int .i64 xl)) (go_keep) (fail)
    all_goals go_wp2_with fail
    all_goals (go_end0; refine ⟨rfl, ?_⟩; (try rw [if_pos HX.out]); exact (FIN.out xs).out)
end Go.Proofs.YtgojdlbidjnmmaaGreat
