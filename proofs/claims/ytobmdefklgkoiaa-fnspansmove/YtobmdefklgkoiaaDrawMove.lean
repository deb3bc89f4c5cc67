import Derived.Test.YtobmdefklgkoiaaDrawPut
namespace Go.Proofs.Ytobmdefklgkoiaa
open Go.ChangeShapes Go.WideShapes Go.ChangeAt Go.RowKit
set_option linter.unusedSimpArgs false
set_option linter.unusedVariables false

theorem results_tmp4M {fn : Func} {t u v x : Tmp} (h : fn.results = #[.tmp t, .tmp u, .tmp v, .tmp x]) (tmps : Array Value) (P : Program) (w : World) :
    (results fn tmps).run P w = .ok (.tuple #[tmps.getD t undef, tmps.getD u undef, tmps.getD v undef, tmps.getD x undef]) w := by
  simp [results, h]
def m4F (a b c : Int) (k : Nat) : Int := [a, b, 80, c].getD k 0
abbrev arrM (a b c : Int) (T : TypeId) : Obj := .cells #[.int .i64 a, .int .i64 b, .int .i64 80, .int .i64 c] T
theorem m4F_cell {k : Nat} (h : k < 4) (u : World) (a b c : Int) (T : TypeId) : (u.alloc (arrM a b c T)).cell? ⟨u.heap.size, k, none⟩ = some (.int .i64 (m4F a b c k)) := by
  rcases (show k = 0 ∨ k = 1 ∨ k = 2 ∨ k = 3 by omega) with rfl | rfl | rfl | rfl <;> simp [m4F]
/-- What the walk asks of four twelfths. -/
structure QuartM (k : Nat) : Prop where
  a : IntKind.i64.wrap ((k : Int) * 4) = (k : Int) * 4
  b : Int.tdiv ((k : Int) * 4) 12 = (k : Int) * 4 / 12
  c : IntKind.i64.wrap ((k : Int) * 4 / 12) = (k : Int) * 4 / 12
  d : (k : Int) * 4 / 12 < 4
  e : 0 ≤ (k : Int) * 4 / 12
  f : ((k : Int) * 4 / 12).toNat = k * 4 / 12
theorem quartM {k : Nat} (h : (k : Int) < 12) : QuartM k := by
  rcases (by omega : k = 0 ∨ k = 1 ∨ k = 2 ∨ k = 3 ∨ k = 4 ∨ k = 5 ∨ k = 6 ∨ k = 7 ∨ k = 8 ∨ k = 9 ∨ k = 10 ∨ k = 11) with rfl | rfl | rfl | rfl | rfl | rfl | rfl | rfl | rfl | rfl | rfl | rfl <;> exact ⟨by decide, by decide, by decide, by decide, by decide, by decide⟩
theorem pickM (R p : Nat) (m : Int) (U u : World) (a b c : Int) (T : TypeId) (v : Value) (h : Dp U u R p v) (hp : p ≤ 90000) (hm1 : 1 ≤ m) (hm2 : m ≤ 1000000) (hR : R < U.heap.size) :
    Calls Try.prog 30 #[.pointer (some ⟨R, 0, none⟩), .int .i64 m] (u.alloc (arrM a b c T)) fun e w' => ∃ k : Nat, e = .returned (.int .i64 k) ∧ (k : Int) < m ∧ Dp U w' R (p + 1) v ∧ ∀ j, j < 4 → w'.cell? ⟨u.heap.size, j, none⟩ = some (.int .i64 (m4F a b c j)) := by
  have hs := h.1.gr.size
  refine (pickU R p m U (u.alloc (arrM a b c T)) v (h.alloc _) hp hm1 hm2 hR).mono ?_
  rintro e w' ⟨k, rfl, hk, hd, hW⟩
  exact ⟨k, rfl, hk, hd, fun j hj => went_cell hW (by simp) (by simp; omega) (m4F_cell hj u a b c T)⟩
theorem negM {k : Nat} (h : (k : Int) < 1000) : IntKind.i64.wrap (-(k : Int)) = -(k : Int) := by simp [IntKind.wrap, IntKind.bits, IntKind.signed]; omega
/-- What the draw leaves. -/
theorem end_move {w w1 U wd : World} {R p q : Nat} {v : Value} (hB : Below w.heap.size w w1) (hW : Went w1 U R q) (hd : Dp U wd R p v) (hwR : w.heap.size ≤ R) (hR : R < w1.heap.size) :
    SpRes wd w.heap.size v ∧ Below w.heap.size w wd := by
  obtain ⟨h1, n, s, h2, h3⟩ := hd
  have hU := hW.gr.size
  have hs := hB.size
  exact ⟨⟨n, s, OwnS.mono h2 (by omega), h3⟩, hB.trans (Went.below (hW.trans h1) (by omega) hR)⟩

set_option maxRecDepth 10000 in
set_option maxHeartbeats 2000000 in
theorem drawSpansMove (a : Option Addr) (len cap : Nat) (w : World) (h : Bytes w a len cap) :
    Calls Try.prog 20 #[.slice a len cap] w fun e w' => (∃ v, ∃ C A : Nat, ∃ k : Int, e = .returned (.tuple #[v, .int .i64 (C : Int), .int .i64 (A : Int), .int .i64 k]) ∧ SpRes w' w.heap.size v ∧ C < 20 ∧ A ≤ C) ∧ Below w.heap.size w w' := by
  go_enter Try.func20, Try.ntmps20
  go_wp2_with fail
  refine (open_any a len cap _ h).mono ?_
  rintro e w1 ⟨rfl, hr1, b1⟩
  obtain ⟨R, hR⟩ : ∃ R, w.heap.size = R := ⟨_, rfl⟩
  rw [hR] at hr1
  have HBE1 : Hid (Below w.heap.size w w1) := b1
  have HGR : Hid (w.heap.size ≤ R ∧ R < w1.heap.size) := ⟨Nat.le_of_eq hR, hr1.lt⟩
  clear b1 h
  rw [hR]
  clear hR
  go_wp2_with fail
  refine (pick_went R 0 _ _ hr1 (by omega) (by omega) (by omega)).mono ?_
  rintro e w2 ⟨⟨n0, rfl, hn0⟩, hW2, hz2⟩
  clear hz2
  obtain ⟨C, hC⟩ : ∃ C : Nat, 4 + n0 = C := ⟨_, rfl⟩
  have w4 : IntKind.i64.wrap (4 + (n0 : Int)) = (C : Int) := by simp [IntKind.wrap, IntKind.bits, IntKind.signed]; omega
  have w4' : wrap64 (4 + (n0 : Int)) = (C : Int) := by unfold wrap64; omega
  have hC20 : (C : Int) < 20 := by omega
  have HC : Hid (4 ≤ C ∧ C < 20) := ⟨by omega, by omega⟩
  go_wp2_with fail
  try rw [w4]
  try rw [w4']
  clear w4 w4' hC hn0
  go_wp2_with fail
  refine (pick_went R 1 _ _ hW2.rd (by omega) (by omega) (by omega)).mono ?_
  rintro e w3 ⟨⟨A, rfl, hA⟩, hW3, hz3⟩
  clear hz3
  have HW3 : Hid (Went w1 w3 R 2) := hW2.trans hW3
  have hAC : A ≤ C := by omega
  clear hA hW2 hW3
  have HRD : Hid (Rd w3 R 2) := HW3.out.rd
  have HRU : Hid (R < w3.heap.size) := Nat.lt_of_lt_of_le HGR.out.2 HW3.out.gr.size
  obtain ⟨U, hU⟩ : ∃ U, w3 = U := ⟨_, rfl⟩
  rw [hU] at HRD HRU HW3
  go_wp2_with fail
  try rw [hU]
  clear hU
  have ww2 : IntKind.i64.wrap ((C : Int) - (A : Int)) = (C : Int) - (A : Int) := by simp [IntKind.wrap, IntKind.bits, IntKind.signed]; omega
  have ww3 : IntKind.i64.wrap ((C : Int) - (A : Int) + 1) = (C : Int) - (A : Int) + 1 := by simp [IntKind.wrap, IntKind.bits, IntKind.signed]; omega
  have ww4 : IntKind.i64.wrap (-(C : Int)) = -(C : Int) := negM (by omega)
  have ww5 : IntKind.i64.wrap (-(C : Int) - 1) = -(C : Int) - 1 := by simp [IntKind.wrap, IntKind.bits, IntKind.signed]; omega
  go_region_law (first
    | (go_simp; with_reducible refine (pickM R (pA + 1 + 1) 12 U _ _ _ _ _ v hdC (by omega) (by omega) (by omega) HRU.out).mono ?_; rintro e wd ⟨n4, rfl, hk4, hdD, qd⟩; have t4 := quartM hk4; have ta := t4.a; have tb := t4.b; have tc := t4.c; have td := t4.d; have te := t4.e; have tf := t4.f; clear t4; have xd := qd (n4 * 4 / 12) (by omega); clear qd)
    | (go_simp; with_reducible refine (pick0 R (pA + 1 + 1) 12 U _ v hdC (by omega) (by omega) (by omega) HRU.out).mono ?_; rintro e wd ⟨n4, rfl, hk4, hdD⟩; have t4 := quartM hk4; have ta := t4.a; have tb := t4.b; have tc := t4.c; have td := t4.d; have te := t4.e; have tf := t4.f; clear t4; have qs := fun (u : World) (a b c : Int) (T : TypeId) => m4F_cell (k := n4 * 4 / 12) (by omega) u a b c T)
    | (go_simp; with_reducible refine (pick0 R (pA + 1) _ U _ v hdB (by omega) (by omega) (by omega) HRU.out).mono ?_; rintro e wc ⟨n3, rfl, hk3, hdC⟩; have hn3 := negM (k := n3) (by omega))
    | (go_simp; with_reducible refine (pick0 R (pA) 6 U _ v hdA (by omega) (by omega) (by omega) HRU.out).mono ?_; rintro e wb ⟨n2, rfl, hk2, hdB⟩)
    | (go_simp; with_reducible refine (spansB R 2 C U HRD.out (by omega) (by omega)).mono ?_; rintro e wa ⟨v, rfl, pA, hpA, hdA⟩))
  all_goals go_wp2_with fail
  all_goals first
    | (with_reducible (change bodyPost _ _ _ _ _ wd)
       refine bodyPost_ret (results_tmp4M rfl _ _ _) rfl ?_
       have he := end_move HBE1.out HW3.out hdD HGR.out.1 HGR.out.2
       exact ⟨⟨_, _, _, _, rfl, he.1, by omega, hAC⟩, he.2⟩)
    | (with_reducible (change bodyPost _ _ _ _ _ (wd.alloc _))
       refine bodyPost_ret (results_tmp4M rfl _ _ _) rfl ?_
       have he := end_move HBE1.out HW3.out hdD HGR.out.1 HGR.out.2
       exact ⟨⟨_, _, _, _, rfl, spRes_alloc he.1 _, by omega, hAC⟩, bstep he.2 (below_new _ _)⟩)
    | (trace_state; sorry)
end Go.Proofs.Ytobmdefklgkoiaa
