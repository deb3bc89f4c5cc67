import Derived.Test.YtobmdefklgkoiaaDrawSp2
import Derived.Test.YtobmdefklgkoiaaBytesRowA
import Derived.Laws.Rows
import Derived.RangeFuncRecord
namespace Go.Proofs.Ytobmdefklgkoiaa
open Go.ChangeShapes Go.WideShapes Go.ChangeAt Go.RowKit
set_option linter.unusedSimpArgs false
set_option linter.unusedVariables false

def p3F (k : Nat) : Int := [10, 20, 0].getD k 0
abbrev arrP (T : TypeId) : Obj := .cells #[.int .i64 10, .int .i64 20, .int .i64 0] T
theorem p3F_cell {k : Nat} (h : k < 3) (u : World) (T : TypeId) : (u.alloc (arrP T)).cell? ⟨u.heap.size, k, none⟩ = some (.int .i64 (p3F k)) := by
  rcases (show k = 0 ∨ k = 1 ∨ k = 2 by omega) with rfl | rfl | rfl <;> simp [p3F]
/-- What the walk asks of a third of sixteen. -/
structure ThirdP (k : Nat) : Prop where
  a : IntKind.i64.wrap ((k : Int) * 3) = (k : Int) * 3
  b : Int.tdiv ((k : Int) * 3) 16 = (k : Int) * 3 / 16
  c : IntKind.i64.wrap ((k : Int) * 3 / 16) = (k : Int) * 3 / 16
  d : (k : Int) * 3 / 16 < 3
  e : 0 ≤ (k : Int) * 3 / 16
  f : ((k : Int) * 3 / 16).toNat = k * 3 / 16
theorem thirdP {k : Nat} (h : (k : Int) < 16) : ThirdP k := by
  rcases (by omega : k = 0 ∨ k = 1 ∨ k = 2 ∨ k = 3 ∨ k = 4 ∨ k = 5 ∨ k = 6 ∨ k = 7 ∨ k = 8 ∨ k = 9 ∨ k = 10 ∨ k = 11 ∨ k = 12 ∨ k = 13 ∨ k = 14 ∨ k = 15) with rfl | rfl | rfl | rfl | rfl | rfl | rfl | rfl | rfl | rfl | rfl | rfl | rfl | rfl | rfl | rfl <;> exact ⟨by decide, by decide, by decide, by decide, by decide, by decide⟩
def P3 (u : World) (R X : Nat) : Prop := R < X ∧ X < u.heap.size ∧ ∀ k, k < 3 → u.cell? ⟨X, k, none⟩ = some (.int .i64 (p3F k))
theorem P3.new {R : Nat} (u : World) (T : TypeId) (hR : R < u.heap.size) : P3 (u.alloc (arrP T)) R u.heap.size := ⟨hR, by simp, fun k hk => p3F_cell hk u T⟩
theorem P3.went {u w' : World} {R p X : Nat} (h : P3 u R X) (hW : Went u w' R p) : P3 w' R X := ⟨h.1, Nat.lt_of_lt_of_le h.2.1 hW.gr.size, fun k hk => went_cell hW h.2.1 (Nat.ne_of_gt h.1) (h.2.2 k hk)⟩
theorem P3.at {u : World} {R X k : Nat} (h : P3 u R X) (hk : (k : Int) < 16) : u.cell? ⟨X, k * 3 / 16, none⟩ = some (.int .i64 (p3F (k * 3 / 16))) := h.2.2 _ (by omega)
/-- The result's block. -/
structure BoxG (w : World) (G : Nat) : Prop where
  f0 : w.frozen? ⟨G, 0, none⟩ = false
  f1 : w.frozen? ⟨G, 1, none⟩ = false
  f2 : w.frozen? ⟨G, 2, none⟩ = false
  f3 : w.frozen? ⟨G, 3, none⟩ = false
  c0 : w.cell? ⟨G, 0, none⟩ = some (.int .i64 0)
  c1 : w.cell? ⟨G, 1, none⟩ = some (.int .i64 0)
  c2 : w.cell? ⟨G, 2, none⟩ = some (.int .i64 0)
  c3 : w.cell? ⟨G, 3, none⟩ = some (.int .i64 0)
  l : G < w.heap.size
  h : w.heap[G]? = some (.cells #[.int .i64 0, .int .i64 0, .int .i64 0, .int .i64 0] 32 (0, 0))
theorem boxG {u w : World} {R p G : Nat} (hW : Went u w R p) (h : u.heap[G]? = some (.cells #[.int .i64 0, .int .i64 0, .int .i64 0, .int .i64 0] 32 (0, 0))) (hG : G < R) : BoxG w G := by
  have hl := (Array.getElem?_eq_some_iff.1 h).1
  have e := (hW.gr.block G hl (fun e => by simp at e; omega)).trans h
  refine ⟨?_, ?_, ?_, ?_, ?_, ?_, ?_, ?_, Nat.lt_of_lt_of_le hl hW.gr.size, e⟩ <;> simp [World.cell?, World.frozen?, e]
/-- How far the drawing is: from U on; the spans are drawn. -/
def Dp (U w : World) (R p : Nat) (v : Value) : Prop := Went U w R p ∧ ∃ n s, OwnS w U.heap.size v n s ∧ n ≤ 14
theorem Dp.alloc {U w : World} {R p : Nat} {v : Value} (h : Dp U w R p v) (o : Obj) : Dp U (w.alloc o) R p v := by
  obtain ⟨h1, n, s, h2, h3⟩ := h
  exact ⟨⟨h1.rd.alloc o, grown_trans h1.gr (grown_alloc _ _ _)⟩, n, s, World.ownsRow.alloc h2 o, h3⟩
theorem spansU (R p C : Nat) (U u : World) (hU : Went U u R p) (hp : p ≤ 60000) (hC : C ≤ 100) (hR : R < U.heap.size) :
    Calls Try.prog 31 #[.pointer (some ⟨R, 0, none⟩), .int .i64 (C : Int)] u fun e w' => ∃ v, e = .returned v ∧ ∃ p', p' ≤ p + 200 ∧ Dp U w' R p' v ∧ Went u w' R p' := by
  refine (anySpans R p C u hU.rd (by omega) hC).mono ?_
  rintro e w' ⟨⟨v, rfl, n, s, ho, hn⟩, p', hp', hW⟩
  exact ⟨v, rfl, p', hp', ⟨hU.trans hW, n, s, ho.mono hU.gr.size, hn⟩, hW⟩
theorem pickU (R p : Nat) (m : Int) (U u : World) (v : Value) (h : Dp U u R p v) (hp : p ≤ 90000) (hm1 : 1 ≤ m) (hm2 : m ≤ 1000000) (hR : R < U.heap.size) :
    Calls Try.prog 30 #[.pointer (some ⟨R, 0, none⟩), .int .i64 m] u fun e w' => ∃ k : Nat, e = .returned (.int .i64 k) ∧ (k : Int) < m ∧ Dp U w' R (p + 1) v ∧ Went u w' R (p + 1) := by
  obtain ⟨h1, n, s, h2, h3⟩ := h
  refine (pick_went R p m u h1.rd (by omega) hm1 hm2).mono ?_
  rintro e w' ⟨⟨k, rfl, hk⟩, hW, hz⟩
  exact ⟨k, rfl, hk, ⟨h1.trans hW, n, s, h2.went hW hR, h3⟩, hW⟩
theorem boxD {u w : World} {R p G : Nat} {v : Value} (hW : Dp u w R p v) (h : u.heap[G]? = some (.cells #[.int .i64 0, .int .i64 0, .int .i64 0, .int .i64 0] 32 (0, 0))) (hG : G < R) : BoxG w G := by
  obtain ⟨h1, _⟩ := hW
  exact boxG h1 h hG
/-- Three results, the last one in a block. -/
theorem ret_put {f : Func} {p q r : Tmp} (h : f.results = #[.tmp p, .tmp q, .cell r 32]) (tmps : Array Value) (w : World) (g : Nat) (x y z u : Int) (T : TypeId) (hp : tmps.getD r undef = .pointer (some ⟨g, 0, none⟩))
    (hg : w.heap[g]? = some (.cells #[.int .i64 x, .int .i64 y, .int .i64 z, .int .i64 u] T (0, 0))) : (results f tmps).run Try.prog w = .ok (.tuple #[tmps.getD p undef, tmps.getD q undef, .agg #[.int .i64 x, .int .i64 y, .int .i64 z, .int .i64 u]]) w := by
  have hp' : tmps[r]?.getD undef = .pointer (some ⟨g, 0, none⟩) := by simpa using hp
  simp [results, h, hp', asAddr, run_loadVar_row w g T 32 _ (0, 0) _ hg Try.underlying32 rfl (by kernel_rfl)]
abbrev set4 (w : World) (G : Nat) (x y z u : Int) : World := (((w.setCell ⟨G, 0, none⟩ (.int .i64 x)).setCell ⟨G, 1, none⟩ (.int .i64 y)).setCell ⟨G, 2, none⟩ (.int .i64 z)).setCell ⟨G, 3, none⟩ (.int .i64 u)
theorem box_set {w : World} {G : Nat} {T : TypeId} (x y z u : Int) (h : w.heap[G]? = some (.cells #[.int .i64 0, .int .i64 0, .int .i64 0, .int .i64 0] T (0, 0))) :
    (set4 w G x y z u).heap[G]? = some (.cells #[.int .i64 x, .int .i64 y, .int .i64 z, .int .i64 u] T (0, 0)) := by
  rw [heap_setCell_same _ G 3 _ _ _ (heap_setCell_same _ G 2 _ _ _ (heap_setCell_same _ G 1 _ _ _ (heap_setCell_same w G 0 _ _ _ h)))]
  rfl
theorem set4_other (w : World) (G : Nat) (x y z u : Int) (k : Nat) (hk : k ≠ G) : (set4 w G x y z u).heap[k]? = w.heap[k]? := by
  rw [heap_setCell_other _ ⟨G, 3, none⟩ k _ hk, heap_setCell_other _ ⟨G, 2, none⟩ k _ hk, heap_setCell_other _ ⟨G, 1, none⟩ k _ hk, heap_setCell_other _ ⟨G, 0, none⟩ k _ hk]
/-- What the draw leaves. -/
theorem end_put {w w1 U wd : World} {R p q G : Nat} {v : Value} (hB : Below w.heap.size w w1) (hW : Went w1 U R q) (hd : Dp U wd R p v) (hG : w.heap.size = G) (hGR : G < R) (hR : R < w1.heap.size) (x y z u : Int) :
    SpRes (set4 wd G x y z u) w.heap.size v ∧ Below w.heap.size w (set4 wd G x y z u) := by
  obtain ⟨h1, n, s, h2, h3⟩ := hd
  have hU := hW.gr.size
  have hs := hB.size
  refine ⟨⟨n, s, ?_, h3⟩, ?_⟩
  · exact OwnS.mono (OwnS.kept h2 fun k hk => set4_other wd G x y z u k (by have := (h2.lt k hk).1; omega)) (by omega)
  · have b1 : Below w.heap.size w wd := hB.trans (Went.below (hW.trans h1) (by omega) hR)
    exact (((b1.setCell (p := ⟨G, 0, none⟩) (Nat.le_of_eq hG) _).setCell (p := ⟨G, 1, none⟩) (Nat.le_of_eq hG) _).setCell (p := ⟨G, 2, none⟩) (Nat.le_of_eq hG) _).setCell (p := ⟨G, 3, none⟩) (Nat.le_of_eq hG) _
theorem spRes_alloc {w : World} {B : Nat} {v : Value} (h : SpRes w B v) (o : Obj) : SpRes (w.alloc o) B v := by
  obtain ⟨n, s, h1, h2⟩ := h
  exact ⟨n, s, World.ownsRow.alloc h1 o, h2⟩
-- the array is there, or comes, or is not there yet
theorem spansA (R p C : Nat) (U : World) (T : TypeId) (hU : Rd U R p) (hp : p ≤ 60000) (hC : C ≤ 100) :
    Calls Try.prog 31 #[.pointer (some ⟨R, 0, none⟩), .int .i64 (C : Int)] (U.alloc (arrP T)).drew fun e w' => ∃ v, e = .returned v ∧ ∃ p', p' ≤ p + 200 ∧ Dp U w' R p' v ∧ P3 w' R U.heap.size := by
  have hR := hU.lt
  refine (spansU R p C U (U.alloc (arrP T)).drew ⟨hU.alloc _, ⟨rfl, rfl, rfl, (grown_alloc U (arrP T) (some R)).size, (grown_alloc U (arrP T) (some R)).block⟩⟩ hp hC hR).mono ?_
  rintro e w' ⟨v, rfl, p', hp', hd, hW⟩
  exact ⟨v, rfl, p', hp', hd, P3.went (u := (U.alloc (arrP T)).drew) (P3.new U T hR) hW⟩
theorem spansB (R p C : Nat) (U : World) (hU : Rd U R p) (hp : p ≤ 60000) (hC : C ≤ 100) :
    Calls Try.prog 31 #[.pointer (some ⟨R, 0, none⟩), .int .i64 (C : Int)] U.drew fun e w' => ∃ v, e = .returned v ∧ ∃ p', p' ≤ p + 200 ∧ Dp U w' R p' v := by
  refine (spansU R p C U U.drew ⟨hU, ⟨rfl, rfl, rfl, Nat.le_refl _, fun _ _ _ => rfl⟩⟩ hp hC hU.lt).mono ?_
  rintro e w' ⟨v, rfl, p', hp', hd, hW⟩
  exact ⟨v, rfl, p', hp', hd⟩
theorem pickK (R p X : Nat) (m : Int) (U u : World) (v : Value) (h : Dp U u R p v) (hp : p ≤ 90000) (hm1 : 1 ≤ m) (hm2 : m ≤ 1000000) (hR : R < U.heap.size) (hX : P3 u R X) :
    Calls Try.prog 30 #[.pointer (some ⟨R, 0, none⟩), .int .i64 m] u fun e w' => ∃ k : Nat, e = .returned (.int .i64 k) ∧ (k : Int) < m ∧ Dp U w' R (p + 1) v ∧ P3 w' R X := by
  refine (pickU R p m U u v h hp hm1 hm2 hR).mono ?_
  rintro e w' ⟨k, rfl, hk, hd, hW⟩
  exact ⟨k, rfl, hk, hd, hX.went hW⟩
theorem pickN (R p : Nat) (m : Int) (U u : World) (T : TypeId) (v : Value) (h : Dp U u R p v) (hp : p ≤ 90000) (hm1 : 1 ≤ m) (hm2 : m ≤ 1000000) (hR : R < U.heap.size) :
    Calls Try.prog 30 #[.pointer (some ⟨R, 0, none⟩), .int .i64 m] (u.alloc (arrP T)) fun e w' => ∃ k : Nat, e = .returned (.int .i64 k) ∧ (k : Int) < m ∧ Dp U w' R (p + 1) v ∧ P3 w' R u.heap.size := by
  have hs := h.1.gr.size
  refine (pickU R p m U (u.alloc (arrP T)) v (h.alloc _) hp hm1 hm2 hR).mono ?_
  rintro e w' ⟨k, rfl, hk, hd, hW⟩
  exact ⟨k, rfl, hk, hd, P3.went (P3.new u T (by omega)) hW⟩
theorem pick0 (R p : Nat) (m : Int) (U u : World) (v : Value) (h : Dp U u R p v) (hp : p ≤ 90000) (hm1 : 1 ≤ m) (hm2 : m ≤ 1000000) (hR : R < U.heap.size) :
    Calls Try.prog 30 #[.pointer (some ⟨R, 0, none⟩), .int .i64 m] u fun e w' => ∃ k : Nat, e = .returned (.int .i64 k) ∧ (k : Int) < m ∧ Dp U w' R (p + 1) v := by
  refine (pickU R p m U u v h hp hm1 hm2 hR).mono ?_
  rintro e w' ⟨k, rfl, hk, hd, hW⟩
  exact ⟨k, rfl, hk, hd⟩

set_option maxRecDepth 10000 in
set_option maxHeartbeats 4000000 in
theorem drawSpansPut (a : Option Addr) (len cap : Nat) (w : World) (h : Bytes w a len cap) :
    Calls Try.prog 16 #[.slice a len cap] w fun e w' => (∃ v, ∃ C : Nat, ∃ f t s m : Int, e = .returned (.tuple #[v, .int .i64 (C : Int), .agg #[.int .i64 f, .int .i64 t, .int .i64 s, .int .i64 m]]) ∧ SpRes w' w.heap.size v ∧ C < 20) ∧ Below w.heap.size w w' := by
  have bx := below_new w (.cells #[.int .i64 0, .int .i64 0, .int .i64 0, .int .i64 0] 32)
  have hby : Bytes (w.alloc (.cells #[.int .i64 0, .int .i64 0, .int .i64 0, .int .i64 0] 32)) a len cap := h.below bx
  have HBY : Hid (Bytes (w.alloc (.cells #[.int .i64 0, .int .i64 0, .int .i64 0, .int .i64 0] 32)) a len cap) := hby
  clear h hby
  go_enter Try.func16, Try.ntmps16
  go_wp2_with fail
  refine (open_any a len cap _ HBY.out).mono ?_
  rintro e w1 ⟨rfl, hr1, b1⟩
  have hR0 : (w.alloc (.cells #[.int .i64 0, .int .i64 0, .int .i64 0, .int .i64 0] 32)).heap.size = w.heap.size + 1 := by simp
  obtain ⟨R, hR⟩ : ∃ R, w.heap.size + 1 = R := ⟨_, rfl⟩
  obtain ⟨G, hG⟩ : ∃ G, w.heap.size = G := ⟨_, rfl⟩
  have hb1 := b1
  rw [hR0, hR] at hr1
  have hbox1 : w1.heap[G]? = some (.cells #[.int .i64 0, .int .i64 0, .int .i64 0, .int .i64 0] 32 (0, 0)) := by
    rw [← hG]; exact (b1.block w.heap.size (by simp)).trans (World.alloc_heap_new w _)
  have HBX1 : Hid (w1.heap[G]? = some (.cells #[.int .i64 0, .int .i64 0, .int .i64 0, .int .i64 0] 32 (0, 0))) := hbox1
  have HBE1 : Hid (Below w.heap.size w w1) := bstep bx b1
  have HGR : Hid (G < R ∧ w.heap.size = G ∧ R < w1.heap.size) := ⟨by omega, hG, hr1.lt⟩
  have hl1 := hr1.lt
  rw [hR0, hR, hG]
  clear hb1 b1 bx hbox1 hR0 hR hG
  go_wp2_with fail
  refine (pick_went R 0 _ _ hr1 (by omega) (by omega) (by omega)).mono ?_
  rintro e w2 ⟨⟨C, rfl, hC⟩, hW2, hz2⟩
  clear hz2
  have hC20 : (C : Int) < 20 := hC
  go_wp2_with fail
  refine (pick_went R 1 _ _ hW2.rd (by omega) (by omega) (by omega)).mono ?_
  rintro e w3 ⟨⟨F, rfl, hF⟩, hW3, hz3⟩
  clear hz3
  have HW3 : Hid (Went w1 w3 R 2) := hW2.trans hW3
  have hFC : F ≤ C := by omega
  clear hF hW2 hW3
  have HBX3 : Hid (w3.heap[G]? = some (.cells #[.int .i64 0, .int .i64 0, .int .i64 0, .int .i64 0] 32 (0, 0))) := (HW3.out.gr.block G (Array.getElem?_eq_some_iff.1 HBX1.out).1 (fun e => by have := HGR.out.1; simp at e; omega)).trans HBX1.out
  have HRD : Hid (Rd w3 R 2) := HW3.out.rd
  have HRU : Hid (R < w3.heap.size) := Nat.lt_of_lt_of_le HGR.out.2.2 HW3.out.gr.size
  obtain ⟨U, hU⟩ : ∃ U, w3 = U := ⟨_, rfl⟩
  rw [hU] at HBX3 HRD HRU HW3
  go_wp2_with fail
  try rw [hU]
  clear hU
  have ww1 : IntKind.i64.wrap ((F : Int) + 1) = (F : Int) + 1 := by simp [IntKind.wrap, IntKind.bits, IntKind.signed]; omega
  have ww2 : IntKind.i64.wrap ((C : Int) - (F : Int)) = (C : Int) - (F : Int) := by simp [IntKind.wrap, IntKind.bits, IntKind.signed]; omega
  have ww3 : IntKind.i64.wrap ((C : Int) - (F : Int) + 1) = (C : Int) - (F : Int) + 1 := by simp [IntKind.wrap, IntKind.bits, IntKind.signed]; omega
  go_region_law (first
    | (go_simp; with_reducible refine (pickK R (pA + 1 + 1) _ 3 U _ v hdC (by omega) (by omega) (by omega) HRU.out qc).mono ?_; rintro e wd ⟨n4, rfl, hk4, hdD, qd⟩; have xd := P3.at qd hk3; have bG := boxD hdD HBX3.out HGR.out.1; have g0 := bG.f0; have g1 := bG.f1; have g2 := bG.f2; have g3 := bG.f3; have y0 := bG.c0; have y1 := bG.c1; have y2 := bG.c2; have y3 := bG.c3; have hgl := bG.l; clear bG)
    | (go_simp; with_reducible refine (pickN R (pA + 1 + 1) 3 U _ _ v hdC (by omega) (by omega) (by omega) HRU.out).mono ?_; rintro e wd ⟨n4, rfl, hk4, hdD, qd⟩; have xd := P3.at qd hk3; have bG := boxD hdD HBX3.out HGR.out.1; have g0 := bG.f0; have g1 := bG.f1; have g2 := bG.f2; have g3 := bG.f3; have y0 := bG.c0; have y1 := bG.c1; have y2 := bG.c2; have y3 := bG.c3; have hgl := bG.l; clear bG)
    | (go_simp; with_reducible refine (pick0 R (pA + 1 + 1) 3 U _ v hdC (by omega) (by omega) (by omega) HRU.out).mono ?_; rintro e wd ⟨n4, rfl, hk4, hdD⟩; have bG := boxD hdD HBX3.out HGR.out.1; have g0 := bG.f0; have g1 := bG.f1; have g2 := bG.f2; have g3 := bG.f3; have y0 := bG.c0; have y1 := bG.c1; have y2 := bG.c2; have y3 := bG.c3; have hgl := bG.l; clear bG)
    | (go_simp; with_reducible refine (pickK R (pA + 1) _ 16 U _ v hdB (by omega) (by omega) (by omega) HRU.out qb).mono ?_; rintro e wc ⟨n3, rfl, hk3, hdC, qc⟩; have t3 := thirdP hk3; have ta := t3.a; have tb := t3.b; have tc := t3.c; have td := t3.d; have te := t3.e; have tf := t3.f; have qs := fun (u : World) (T : TypeId) => p3F_cell (k := n3 * 3 / 16) (by omega) u T; have xc := P3.at qc hk3)
    | (go_simp; with_reducible refine (pickN R (pA + 1) 16 U _ _ v hdB (by omega) (by omega) (by omega) HRU.out).mono ?_; rintro e wc ⟨n3, rfl, hk3, hdC, qc⟩; have t3 := thirdP hk3; have ta := t3.a; have tb := t3.b; have tc := t3.c; have td := t3.d; have te := t3.e; have tf := t3.f; have qs := fun (u : World) (T : TypeId) => p3F_cell (k := n3 * 3 / 16) (by omega) u T; have xc := P3.at qc hk3)
    | (go_simp; with_reducible refine (pick0 R (pA + 1) 16 U _ v hdB (by omega) (by omega) (by omega) HRU.out).mono ?_; rintro e wc ⟨n3, rfl, hk3, hdC⟩; have t3 := thirdP hk3; have ta := t3.a; have tb := t3.b; have tc := t3.c; have td := t3.d; have te := t3.e; have tf := t3.f; have qs := fun (u : World) (T : TypeId) => p3F_cell (k := n3 * 3 / 16) (by omega) u T)
    | (go_simp; with_reducible refine (pickK R (pA) _ _ U _ v hdA (by omega) (by omega) (by omega) HRU.out qa).mono ?_; rintro e wb ⟨n2, rfl, hk2, hdB, qb⟩)
    | (go_simp; with_reducible refine (pickN R (pA) _ U _ _ v hdA (by omega) (by omega) (by omega) HRU.out).mono ?_; rintro e wb ⟨n2, rfl, hk2, hdB, qb⟩)
    | (go_simp; with_reducible refine (pick0 R (pA) _ U _ v hdA (by omega) (by omega) (by omega) HRU.out).mono ?_; rintro e wb ⟨n2, rfl, hk2, hdB⟩)
    | (go_simp; with_reducible refine (spansA R 2 C U _ HRD.out (by omega) (by omega)).mono ?_; rintro e wa ⟨v, rfl, pA, hpA, hdA, qa⟩)
    | (go_simp; with_reducible refine (spansB R 2 C U HRD.out (by omega) (by omega)).mono ?_; rintro e wa ⟨v, rfl, pA, hpA, hdA⟩))
  all_goals go_wp2_with fail
  all_goals first
    | (with_reducible (change bodyPost _ _ _ _ _ (set4 wd G (F : Int) _ _ _))
       refine bodyPost_ret (ret_put rfl _ _ G _ _ _ _ _ rfl (box_set _ _ _ _ (boxD hdD HBX3.out HGR.out.1).h)) rfl ?_
       have he := end_put HBE1.out HW3.out hdD HGR.out.2.1 HGR.out.1 HGR.out.2.2 (F : Int) (IntKind.i64.wrap ((F : Int) + 1 + (n2 : Int))) (p3F (n3 * 3 / 16)) (n4 : Int)
       exact ⟨⟨_, _, _, _, _, _, rfl, he.1, by omega⟩, he.2⟩)
    | (with_reducible (change bodyPost _ _ _ _ _ ((set4 wd G (F : Int) _ _ _).alloc _))
       refine bodyPost_ret (ret_put rfl _ _ G _ _ _ _ _ rfl (((below_new _ _).block G (by simp; exact (boxD hdD HBX3.out HGR.out.1).l)).trans (box_set _ _ _ _ (boxD hdD HBX3.out HGR.out.1).h))) rfl ?_
       have he := end_put HBE1.out HW3.out hdD HGR.out.2.1 HGR.out.1 HGR.out.2.2 (F : Int) (IntKind.i64.wrap ((F : Int) + 1 + (n2 : Int))) (p3F (n3 * 3 / 16)) (n4 : Int)
       exact ⟨⟨_, _, _, _, _, _, rfl, spRes_alloc he.1 _, by omega⟩, bstep he.2 (below_new _ _)⟩)
    | (trace_state; sorry)
end Go.Proofs.Ytobmdefklgkoiaa
