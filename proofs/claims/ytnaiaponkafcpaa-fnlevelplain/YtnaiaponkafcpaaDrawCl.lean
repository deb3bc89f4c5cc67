import Derived.Test.YtnaiaponkafcpaaDrawW
import Derived.Deep.RegionWith
namespace Go.Proofs.Ytnaiaponkafcpaa
open Go.ChangeShapes Go.WideShapes Go.ChangeAt Go.RowKit
set_option linter.unusedSimpArgs false

theorem four_is {w : World} {R : Nat} {a b c d : Int} {k : Nat} {T : TypeId} (h : w.heap[R]? = some (.cells #[.int .i64 a, .int .i64 b, .int .i64 c, .int .i64 d] T (0, 0))) (hk : k < 4) : ∃ x : Int, w.cell? ⟨R, k, none⟩ = some (.int .i64 x) := by
  rw [cell_of_row w R k _ _ _ h]
  rcases (by omega : k = 0 ∨ k = 1 ∨ k = 2 ∨ k = 3) with e | e | e | e
  all_goals (subst e; exact ⟨_, rfl⟩)
theorem OwnI.slc {w : World} {B : Nat} {v : Value} {l : List Int} (h : OwnI w B v l) : ∃ a n cap, v = .slice a n cap ∧ l.length = n := by
  rcases h.forms with ⟨rfl, rfl⟩ | ⟨g, cap, rfl, _⟩
  · exact ⟨_, _, _, rfl, rfl⟩
  · exact ⟨_, _, _, rfl, rfl⟩

set_option maxHeartbeats 4000000 in
theorem dclasses_any (R p : Nat) (w : World) (hr : Rd w R p) (hp : p ≤ 90000) :
    Calls Try.prog 42 #[.pointer (some ⟨R, 0, none⟩)] w fun e w' => (∃ v l, e = .returned v ∧ OwnI w' w.heap.size v l ∧ l.length ≤ 80) ∧ ∃ p', p' ≤ p + 200 ∧ Went w w' R p' := by
  have hlt := hr.lt
  go_enter Try.func42, Try.ntmps42
  go_wp2_with fail
  refine (pick_went R p _ _ (hr.alloc _) (by omega) (by omega) (by omega)).mono ?_
  rintro e w1 ⟨⟨n, rfl, hn⟩, hW, hsz⟩
  have hW0 : Went w w1 R (p + 1) := ⟨hW.rd, grown_trans (grown_alloc w _ _) hW.gr⟩
  have hO : OwnI w1 w.heap.size (.slice (some ⟨w.heap.size, 0, none⟩) 0 0) [] := (own_empty w w.heap.size 3 (Nat.le_refl _) rfl).went hW hlt
  clear hW hsz
  go_wp2_with fail
  go_loopw [3, 4] (fun q i wr => ∃ (k : Nat) (l : List Int) (p' : Nat), i = .int .i64 k ∧ OwnI wr w.heap.size q l ∧ l.length + k ≤ 23 ∧ p' + 5 * k ≤ p + 90 ∧ Went w wr R p') (fun _ i _ => (intOf i).toNat)
  case atStart => exact ⟨n, [], p + 1, rfl, hO, by simp; omega, by omega, hW0⟩
  case round =>
    obtain ⟨k, l, p', rfl, hown, hlen, hpp, hwent⟩ := hrel
    have hsz := hwent.gr.size
    by_cases hk : k = 0
    · subst hk
      go_wp2_with fail
      refine (pick_went R p' _ _ hwent.rd (by omega) (by omega) (by omega)).mono ?_
      rintro e w2 ⟨⟨m, rfl, hm⟩, hW2, hsz2⟩
      have hW3 := hwent.trans hW2
      have hown2 := hown.went hW2 hlt
      clear hW2 hsz2
      by_cases hm0 : m = 0
      · subst hm0
        have hR := hW3.rd
        go_wp2_with fail
        refine (one_any R (p' + 1) _ _ _ _ hR (by omega) (by kernel_rfl) (by rfl) (by omega) (by omega)).mono ?_
        rintro e w4 ⟨⟨x, rfl⟩, hW4⟩
        have hW5 := hW3.trans hW4
        have hown4 := hown2.went hW4 hlt
        have hs4 := hW5.gr.size
        clear hW4
        go_wp2_with (at_builtin; refine own_append (.tmp 35) (.tmp 39) hown4 (by omega) hs4 rfl rfl rfl rfl ?_; intro v' w5 hown5 hgr5)
        go_ret
        exact ⟨⟨_, _, rfl, hown5, by simp; omega⟩, p' + 1 + 1, by omega, hW5.own hgr5 hown4 (Nat.le_refl _) hlt⟩
      · have hmb : ((m : Int) == 0) = false := by simp; omega
        go_wp2_with fail
        go_ret
        exact ⟨⟨_, l, rfl, hown2, by omega⟩, p' + 1, by omega, hW3⟩
    · obtain ⟨j, rfl⟩ : ∃ j, k = j + 1 := ⟨k - 1, by omega⟩
      go_wp2_with fail
      refine (pick_went R p' _ _ hwent.rd (by omega) (by omega) (by omega)).mono ?_
      rintro e w2 ⟨⟨x1, rfl, hx1⟩, hW2, hz2⟩
      have hV2 := hwent.trans hW2
      have hown2 := hown.went hW2 hlt
      clear hW2 hz2
      go_wp2_with fail
      refine (pick_went R (p' + 1) _ _ hV2.rd (by omega) (by omega) (by omega)).mono ?_
      rintro e w3 ⟨⟨x2, rfl, hx2⟩, hW3, hz3⟩
      have hV3 := hV2.trans hW3
      have hown3 := hown2.went hW3 hlt
      clear hW3 hz3
      go_wp2_with fail
      refine (pick_went R (p' + 1 + 1) _ _ hV3.rd (by omega) (by omega) (by omega)).mono ?_
      rintro e w4 ⟨⟨x3, rfl, hx3⟩, hW4, hz4⟩
      have hV4 := hV3.trans hW4
      have hown4 := hown3.went hW4 hlt
      clear hW4 hz4
      go_wp2_with fail
      refine (pick_went R (p' + 1 + 1 + 1) _ _ hV4.rd (by omega) (by omega) (by omega)).mono ?_
      rintro e w5 ⟨⟨x4, rfl, hx4⟩, hW5, hz5⟩
      have hV5 := hV4.trans hW5
      have hown5 := hown4.went hW5 hlt
      have hs5 := hV5.gr.size
      clear hW5 hz5
      go_wp2_with fail
      refine (pick_went R (p' + 1 + 1 + 1 + 1) _ _ (hV5.rd.alloc _) (by omega) (by omega) (by omega)).mono ?_
      rintro e w6 ⟨⟨x5, rfl, hx5⟩, hW6, hz6⟩
      have hV6 : Went w w6 R (p' + 1 + 1 + 1 + 1 + 1) := ⟨hW6.rd, grown_trans hV5.gr (grown_trans (grown_alloc w5 _ _) hW6.gr)⟩
      have hown6 : OwnI w6 w.heap.size _ l := OwnI.went (World.ownsRow.alloc hown5 _) hW6 hlt
      have hs6 := hV6.gr.size
      obtain ⟨x6, hx6⟩ : ∃ x : Int, w6.cell? ⟨w5.heap.size, x5, none⟩ = some (.int .i64 x) := by
        refine four_is (T := 3) (a := 1 + (x1 : Int)) (b := 1 + (x2 : Int)) (c := 11 + (x3 : Int)) (d := 19 + (x4 : Int)) ?_ (by omega)
        rw [hW6.gr.block _ (by simp) (by simp; omega)]
        show (w5.heap.push _)[w5.heap.size]? = _
        simp
      clear hW6 hz6
      go_wp2_with (at_builtin; refine own_append (.tmp 12) (.tmp 30) hown6 (by omega) hs6 rfl rfl rfl rfl ?_; intro v' w7 hown7 hgr7)
      go_roundw
      case rel => exact ⟨j, l ++ [x6], p' + 1 + 1 + 1 + 1 + 1, by go_num, hown7, by simp; omega, by omega, hV6.own hgr7 hown6 (Nat.le_refl _) hlt⟩
      case measure => simp only [intOf]; omega

theorem Went.ofDrew {u u' : World} {R p : Nat} (h : Went u.drew u' R p) : Went u u' R p := ⟨h.rd, ⟨h.gr.os, h.gr.tape, h.gr.output, h.gr.size, h.gr.block⟩⟩
theorem Went.ofAlloc {u u' : World} {o : Obj} {R p : Nat} (h : Went (u.alloc o) u' R p) : Went u u' R p := ⟨h.rd, grown_trans (grown_alloc u o _) h.gr⟩
theorem went_cell' {u u' : World} {R p B j : Nat} {v : Value} (h : Went u u' R p) (hB : B < u.heap.size) (hne : B ≠ R) (hc : u.cell? ⟨B, j, none⟩ = some v) : u'.cell? ⟨B, j, none⟩ = some v :=
  (World.cell?_of_block (a := ⟨B, j, none⟩) (h.gr.block B hB (fun e => hne (by simpa using e)))).trans hc
def c3F (k : Nat) : Int := [1, 2, 3].getD k 0
abbrev arr3 (T : TypeId) : Obj := .cells #[.int .i64 1, .int .i64 2, .int .i64 3] T
theorem c3F_cell {k : Nat} (h : k < 3) (u : World) (T : TypeId) : (u.alloc (arr3 T)).cell? ⟨u.heap.size, k, none⟩ = some (.int .i64 (c3F k)) := by
  rcases (show k = 0 ∨ k = 1 ∨ k = 2 by omega) with rfl | rfl | rfl <;> simp [c3F]
theorem c3F_new {k : Nat} (h : (k : Int) < 16) (u : World) (T : TypeId) : (u.alloc (arr3 T)).cell? ⟨u.heap.size, k * 3 / 16, none⟩ = some (.int .i64 (c3F (k * 3 / 16))) := c3F_cell (by omega) u T
/-- What a row of classes leaves. -/
def ClsRes (u w' : World) (R p : Nat) (v : Value) : Prop := ∃ l p', p' ≤ p + 200 ∧ Went u w' R p' ∧ OwnI w' u.heap.size v l ∧ l.length ≤ 80
/-- What the walk asks of a dthird. -/
structure Third (k : Nat) : Prop where
  a : IntKind.i64.wrap ((k : Int) * 3) = (k : Int) * 3
  b : Int.tdiv ((k : Int) * 3) 16 = (k : Int) * 3 / 16
  c : IntKind.i64.wrap ((k : Int) * 3 / 16) = (k : Int) * 3 / 16
  d : (k : Int) * 3 / 16 < 3
  e : 0 ≤ (k : Int) * 3 / 16
  f : ((k : Int) * 3 / 16).toNat = k * 3 / 16
theorem dthird {k : Nat} (h : (k : Int) < 16) : Third k := by
  rcases (by omega : k = 0 ∨ k = 1 ∨ k = 2 ∨ k = 3 ∨ k = 4 ∨ k = 5 ∨ k = 6 ∨ k = 7 ∨ k = 8 ∨ k = 9 ∨ k = 10 ∨ k = 11 ∨ k = 12 ∨ k = 13 ∨ k = 14 ∨ k = 15) with rfl | rfl | rfl | rfl | rfl | rfl | rfl | rfl | rfl | rfl | rfl | rfl | rfl | rfl | rfl | rfl <;> exact ⟨by decide, by decide, by decide, by decide, by decide, by decide⟩
theorem dclA (R p : Nat) (u : World) (T : TypeId) (hr : Rd u R p) (hp : p ≤ 90000) :
    Calls Try.prog 42 #[.pointer (some ⟨R, 0, none⟩)] (u.alloc (arr3 T)).drew fun e w' => ∃ v, e = .returned v ∧ ClsRes u w' R p v ∧ Hid (∀ k, k < 3 → w'.cell? ⟨u.heap.size, k, none⟩ = some (.int .i64 (c3F k))) ∧ u.heap.size < w'.heap.size := by
  have hl := hr.lt
  refine (dclasses_any R p (u.alloc (arr3 T)).drew (show Rd (u.alloc (arr3 T)) R p from hr.alloc _) hp).mono ?_
  rintro e w' ⟨⟨v, l, rfl, ho, hll⟩, p', hp', hW⟩
  have h1 := Went.ofDrew hW
  refine ⟨v, rfl, ⟨l, p', hp', Went.ofAlloc h1, ho.mono (by simp [World.drew]), hll⟩, fun k hk => went_cell' h1 (by simp) (by omega) (c3F_cell hk u T), ?_⟩
  have := h1.gr.size
  simp at this; omega
theorem dclB (R p : Nat) (u : World) (hr : Rd u R p) (hp : p ≤ 90000) :
    Calls Try.prog 42 #[.pointer (some ⟨R, 0, none⟩)] u.drew fun e w' => ∃ v, e = .returned v ∧ ClsRes u w' R p v := by
  refine (dclasses_any R p u.drew (show Rd u R p from hr) hp).mono ?_
  rintro e w' ⟨⟨v, l, rfl, ho, hll⟩, p', hp', hW⟩
  exact ⟨v, rfl, l, p', hp', Went.ofDrew hW, ho, hll⟩
/-- What a side behind them leaves. -/
def ClsRes2 (u w' : World) (R : Nat) (v : Value) : Prop := ∃ l p', Went u w' R p' ∧ OwnI w' u.heap.size v l ∧ l.length ≤ 80
theorem dclC (R p X : Nat) (u0 u : World) (v : Value) (hc : ClsRes u0 u R p v) (hp : p ≤ 90000) (hX : X < u.heap.size) (hXR : R < X) (hR : R < u0.heap.size) (hq : Hid (∀ k, k < 3 → u.cell? ⟨X, k, none⟩ = some (.int .i64 (c3F k)))) :
    Calls Try.prog 43 #[.pointer (some ⟨R, 0, none⟩), .int .i64 16] u fun e w' => ∃ k : Nat, e = .returned (.int .i64 k) ∧ (k : Int) < 16 ∧ Third k ∧ ClsRes2 u0 w' R v ∧ w'.cell? ⟨X, k * 3 / 16, none⟩ = some (.int .i64 (c3F (k * 3 / 16))) := by
  obtain ⟨l, p', hp', hW, ho, hl⟩ := hc
  refine (pick_went R p' 16 _ hW.rd (by omega) (by omega) (by omega)).mono ?_
  rintro e w' ⟨⟨k, rfl, hk⟩, hW2, hz⟩
  exact ⟨k, rfl, hk, dthird hk, ⟨l, _, hW.trans hW2, ho.went hW2 hR, hl⟩, went_cell' hW2 hX (by omega) (hq.out _ (by omega))⟩
theorem dclD (R p : Nat) (u0 u : World) (T : TypeId) (v : Value) (hc : ClsRes u0 u R p v) (hp : p ≤ 90000) (hR : R < u0.heap.size) :
    Calls Try.prog 43 #[.pointer (some ⟨R, 0, none⟩), .int .i64 16] (u.alloc (arr3 T)) fun e w' => ∃ k : Nat, e = .returned (.int .i64 k) ∧ (k : Int) < 16 ∧ Third k ∧ ClsRes2 u0 w' R v ∧ w'.cell? ⟨u.heap.size, k * 3 / 16, none⟩ = some (.int .i64 (c3F (k * 3 / 16))) := by
  obtain ⟨l, p', hp', hW, ho, hl⟩ := hc
  have hlt := hW.rd.lt
  refine (pick_went R p' 16 _ (hW.rd.alloc _) (by omega) (by omega) (by omega)).mono ?_
  rintro e w' ⟨⟨k, rfl, hk⟩, hW2, hz⟩
  exact ⟨k, rfl, hk, dthird hk, ⟨l, _, hW.trans (Went.ofAlloc hW2), OwnI.went (World.ownsRow.alloc ho _) hW2 hR, hl⟩, went_cell' hW2 (by simp) (by omega) (c3F_cell (by omega) u T)⟩
theorem dclE (R p : Nat) (u0 u : World) (v : Value) (hc : ClsRes u0 u R p v) (hp : p ≤ 90000) (hR : R < u0.heap.size) :
    Calls Try.prog 43 #[.pointer (some ⟨R, 0, none⟩), .int .i64 16] u fun e w' => ∃ k : Nat, e = .returned (.int .i64 k) ∧ (k : Int) < 16 ∧ Third k ∧ ClsRes2 u0 w' R v := by
  obtain ⟨l, p', hp', hW, ho, hl⟩ := hc
  refine (pick_went R p' 16 _ hW.rd (by omega) (by omega) (by omega)).mono ?_
  rintro e w' ⟨⟨k, rfl, hk⟩, hW2, hz⟩
  exact ⟨k, rfl, hk, dthird hk, l, _, hW.trans hW2, ho.went hW2 hR, hl⟩
theorem ClsRes2.alloc {u w' : World} {R : Nat} {v : Value} (h : ClsRes2 u w' R v) (o : Obj) : ClsRes2 u (w'.alloc o) R v := by
  obtain ⟨l, p', hW, ho, hl⟩ := h
  exact ⟨l, p', ⟨hW.rd.alloc o, grown_trans hW.gr (grown_alloc _ _ _)⟩, World.ownsRow.alloc ho o, hl⟩

set_option maxHeartbeats 2000000 in
theorem drawWeak (a : Option Addr) (len cap : Nat) (w : World) (h : Bytes w a len cap) :
    Calls Try.prog 14 #[.slice a len cap] w fun e w' => (∃ v l, ∃ b : Int, e = .returned (.tuple #[v, .int .i64 b]) ∧ OwnI w' w.heap.size v l ∧ l.length ≤ 80) ∧ Below w.heap.size w w' := by
  go_enter Try.func14, Try.ntmps14
  go_wp2_with fail
  refine (open_any a len cap w h).mono ?_
  rintro e w1 ⟨rfl, hR, hB⟩
  have hlt := hR.lt
  have hsz := hB.size
  have HB : Hid _ := hB
  have HR : Hid _ := hR
  have HLT : Hid _ := hlt
  clear hB hR
  go_wp2_with fail
  go_region_with (first
    | (go_at_call 43; refine (dclC w.heap.size 0 w1.heap.size w1 _ _ hca (by omega) hsa hlt hlt hqa).mono ?_; rintro e w3 ⟨k, rfl, hk, ⟨hk1, hk2, hk3, hk4, hk5, hk6⟩, hcb, hqb⟩)
    | (go_at_call 43; refine (dclD w.heap.size 0 w1 _ _ _ hca (by omega) hlt).mono ?_; rintro e w3 ⟨k, rfl, hk, ⟨hk1, hk2, hk3, hk4, hk5, hk6⟩, hcb, hqb⟩)
    | (go_at_call 43; refine (dclE w.heap.size 0 w1 _ _ hca (by omega) hlt).mono ?_; rintro e w3 ⟨k, rfl, hk, ⟨hk1, hk2, hk3, hk4, hk5, hk6⟩, hcb⟩; have hqb := fun (u : World) (T : TypeId) => c3F_new hk u T)
    | (go_at_call 42; refine (dclA w.heap.size 0 w1 _ HR.out (by omega)).mono ?_; rintro e w2 ⟨v, rfl, hca, hqa, hsa⟩)
    | (go_at_call 42; refine (dclB w.heap.size 0 w1 HR.out (by omega)).mono ?_; rintro e w2 ⟨v, rfl, hca⟩))
  all_goals (go_wp2_with fail)
  all_goals go_ret2
  all_goals
    first
      | (obtain ⟨l, p', hW, ho, hl⟩ := hcb; exact ⟨⟨_, l, _, rfl, ho.mono (by omega), hl⟩, HB.out.trans (hW.below (Nat.le_refl _) hlt)⟩)
      | (obtain ⟨l, p', hW, ho, hl⟩ := hcb.alloc _; exact ⟨⟨_, l, _, rfl, ho.mono (by omega), hl⟩, HB.out.trans (hW.below (Nat.le_refl _) hlt)⟩)

set_option maxHeartbeats 2000000 in
theorem drawPlain (a : Option Addr) (len cap : Nat) (w : World) (h : Bytes w a len cap)
    (HSW : Hid (∀ (v : Value) (l : List Int) (w : World) (a0 : Option Addr) (n cap0 : Nat), v = .slice a0 n cap0 → l.length = n → Arg w v l → n ≤ 80 → Calls Try.prog 17 #[v, .int .i64 1] w fun e w' => (∃ v' l', e = .returned v' ∧ OwnI w' w.heap.size v' l' ∧ l'.length ≤ 80) ∧ Below w.heap.size w w')) :
    Calls Try.prog 18 #[.slice a len cap] w fun e w' => (∃ v l, ∃ b c lv : Nat, e = .returned (.tuple #[v, .int .i64 (1 + (b : Int)), .int .i64 (1 + (c : Int)), .int .i64 lv]) ∧ b < 2 ∧ c < 2 ∧ lv < 4 ∧ OwnI w' w.heap.size v l ∧ l.length ≤ 80) ∧ Below w.heap.size w w' := by
  go_enter Try.func18, Try.ntmps18
  go_wp2_with fail
  refine (open_any a len cap w h).mono ?_
  rintro e w1 ⟨rfl, hR, hB⟩
  have hlt := hR.lt
  have hsz := hB.size
  have HB : Hid _ := hB
  clear hB
  go_wp2_with fail
  refine (dclasses_any w.heap.size 0 w1 hR (by omega)).mono ?_
  rintro e w2 ⟨⟨v, l, rfl, ho, hl⟩, p', hp', hW⟩
  go_wp2_with fail
  refine (pick_went w.heap.size p' _ _ hW.rd (by omega) (by omega) (by omega)).mono ?_
  rintro e w3 ⟨⟨k, rfl, hk⟩, hW3, hz3⟩
  have hV3 := hW.trans hW3
  have ho3 := ho.went hW3 hlt
  clear hz3 hW3 hW ho hR
  by_cases hk0 : k = 0
  · subst hk0
    obtain ⟨a3, n3, c3, rfl, hn3⟩ := ho3.slc
    have HN3 : Hid _ := hn3
    clear hn3
    go_wp2_with fail
    refine (HSW.out _ l _ a3 n3 c3 rfl HN3.out ho3.arg (by have := HN3.out; omega)).mono ?_
    rintro e w4 ⟨⟨v4, l4, rfl, ho4, hl4⟩, b4⟩
    have hrd4 : Rd w4 w.heap.size (p' + 1) := hV3.rd.beside (row := none) ⟨b4.os, b4.tape, b4.output, b4.size, fun k hk _ => b4.block k hk⟩ (fun k hk => by cases hk)
    have hV4 : Went w1 w4 w.heap.size (p' + 1) := ⟨hrd4, ⟨b4.os.trans hV3.gr.os, b4.tape.trans hV3.gr.tape, b4.output.trans hV3.gr.output, Nat.le_trans hV3.gr.size b4.size, fun i hi hne => (b4.block i (Nat.lt_of_lt_of_le hi hV3.gr.size)).trans (hV3.gr.block i hi hne)⟩⟩
    have h13 := hV3.gr.size
    have HO4 : Hid (OwnI w4 w1.heap.size v4 l4) := ho4.mono h13
    clear ho3 ho4 hrd4 hV3 b4
    go_wp2_with fail
    refine (pick_went w.heap.size (p' + 1) _ _ hV4.rd (by omega) (by omega) (by omega)).mono ?_
    rintro e w5 ⟨⟨k5, rfl, hk5⟩, hW5, hz5⟩
    have hV5 := hV4.trans hW5
    have ho5 := HO4.out.went hW5 hlt
    clear hz5 hW5 hV4
    go_wp2_with fail
    refine (pick_went w.heap.size (p' + 1 + 1) _ _ hV5.rd (by omega) (by omega) (by omega)).mono ?_
    rintro e w6 ⟨⟨k6, rfl, hk6⟩, hW6, hz6⟩
    have hV6 := hV5.trans hW6
    have ho6 := ho5.went hW6 hlt
    clear hz6 hW6 hV5 ho5
    go_wp2_with fail
    refine (pick_went w.heap.size (p' + 1 + 1 + 1) _ _ hV6.rd (by omega) (by omega) (by omega)).mono ?_
    rintro e w7 ⟨⟨k7, rfl, hk7⟩, hW7, hz7⟩
    have hV7 := hV6.trans hW7
    have ho7 := ho6.went hW7 hlt
    have HV7 : Hid _ := hV7
    have HO7 : Hid _ := ho7
    clear hz7 hW7 hV6 ho6 hV7 ho7
    go_wp2_with fail
    refine bodyPost_ret (v := .tuple #[v4, .int .i64 (1 + (k5 : Int)), .int .i64 (1 + (k6 : Int)), .int .i64 k7]) (by simp [results, Try.results18, go_sem]) rfl ⟨⟨_, l4, k5, k6, k7, rfl, by omega, by omega, by omega, OwnI.mono (w := w7) (v := v4) (l := l4) (B := w1.heap.size) HO7.out (by omega), hl4⟩, HB.out.trans (HV7.out.below (Nat.le_refl _) hlt)⟩
  · have hkb : ((k : Int) == 0) = false := by simp; omega
    go_wp2_with fail
    refine (pick_went w.heap.size (p' + 1) _ _ hV3.rd (by omega) (by omega) (by omega)).mono ?_
    rintro e w5 ⟨⟨k5, rfl, hk5⟩, hW5, hz5⟩
    have hV5 := hV3.trans hW5
    have ho5 := ho3.went hW5 hlt
    clear hz5 hW5 hV3 ho3
    go_wp2_with fail
    refine (pick_went w.heap.size (p' + 1 + 1) _ _ hV5.rd (by omega) (by omega) (by omega)).mono ?_
    rintro e w6 ⟨⟨k6, rfl, hk6⟩, hW6, hz6⟩
    have hV6 := hV5.trans hW6
    have ho6 := ho5.went hW6 hlt
    clear hz6 hW6 hV5 ho5
    go_wp2_with fail
    refine (pick_went w.heap.size (p' + 1 + 1 + 1) _ _ hV6.rd (by omega) (by omega) (by omega)).mono ?_
    rintro e w7 ⟨⟨k7, rfl, hk7⟩, hW7, hz7⟩
    have hV7 := hV6.trans hW7
    have ho7 := ho6.went hW7 hlt
    have HV7 : Hid _ := hV7
    have HO7 : Hid _ := ho7
    clear hz7 hW7 hV6 ho6 hV7 ho7
    go_wp2_with fail
    refine bodyPost_ret (v := .tuple #[v, .int .i64 (1 + (k5 : Int)), .int .i64 (1 + (k6 : Int)), .int .i64 k7]) (by simp [results, Try.results18, go_sem]) rfl ⟨⟨_, l, k5, k6, k7, rfl, by omega, by omega, by omega, OwnI.mono (w := w7) (v := v) (l := l) (B := w1.heap.size) HO7.out (by omega), hl⟩, HB.out.trans (HV7.out.below (Nat.le_refl _) hlt)⟩
end Go.Proofs.Ytnaiaponkafcpaa
