import Derived.Test.YtbeecmcgdlnakaaMg4
import Derived.Laws.BitsAllLaws
namespace Go.Proofs.Ytbeecmcgdlnakaa
open Go.ChangeShapes Go.WideShapes Go.ChangeAt Go.RowKit
set_option linter.unusedSimpArgs false

/-- The code that a reader reads: at most 2000 bytes, none of them in the reader's own block. -/
def Code (w : World) (R : Nat) (a : Option Addr) (len : Nat) : Prop :=
  len ≤ 2000 ∧ (len = 0 ∨ ∃ b off, a = some ⟨b, off, none⟩ ∧ b < R ∧ b < w.heap.size ∧ ∀ j, j < len → ∃ x : Int, w.cell? ⟨b, off + j, none⟩ = some (.int .u8 x) ∧ 0 ≤ x ∧ x ≤ 255)
/-- A reader: its code, and how many it has read. -/
def Rd (w : World) (R p : Nat) : Prop :=
  ∃ a len cap, w.heap[R]? = some (.cells #[.slice a len cap, .int .i64 p] 64 (0, 0)) ∧ Code w R a len

theorem rd_cell0 {w : World} {R p : Nat} {v : Value} {T : TypeId} (h : w.heap[R]? = some (.cells #[v, .int .i64 p] T (0, 0))) : w.cell? ⟨R, 0, none⟩ = some v ∧ w.cell? ⟨R, 1, none⟩ = some (.int .i64 p) ∧ w.frozen? ⟨R, 1, none⟩ = false := by
  refine ⟨?_, ?_, ?_⟩
  · rw [cell_of_row w R 0 _ _ _ h]; rfl
  · rw [cell_of_row w R 1 _ _ _ h]; rfl
  · exact frozen_of_row w R 1 _ _ h

theorem xor_nat (a b : Nat) (ha : a < 4611686018427387904) (hb : b < 4611686018427387904) : bits .xor .i64 (a : Int) (b : Int) = ((a ^^^ b : Nat) : Int) := by
  have hx : a ^^^ b < 2 ^ 62 := Nat.xor_lt_two_pow (by omega) (by omega)
  show IntKind.i64.wrap ((BitVec.ofInt 64 (a : Int) ^^^ BitVec.ofInt 64 (b : Int)).toNat : Int) = _
  rw [BitVec.toNat_xor, ofInt_u64 a (by omega), ofInt_u64 b (by omega)]
  simp [IntKind.wrap, IntKind.bits, IntKind.signed]
  omega
theorem xor_pick (X n : Int) (h0 : 0 ≤ X) (h1 : X < 4611686018427387904) (hn : 1 ≤ n) : 0 ≤ (bits .xor .i64 X (X / 64)).tmod n ∧ (bits .xor .i64 X (X / 64)).tmod n < n := by
  obtain ⟨A, rfl⟩ := Int.eq_ofNat_of_zero_le h0
  have e : (A : Int) / 64 = ((A / 64 : Nat) : Int) := by omega
  rw [e, xor_nat A (A / 64) (by omega) (by omega)]
  exact ⟨Int.tmod_nonneg _ (by omega), Int.tmod_lt_of_pos _ (by omega)⟩

set_option maxHeartbeats 2000000 in
theorem pick_any (R p : Nat) (n : Int) (w : World) (hr : Rd w R p) (hp : p ≤ 100000) (hn1 : 1 ≤ n) (hn2 : n ≤ 1000000) :
    Calls Try.prog 41 #[.pointer (some ⟨R, 0, none⟩), .int .i64 n] w fun e w' => (∃ k : Nat, e = .returned (.int .i64 k) ∧ (k : Int) < n) ∧ ∃ m, w' = (w.setCell ⟨R, 1, none⟩ (.int .i64 ((p : Int) + 1))).drewN m := by
  obtain ⟨a, len, cap, hblk, hlen, hcode⟩ := hr
  obtain ⟨c0, c1, f1⟩ := rd_cell0 hblk
  by_cases h0 : len = 0
  · subst h0
    go_enter Try.func41, Try.ntmps41
    go_wp2
    go_ret
    exact ⟨⟨0, rfl, by omega⟩, 0, rfl⟩
  · obtain ⟨b, off, rfl, hbR0, hbw, hbytes⟩ : ∃ b off, a = some ⟨b, off, none⟩ ∧ b < R ∧ b < w.heap.size ∧ ∀ j, j < len → ∃ x : Int, w.cell? ⟨b, off + j, none⟩ = some (.int .u8 x) ∧ 0 ≤ x ∧ x ≤ 255 := by
      rcases hcode with h | h
      · exact absurd h h0
      · exact h
    have hbR : b ≠ R := by omega
    have HB : Hid _ := hbytes
    have hl0 : ((len : Int) == 0) = false := by simp; omega
    clear hbytes hcode
    by_cases hpl : p < len
    · obtain ⟨x, hx, hx0, hx1⟩ := HB.out p hpl
      go_enter Try.func41, Try.ntmps41
      go_wp2
      go_ret
      have h1 := Int.emod_nonneg x (show n ≠ 0 by omega)
      have h2 := Int.emod_lt_of_pos x (show 0 < n by omega)
      exact ⟨⟨(x % n).toNat, retInt (Int.toNat_of_nonneg h1).symm, by rw [Int.toNat_of_nonneg h1]; exact h2⟩, 0, rfl⟩
    · have hm1 : p % len < len := Nat.mod_lt _ (by omega)
      have hm2 : (p * 7 + 3) % len < len := Nat.mod_lt _ (by omega)
      obtain ⟨x, hx, hx0, hx1⟩ := HB.out (p % len) hm1
      obtain ⟨y, hy, hy0, hy1⟩ := HB.out ((p * 7 + 3) % len) hm2
      have hq : p / len ≤ p := Nat.div_le_self _ _
      have hlp : (0 : Int) < (len : Int) := by omega
      have i1 : (p : Int) % (len : Int) < (len : Int) := Int.emod_lt_of_pos _ hlp
      have j1 : 0 ≤ (p : Int) % (len : Int) := Int.emod_nonneg _ (by omega)
      have j2 : 0 ≤ ((p : Int) * 7 + 3) % (len : Int) := Int.emod_nonneg _ (by omega)
      have i2 : ((p : Int) * 7 + 3) % (len : Int) < (len : Int) := Int.emod_lt_of_pos _ hlp
      have d0 : 0 ≤ (p : Int) / (len : Int) := Int.ediv_nonneg (by omega) (by omega)
      have d1 : (p : Int) / (len : Int) ≤ 100000 := by
        have : (p : Int) / (len : Int) = ((p / len : Nat) : Int) := by simp
        rw [this]; omega
      have HX : Hid _ := xor_pick (x * 131 + y * 1117 + (p : Int) * 29 + (p : Int) / (len : Int) * 53) n (by omega) (by omega) hn1
      go_enter Try.func41, Try.ntmps41
      go_wp2
      go_quiet (fail)
      go_wp2
      go_ret
      exact ⟨⟨_, retInt (Int.toNat_of_nonneg HX.out.1).symm, by rw [Int.toNat_of_nonneg HX.out.1]; exact HX.out.2⟩, _, rfl⟩
end Go.Proofs.Ytbeecmcgdlnakaa
namespace Go.Proofs.Ytbeecmcgdlnakaa
open Go.ChangeShapes Go.WideShapes Go.ChangeAt Go.RowKit
set_option linter.unusedSimpArgs false

/-- What a reader's function leaves: the reader has read on, and of what was there no other block has turned. -/
structure Went (w w' : World) (R p' : Nat) : Prop where
  rd : Rd w' R p'
  gr : w.grownBy w' (some R)

theorem grown_trans {a b c : World} {row : Option Nat} (h : a.grownBy b row) (k : b.grownBy c row) : a.grownBy c row :=
  ⟨k.os.trans h.os, k.tape.trans h.tape, k.output.trans h.output, Nat.le_trans h.size k.size, fun i hi hne => (k.block i (Nat.lt_of_lt_of_le hi h.size) hne).trans (h.block i hi hne)⟩
theorem grown_alloc (w : World) (o : Obj) (row : Option Nat) : w.grownBy (w.alloc o) row :=
  ⟨rfl, rfl, rfl, by simp, fun k hk _ => Below.heap_alloc w o k hk⟩
theorem Code.kept {w w' : World} {R len : Nat} {a : Option Addr} (h : Code w R a len) (hg : w.grownBy w' (some R)) : Code w' R a len := by
  refine ⟨h.1, ?_⟩
  rcases h.2 with h0 | ⟨b, off, h1, h2, h3, h4⟩
  · exact .inl h0
  · refine .inr ⟨b, off, h1, h2, Nat.lt_of_lt_of_le h3 hg.size, fun j hj => ?_⟩
    obtain ⟨x, hx, hb⟩ := h4 j hj
    exact ⟨x, (World.cell?_of_block (a := ⟨b, off + j, none⟩) (hg.block b h3 (fun e => by simp at e; omega))).trans hx, hb⟩
theorem Rd.lt {w : World} {R p : Nat} (h : Rd w R p) : R < w.heap.size := by
  obtain ⟨a, len, cap, hb, _⟩ := h
  exact (Array.getElem?_eq_some_iff.1 hb).1
theorem Rd.alloc {w : World} {R p : Nat} (h : Rd w R p) (o : Obj) : Rd (w.alloc o) R p := by
  have hl := h.lt
  obtain ⟨a, len, cap, hb, hc⟩ := h
  exact ⟨a, len, cap, (Below.heap_alloc w o R hl).trans hb, hc.kept (grown_alloc w o _)⟩
/-- What another one's rows do to a reader: nothing. -/
theorem Rd.beside {w w' : World} {R p : Nat} {row : Option Nat} (h : Rd w R p) (hg : w.grownBy w' row) (hc : ∀ k, row = some k → R < k) : Rd w' R p := by
  have hl := h.lt
  obtain ⟨a, len, cap, hb, hcode⟩ := h
  refine ⟨a, len, cap, (hg.block R hl (fun e => by have := hc R e.symm; omega)).trans hb, hcode.1, ?_⟩
  rcases hcode.2 with h0 | ⟨b, off, h1, h2, h3, h4⟩
  · exact .inl h0
  · refine .inr ⟨b, off, h1, h2, Nat.lt_of_lt_of_le h3 hg.size, fun j hj => ?_⟩
    obtain ⟨x, hx, hbd⟩ := h4 j hj
    exact ⟨x, (World.cell?_of_block (a := ⟨b, off + j, none⟩) (hg.block b h3 (fun e => by have := hc b e.symm; omega))).trans hx, hbd⟩
theorem grown_own {w wr w1 : World} {row : Option Nat} {v : Value} (h : w.grownBy wr row) (hg : wr.grownBy w1 v.ownBlock) (ho : ∀ k, v.ownBlock = some k → w.heap.size ≤ k) : w.grownBy w1 row :=
  ⟨hg.os.trans h.os, hg.tape.trans h.tape, hg.output.trans h.output, Nat.le_trans h.size hg.size, fun i hi hne =>
    (hg.block i (Nat.lt_of_lt_of_le hi h.size) (fun e => by have := ho i e.symm; omega)).trans (h.block i hi hne)⟩
theorem OwnI.went {w wr : World} {R p B : Nat} {v : Value} {l : List Int} (h : OwnI w B v l) (hw : Went w wr R p) (hB : R < B) : OwnI wr B v l :=
  h.kept fun k hk => hw.gr.block k (h.lt k hk).2 (fun e => by have := (h.lt k hk).1; simp at e; omega)

theorem pick_went (R p : Nat) (n : Int) (w : World) (hr : Rd w R p) (hp : p ≤ 100000) (hn1 : 1 ≤ n) (hn2 : n ≤ 1000000) :
    Calls Try.prog 41 #[.pointer (some ⟨R, 0, none⟩), .int .i64 n] w fun e w' => (∃ k : Nat, e = .returned (.int .i64 k) ∧ (k : Int) < n) ∧ Went w w' R (p + 1) ∧ w'.heap.size = w.heap.size := by
  refine (pick_any R p n w hr hp hn1 hn2).mono ?_
  rintro e w' ⟨hk, m, rfl⟩
  have hl := hr.lt
  obtain ⟨a, len, cap, hb, hcode⟩ := hr
  have hgr : w.grownBy ((w.setCell ⟨R, 1, none⟩ (.int .i64 ((p : Int) + 1))).drewN m) (some R) :=
    ⟨rfl, rfl, rfl, by simp, fun k _ hne => heap_setCell_other w ⟨R, 1, none⟩ k _ (fun e => hne (by rw [e]))⟩
  refine ⟨hk, ⟨⟨a, len, cap, ?_, hcode.kept hgr⟩, hgr⟩, by simp⟩
  show (w.setCell ⟨R, 1, none⟩ (.int .i64 ((p : Int) + 1))).heap[R]? = _
  rw [heap_setCell_same w R 1 _ _ _ hb]
  simp

def isI : Value → Bool
  | .int .i64 _ => true
  | _ => false
theorem isI_get {cs : Array Value} (h : cs.all isI = true) {j : Nat} (hj : j < cs.size) : ∃ x : Int, cs[j]? = some (.int .i64 x) := by
  have := Array.all_eq_true.1 h j hj
  rw [Array.getElem?_eq_getElem hj]
  generalize cs[j] = v at this
  match v, this with
  | .int .i64 x, _ => exact ⟨x, rfl⟩

set_option maxHeartbeats 1000000 in
theorem one_any (R p m : Nat) (cs : Array Value) (T : TypeId) (w : World) (hr : Rd w R p) (hp : p ≤ 100000) (hcs : cs.all isI = true) (hm : cs.size = m) (h1 : 1 ≤ m) (h2 : m ≤ 1000) :
    Calls Try.prog 42 #[.pointer (some ⟨R, 0, none⟩), .slice (some ⟨w.heap.size, 0, none⟩) m m] (w.alloc (.cells cs T)) fun e w' => (∃ x : Int, e = .returned (.int .i64 x)) ∧ Went w w' R (p + 1) := by
  have hlt := hr.lt
  go_enter Try.func42, Try.ntmps42
  go_wp2_with fail
  refine (pick_went R p _ _ (hr.alloc _) hp (by omega) (by omega)).mono ?_
  rintro e w1 ⟨⟨k, rfl, hk⟩, hW, hsz⟩
  obtain ⟨x, hx⟩ := isI_get hcs (show k < cs.size by omega)
  have hcell : w1.cell? ⟨w.heap.size, k, none⟩ = some (.int .i64 x) := by
    have hb : w1.heap[w.heap.size]? = (w.alloc (.cells cs T)).heap[w.heap.size]? := hW.gr.block _ (by simp) (by simp; omega)
    rw [World.cell?_of_block (a := ⟨w.heap.size, k, none⟩) hb]
    simp [hx]
  have hkm : (k : Int) < (m : Int) := by omega
  have HW : Hid _ := hW
  clear hW
  go_wp2_with fail
  go_ret
  exact ⟨⟨x, rfl⟩, HW.out.rd, grown_trans (grown_alloc w _ _) HW.out.gr⟩

set_option maxHeartbeats 4000000 in
theorem rune_any (R p : Nat) (w : World) (hr : Rd w R p) (hp : p ≤ 99000) :
    Calls Try.prog 68 #[.pointer (some ⟨R, 0, none⟩)] w fun e w' => (∃ x : Int, e = .returned (.int .i64 x)) ∧ ∃ p', p' ≤ p + 2 ∧ Went w w' R p' := by
  go_enter Try.func68, Try.ntmps68
  go_wp2_with fail
  refine (pick_went R p _ _ hr (by omega) (by omega) (by omega)).mono ?_
  rintro e w1 ⟨⟨k, rfl, hk⟩, hW, hsz⟩
  have HW : Hid _ := hW
  have HR : Hid _ := hW.rd
  clear hW hsz
  go_wp2_with (go_at_call 42; refine (one_any R (p + 1) _ _ _ _ HR.out (by omega) (by kernel_rfl) (by rfl) (by omega) (by omega)).mono ?_; rintro e w2 ⟨⟨x, rfl⟩, hW2⟩)
  all_goals (go_ret)
  all_goals first
    | exact ⟨⟨_, rfl⟩, p + 2, by omega, hW2.rd, grown_trans HW.out.gr hW2.gr⟩
    | exact ⟨⟨_, rfl⟩, p + 1, by omega, HW.out⟩
end Go.Proofs.Ytbeecmcgdlnakaa
namespace Go.Proofs.Ytbeecmcgdlnakaa
open Go.ChangeShapes Go.WideShapes Go.ChangeAt Go.RowKit
set_option linter.unusedSimpArgs false

theorem Went.refl {w : World} {R p : Nat} (h : Rd w R p) : Went w w R p := ⟨h, ⟨rfl, rfl, rfl, Nat.le_refl _, fun _ _ _ => rfl⟩⟩
theorem Went.trans {a b c : World} {R p q : Nat} (h : Went a b R p) (k : Went b c R q) : Went a c R q := ⟨k.rd, grown_trans h.gr k.gr⟩
theorem Went.own {w wr w1 : World} {R p B : Nat} {v : Value} {l : List Int} (h : Went w wr R p) (hg : wr.grownBy w1 v.ownBlock) (ho : OwnI wr B v l) (hB : w.heap.size ≤ B) (hR : R < w.heap.size) : Went w w1 R p :=
  ⟨h.rd.beside hg (fun k hk => by have := (ho.lt k hk).1; omega), grown_own h.gr hg (fun k hk => by have := (ho.lt k hk).1; omega)⟩
theorem Went.below {w w' : World} {R p B : Nat} (h : Went w w' R p) (hB : B ≤ R) (hR : R < w.heap.size) : Below B w w' :=
  ⟨h.gr.os, h.gr.tape, h.gr.output, h.gr.size, fun k hk => h.gr.block k (by omega) (fun e => by simp at e; omega)⟩

def lenOf : Value → Nat
  | .slice _ n _ => n
  | _ => 0

set_option maxHeartbeats 4000000 in
theorem runes_any (R p : Nat) (w : World) (hr : Rd w R p) (hp : p ≤ 90000) :
    Calls Try.prog 50 #[.pointer (some ⟨R, 0, none⟩)] w fun e w' => (∃ v l, e = .returned v ∧ OwnI w' w.heap.size v l ∧ l.length ≤ 80) ∧ ∃ p', p' ≤ p + 200 ∧ Went w w' R p' := by
  have hlt := hr.lt
  go_enter Try.func50, Try.ntmps50
  go_wp2_with fail
  refine (pick_went R p _ _ (hr.alloc _) (by omega) (by omega) (by omega)).mono ?_
  rintro e w1 ⟨⟨n, rfl, hn⟩, hW, hsz⟩
  have hW0 : Went w w1 R (p + 1) := ⟨hW.rd, grown_trans (grown_alloc w _ _) hW.gr⟩
  have hO : OwnI w1 w.heap.size (.slice (some ⟨w.heap.size, 0, none⟩) 0 0) [] := (own_empty w w.heap.size 3 (Nat.le_refl _) rfl).went hW hlt
  clear hW hsz
  go_wp2_with fail
  go_loopw [3, 4] (fun q i wr => ∃ (k : Nat) (l : List Int) (p' : Nat), i = .int .i64 k ∧ OwnI wr w.heap.size q l ∧ l.length + k ≤ 23 ∧ p' + 2 * k ≤ p + 47 ∧ Went w wr R p') (fun _ i _ => (intOf i).toNat)
  case atStart => exact ⟨n, [], p + 1, rfl, hO, by simp; omega, by omega, hW0⟩
  case round =>
    obtain ⟨k, l, p', rfl, hown, hlen, hpp, hwent⟩ := hrel
    have hsz := hwent.gr.size
    by_cases hk : k = 0
    · subst hk
      go_wp2_with fail
      refine (pick_went R p' _ _ hwent.rd (by omega) (by omega) (by omega)).mono ?_
      rintro e w2 ⟨⟨m, rfl, hm⟩, hW2, hsz2⟩
      have hW3 := hwent.trans hW2
      have hown2 := hown.went hW2 hlt
      clear hW2 hsz2
      by_cases hm0 : m = 0
      · subst hm0
        go_wp2_with fail
        go_loopw [3] (fun q wr => ∃ (l : List Int) (p' : Nat), (∃ a cap, q = .slice a l.length cap) ∧ OwnI wr w.heap.size q l ∧ l.length ≤ 80 ∧ p' + (80 - l.length) ≤ p + 150 ∧ Went w wr R p') (fun q _ => 80 - lenOf q)
        case atStart =>
          refine ⟨l, p' + 1, ?_, hown2, by omega, by omega, hW3⟩
          rcases hown2.forms with ⟨rfl, rfl⟩ | ⟨g, cap, rfl, _⟩
          · exact ⟨_, _, rfl⟩
          · exact ⟨_, _, rfl⟩
        case round =>
          obtain ⟨l, p', ⟨a, cap, rfl⟩, hown, hlen, hpp, hwent⟩ := hrel
          have hR := hwent.rd
          have hsw := hwent.gr.size
          by_cases h80 : l.length < 80
          · have h80i : (l.length : Int) < 80 := by omega
            go_wp2_with fail
            refine (one_any R p' _ _ _ _ hR (by omega) (by kernel_rfl) (by rfl) (by omega) (by omega)).mono ?_
            rintro e w4 ⟨⟨x, rfl⟩, hW4⟩
            have hW5 := hwent.trans hW4
            have hown4 := hown.went hW4 hlt
            have hs4 := hW5.gr.size
            clear hW4
            go_wp2_with (at_builtin; refine own_append (.tmp 23) (.tmp 27) hown4 (by omega) hs4 rfl rfl rfl rfl ?_; intro v' w5 hown5 hgr5)
            have hl5 : (l ++ [x]).length = l.length + 1 := by simp
            obtain ⟨g, cp, rfl⟩ : ∃ g cp, v' = .slice g (l ++ [x]).length cp := by
              rcases hown5.forms with ⟨_, h⟩ | ⟨g, cap, h, _⟩
              · simp at h
              · exact ⟨_, _, h⟩
            go_roundw
            case rel => exact ⟨l ++ [x], p' + 1, ⟨_, _, rfl⟩, hown5, by omega, by omega, hW5.own hgr5 hown4 (Nat.le_refl _) hlt⟩
            case measure => simp only [lenOf]; omega
          · have h80i : ¬ (l.length : Int) < 80 := by omega
            go_wp2_with fail
            go_ret
            exact ⟨⟨_, rfl, l, hown, by omega⟩, p', by omega, hwent⟩
      · have hmb : ((m : Int) == 0) = false := by simp; omega
        go_wp2_with fail
        go_ret
        exact ⟨⟨_, l, rfl, hown2, by omega⟩, p' + 1, by omega, hW3⟩
    · obtain ⟨j, rfl⟩ : ∃ j, k = j + 1 := ⟨k - 1, by omega⟩
      go_wp2_with fail
      refine (rune_any R p' _ hwent.rd (by omega)).mono ?_
      rintro e w2 ⟨⟨x, rfl⟩, p2, hp2, hW2⟩
      have hW3 := hwent.trans hW2
      have hown2 := hown.went hW2 hlt
      have hs2 := hW3.gr.size
      clear hW2
      go_wp2_with (at_builtin; refine own_append (.tmp 12) (.tmp 15) hown2 (by omega) hs2 rfl rfl rfl rfl ?_; intro v' w3 hown3 hgr3)
      go_roundw
      case rel => exact ⟨j, l ++ [x], p2, by go_num, hown3, by simp; omega, by omega, hW3.own hgr3 hown2 (Nat.le_refl _) hlt⟩
      case measure => simp only [intOf]; omega
end Go.Proofs.Ytbeecmcgdlnakaa
