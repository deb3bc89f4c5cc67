import Derived.Test.YtobmdefklgkoiaaAppend
import Derived.Laws.BitsAllLaws
namespace Go.Proofs.Ytobmdefklgkoiaa
open Go.ChangeShapes Go.WideShapes Go.ChangeAt Go.RowKit
set_option linter.unusedSimpArgs false

/-- The code that a reader reads: at most 2000 bytes, none of them in the reader's own block. -/
def Code (w : World) (R : Nat) (a : Option Addr) (len : Nat) : Prop :=
  len ≤ 2000 ∧ (len = 0 ∨ ∃ b off, a = some ⟨b, off, none⟩ ∧ b < R ∧ b < w.heap.size ∧ ∀ j, j < len → ∃ x : Int, w.cell? ⟨b, off + j, none⟩ = some (.int .u8 x) ∧ 0 ≤ x ∧ x ≤ 255)
/-- A reader: its code, and how many it has read. -/
def Rd (w : World) (R p : Nat) : Prop :=
  ∃ a len cap, w.heap[R]? = some (.cells #[.slice a len cap, .int .i64 p] 79 (0, 0)) ∧ Code w R a len

theorem rd_cell0 {w : World} {R p : Nat} {v : Value} {T : TypeId} (h : w.heap[R]? = some (.cells #[v, .int .i64 p] T (0, 0))) : w.cell? ⟨R, 0, none⟩ = some v ∧ w.cell? ⟨R, 1, none⟩ = some (.int .i64 p) ∧ w.frozen? ⟨R, 1, none⟩ = false := by
  refine ⟨?_, ?_, ?_⟩
  · rw [cell_of_row w R 0 _ _ _ h]; rfl
  · rw [cell_of_row w R 1 _ _ _ h]; rfl
  · exact frozen_of_row w R 1 _ _ h

theorem xor_nat (a b : Nat) (ha : a < 4611686018427387904) (hb : b < 4611686018427387904) : bits .xor .i64 (a : Int) (b : Int) = ((a ^^^ b : Nat) : Int) := by
  have hx : a ^^^ b < 2 ^ 62 := Nat.xor_lt_two_pow (by omega) (by omega)
  show IntKind.i64.wrap ((BitVec.ofInt 64 (a : Int) ^^^ BitVec.ofInt 64 (b : Int)).toNat : Int) = _
  rw [BitVec.toNat_xor, ofInt_u64 a (by omega), ofInt_u64 b (by omega)]
  simp [IntKind.wrap, IntKind.bits, IntKind.signed]
  omega
theorem xor_pick (X n : Int) (h0 : 0 ≤ X) (h1 : X < 4611686018427387904) (hn : 1 ≤ n) : 0 ≤ (bits .xor .i64 X (X / 64)).tmod n ∧ (bits .xor .i64 X (X / 64)).tmod n < n := by
  obtain ⟨A, rfl⟩ := Int.eq_ofNat_of_zero_le h0
  have e : (A : Int) / 64 = ((A / 64 : Nat) : Int) := by omega
  rw [e, xor_nat A (A / 64) (by omega) (by omega)]
  exact ⟨Int.tmod_nonneg _ (by omega), Int.tmod_lt_of_pos _ (by omega)⟩

set_option maxHeartbeats 2000000 in
theorem pick_any (R p : Nat) (n : Int) (w : World) (hr : Rd w R p) (hp : p ≤ 100000) (hn1 : 1 ≤ n) (hn2 : n ≤ 1000000) :
    Calls Try.prog 30 #[.pointer (some ⟨R, 0, none⟩), .int .i64 n] w fun e w' => (∃ k : Nat, e = .returned (.int .i64 k) ∧ (k : Int) < n) ∧ ∃ m, w' = (w.setCell ⟨R, 1, none⟩ (.int .i64 ((p : Int) + 1))).drewN m := by
  obtain ⟨a, len, cap, hblk, hlen, hcode⟩ := hr
  obtain ⟨c0, c1, f1⟩ := rd_cell0 hblk
  by_cases h0 : len = 0
  · subst h0
    go_enter Try.func30, Try.ntmps30
    go_wp2
    go_ret
    exact ⟨⟨0, rfl, by omega⟩, 0, rfl⟩
  · obtain ⟨b, off, rfl, hbR0, hbw, hbytes⟩ : ∃ b off, a = some ⟨b, off, none⟩ ∧ b < R ∧ b < w.heap.size ∧ ∀ j, j < len → ∃ x : Int, w.cell? ⟨b, off + j, none⟩ = some (.int .u8 x) ∧ 0 ≤ x ∧ x ≤ 255 := by
      rcases hcode with h | h
      · exact absurd h h0
      · exact h
    have hbR : b ≠ R := by omega
    have HB : Hid _ := hbytes
    have hl0 : ((len : Int) == 0) = false := by simp; omega
    clear hbytes hcode
    by_cases hpl : p < len
    · obtain ⟨x, hx, hx0, hx1⟩ := HB.out p hpl
      go_enter Try.func30, Try.ntmps30
      go_wp2
      go_ret
      have h1 := Int.emod_nonneg x (show n ≠ 0 by omega)
      have h2 := Int.emod_lt_of_pos x (show 0 < n by omega)
      exact ⟨⟨(x % n).toNat, retInt (Int.toNat_of_nonneg h1).symm, by rw [Int.toNat_of_nonneg h1]; exact h2⟩, 0, rfl⟩
    · have hm1 : p % len < len := Nat.mod_lt _ (by omega)
      have hm2 : (p * 7 + 3) % len < len := Nat.mod_lt _ (by omega)
      obtain ⟨x, hx, hx0, hx1⟩ := HB.out (p % len) hm1
      obtain ⟨y, hy, hy0, hy1⟩ := HB.out ((p * 7 + 3) % len) hm2
      have hq : p / len ≤ p := Nat.div_le_self _ _
      have hlp : (0 : Int) < (len : Int) := by omega
      have i1 : (p : Int) % (len : Int) < (len : Int) := Int.emod_lt_of_pos _ hlp
      have j1 : 0 ≤ (p : Int) % (len : Int) := Int.emod_nonneg _ (by omega)
      have j2 : 0 ≤ ((p : Int) * 7 + 3) % (len : Int) := Int.emod_nonneg _ (by omega)
      have i2 : ((p : Int) * 7 + 3) % (len : Int) < (len : Int) := Int.emod_lt_of_pos _ hlp
      have d0 : 0 ≤ (p : Int) / (len : Int) := Int.ediv_nonneg (by omega) (by omega)
      have d1 : (p : Int) / (len : Int) ≤ 100000 := by
        have : (p : Int) / (len : Int) = ((p / len : Nat) : Int) := by simp
        rw [this]; omega
      have HX : Hid _ := xor_pick (x * 131 + y * 1117 + (p : Int) * 29 + (p : Int) / (len : Int) * 53) n (by omega) (by omega) hn1
      go_enter Try.func30, Try.ntmps30
      go_wp2
      go_quiet (fail)
      go_wp2
      go_ret
      exact ⟨⟨_, retInt (Int.toNat_of_nonneg HX.out.1).symm, by rw [Int.toNat_of_nonneg HX.out.1]; exact HX.out.2⟩, _, rfl⟩
end Go.Proofs.Ytobmdefklgkoiaa
