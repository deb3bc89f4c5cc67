import Derived.Test.YtobmdefklgkoiaaDraw3A
namespace Go.Proofs.Ytobmdefklgkoiaa
open Go.ChangeShapes Go.WideShapes Go.ChangeAt Go.RowKit
set_option linter.unusedSimpArgs false

/-- The bytes of a code that came in. -/
def Bytes (w : World) (a : Option Addr) (len cap : Nat) : Prop :=
  len ≤ cap ∧ cap ≤ maxLen ∧ (len = 0 ∨ ∃ b off, a = some ⟨b, off, none⟩ ∧ b < w.heap.size ∧ ∀ j, j < len → ∃ x : Int, w.cell? ⟨b, off + j, none⟩ = some (.int .u8 x) ∧ 0 ≤ x ∧ x ≤ 255)
theorem Bytes.below {w w' : World} {a : Option Addr} {len cap : Nat} (h : Bytes w a len cap) (hb : Below w.heap.size w w') : Bytes w' a len cap := by
  refine ⟨h.1, h.2.1, ?_⟩
  rcases h.2.2 with h0 | ⟨b, off, h1, h2, h3⟩
  · exact .inl h0
  · refine .inr ⟨b, off, h1, Nat.lt_of_lt_of_le h2 hb.size, fun j hj => ?_⟩
    obtain ⟨x, hx, hbd⟩ := h3 j hj
    exact ⟨x, (hb.cell (p := ⟨b, off + j, none⟩) h2).trans hx, hbd⟩

theorem rd_new {w : World} {a : Option Addr} {len cap : Nat} (hlen : len ≤ 2000) (h : len = 0 ∨ ∃ b off, a = some ⟨b, off, none⟩ ∧ b < w.heap.size ∧ ∀ j, j < len → ∃ x : Int, w.cell? ⟨b, off + j, none⟩ = some (.int .u8 x) ∧ 0 ≤ x ∧ x ≤ 255) :
    Rd (w.alloc (.cells #[.slice a len cap, .int .i64 0] 79)) w.heap.size 0 := by
  refine ⟨a, len, cap, by show (w.heap.push _)[w.heap.size]? = _; simp, hlen, ?_⟩
  rcases h with h0 | ⟨b, off, h1, h2, h3⟩
  · exact .inl h0
  · refine .inr ⟨b, off, h1, h2, by simp; omega, fun j hj => ?_⟩
    obtain ⟨x, hx, hbd⟩ := h3 j hj
    exact ⟨x, (World.cell?_of_block (a := ⟨b, off + j, none⟩) (Below.heap_alloc w _ b h2)).trans hx, hbd⟩

set_option maxHeartbeats 1000000 in
theorem open_any (a : Option Addr) (len cap : Nat) (w : World) (h : Bytes w a len cap) :
    Calls Try.prog 29 #[.slice a len cap] w fun e w' => e = .returned (.pointer (some ⟨w.heap.size, 0, none⟩)) ∧ Rd w' w.heap.size 0 ∧ Below w.heap.size w w' := by
  obtain ⟨hlc, hcm, hcode⟩ := h
  unfold maxLen at hcm
  by_cases hbig : 2000 < len
  · obtain ⟨b, off, rfl, hb, hbytes⟩ : ∃ b off, a = some ⟨b, off, none⟩ ∧ b < w.heap.size ∧ ∀ j, j < len → ∃ x : Int, w.cell? ⟨b, off + j, none⟩ = some (.int .u8 x) ∧ 0 ≤ x ∧ x ≤ 255 := by
      rcases hcode with h | h
      · omega
      · exact h
    have HB : Hid _ := hbytes
    clear hbytes hcode
    have hbi : (2000 : Int) < (len : Int) := by omega
    have hci : (2000 : Int) ≤ (cap : Int) := by omega
    go_enter Try.func29, Try.ntmps29
    go_wp2
    go_ret
    exact ⟨rfl, rd_new (by omega) (.inr ⟨b, off, rfl, hb, fun j hj => HB.out j (by omega)⟩), by go_grown⟩
  · have hbi : (len : Int) ≤ 2000 := by omega
    have HC : Hid _ := hcode
    clear hcode
    go_enter Try.func29, Try.ntmps29
    go_wp2
    go_ret
    exact ⟨rfl, rd_new (by omega) HC.out, by go_grown⟩
end Go.Proofs.Ytobmdefklgkoiaa
