import Derived.Test.YtbeecmcgdlnakaaMg10
namespace Go.Proofs.Ytbeecmcgdlnakaa
open Go.ChangeShapes Go.WideShapes Go.ChangeAt Go.RowKit
set_option linter.unusedSimpArgs false

set_option maxHeartbeats 4000000 in
theorem any_any (R p : Nat) (w : World) (hr : Rd w R p) (hp : p ≤ 80000) :
    Calls Try.prog 31 #[.pointer (some ⟨R, 0, none⟩)] w fun e w' => (∃ v l, e = .returned v ∧ OwnI w' w.heap.size v l ∧ l.length ≤ 81) ∧ ∃ p', p' ≤ p + 300 ∧ Went w w' R p' := by
  have hlt := hr.lt
  go_enter Try.func31, Try.ntmps31
  go_wp2_with fail
  refine (runes_any R p _ hr (by omega)).mono ?_
  rintro e w1 ⟨⟨v, l, rfl, hown, hlen⟩, p1, hp1, hW⟩
  go_wp2_with fail
  refine (pick_went R p1 _ _ hW.rd (by omega) (by omega) (by omega)).mono ?_
  rintro e w2 ⟨⟨n, rfl, hn⟩, hW2, hsz⟩
  have hW3 := hW.trans hW2
  have hown2 := hown.went hW2 hlt
  have hs2 := hW3.gr.size
  clear hW2 hsz hW hown
  by_cases h0 : n = 0
  · subst h0
    have hR := hW3.rd
    go_wp2_with fail
    refine (one_any R (p1 + 1) _ _ _ _ hR (by omega) (by kernel_rfl) (by rfl) (by omega) (by omega)).mono ?_
    rintro e w4 ⟨⟨x, rfl⟩, hW4⟩
    have hW5 := hW3.trans hW4
    have hown4 := hown2.went hW4 hlt
    have hs4 := hW5.gr.size
    clear hW4
    go_wp2_with (at_builtin; refine own_append (.tmp 10) (.tmp 14) hown4 (by omega) hs4 rfl rfl rfl rfl ?_; intro v' w5 hown5 hgr5)
    go_ret
    exact ⟨⟨_, _, rfl, hown5, by simp; omega⟩, p1 + 1 + 1, by omega, hW5.own hgr5 hown4 (Nat.le_refl _) hlt⟩
  · have h0b : ((n : Int) == 0) = false := by simp; omega
    by_cases h1 : n = 1
    · subst h1
      go_wp2_with fail
      go_loopw [3] (fun q wr => ∃ (l : List Int), (∃ a cap, q = .slice a l.length cap) ∧ OwnI wr w.heap.size q l ∧ l.length ≤ 81 ∧ Went w wr R (p1 + 1)) (fun q _ => 81 - lenOf q)
      case atStart =>
        refine ⟨l, ?_, hown2, by omega, hW3⟩
        rcases hown2.forms with ⟨rfl, rfl⟩ | ⟨g, cap, rfl, _⟩
        · exact ⟨_, _, rfl⟩
        · exact ⟨_, _, rfl⟩
      case round =>
        obtain ⟨l, ⟨a, cap, rfl⟩, hown, hlen, hwent⟩ := hrel
        have hsw := hwent.gr.size
        by_cases h80 : l.length ≤ 80
        · have h80i : (l.length : Int) ≤ 80 := by omega
          go_wp2_with (at_builtin; refine own_append (.tmp 21) (.tmp 22) hown (by omega) hsw rfl rfl rfl rfl ?_; intro v' w5 hown5 hgr5)
          have hl5 : (l ++ [(97 : Int)]).length = l.length + 1 := by simp
          obtain ⟨g, cp, rfl⟩ : ∃ g cp, v' = .slice g (l ++ [(97 : Int)]).length cp := by
            rcases hown5.forms with ⟨_, h⟩ | ⟨g, cap, h, _⟩
            · simp at h
            · exact ⟨_, _, h⟩
          go_roundw
          case rel => exact ⟨l ++ [97], ⟨_, _, rfl⟩, hown5, by omega, hwent.own hgr5 hown (Nat.le_refl _) hlt⟩
          case measure => simp only [lenOf]; omega
        · have h80i : ¬ (l.length : Int) ≤ 80 := by omega
          go_wp2_with fail
          go_ret
          exact ⟨⟨_, rfl, l, hown, by omega⟩, p1 + 1, by omega, hwent⟩
    · have h1b : ((n : Int) == 1) = false := by simp; omega
      go_wp2_with fail
      go_ret
      exact ⟨⟨_, _, rfl, hown2, by omega⟩, p1 + 1, by omega, hW3⟩

/-- The bytes of a code that came in. -/
def Bytes (w : World) (a : Option Addr) (len cap : Nat) : Prop :=
  len ≤ cap ∧ cap ≤ maxLen ∧ (len = 0 ∨ ∃ b off, a = some ⟨b, off, none⟩ ∧ b < w.heap.size ∧ ∀ j, j < len → ∃ x : Int, w.cell? ⟨b, off + j, none⟩ = some (.int .u8 x) ∧ 0 ≤ x ∧ x ≤ 255)
theorem Bytes.below {w w' : World} {a : Option Addr} {len cap : Nat} (h : Bytes w a len cap) (hb : Below w.heap.size w w') : Bytes w' a len cap := by
  refine ⟨h.1, h.2.1, ?_⟩
  rcases h.2.2 with h0 | ⟨b, off, h1, h2, h3⟩
  · exact .inl h0
  · refine .inr ⟨b, off, h1, Nat.lt_of_lt_of_le h2 hb.size, fun j hj => ?_⟩
    obtain ⟨x, hx, hbd⟩ := h3 j hj
    exact ⟨x, (hb.cell (p := ⟨b, off + j, none⟩) h2).trans hx, hbd⟩

theorem rd_new {w : World} {a : Option Addr} {len cap : Nat} (hlen : len ≤ 2000) (h : len = 0 ∨ ∃ b off, a = some ⟨b, off, none⟩ ∧ b < w.heap.size ∧ ∀ j, j < len → ∃ x : Int, w.cell? ⟨b, off + j, none⟩ = some (.int .u8 x) ∧ 0 ≤ x ∧ x ≤ 255) :
    Rd (w.alloc (.cells #[.slice a len cap, .int .i64 0] 64)) w.heap.size 0 := by
  refine ⟨a, len, cap, by show (w.heap.push _)[w.heap.size]? = _; simp, hlen, ?_⟩
  rcases h with h0 | ⟨b, off, h1, h2, h3⟩
  · exact .inl h0
  · refine .inr ⟨b, off, h1, h2, by simp; omega, fun j hj => ?_⟩
    obtain ⟨x, hx, hbd⟩ := h3 j hj
    exact ⟨x, (World.cell?_of_block (a := ⟨b, off + j, none⟩) (Below.heap_alloc w _ b h2)).trans hx, hbd⟩

set_option maxHeartbeats 1000000 in
theorem open_any (a : Option Addr) (len cap : Nat) (w : World) (h : Bytes w a len cap) :
    Calls Try.prog 30 #[.slice a len cap] w fun e w' => e = .returned (.pointer (some ⟨w.heap.size, 0, none⟩)) ∧ Rd w' w.heap.size 0 ∧ Below w.heap.size w w' := by
  obtain ⟨hlc, hcm, hcode⟩ := h
  unfold maxLen at hcm
  by_cases hbig : 2000 < len
  · obtain ⟨b, off, rfl, hb, hbytes⟩ : ∃ b off, a = some ⟨b, off, none⟩ ∧ b < w.heap.size ∧ ∀ j, j < len → ∃ x : Int, w.cell? ⟨b, off + j, none⟩ = some (.int .u8 x) ∧ 0 ≤ x ∧ x ≤ 255 := by
      rcases hcode with h | h
      · omega
      · exact h
    have HB : Hid _ := hbytes
    clear hbytes hcode
    have hbi : (2000 : Int) < (len : Int) := by omega
    have hci : (2000 : Int) ≤ (cap : Int) := by omega
    go_enter Try.func30, Try.ntmps30
    go_wp2
    go_ret
    exact ⟨rfl, rd_new (by omega) (.inr ⟨b, off, rfl, hb, fun j hj => HB.out j (by omega)⟩), by go_grown⟩
  · have hbi : (len : Int) ≤ 2000 := by omega
    have HC : Hid _ := hcode
    clear hcode
    go_enter Try.func30, Try.ntmps30
    go_wp2
    go_ret
    exact ⟨rfl, rd_new (by omega) HC.out, by go_grown⟩
end Go.Proofs.Ytbeecmcgdlnakaa
namespace Go.Proofs.Ytbeecmcgdlnakaa
open Go.ChangeShapes Go.WideShapes Go.ChangeAt Go.RowKit
set_option linter.unusedSimpArgs false

theorem six_get {w : World} {R : Nat} {a b c d e f : Int} {k : Nat} {T : TypeId} (h : w.heap[R]? = some (.cells #[.int .i64 a, .int .i64 b, .int .i64 c, .int .i64 d, .int .i64 e, .int .i64 f] T (0, 0))) (hk : k < 6) : ∃ x : Int, w.cell? ⟨R, k, none⟩ = some (.int .i64 x) := by
  rw [cell_of_row w R k _ _ _ h]
  rcases (by omega : k = 0 ∨ k = 1 ∨ k = 2 ∨ k = 3 ∨ k = 4 ∨ k = 5) with e | e | e | e | e | e
  all_goals (subst e; exact ⟨_, rfl⟩)

set_option maxHeartbeats 1000000 in
theorem base_any (R p : Nat) (w : World) (hr : Rd w R p) (hp : p ≤ 90000) :
    Calls Try.prog 32 #[.pointer (some ⟨R, 0, none⟩)] w fun e w' => (∃ b : Int, e = .returned (.int .i64 b)) ∧ Went w w' R (p + 1) := by
  have hlt := hr.lt
  go_enter Try.func32, Try.ntmps32
  go_wp2_with fail
  refine (pick_went R p _ _ (hr.alloc _) (by omega) (by omega) (by omega)).mono ?_
  rintro e w5 ⟨⟨x4, rfl, hx4⟩, hW5, hz5⟩
  have hV5 : Went w w5 R (p + 1) := ⟨hW5.rd, grown_trans (grown_alloc w _ _) hW5.gr⟩
  obtain ⟨x5, hx5⟩ : ∃ x : Int, w5.cell? ⟨w.heap.size, x4 * 6 / 18, none⟩ = some (.int .i64 x) := by
    refine six_get (T := 3) (a := 0) (b := 1) (c := 0) (d := 1) (e := 2) (f := -1) ?_ (by omega)
    rw [hW5.gr.block _ (by simp) (by simp; omega)]
    show (w.heap.push _)[w.heap.size]? = _
    simp
  clear hW5 hz5
  go_wp2_with fail
  go_ret
  exact ⟨⟨x5, rfl⟩, hV5⟩

set_option maxHeartbeats 1000000 in
theorem drawTold (a : Option Addr) (len cap : Nat) (w : World) (h : Bytes w a len cap) :
    Calls Try.prog 9 #[.slice a len cap] w fun e w' => (∃ v l b, e = .returned (.tuple #[v, .int .i64 b]) ∧ OwnI w' w.heap.size v l ∧ l.length ≤ 81) ∧ Below w.heap.size w w' := by
  go_enter Try.func9, Try.ntmps9
  go_wp2_with fail
  refine (open_any a len cap w h).mono ?_
  rintro e w1 ⟨rfl, hR, hB⟩
  have hlt := hR.lt
  have hsz := hB.size
  go_wp2_with fail
  refine (any_any w.heap.size 0 w1 hR (by omega)).mono ?_
  rintro e w2 ⟨⟨v, l, rfl, hown, hl⟩, p', hp', hW⟩
  go_wp2_with fail
  refine (base_any w.heap.size p' w2 hW.rd (by omega)).mono ?_
  rintro e w3 ⟨⟨b, rfl⟩, hW3⟩
  have ho3 := hown.went hW3 hlt
  have hV := hW.trans hW3
  clear hW hW3 hown
  go_wp2_with fail
  go_ret2
  exact ⟨⟨v, l, b, rfl, ho3.mono (by omega), hl⟩, hB.trans (hV.below (Nat.le_refl _) hlt)⟩
end Go.Proofs.Ytbeecmcgdlnakaa
namespace Go.Proofs.Ytbeecmcgdlnakaa
open Go.ChangeShapes Go.WideShapes Go.ChangeAt Go.RowKit
set_option linter.unusedSimpArgs false
theorem drawRuns2 (a : Option Addr) (len cap : Nat) (w : World) (h : Bytes w a len cap) :
    Calls Try.prog 15 #[.slice a len cap] w fun e w' => (∃ v l b, e = .returned (.tuple #[v, .int .i64 b]) ∧ OwnI w' w.heap.size v l ∧ l.length ≤ 81) ∧ Below w.heap.size w w' := by
  go_enter Try.func15, Try.ntmps15
  go_wp2_with fail
  refine (drawTold a len cap w h).mono ?_
  rintro e w1 ⟨⟨v, l, b, rfl, ho, hl⟩, b1⟩
  go_wp2_with fail
  go_ret2
  exact ⟨⟨v, l, b, rfl, ho, hl⟩, b1⟩
end Go.Proofs.Ytbeecmcgdlnakaa
