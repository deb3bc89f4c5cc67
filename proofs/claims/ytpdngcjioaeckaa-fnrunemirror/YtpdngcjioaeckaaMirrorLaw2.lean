import Derived.Test.YtpdngcjioaeckaaMirrorLaw
namespace Go.Proofs.Ytpdngcjioaeckaa
open Go.ChangeShapes Go.WideShapes Go.ChangeAt Go.RowKit
set_option linter.unusedSimpArgs false

set_option maxHeartbeats 2000000 in
theorem mirrorLaw (a : Option Addr) (len cap : Nat) (w : World) (h : Bytes w a len cap) :
    Calls Try.prog 3 #[.slice a len cap] w fun e w' => e = .returned (.bool true) ∧ Below w.heap.size w w' := by
  by_cases hbig : 1048576 < len
  · have hbig2 : (1048576 : Int) < (len : Int) := by omega
    go_enter Try.func3, Try.ntmps3
    go_wp2_with fail
    go_ret
    exact ⟨rfl, Below.refl _ _⟩
  · have hbig2 : (len : Int) ≤ 1048576 := by omega
    go_enter Try.func3, Try.ntmps3
    go_wp2_with fail
    refine (drawMirror a len cap w h).mono ?_
    rintro e w1 ⟨⟨x, rfl⟩, b1⟩
    have HM : Hid _ := mirror_mirror x
    have HB : Hid _ := bidi_mirror x
    by_cases h0 : mate x = 0
    · have hmb : (mate x == 0) = true := by simp [h0]
      have H0 : Hid _ := h0
      clear h0
      go_wp2_with fail
      refine (implMirror _ _).mono ?_
      rintro e w2 ⟨rfl, rfl⟩
      go_wp2_with fail
      refine (implMate _ _).mono ?_
      rintro e w3 ⟨rfl, rfl⟩
      go_wp2_with fail
      refine (specMirror _ _).mono ?_
      rintro e w4 ⟨rfl, b4⟩
      go_wp2_with fail
      refine (specMate _ _).mono ?_
      rintro e w5 ⟨rfl, b5⟩
      go_wp2_with fail
      refine (implMirror _ _).mono ?_
      rintro e w6 ⟨rfl, rfl⟩
      rw [HM.out]
      go_wp2_with fail
      refine (implBidi _ _).mono ?_
      rintro e w7 ⟨rfl, b7⟩
      rw [HB.out]
      go_wp2_with fail
      refine (implBidi _ _).mono ?_
      rintro e w8 ⟨rfl, b8⟩
      go_wp2_with fail
      go_ret
      exact ⟨rfl, (((b1.trans (b4.mono b1.size)).trans (b5.mono (Nat.le_trans b1.size b4.size))).trans (b7.mono (Nat.le_trans b1.size (Nat.le_trans b4.size b5.size)))).trans (b8.mono (Nat.le_trans b1.size (Nat.le_trans b4.size (Nat.le_trans b5.size b7.size))))⟩
    · have hmb : (mate x == 0) = false := by simp [h0]
      have HK : Hid _ := mate_mate x h0
      have hkm : (mate x == mirror x) = true := by simp [(mate_mate x h0).2]
      go_wp2_with fail
      refine (implMirror _ _).mono ?_
      rintro e w2 ⟨rfl, rfl⟩
      go_wp2_with fail
      refine (implMate _ _).mono ?_
      rintro e w3 ⟨rfl, rfl⟩
      go_wp2_with fail
      refine (specMirror _ _).mono ?_
      rintro e w4 ⟨rfl, b4⟩
      go_wp2_with fail
      refine (specMate _ _).mono ?_
      rintro e w5 ⟨rfl, b5⟩
      go_wp2_with fail
      refine (implMirror _ _).mono ?_
      rintro e w6 ⟨rfl, rfl⟩
      rw [HM.out]
      go_wp2_with fail
      refine (implMate _ _).mono ?_
      rintro e w6 ⟨rfl, rfl⟩
      rw [HK.out.1]
      go_wp2_with fail
      refine (implBidi _ _).mono ?_
      rintro e w7 ⟨rfl, b7⟩
      rw [HB.out]
      go_wp2_with fail
      refine (implBidi _ _).mono ?_
      rintro e w8 ⟨rfl, b8⟩
      go_wp2_with fail
      go_ret
      exact ⟨rfl, (((b1.trans (b4.mono b1.size)).trans (b5.mono (Nat.le_trans b1.size b4.size))).trans (b7.mono (Nat.le_trans b1.size (Nat.le_trans b4.size b5.size)))).trans (b8.mono (Nat.le_trans b1.size (Nat.le_trans b4.size (Nat.le_trans b5.size b7.size))))⟩

/-- What came in as a row of bytes can be read. -/
theorem bytes_of_row {w : World} {a : Option Addr} {len cap : Nat} {zs : List Int}
    (h : (a = none ∧ len = 0 ∧ cap = 0 ∧ zs = []) ∨ ∃ x, a = some x ∧ len ≤ cap ∧ cap ≤ maxLen ∧ zs.length = cap ∧ (∀ i, i < zs.length → w.cell? (x.add i) = some (.int .u8 (zs.getD i 0))) ∧ ∀ n ∈ zs, (Lit.int .u8 n).wf = true) :
    Bytes w a len cap := by
  rcases h with ⟨rfl, rfl, rfl, rfl⟩ | ⟨x, rfl, h1, h2, h3, h4, h5⟩
  · exact ⟨Nat.le_refl _, Nat.zero_le _, .inl rfl⟩
  · refine ⟨h1, h2, ?_⟩
    by_cases h0 : len = 0
    · exact .inl h0
    · right
      obtain ⟨b, off, spot⟩ := x
      have hc := h4 0 (by omega)
      have hspot : spot = none := by simpa [Addr.add] using World.cell?_spot hc
      subst hspot
      have hb := World.block_lt_of_cell? _ _ hc
      refine ⟨b, off, rfl, by simpa [Addr.add] using hb, fun j hj => ?_⟩
      have h6 := h4 j (by omega)
      have hadd : (⟨b, off, none⟩ : Addr).add j = ⟨b, off + j, none⟩ := by unfold Addr.add; split <;> simp_all
      rw [hadd] at h6
      refine ⟨_, h6, ?_⟩
      have h7 := h5 (zs.getD j 0) (by simp [List.getD, show j < zs.length by omega])
      exact bounds_u8 h7
end Go.Proofs.Ytpdngcjioaeckaa
