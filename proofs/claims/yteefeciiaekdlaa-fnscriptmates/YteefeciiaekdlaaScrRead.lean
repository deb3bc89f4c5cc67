import Derived.Test.YteefeciiaekdlaaScrPush
namespace Go.Proofs.Yteefeciiaekdlaa
open Go.ChangeShapes Go.WideShapes Go.ChangeAt Go.RowKit
set_option linter.unusedSimpArgs false

theorem RS.fresh {w w2 : World} {R m : Nat} {last x : Int} {v : Value} {st : List Int} (h : RS w R last v m st) (hb : Below w.heap.size w w2) : RS (w2.alloc (.cells #[.int .i64 x] 3)) R last v m st ∧ Below w.heap.size w (w2.alloc (.cells #[.int .i64 x] 3)) :=
  ⟨(h.below hb).below ((Below.refl _ _).alloc (Nat.le_refl _) _), hb.alloc hb.size _⟩

set_option maxRecDepth 10000 in
set_option maxHeartbeats 2000000 in
theorem read_any (R m : Nat) (last r : Int) (v : Value) (st : List Int) (w : World) (h : RS w R last v m st) (hm : m ≤ 1000) :
    Calls Try.prog 37 #[.pointer (some ⟨R, 0, none⟩), .int .i64 r] w fun e w' =>
      e = .returned (.tuple #[]) ∧ (∃ v' m', RS w' R (sStep last st r).1 v' m' (sStep last st r).2) ∧ Below R w w' := by
  have hR := h.lt
  have H : Hid (RS w R last v m st) := h
  have hlen : Hid (st.length = m * 2) := h.row.len
  clear h
  go_enter Try.func37, Try.ntmps37
  go_wp2_with fail
  refine (implScr _ _).mono ?_
  rintro e w2 ⟨rfl, b2⟩
  have hs2 := b2.size
  have r2 := H.out.below b2
  have c20 := r2.c0
  have f20 := r2.f0
  obtain ⟨F1, F2⟩ := H.out.fresh (x := mate r) b2
  have HF1 : Hid _ := F1
  have HF2 : Hid _ := F2
  have HFD : Hid (RS (w2.alloc (.cells #[.int .i64 (mate r)] 3)).drew R last v m st) := F1.below (Below.refl _ _).drew
  have c0 := F1.c0
  have f0 := F1.f0
  clear F1 F2
  by_cases ha : scr r = 0
  · have hs : (scr r == 0) = true := by simpa using ha
    by_cases hb : r < mate r
    · have HN : Hid _ := sStep_open (last := last) (st := st) ha hb
      clear ha
      go_wp2_with (go_at_call 15; refine (implMate _ _).mono ?_; rintro e w' ⟨rfl, rfl⟩)
      go_region_with (go_at_call 53; refine (push_any R m last r last v st _ HFD.out hm).mono ?_; rintro e w5 ⟨rfl, ⟨v5, r5⟩, b5⟩)
      all_goals (
        go_wp2_with fail
        go_end0
        refine ⟨rfl, ⟨v5, m + 1, ?_⟩, (HF2.out.mono (Nat.le_of_lt hR)).drew.trans b5⟩
        rw [HN.out]; exact r5)
    · by_cases hz : mate r = 0
      · have hz1 : (mate r == 0) = true := by simpa using hz
        have HN : Hid _ := sStep_none (last := last) (st := st) ha hb hz
        clear ha hz
        go_wp2_with (go_at_call 15; refine (implMate _ _).mono ?_; rintro e w' ⟨rfl, rfl⟩)
        go_end0
        refine ⟨rfl, ⟨v, m, ?_⟩, HF2.out.mono (by omega)⟩
        rw [HN.out]; exact HF1.out
      · have hz1 : (mate r == 0) = false := by simpa using hz
        have HH : Hid (∀ k, lastB (fn st) (mate r) m = some k → sStep last st r = (fn st (k * 2 + 1), st.take (k * 2))) := fun k hk => sStep_hit ha hb hz hlen.out hk
        have HM : Hid (lastB (fn st) (mate r) m = none → sStep last st r = (last, st)) := fun hk => sStep_miss ha hb hz hlen.out hk
        clear ha hz
        go_wp2_with (go_at_call 15; refine (implMate _ _).mono ?_; rintro e w' ⟨rfl, rfl⟩)
        refine (popFrom_any R _ m last (mate r) v st _ HF1.out (by simp) hm).mono ?_
        rintro e w5 (⟨hl, rfl, b5⟩ | ⟨k, hl, rfl, ⟨v5, r5⟩, b5⟩)
        · have HS := HM.out hl
          clear hl
          have HS2 : Hid _ := HS
          clear HS
          go_wp2_with fail
          go_end0
          refine ⟨rfl, ⟨v, m, ?_⟩, ((HF2.out.trans (b5.mono HF2.out.size)).alloc (Nat.le_trans HF2.out.size b5.size) _).mono (Nat.le_of_lt hR)⟩
          rw [HS2.out]; exact (HF1.out.below b5).below ((Below.refl _ _).alloc (Nat.le_refl _) _)
        · have HS := HH.out k hl
          clear hl
          have HS2 : Hid _ := HS
          clear HS
          have hR5 := r5.lt
          have r6 := r5.below ((Below.refl _ w5).alloc (Nat.le_refl _) (.cells #[.int .i64 (fn st (k * 2)), .int .i64 (fn st (k * 2 + 1))] 70))
          have q0 := r6.c0
          have qf := r6.f0
          have HR6 : Hid _ := r6
          clear r6
          go_wp2_with fail
          go_end0
          refine ⟨rfl, ⟨v5, k, ?_⟩, ?_⟩
          · rw [HS2.out]; exact (r5.set0 _).below ((Below.refl _ _).alloc (Nat.le_refl _) _)
          · exact (Below.setCell (p := ⟨R, 0, none⟩) ((HF2.out.mono (Nat.le_of_lt hR)).trans b5) (Nat.le_refl R) _).alloc (by simp; omega) _
  · have hs : (scr r == 0) = false := by simpa using ha
    have HN : Hid _ := sStep_scr (last := last) (st := st) ha
    clear ha
    go_wp2_with (go_at_call 15; refine (implMate _ _).mono ?_; rintro e w' ⟨rfl, rfl⟩)
    go_end0
    refine ⟨rfl, ⟨v, m, ?_⟩, ?_⟩
    · rw [HN.out]; exact HF1.out.set0 _
    · exact Below.setCell (HF2.out.mono (Nat.le_of_lt hR)) (Nat.le_refl R) _
end Go.Proofs.Yteefeciiaekdlaa
