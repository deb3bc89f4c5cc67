import Derived.Test.YteefeciiaekdlaaScrRead
import Derived.Test.YteefeciiaekdlaaMade
namespace Go.Proofs.Yteefeciiaekdlaa
open Go.ChangeShapes Go.WideShapes Go.ChangeAt Go.RowKit
set_option linter.unusedSimpArgs false

theorem implFirstA (v : Value) (l : List Int) (w : World) (hv : Arg w v l) (hl : l.length ≤ 4194304) :
    Calls Try.prog 36 #[v] w fun e w' => e = .returned (.int .i64 (firstS (fn l) l.length l.length)) ∧ Below w.heap.size w w' := by
  rcases hv with ⟨a0, c0, rfl, rfl⟩ | ⟨b, off, cap, rfl, hb, hlc, hcm, hat⟩
  · go_enter Try.func36, Try.ntmps36
    go_wp2
    go_rounds 1
    go_ret
    exact ⟨rfl, Below.refl _ _⟩
  · exact implFirst b off cap l.length l w rfl hb hat hl

theorem fn_scrOut (z : Nat → Int) (f : Int) (k j : Nat) (h : j < k) : fn (scrOut z f k) j = (sAt z f (j + 1)).1 := by
  induction k with
  | zero => omega
  | succ k ih =>
    simp only [scrOut]
    by_cases e : j = k
    · subst e; simp [fn, List.getD, scrOut_len]
    · rw [fn_append_left (by rw [scrOut_len]; omega)]; exact ih (by omega)

set_option maxRecDepth 10000 in
set_option maxHeartbeats 4000000 in
theorem implScripts (v : Value) (l : List Int) (w : World) (hv : Arg w v l) (hl : l.length ≤ 1048576) :
    Calls Try.prog 10 #[v] w fun e w' => (∃ v', e = .returned v' ∧ OwnI w' w.heap.size v' (scripts l)) ∧ Below w.heap.size w w' := by
  have HV : Hid (∀ w', Below w.heap.size w w' → Arg w' v l) := fun w' b => hv.below b
  by_cases hok : okF (fn l) l.length = true
  · have HS : Hid _ := scripts_ok hok
    have h80 := okF_len hok
    obtain ⟨n, hn⟩ : ∃ n, l.length = n := ⟨_, rfl⟩
    obtain ⟨f, hf⟩ : ∃ f, firstS (fn l) n n = f := ⟨_, rfl⟩
    have HN : Hid (l.length = n) := hn
    rw [hn] at HS h80 hok hl
    have HF : Hid (firstS (fn l) n n = f) := hf
    rw [hf] at HS
    have HA : Hid (∀ k, k < n → ∃ b off cap, v = .slice (some ⟨b, off, none⟩) n cap ∧ b < w.heap.size ∧ w.cell? ⟨b, off + k, none⟩ = some (.int .i64 (fn l k))) := fun k hk => by
      rcases hv with ⟨a0, c0, rfl, e⟩ | ⟨b, off, cap, rfl, hb, hlc, hcm, hat⟩
      · subst e; simp at hn; omega
      · exact ⟨b, off, cap, by rw [hn], hb, hat k (by omega)⟩
    obtain ⟨av, cap, hva⟩ : ∃ av cap, v = .slice av n cap := by
      rcases hv with ⟨a0, c0, rfl, e⟩ | ⟨b, off, cap, rfl, hb, hlc, hcm, hat⟩
      · subst e; simp at hn; subst hn; exact ⟨_, _, rfl⟩
      · exact ⟨_, _, by rw [hn]⟩
    subst hva
    have HOK : Hid (okF (fn l) n = true) := hok
    clear hv hf hn hok
    obtain ⟨i0, hi, hz0, hz1, hz2⟩ := info_parts infoM
    go_enter Try.func10, Try.ntmps10
    go_wp2_with fail
    refine (implOk _ l _ (HV.out _ (Below.refl _ _)) (by rw [HN.out]; omega)).mono ?_
    rintro e w1 ⟨rfl, rfl⟩
    rw [HN.out, HOK.out]
    go_wp2_with (first | (at_make; refine wpList_make_full _ rfl _ _ 23 rfl w1.heap.size 3 i0 (.int .i64 0) 1 Try.underlying23 hi hz0 hz1 _ _ _ _ n rfl rfl rfl rfl (by rw [hz2]; omega) (by unfold maxLen; omega) (Nat.le_refl _) ?_; intro w2 hown hgrow))
    have b2 : Below w1.heap.size w1 w2 := (Below.refl _ _).grown hgrow (Nat.le_refl _) (by simp)
    have ho2 : OwnI w2 w1.heap.size (.slice (some ⟨w1.heap.size, 0, none⟩) n n) (List.replicate n 0) := made_row hown
    have hl2 := ho2.lt w1.heap.size rfl
    clear hown hgrow
    refine (implFirstA _ l _ (HV.out _ b2) (by rw [HN.out]; omega)).mono ?_
    rintro e w3 ⟨rfl, b3⟩
    rw [HN.out, HF.out]
    have B3 := bstep b2 b3
    have ho3 := ho2.below b3
    have hs3 := b3.size
    have r3 : RS (w3.alloc (.cells #[.int .i64 f, .slice none 0 0] 51)) w3.heap.size f (.slice none 0 0) 0 [] := ⟨heap_alloc_new _ _, OwnP.nil _ _ _⟩
    have R3 : Hid _ := r3
    have B4 := B3.alloc B3.size (.cells #[.int .i64 f, .slice none 0 0] 51)
    have ho4 := ho3.below ((Below.refl _ _).alloc (Nat.le_refl _) (.cells #[.int .i64 f, .slice none 0 0] 51))
    have HB4 : Hid _ := B4
    have HO4 : Hid (OwnI (w3.alloc (.cells #[.int .i64 f, .slice none 0 0] 51)) w1.heap.size (.slice (some ⟨w1.heap.size, 0, none⟩) n n) (List.replicate n 0)) := ho4
    clear r3 B4 ho4 ho2
    go_wp2_with fail
    go_loopw [18] (fun i wr => ∃ (k : Nat) (l' : List Int) (u : Value) (m : Nat), k ≤ n ∧ i = .int .i64 k ∧ Hid (OwnI wr w1.heap.size (.slice (some ⟨w1.heap.size, 0, none⟩) n n) l') ∧ Hid (RS wr w3.heap.size (sAt (fn l) f k).1 u m (sAt (fn l) f k).2) ∧ Hid (∀ j, j < k → fn l' j = (sAt (fn l) f (j + 1)).1) ∧ Hid (Below w1.heap.size w1 wr)) (fun i _ => n - (intOf i).toNat)
    case atStart => exact ⟨0, _, _, _, Nat.zero_le _, rfl, HO4, R3, fun j hj => by omega, HB4⟩
    case round =>
      obtain ⟨k, l', u, m, hk, rfl, hown, hrs, hsame, hbel⟩ := hrel
      by_cases hlt : k < n
      · obtain ⟨b, off, cap', he, hb, hcell0⟩ := HA.out k hlt
        simp only [Value.slice.injEq] at he
        obtain ⟨rfl, _, rfl⟩ := he
        have hki : (k : Int) < (n : Int) := by omega
        have hcell : wr.cell? ⟨b, off + k, none⟩ = some (.int .i64 (fn l k)) := (hbel.out.cell (p := ⟨b, off + k, none⟩) hb).trans hcell0
        have hm : m ≤ 1000 := by
          obtain ⟨m2, e1, e2, _⟩ := sAt_ok (fn l) f k
          have := hrs.out.row.len
          omega
        have HK : Hid (sAt (fn l) f (k + 1) = sStep (sAt (fn l) f k).1 (sAt (fn l) f k).2 (fn l k)) := rfl
        obtain ⟨ls, hls⟩ : ∃ ls, (sAt (fn l) f k).1 = ls := ⟨_, rfl⟩
        obtain ⟨st, hst⟩ : ∃ st, (sAt (fn l) f k).2 = st := ⟨_, rfl⟩
        rw [hls, hst] at hrs HK
        obtain ⟨r, hr⟩ : ∃ r, fn l k = r := ⟨_, rfl⟩
        rw [hr] at HK hcell
        clear hls hst hr hcell0
        go_wp2_with fail
        refine (read_any w3.heap.size m ls r u st _ hrs.out hm).mono ?_
        rintro e w5 ⟨rfl, ⟨u5, m5, r5⟩, b5⟩
        rw [← HK.out] at r5
        have ow5 : OwnI w5 w1.heap.size (.slice (some ⟨w1.heap.size, 0, none⟩) n n) l' := hown.out.kept fun q hq => by
          simp [Value.ownBlock] at hq; subst hq; exact b5.block _ (by omega)
        have s5 := b5.size
        have B5 : Below w1.heap.size w1 w5 := hbel.out.trans (b5.mono (by omega))
        have q0 := r5.c0
        have hf : w5.frozen? ⟨w1.heap.size, k, none⟩ = false := ow5.frozenN k
        have hc2 : w5.cell? ⟨w1.heap.size, k, none⟩ = some (.int .i64 (fn l' k)) := ow5.cellN k hlt
        have HR5 : Hid _ := r5
        have HW5 : Hid (OwnI w5 w1.heap.size (.slice (some ⟨w1.heap.size, 0, none⟩) n n) l') := ow5
        have HB5 : Hid (Below w1.heap.size w1 w5) := B5
        clear r5 ow5 B5
        obtain ⟨x, hx⟩ : ∃ x, (sAt (fn l) f (k + 1)).1 = x := ⟨_, rfl⟩
        have HX : Hid _ := hx
        rw [hx] at q0
        clear hx
        go_wp2_with fail
        go_roundw
        case rel =>
          refine ⟨k + 1, l'.set k x, u5, m5, by omega, by go_num, OwnI.storedN HW5.out k _, ?_, fun j hj => ?_, HB5.out.setCell (Nat.le_refl _) _⟩
          · exact HR5.out.far (by omega) (fun q hq => by have := (HR5.out.row.lt q hq).1; omega)
          · have e := OwnI.len HW5.out
            by_cases ej : j = k
            · subst ej; rw [HX.out]; exact fn_set_same (by omega)
            · rw [fn_set_other (by omega)]; exact hsame.out j (by omega)
        case measure => simp only [intOf]; omega
      · have e : k = n := by omega
        subst e
        go_wp2_with fail
        go_ret
        have e := OwnI.len hown.out
        have el : l' = scrOut (fn l) f k := ext_fn (by rw [scrOut_len]; omega) (fun j hj => by rw [fn_scrOut _ _ _ _ (by omega)]; exact hsame.out j (by omega))
        exact ⟨⟨_, rfl, by rw [HS.out, ← el]; exact hown.out⟩, hbel.out⟩
  · have hok2 : okF (fn l) l.length = false := by simpa using hok
    have HS : Hid _ := scripts_bad hok2
    have HOK : Hid (okF (fn l) l.length = false) := hok2
    clear hok hok2
    go_enter Try.func10, Try.ntmps10
    go_wp2_with fail
    refine (implOk _ l _ (HV.out _ (Below.refl _ _)) (by omega)).mono ?_
    rintro e w1 ⟨rfl, rfl⟩
    rw [HOK.out]
    go_wp2_with fail
    go_ret
    exact ⟨⟨_, rfl, by rw [HS.out]; exact OwnI.nil _ _⟩, Below.refl _ _⟩
end Go.Proofs.Yteefeciiaekdlaa
