import Derived.Test.YtanhmphmpobceaaWordNP
namespace Go.Proofs.Ytanhmphmpobceaa
open Go.ChangeShapes Go.WideShapes Go.ChangeAt Go.RowKit
set_option linter.unusedSimpArgs false

set_option maxHeartbeats 1000000 in
theorem drawWN (a : Option Addr) (len cap : Nat) (w : World) (h : Bytes w a len cap) :
    Calls Try.prog 18 #[.slice a len cap] w fun e w' => (∃ v l, e = .returned v ∧ OwnI w' w.heap.size v l ∧ l.length ≤ 81) ∧ Below w.heap.size w w' := by
  go_enter Try.func18, Try.ntmps18
  go_wp2_with fail
  refine (drawWS a len cap w h).mono ?_
  rintro e w1 ⟨⟨v, l, rfl, ho, hl⟩, hb⟩
  go_wp2_with fail
  go_ret
  exact ⟨⟨_, l, rfl, ho, hl⟩, hb⟩

set_option maxHeartbeats 8000000 in
theorem wordCountLaw (a : Option Addr) (len cap : Nat) (w : World) (h : Bytes w a len cap) :
    Calls Try.prog 5 #[.slice a len cap] w fun e w' => e = .returned (.bool true) ∧ Below w.heap.size w w' := by
  by_cases hbig : 1048576 < len
  · have hbig2 : (1048576 : Int) < (len : Int) := by omega
    go_enter Try.func5, Try.ntmps5
    go_wp2_with fail
    go_ret
    exact ⟨rfl, Below.refl _ _⟩
  · have hbig2 : (len : Int) ≤ 1048576 := by omega
    go_enter Try.func5, Try.ntmps5
    go_wp2_with fail
    refine (drawWN a len cap w h).mono ?_
    rintro e w1 ⟨⟨v, l, rfl, ol, hlen⟩, b1⟩
    obtain ⟨g, n, cp, rfl, hn⟩ := ol.slic
    have HN : Hid (l.length = n) := hn
    have hn2 : n ≤ 81 := by omega
    have hl4 : l.length ≤ 4194304 := by omega
    clear hn
    go_wp2_with fail
    refine (implWordCount _ l _ ol.arg hl4).mono ?_
    rintro e w2 ⟨rfl, b2⟩
    go_wp2_with fail
    refine (specWordCount _ l _ (ol.below b2).arg hl4).mono ?_
    rintro e w3 ⟨rfl, b3⟩
    have o3 := (ol.below b2).below b3
    go_wp2_with fail
    refine (wcOk_any _ l n _ _ _ HN rfl o3.arg (by omega)).mono ?_
    rintro e w4 ⟨rfl, b4⟩
    have o4 := o3.below b4
    have B4 := bstep (bstep (bstep b1 b2) b3) b4
    by_cases hc : okF (fn l) n = true ∧ n + 3 ≤ 80
    · obtain ⟨hok, h80⟩ := hc
      have hokl : okF (fn l) l.length = true := by rw [HN.out]; exact hok
      have h80l : l.length + 3 ≤ 80 := by rw [HN.out]; exact h80
      have HX := wordsN_x hokl h80l
      have HY := wordsN_y hokl h80l
      have HLE : Hid (wordsN l ≤ ((words l).length : Int)) := by show wordsN l ≤ _; unfold wordsN; have := wcnt_le (fn l) (words l); omega
      have hw80 := words_len l
      have hw0 : 0 ≤ wordsN l := by unfold wordsN; omega
      have hw1 : wordsN l ≤ 80 := by have := HLE.out; omega
      obtain ⟨N, hN⟩ : ∃ N, wordsN l = N := ⟨_, rfl⟩
      rw [hN] at HX HY HLE hw0 hw1 ⊢
      have h80i : ¬ (80 : Int) < (n : Int) + 3 := by omega
      clear hokl h80l hN
      have hs4 := B4.size
      go_wp2_with (first
        | (at_builtin; refine own_appendOwn (.tmp 40) (.tmp 41) (World.ownsRow.alloc o7 _) (own_lit2 w7 w7.heap.size _ 32 32 (Nat.le_refl _) rfl) (by simp; omega) (by have := g7.size; simp at this; simp; omega) rfl rfl rfl rfl ?_; intro v8 w8 o8 g8)
        | (at_builtin; refine own_appendOwn (.tmp 38) (.tmp 39) (own_empty w6 w6.heap.size _ (Nat.le_refl _) rfl) (World.ownsRow.alloc (o4.below b6) _) (by simp; omega) (by simp) rfl rfl rfl rfl ?_; intro v7 w7 o7 g7)
        | (at_builtin; refine own_appendOwn (.tmp 35) (.tmp 36) (World.ownsRow.alloc o5 _) (own_lit3 w5 w5.heap.size _ 32 97 98 (Nat.le_refl _) rfl) (by simp; omega) (by have := b5.size; simp; omega) rfl rfl rfl rfl ?_; intro v6 w6 o6 g6; have b6 : Below w4.heap.size w4 w6 := (b5.alloc b5.size _).grown g6 (by have := b5.size; simp; omega) (fun k hk => (o5.lt k hk).1))
        | (at_builtin; refine own_appendOwn (.tmp 33) (.tmp 34) (own_empty w4 w4.heap.size _ (Nat.le_refl _) rfl) (World.ownsRow.alloc o4 _) (by simp; omega) (by simp) rfl rfl rfl rfl ?_; intro v5 w5 o5 g5; have b5 : Below w4.heap.size w4 w5 := ((Below.refl _ _).alloc (Nat.le_refl _) _).grown g5 (by simp) (fun k hk => by simp [Value.ownBlock] at hk; omega)))
      rw [List.nil_append] at o6 o8
      have b7 : Below w6.heap.size w6 w7 := ((Below.refl _ _).alloc (Nat.le_refl _) _).grown g7 (by simp) (fun k hk => by simp [Value.ownBlock] at hk; omega)
      have b8 : Below w6.heap.size w6 w8 := (b7.alloc b7.size _).grown g8 (by have := b7.size; simp; omega) (fun k hk => (o7.lt k hk).1)
      have ox : OwnI w8 w4.heap.size v6 (l ++ [32, 97, 98]) := o6.below b8
      have bw8 : Below w4.heap.size w4 w8 := bstep b6 b8
      have ol8 := o4.below bw8
      have hl3 : (l ++ [32, 97, 98]).length ≤ 4194304 := by simp; omega
      have hl2 : (l ++ [32, 32]).length ≤ 4194304 := by simp; omega
      refine (implWordCount _ _ _ ox.arg hl3).mono ?_
      rintro e w9 ⟨rfl, b9⟩
      rw [HX]
      clear HX
      have g1 : (N + 1 == N + 1) = true := by simp
      go_wp2_with fail
      refine (implWordCount _ _ _ (o8.below b9).arg hl2).mono ?_
      rintro e w10 ⟨rfl, b10⟩
      rw [HY]
      clear HY
      have g2 : (N == N) = true := by simp
      go_wp2_with fail
      refine (implWordStarts _ l _ ((ol8.below b9).below b10).arg hl4).mono ?_
      rintro e w11 ⟨⟨v11, rfl, o11⟩, b11⟩
      have hB := bstep (bstep (bstep (bstep B4 bw8) b9) b10) b11
      obtain ⟨m, hm⟩ : ∃ m, (words l).length = m := ⟨_, rfl⟩
      rw [hm] at HLE
      have hle : N ≤ (m : Int) := HLE.out
      obtain ⟨gg, cc, rfl⟩ : ∃ gg cc, v11 = .slice gg m cc := by
        rcases o11.forms with ⟨rfl, hs0⟩ | ⟨g, cp, rfl, _⟩
        · rw [hs0] at hm; simp at hm; subst hm; exact ⟨_, _, rfl⟩
        · rw [hm]; exact ⟨_, _, rfl⟩
      clear hm
      go_wp2_with fail
      go_ret
      exact ⟨rfl, hB⟩
    · by_cases hok : okF (fn l) n = true
      · have h80 : (80 : Int) < (n : Int) + 3 := by
          have : ¬ n + 3 ≤ 80 := fun h => hc ⟨hok, h⟩
          omega
        clear hc
        go_wp2_with fail
        refine (specWordCount _ l _ o4.arg hl4).mono ?_
        rintro e w5 ⟨rfl, b5⟩
        go_wp2_with fail
        go_ret
        exact ⟨rfl, bstep B4 b5⟩
      · have hok2 : okF (fn l) n = false := by simpa using hok
        clear hc hok
        go_wp2_with fail
        refine (specWordCount _ l _ o4.arg hl4).mono ?_
        rintro e w5 ⟨rfl, b5⟩
        go_wp2_with fail
        go_ret
        exact ⟨rfl, bstep B4 b5⟩
end Go.Proofs.Ytanhmphmpobceaa
