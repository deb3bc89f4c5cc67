import Derived.Test.YtobmdefklgkoiaaDraw3A
import Derived.Test.YtobmdefklgkoiaaSpanRow
import Derived.Test.YtobmdefklgkoiaaTop
import Derived.Deep.RegionWith
import Derived.Test.YtobmdefklgkoiaaStepS
namespace Go.Proofs.Ytobmdefklgkoiaa
open Go.ChangeShapes Go.WideShapes Go.ChangeAt Go.RowKit
set_option linter.unusedSimpArgs false

theorem OwnS.went {w wr : World} {R p B n : Nat} {v : Value} {l : List Int} (h : OwnS w B v n l) (hw : Went w wr R p) (hB : R < B) : OwnS wr B v n l :=
  h.kept fun k hk => hw.gr.block k (h.lt k hk).2 (fun e => by have := (h.lt k hk).1; simp at e; omega)
theorem Went.ownS {w wr w1 : World} {R p B n : Nat} {v : Value} {l : List Int} (h : Went w wr R p) (hg : wr.grownBy w1 v.ownBlock) (ho : OwnS wr B v n l) (hB : w.heap.size ≤ B) (hR : R < w.heap.size) : Went w w1 R p :=
  ⟨h.rd.beside hg (fun k hk => by have := (ho.lt k hk).1; omega), grown_own h.gr hg (fun k hk => by have := (ho.lt k hk).1; omega)⟩
theorem own_emptyS (w : World) (B : Nat) (T : TypeId) (h : B ≤ w.heap.size) (hT : T = 32) : OwnS (w.alloc (.cells #[] T)) B (.slice (some ⟨w.heap.size, 0, none⟩) 0 0) 0 [] := by
  subst hT
  exact World.ownsRow_made w #[] 0 h (by unfold maxLen; omega) (by simp)
def smallS (s : List Int) : Prop := ∀ j, j < s.length → -1000 ≤ fn s j ∧ fn s j ≤ 1000

theorem Went.of_drew {u u' : World} {R p : Nat} (h : Went u.drew u' R p) : Went u u' R p := ⟨h.rd, ⟨h.gr.os, h.gr.tape, h.gr.output, h.gr.size, h.gr.block⟩⟩
theorem Went.of_alloc {u u' : World} {o : Obj} {R p : Nat} (h : Went (u.alloc o) u' R p) : Went u u' R p := ⟨h.rd, grown_trans (grown_alloc u o _) h.gr⟩
def szF (k : Nat) : Int := [10, 5, 20, 40, 1].getD k 0
theorem szF_small {k : Nat} (h : (k : Int) < 5) : -1000 ≤ szF k ∧ szF k ≤ 1000 := by
  rcases (show k = 0 ∨ k = 1 ∨ k = 2 ∨ k = 3 ∨ k = 4 by omega) with rfl | rfl | rfl | rfl | rfl <;> decide
theorem szF_cell {k : Nat} (h : (k : Int) < 5) (u : World) (T : TypeId) : (u.alloc (.cells #[.int .i64 10, .int .i64 5, .int .i64 20, .int .i64 40, .int .i64 1] T)).cell? ⟨u.heap.size, k, none⟩ = some (.int .i64 (szF k)) := by
  rcases (show k = 0 ∨ k = 1 ∨ k = 2 ∨ k = 3 ∨ k = 4 by omega) with rfl | rfl | rfl | rfl | rfl <;> simp [szF]
theorem went_cell {u u' : World} {R p B j : Nat} {v : Value} (h : Went u u' R p) (hB : B < u.heap.size) (hne : B ≠ R) (hc : u.cell? ⟨B, j, none⟩ = some v) : u'.cell? ⟨B, j, none⟩ = some v :=
  (World.cell?_of_block (a := ⟨B, j, none⟩) (h.gr.block B hB (fun e => hne (by simpa using e)))).trans hc

abbrev arr5 (T : TypeId) : Obj := .cells #[.int .i64 10, .int .i64 5, .int .i64 20, .int .i64 40, .int .i64 1] T
/-- A pick behind the table, and one ahead of it. -/
theorem pickA (R p : Nat) (u : World) (T : TypeId) (hr : Rd u R p) (hp : p ≤ 90000) :
    Calls Try.prog 30 #[.pointer (some ⟨R, 0, none⟩), .int .i64 5] (u.alloc (arr5 T)).drew fun e w' => ∃ k : Nat, e = .returned (.int .i64 k) ∧ (k : Int) < 5 ∧ Went u w' R (p + 1) ∧ w'.cell? ⟨u.heap.size, k, none⟩ = some (.int .i64 (szF k)) ∧ u.heap.size < w'.heap.size := by
  have hl := hr.lt
  refine (pick_went R p 5 (u.alloc (arr5 T)).drew (show Rd (u.alloc (arr5 T)) R p from hr.alloc _) (by omega) (by omega) (by omega)).mono ?_
  rintro e w' ⟨⟨k, rfl, hk⟩, hW, hz⟩
  have h1 := Went.of_drew hW
  refine ⟨k, rfl, hk, Went.of_alloc h1, went_cell h1 (by simp) (by omega) (szF_cell hk u T), ?_⟩
  have := h1.gr.size
  simp at this; omega
theorem pickB (R p : Nat) (u : World) (hr : Rd u R p) (hp : p ≤ 90000) :
    Calls Try.prog 30 #[.pointer (some ⟨R, 0, none⟩), .int .i64 5] u.drew fun e w' => ∃ k : Nat, e = .returned (.int .i64 k) ∧ (k : Int) < 5 ∧ Went u w' R (p + 1) := by
  refine (pick_went R p 5 u.drew (show Rd u R p from hr) (by omega) (by omega) (by omega)).mono ?_
  rintro e w' ⟨⟨k, rfl, hk⟩, hW, hz⟩
  exact ⟨k, rfl, hk, Went.of_drew hW⟩
theorem pickC (R p X : Nat) (j : Nat) (x : Int) (u : World) (hr : Rd u R p) (hp : p ≤ 90000) (hX : X < u.heap.size) (hXR : R < X) (hc : u.cell? ⟨X, j, none⟩ = some (.int .i64 x)) :
    Calls Try.prog 30 #[.pointer (some ⟨R, 0, none⟩), .int .i64 3] u fun e w' => ∃ k : Nat, e = .returned (.int .i64 k) ∧ (k : Int) < 3 ∧ Went u w' R (p + 1) ∧ w'.cell? ⟨X, j, none⟩ = some (.int .i64 x) := by
  refine (pick_went R p 3 _ hr (by omega) (by omega) (by omega)).mono ?_
  rintro e w' ⟨⟨k, rfl, hk⟩, hW, hz⟩
  exact ⟨k, rfl, hk, hW, went_cell hW hX (by omega) hc⟩
theorem pickE (R p : Nat) (u : World) (hr : Rd u R p) (hp : p ≤ 90000) :
    Calls Try.prog 30 #[.pointer (some ⟨R, 0, none⟩), .int .i64 3] u fun e w' => ∃ k : Nat, e = .returned (.int .i64 k) ∧ (k : Int) < 3 ∧ Went u w' R (p + 1) := by
  refine (pick_went R p 3 _ hr (by omega) (by omega) (by omega)).mono ?_
  rintro e w' ⟨⟨k, rfl, hk⟩, hW, hz⟩
  exact ⟨k, rfl, hk, hW⟩
theorem pickD (R p j : Nat) (u : World) (T : TypeId) (hr : Rd u R p) (hp : p ≤ 90000) (hj : (j : Int) < 5) :
    Calls Try.prog 30 #[.pointer (some ⟨R, 0, none⟩), .int .i64 3] (u.alloc (arr5 T)) fun e w' => ∃ k : Nat, e = .returned (.int .i64 k) ∧ (k : Int) < 3 ∧ Went u w' R (p + 1) ∧ w'.cell? ⟨u.heap.size, j, none⟩ = some (.int .i64 (szF j)) := by
  have hl := hr.lt
  refine (pick_went R p 3 _ (hr.alloc _) (by omega) (by omega) (by omega)).mono ?_
  rintro e w' ⟨⟨k, rfl, hk⟩, hW, hz⟩
  exact ⟨k, rfl, hk, Went.of_alloc hW, went_cell hW (by simp) (by omega) (szF_cell hj u T)⟩

theorem small_app {s : List Int} {a b c d : Int} (h : smallS s) (ha : -1000 ≤ a ∧ a ≤ 1000) (hb : -1000 ≤ b ∧ b ≤ 1000) (hc : -1000 ≤ c ∧ c ≤ 1000) (hd : -1000 ≤ d ∧ d ≤ 1000) : smallS (s ++ [a, b, c, d]) := by
  intro j hj
  rw [List.length_append] at hj
  by_cases h1 : j < s.length
  · rw [fn_append_left h1]; exact h j h1
  · obtain ⟨i, rfl⟩ : ∃ i, j = s.length + i := ⟨j - s.length, by omega⟩
    have hi : i < 4 := by simp at hj; omega
    have e : fn (s ++ [a, b, c, d]) (s.length + i) = fn [a, b, c, d] i := by simp only [fn, List.getD]; rw [List.getElem?_append_right (Nat.le_add_right _ _), Nat.add_sub_cancel_left]
    rw [e]
    rcases (show i = 0 ∨ i = 1 ∨ i = 2 ∨ i = 3 by omega) with rfl | rfl | rfl | rfl
    · exact ha
    · exact hb
    · exact hc
    · exact hd

set_option maxHeartbeats 4000000 in
set_option maxRecDepth 10000 in
theorem spans_any (R p cnt : Nat) (w : World) (hr : Rd w R p) (hp : p ≤ 80000) (hc : cnt ≤ 100) :
    Calls Try.prog 46 #[.pointer (some ⟨R, 0, none⟩), .int .i64 cnt] w fun e w' => (∃ v n s, e = .returned v ∧ OwnS w' w.heap.size v n s ∧ n ≤ 12 ∧ Hid (smallS s)) ∧ ∃ p', p' ≤ p + 100 ∧ Went w w' R p' := by
  have hlt := hr.lt
  go_enter Try.func46, Try.ntmps46
  go_wp2_with fail
  refine (pick_went R p _ _ (hr.alloc _) (by omega) (by omega) (by omega)).mono ?_
  rintro e w1 ⟨⟨n, rfl, hn⟩, hW, hsz⟩
  have hW0 : Went w w1 R (p + 1) := ⟨hW.rd, grown_trans (grown_alloc w _ _) hW.gr⟩
  have hO : OwnS w1 w.heap.size (.slice (some ⟨w.heap.size, 0, none⟩) 0 0) 0 [] := (own_emptyS w w.heap.size 32 (Nat.le_refl _) rfl).went hW hlt
  clear hW hsz
  go_wp2_with fail
  go_loopw [5, 6] (fun q i wr => ∃ (at0 m : Nat) (s : List Int) (p' : Nat), i = .int .i64 at0 ∧ at0 ≤ cnt + 10 ∧ (∃ a cap, q = .slice a m cap) ∧ OwnS wr w.heap.size q m s ∧ m ≤ 12 ∧ Hid (smallS s) ∧ p' ≤ p + 1 + 6 * m ∧ Went w wr R p') (fun q _ _ => 12 - lenOf q)
  case atStart => exact ⟨n, 0, [], p + 1, rfl, by omega, ⟨_, _, rfl⟩, hO, by omega, fun j hj => by simp at hj, by omega, hW0⟩
  case round =>
    obtain ⟨at0, m, s, p', rfl, hat0, ⟨a, cap, rfl⟩, hown, hm, hsm, hpp, hwent⟩ := hrel
    have hsz := hwent.gr.size
    by_cases h1 : at0 < cnt
    · by_cases h2 : m < 12
      · go_wp2_with fail
        refine (pick_went R p' _ _ hwent.rd (by omega) (by omega) (by omega)).mono ?_
        rintro e w2 ⟨⟨k, rfl, hk⟩, hW2, hsz2⟩
        have hV2 := hwent.trans hW2
        have hown2 := hown.went hW2 hlt
        clear hW2 hsz2
        by_cases hk0 : k = 0
        · subst hk0
          go_wp2_with fail
          go_ret
          exact ⟨⟨_, _, _, rfl, hown2, hm, hsm⟩, p' + 1, by omega, hV2⟩
        · have hkp : (0 : Int) < (k : Int) := by omega
          clear hown hwent
          go_wp2_with fail
          refine (pick_went R (p' + 1) _ _ hV2.rd (by omega) (by omega) (by omega)).mono ?_
          rintro e w3 ⟨⟨k3, rfl, hk3⟩, hW3, hsz3⟩
          have hV3 := hV2.trans hW3
          have hown3 := hown2.went hW3 hlt
          clear hW3 hsz3 hown2 hV2
          have HOWN : Hid (OwnS w3 w.heap.size (.slice a m cap) m s) := hown3
          have HWENT : Hid (Went w w3 R (p' + 1 + 1)) := hV3
          have h3 := hV3.gr.size
          clear hown3 hV3
          have HP1 : Hid (p' + 1 + 1 ≤ 90000) := by show _ ≤ _; omega
          have HP2 : Hid (p' + 1 + 1 + 1 ≤ 90000) := by show _ ≤ _; omega
          have HRX : Hid (R < w3.heap.size) := by show _ < _; omega
          have HM2 : Hid (m ≤ 1048576) := by show _ ≤ _; omega
          by_cases hto : cnt < at0 + 1 + k3
          · go_wp2_with fail
            go_region_law (first
              | (refine step_ownS (x0 := (at0 : Int)) (x1 := (cnt : Int)) (x2 := szF ka) (x3 := (kb : Int)) (ad := wb.heap.size) (.tmp 33) (.tmp 44) (hOb.below (below_new _ _)) HM2.out ?_ ?_ ?_ ?_ ?_ rfl rfl rfl rfl ?_; (simp; omega); simp; simp; simp; simp; intro v9 w9 hown9 hgr9)
              | (refine step_ownS (x0 := (at0 : Int)) (x1 := (cnt : Int)) (x2 := szF ka) (x3 := (kb : Int)) (ad := wb.heap.size + 1) (.tmp 33) (.tmp 44) (hOb.below (bstep (below_new _ _) (below_new _ _))) HM2.out ?_ ?_ ?_ ?_ ?_ rfl rfl rfl rfl ?_; (simp; omega); simp; simp; simp; simp; intro v9 w9 hown9 hgr9)
              | (go_simp; refine (pickC R (p' + 1 + 1 + 1) w3.heap.size ka (szF ka) _ hVa.rd HP2.out qn HRX.out qa).mono ?_; rintro e wb ⟨kb, rfl, hkb, hXb, qb⟩; have hVb := hVa.trans hXb; have hOb := hOa.went hXb hlt; have hsb := hVb.gr.size)
              | (go_simp; refine (pickD R (p' + 1 + 1 + 1) ka _ _ hVa.rd HP2.out hka).mono ?_; rintro e wb ⟨kb, rfl, hkb, hXb, qb⟩; have hVb := hVa.trans hXb; have hOb := hOa.went hXb hlt; have hsb := hVb.gr.size)
              | (go_simp; refine (pickE R (p' + 1 + 1 + 1) _ hVa.rd HP2.out).mono ?_; rintro e wb ⟨kb, rfl, hkb, hXb⟩; have hVb := hVa.trans hXb; have hOb := hOa.went hXb hlt; have hsb := hVb.gr.size)
              | (go_simp; refine (pickA R (p' + 1 + 1) _ _ HWENT.out.rd HP1.out).mono ?_; rintro e wa ⟨ka, rfl, hka, hXa, qa, qn⟩; have hVa := HWENT.out.trans hXa; have hOa := HOWN.out.went hXa hlt; have qs := fun (u : World) (T : TypeId) => szF_cell hka u T)
              | (go_simp; refine (pickB R (p' + 1 + 1) _ HWENT.out.rd HP1.out).mono ?_; rintro e wa ⟨ka, rfl, hka, hXa⟩; have hVa := HWENT.out.trans hXa; have hOa := HOWN.out.went hXa hlt; have qs := fun (u : World) (T : TypeId) => szF_cell hka u T))
            all_goals (go_wp2_with fail)
            all_goals
              have hVc : Went w w9 R (p' + 1 + 1 + 1 + 1) := by
                first
                  | exact Went.ownS ⟨hVb.rd.alloc _, grown_trans hVb.gr (grown_alloc _ _ _)⟩ hgr9 (hOb.below (below_new _ _)) (Nat.le_refl _) hlt
                  | exact Went.ownS ⟨(hVb.rd.alloc _).alloc _, grown_trans (grown_trans hVb.gr (grown_alloc _ _ _)) (grown_alloc _ _ _)⟩ hgr9 (hOb.below (bstep (below_new _ _) (below_new _ _))) (Nat.le_refl _) hlt
              have HSM : Hid (smallS (s ++ [(at0 : Int), (cnt : Int), szF ka, (kb : Int)])) := small_app hsm.out (by omega) (by omega) (szF_small hka) (by omega)
              refine (pick_went R (p' + 1 + 1 + 1 + 1) _ _ hVc.rd (by omega) (by omega) (by omega)).mono ?_
              rintro e wd ⟨⟨kd, rfl, hkd⟩, hWd, hzd⟩
              have hown10 := hown9.went hWd hlt
              have hVd := hVc.trans hWd
              obtain ⟨g10, cp10, rfl⟩ := OwnS.form1 hown9
              have HOW : Hid (OwnS wd w.heap.size (.slice (some ⟨g10, 0, none⟩) (m + 1) cp10) (m + 1) (s ++ [(at0 : Int), (cnt : Int), szF ka, (kb : Int)])) := hown10
              have HVD : Hid (Went w wd R (p' + 1 + 1 + 1 + 1 + 1)) := hVd
              clear hown10 hVd hWd hzd hVc hown9 hgr9 hOb hVb hOa hVa hXa hXb qs
              go_wp2_with fail
              exact ⟨⟨cnt + kd, m + 1, _, _, by go_num, by omega, ⟨_, _, rfl⟩, HOW.out, by omega, HSM, by omega, HVD.out⟩, by simp only [lenOf]; omega⟩
          · go_wp2_with fail
            go_region_law (first
              | (refine step_ownS (x0 := (at0 : Int)) (x1 := (at0 : Int) + 1 + (k3 : Int)) (x2 := szF ka) (x3 := (kb : Int)) (ad := wb.heap.size) (.tmp 33) (.tmp 44) (hOb.below (below_new _ _)) HM2.out ?_ ?_ ?_ ?_ ?_ rfl rfl rfl rfl ?_; (simp; omega); simp; simp; simp; simp; intro v9 w9 hown9 hgr9)
              | (refine step_ownS (x0 := (at0 : Int)) (x1 := (at0 : Int) + 1 + (k3 : Int)) (x2 := szF ka) (x3 := (kb : Int)) (ad := wb.heap.size + 1) (.tmp 33) (.tmp 44) (hOb.below (bstep (below_new _ _) (below_new _ _))) HM2.out ?_ ?_ ?_ ?_ ?_ rfl rfl rfl rfl ?_; (simp; omega); simp; simp; simp; simp; intro v9 w9 hown9 hgr9)
              | (go_simp; refine (pickC R (p' + 1 + 1 + 1) w3.heap.size ka (szF ka) _ hVa.rd HP2.out qn HRX.out qa).mono ?_; rintro e wb ⟨kb, rfl, hkb, hXb, qb⟩; have hVb := hVa.trans hXb; have hOb := hOa.went hXb hlt; have hsb := hVb.gr.size)
              | (go_simp; refine (pickD R (p' + 1 + 1 + 1) ka _ _ hVa.rd HP2.out hka).mono ?_; rintro e wb ⟨kb, rfl, hkb, hXb, qb⟩; have hVb := hVa.trans hXb; have hOb := hOa.went hXb hlt; have hsb := hVb.gr.size)
              | (go_simp; refine (pickE R (p' + 1 + 1 + 1) _ hVa.rd HP2.out).mono ?_; rintro e wb ⟨kb, rfl, hkb, hXb⟩; have hVb := hVa.trans hXb; have hOb := hOa.went hXb hlt; have hsb := hVb.gr.size)
              | (go_simp; refine (pickA R (p' + 1 + 1) _ _ HWENT.out.rd HP1.out).mono ?_; rintro e wa ⟨ka, rfl, hka, hXa, qa, qn⟩; have hVa := HWENT.out.trans hXa; have hOa := HOWN.out.went hXa hlt; have qs := fun (u : World) (T : TypeId) => szF_cell hka u T)
              | (go_simp; refine (pickB R (p' + 1 + 1) _ HWENT.out.rd HP1.out).mono ?_; rintro e wa ⟨ka, rfl, hka, hXa⟩; have hVa := HWENT.out.trans hXa; have hOa := HOWN.out.went hXa hlt; have qs := fun (u : World) (T : TypeId) => szF_cell hka u T))
            all_goals (go_wp2_with fail)
            all_goals
              have hVc : Went w w9 R (p' + 1 + 1 + 1 + 1) := by
                first
                  | exact Went.ownS ⟨hVb.rd.alloc _, grown_trans hVb.gr (grown_alloc _ _ _)⟩ hgr9 (hOb.below (below_new _ _)) (Nat.le_refl _) hlt
                  | exact Went.ownS ⟨(hVb.rd.alloc _).alloc _, grown_trans (grown_trans hVb.gr (grown_alloc _ _ _)) (grown_alloc _ _ _)⟩ hgr9 (hOb.below (bstep (below_new _ _) (below_new _ _))) (Nat.le_refl _) hlt
              have HSM : Hid (smallS (s ++ [(at0 : Int), (at0 : Int) + 1 + (k3 : Int), szF ka, (kb : Int)])) := small_app hsm.out (by omega) (by omega) (szF_small hka) (by omega)
              refine (pick_went R (p' + 1 + 1 + 1 + 1) _ _ hVc.rd (by omega) (by omega) (by omega)).mono ?_
              rintro e wd ⟨⟨kd, rfl, hkd⟩, hWd, hzd⟩
              have hown10 := hown9.went hWd hlt
              have hVd := hVc.trans hWd
              obtain ⟨g10, cp10, rfl⟩ := OwnS.form1 hown9
              have HOW : Hid (OwnS wd w.heap.size (.slice (some ⟨g10, 0, none⟩) (m + 1) cp10) (m + 1) (s ++ [(at0 : Int), (at0 : Int) + 1 + (k3 : Int), szF ka, (kb : Int)])) := hown10
              have HVD : Hid (Went w wd R (p' + 1 + 1 + 1 + 1 + 1)) := hVd
              clear hown10 hVd hWd hzd hVc hown9 hgr9 hOb hVb hOa hVa hXa hXb qs
              go_wp2_with fail
              exact ⟨⟨at0 + 1 + k3 + kd, m + 1, _, _, by go_num, by omega, ⟨_, _, rfl⟩, HOW.out, by omega, HSM, by omega, HVD.out⟩, by simp only [lenOf]; omega⟩
      · go_wp2_with fail
        go_ret
        refine ⟨?_, p', by omega, hwent⟩
        first | exact ⟨_, _, _, rfl, hown, hm, hsm⟩ | exact ⟨_, _, rfl, _, hown, hm, hsm⟩ | exact ⟨_, rfl, _, _, hown, hm, hsm⟩ | exact ⟨_, rfl, _, hown, hm, hsm⟩
    · go_wp2_with fail
      go_ret
      refine ⟨?_, p', by omega, hwent⟩
      first | exact ⟨_, _, _, rfl, hown, hm, hsm⟩ | exact ⟨_, _, rfl, _, hown, hm, hsm⟩ | exact ⟨_, rfl, _, _, hown, hm, hsm⟩ | exact ⟨_, rfl, _, hown, hm, hsm⟩
end Go.Proofs.Ytobmdefklgkoiaa
