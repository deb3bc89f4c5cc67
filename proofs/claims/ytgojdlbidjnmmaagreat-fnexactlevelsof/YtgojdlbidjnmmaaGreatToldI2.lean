import Derived.Test.YtgojdlbidjnmmaaGreatToldI
namespace Go.Proofs.YtgojdlbidjnmmaaGreat
open Go.ChangeShapes Go.WideShapes Go.ChangeAt Go.RowKit
set_option linter.unusedSimpArgs false
set_option linter.unusedVariables false

/-- The number by which the side of what begins is told. -/
def dirOf (right : Bool) : Int := if right = true then 2 else 1
theorem up_dir (t : Int) (right : Bool) : upL t right = if ownOf (t + 1) = dirOf right then t + 1 else t + 1 + 1 := by
  rw [show t + 1 + 1 = t + 2 by omega]
  unfold upL ownOf dirOf
  cases right
  · by_cases h : t % 2 = 0
    · rw [if_neg (by simp [h]), if_neg (by rw [if_neg (by omega)]; simp)]
    · rw [if_pos (by simp [h]), if_pos (by rw [if_pos (by omega)]; simp)]
  · by_cases h : t % 2 = 0
    · rw [if_pos (by simp [h]), if_pos (by rw [if_neg (by omega)]; simp)]
    · rw [if_neg (by simp [h]), if_neg (by rw [if_pos (by omega)]; simp)]
theorem pushI_yes {st : List Tl} {lost skip : Int} {right : Bool} (side : Int) (alone : Bool) {u : Int} (hu : upL (topL st) right = u) (h1 : u ≤ 20) (h2 : lost = 0) (h3 : skip = 0) : pushT ⟨st, lost, skip⟩ right side alone = ⟨⟨u, side, alone⟩ :: st, lost, skip⟩ := by
  subst hu; unfold pushT; rw [if_pos ⟨h1, h2, h3⟩]
theorem pushI_no {st : List Tl} {lost skip : Int} {right : Bool} (side : Int) (alone : Bool) {u : Int} (hu : upL (topL st) right = u) (h : 20 < u ∨ lost ≠ 0 ∨ skip ≠ 0) : pushT ⟨st, lost, skip⟩ right side alone = if alone = true then ⟨st, lost + 1, skip⟩ else if lost = 0 then ⟨st, lost, skip + 1⟩ else ⟨st, lost, skip⟩ := by
  subst hu; unfold pushT; rw [if_neg (by show ¬ (upL (topL st) right ≤ 20 ∧ lost = 0 ∧ skip = 0); omega)]
theorem SIn.push {w w' : World} {X : Nat → Prop} {S b : Nat} {top : Option Addr} {st : List Tl} {lost skip : Int} {x : Tl} (h : SIn w' X S top ⟨st, lost, skip⟩) (hx : ¬ X b) (hb : b < w'.heap.size) (n0 : w'.cell? ⟨b, 0, none⟩ = some (.int .i64 x.level)) (n1 : w'.cell? ⟨b, 1, none⟩ = some (.int .i64 x.side)) (n2 : w'.cell? ⟨b, 2, none⟩ = some (.bool x.alone)) (n3 : w'.cell? ⟨b, 3, none⟩ = some (.pointer top)) :
    SIn (w'.setCell ⟨S, 0, none⟩ (.pointer (some ⟨b, 0, none⟩))) X S (some ⟨b, 0, none⟩) ⟨x :: st, lost, skip⟩ :=
  h.put0 ⟨b, top, rfl, hx, hb, n0, n1, n2, n3, h.lk⟩

set_option maxHeartbeats 4000000 in
theorem implPush {X : Nat → Prop} {S : Nat} {top : Option Addr} {s : TS} (w : World) (h : SIn w X S top s) (hne : ∃ x r, s.st = x :: r) (ht0 : 0 ≤ topL s.st) (ht1 : topL s.st ≤ 100) (hl0 : 0 ≤ s.lost) (hl1 : s.lost ≤ 1000) (hs0 : 0 ≤ s.skip) (hs1 : s.skip ≤ 1000) (right : Bool) (side : Int) (alone : Bool) (l0 : Int) (d : Int) (hd : d = dirOf right) :
    Calls Tryz.prog 92 #[.pointer (some ⟨S, 0, none⟩), .agg #[.int .i64 l0, .int .i64 side, .bool alone, .pointer none], .int .i64 d] w fun e w' => e = .returned (.tuple #[]) ∧ (∃ top', SIn w' X S top' (pushT s right side alone)) ∧ w.grownBy w' (some S) := by
  obtain ⟨st, lost, skip⟩ := s
  obtain ⟨x, r, hx⟩ := hne
  simp only at hx hl0 hl1 hs0 hs1 ht0 ht1 h
  subst hx
  have ht : topL (x :: r) = x.level := rfl
  rw [ht] at ht0 ht1
  obtain ⟨b, nx, e, hb1, hb2, n0, n1, n2, n3, hlk⟩ := h.lk
  simp only [Value.pointer.injEq] at e
  subst e
  obtain ⟨t, htt⟩ : ∃ t, x.level = t := ⟨_, rfl⟩
  rw [htt] at n0 ht0 ht1
  obtain ⟨u, hu⟩ : ∃ u, upL (topL (x :: r)) right = u := ⟨_, rfl⟩
  have hu2 := hu
  rw [ht, htt, up_dir, ← hd] at hu2
  have HU : Hid _ := hu
  have c0 := h.c0
  have c1 := h.c1
  have c2 := h.c2
  simp only at c1 c2
  have f0 := h.fz 0
  have f1 := h.fz 1
  have f2 := h.fz 2
  have hSl := h.lt
  have H : Hid _ := h
  have HD : Hid _ := hd
  have hsz : ¬ w.heap.size = S := by omega
  have hbz : ¬ w.heap.size = b := by omega
  obtain ⟨o, ho⟩ : ∃ o, ownOf (t + 1) = o := ⟨_, rfl⟩
  rw [ho] at hu2
  have HO : Hid _ := ho
  have hsz2 : ¬ S = w.heap.size := by omega
  have hbz2 : ¬ b = w.heap.size := by omega
  clear h hlk hu ht htt hd ho n1 n2 n3
  have hfin : ∀ P : Option Addr, SIn (w.alloc (.cells #[.int .i64 u, .int .i64 side, .bool alone, .pointer P] 66)) X S (some ⟨b, 0, none⟩) ⟨x :: r, lost, skip⟩ := fun P => H.out.below ((Below.refl _ _).alloc (Nat.le_refl _) _)
  have HF : Hid _ := hfin
  have finV : u ≤ 20 → lost = 0 → skip = 0 → Hid ((∃ top', SIn ((w.setCell ⟨S, 0, none⟩ (.pointer (some ⟨w.heap.size, 0, none⟩))).alloc (.cells #[.int .i64 u, .int .i64 side, .bool alone, .pointer (some ⟨b, 0, none⟩)] 66)) X S top' (pushT ⟨x :: r, lost, skip⟩ right side alone)) ∧ w.grownBy ((w.setCell ⟨S, 0, none⟩ (.pointer (some ⟨w.heap.size, 0, none⟩))).alloc (.cells #[.int .i64 u, .int .i64 side, .bool alone, .pointer (some ⟨b, 0, none⟩)] 66)) (some S)) := fun a1 a2 a3 => by
    unfold Hid
    rw [← World.setCell_alloc_past _ _ _ _ hSl, pushI_yes side alone HU.out a1 a2 a3]
    refine ⟨⟨_, SIn.push (x := ⟨u, side, alone⟩) (w := w) (HF.out _) (fun hx => by have := H.out.xlt _ hx; omega) (by simp) (by go_simp) (by go_simp) (by go_simp) (by go_simp)⟩, grown_tr (World.grownBy_alloc w _ _) (grown_set _ _ _ _)⟩
  have hno := fun hh => pushI_no (st := x :: r) (lost := lost) (skip := skip) (right := right) side alone HU.out hh
  have HNO : Hid _ := hno
  clear hno hfin
  have fin1 : (20 < u ∨ lost ≠ 0 ∨ skip ≠ 0) → alone = true → Hid ((∃ top', SIn ((w.setCell ⟨S, 1, none⟩ (.int .i64 (lost + 1))).alloc (.cells #[.int .i64 u, .int .i64 side, .bool alone, .pointer none] 66)) X S top' (pushT ⟨x :: r, lost, skip⟩ right side alone)) ∧ w.grownBy ((w.setCell ⟨S, 1, none⟩ (.int .i64 (lost + 1))).alloc (.cells #[.int .i64 u, .int .i64 side, .bool alone, .pointer none] 66)) (some S)) := fun hh ha => by
    unfold Hid
    rw [← World.setCell_alloc_past _ _ _ _ hSl, HNO.out hh, if_pos ha]
    exact ⟨⟨_, (HF.out none).put1 (lost + 1)⟩, grown_tr (World.grownBy_alloc w _ _) (grown_set _ _ _ _)⟩
  have fin2 : (20 < u ∨ lost ≠ 0 ∨ skip ≠ 0) → alone = false → lost = 0 → Hid ((∃ top', SIn ((w.setCell ⟨S, 2, none⟩ (.int .i64 (skip + 1))).alloc (.cells #[.int .i64 u, .int .i64 side, .bool alone, .pointer none] 66)) X S top' (pushT ⟨x :: r, lost, skip⟩ right side alone)) ∧ w.grownBy ((w.setCell ⟨S, 2, none⟩ (.int .i64 (skip + 1))).alloc (.cells #[.int .i64 u, .int .i64 side, .bool alone, .pointer none] 66)) (some S)) := fun hh ha h0 => by
    unfold Hid
    rw [← World.setCell_alloc_past _ _ _ _ hSl, HNO.out hh, if_neg (by rw [ha]; simp), if_pos h0]
    exact ⟨⟨_, (HF.out none).put2 (skip + 1)⟩, grown_tr (World.grownBy_alloc w _ _) (grown_set _ _ _ _)⟩
  have fin0 : (20 < u ∨ lost ≠ 0 ∨ skip ≠ 0) → alone = false → lost ≠ 0 → Hid ((∃ top', SIn (w.alloc (.cells #[.int .i64 u, .int .i64 side, .bool alone, .pointer none] 66)) X S top' (pushT ⟨x :: r, lost, skip⟩ right side alone)) ∧ w.grownBy (w.alloc (.cells #[.int .i64 u, .int .i64 side, .bool alone, .pointer none] 66)) (some S)) := fun hh ha h0 => by
    unfold Hid
    rw [HNO.out hh, if_neg (by rw [ha]; simp), if_neg h0]
    exact ⟨⟨_, HF.out none⟩, World.grownBy_alloc w _ _⟩
  have FV : Hid _ := finV
  have F1 : Hid _ := fin1
  have F2 : Hid _ := fin2
  have F0 : Hid _ := fin0
  clear finV fin1 fin2 fin0
  have key : (u ≤ 20 ∧ decide (u ≤ 20) = true ∧ lost = 0 ∧ (lost == 0) = true ∧ skip = 0 ∧ (skip == 0) = true) ∨ (20 < u ∧ decide (u ≤ 20) = false ∧ lost = 0 ∧ (lost == 0) = true) ∨ (20 < u ∧ decide (u ≤ 20) = false ∧ lost ≠ 0 ∧ (lost == 0) = false) ∨ (u ≤ 20 ∧ decide (u ≤ 20) = true ∧ lost ≠ 0 ∧ (lost == 0) = false) ∨ (u ≤ 20 ∧ decide (u ≤ 20) = true ∧ lost = 0 ∧ (lost == 0) = true ∧ skip ≠ 0 ∧ (skip == 0) = false) := by
    by_cases a : 20 < u
    · by_cases q : lost = 0
      · exact .inr (.inl ⟨a, by simpa using a, q, by simpa using q⟩)
      · exact .inr (.inr (.inl ⟨a, by simpa using a, q, by simpa using q⟩))
    · by_cases q : lost = 0
      · by_cases z : skip = 0
        · exact .inl ⟨by omega, by simp; omega, q, by simpa using q, z, by simpa using z⟩
        · exact .inr (.inr (.inr (.inr ⟨by omega, by simp; omega, q, by simpa using q, z, by simpa using z⟩)))
      · exact .inr (.inr (.inr (.inl ⟨by omega, by simp; omega, q, by simpa using q⟩)))
  by_cases hod : o = d
  · have ho1 : (o != d) = false := by simpa using hod
    rw [if_pos hod] at hu2
    subst hu2
    have HOD : Hid _ := hod
    clear hod
    rcases key with ⟨k1, k2, k3, k4, k5, k6⟩ | ⟨k1, k2, k3, k4⟩ | ⟨k1, k2, k3, k4⟩ | ⟨k1, k2, k3, k4⟩ | ⟨k1, k2, k3, k4, k5, k6⟩
    · have K3 : Hid _ := k3
      have K5 : Hid _ := k5
      clear k3 k5
      go_enter Tryz.func92, Tryz.ntmps92
      go_wp2_with (go_at_call 66; refine (implSideOf _ _ (by omega)).mono ?_; rintro e w1 ⟨rfl, rfl⟩; rw [HO.out])
      go_end0
      exact ⟨rfl, (FV.out k1 K3.out K5.out).out⟩
    · have K3 : Hid _ := k3
      clear k3
      cases alone
      · go_enter Tryz.func92, Tryz.ntmps92
        go_wp2_with (go_at_call 66; refine (implSideOf _ _ (by omega)).mono ?_; rintro e w1 ⟨rfl, rfl⟩; rw [HO.out])
        go_end0
        exact ⟨rfl, (F2.out (.inl k1) (by simp) K3.out).out⟩
      · go_enter Tryz.func92, Tryz.ntmps92
        go_wp2_with (go_at_call 66; refine (implSideOf _ _ (by omega)).mono ?_; rintro e w1 ⟨rfl, rfl⟩; rw [HO.out])
        go_end0
        exact ⟨rfl, (F1.out (.inl k1) (by simp)).out⟩
    · have K3 : Hid _ := k3
      clear k3
      cases alone
      · go_enter Tryz.func92, Tryz.ntmps92
        go_wp2_with (go_at_call 66; refine (implSideOf _ _ (by omega)).mono ?_; rintro e w1 ⟨rfl, rfl⟩; rw [HO.out])
        go_end0
        exact ⟨rfl, (F0.out (.inl k1) (by simp) K3.out).out⟩
      · go_enter Tryz.func92, Tryz.ntmps92
        go_wp2_with (go_at_call 66; refine (implSideOf _ _ (by omega)).mono ?_; rintro e w1 ⟨rfl, rfl⟩; rw [HO.out])
        go_end0
        exact ⟨rfl, (F1.out (.inl k1) (by simp)).out⟩
    · have K3 : Hid _ := k3
      clear k3
      cases alone
      · go_enter Tryz.func92, Tryz.ntmps92
        go_wp2_with (go_at_call 66; refine (implSideOf _ _ (by omega)).mono ?_; rintro e w1 ⟨rfl, rfl⟩; rw [HO.out])
        go_end0
        exact ⟨rfl, (F0.out (.inr (.inl K3.out)) (by simp) K3.out).out⟩
      · go_enter Tryz.func92, Tryz.ntmps92
        go_wp2_with (go_at_call 66; refine (implSideOf _ _ (by omega)).mono ?_; rintro e w1 ⟨rfl, rfl⟩; rw [HO.out])
        go_end0
        exact ⟨rfl, (F1.out (.inr (.inl K3.out)) (by simp)).out⟩
    · have K3 : Hid _ := k3
      have K5 : Hid _ := k5
      clear k3 k5
      cases alone
      · go_enter Tryz.func92, Tryz.ntmps92
        go_wp2_with (go_at_call 66; refine (implSideOf _ _ (by omega)).mono ?_; rintro e w1 ⟨rfl, rfl⟩; rw [HO.out])
        go_end0
        exact ⟨rfl, (F2.out (.inr (.inr K5.out)) (by simp) K3.out).out⟩
      · go_enter Tryz.func92, Tryz.ntmps92
        go_wp2_with (go_at_call 66; refine (implSideOf _ _ (by omega)).mono ?_; rintro e w1 ⟨rfl, rfl⟩; rw [HO.out])
        go_end0
        exact ⟨rfl, (F1.out (.inr (.inr K5.out)) (by simp)).out⟩
  · have ho1 : (o != d) = true := by simpa using hod
    rw [if_neg hod] at hu2
    subst hu2
    have HOD : Hid _ := hod
    clear hod
    rcases key with ⟨k1, k2, k3, k4, k5, k6⟩ | ⟨k1, k2, k3, k4⟩ | ⟨k1, k2, k3, k4⟩ | ⟨k1, k2, k3, k4⟩ | ⟨k1, k2, k3, k4, k5, k6⟩
    · have K3 : Hid _ := k3
      have K5 : Hid _ := k5
      clear k3 k5
      go_enter Tryz.func92, Tryz.ntmps92
      go_wp2_with (go_at_call 66; refine (implSideOf _ _ (by omega)).mono ?_; rintro e w1 ⟨rfl, rfl⟩; rw [HO.out])
      go_end0
      exact ⟨rfl, (FV.out k1 K3.out K5.out).out⟩
    · have K3 : Hid _ := k3
      clear k3
      cases alone
      · go_enter Tryz.func92, Tryz.ntmps92
        go_wp2_with (go_at_call 66; refine (implSideOf _ _ (by omega)).mono ?_; rintro e w1 ⟨rfl, rfl⟩; rw [HO.out])
        go_end0
        exact ⟨rfl, (F2.out (.inl k1) (by simp) K3.out).out⟩
      · go_enter Tryz.func92, Tryz.ntmps92
        go_wp2_with (go_at_call 66; refine (implSideOf _ _ (by omega)).mono ?_; rintro e w1 ⟨rfl, rfl⟩; rw [HO.out])
        go_end0
        exact ⟨rfl, (F1.out (.inl k1) (by simp)).out⟩
    · have K3 : Hid _ := k3
      clear k3
      cases alone
      · go_enter Tryz.func92, Tryz.ntmps92
        go_wp2_with (go_at_call 66; refine (implSideOf _ _ (by omega)).mono ?_; rintro e w1 ⟨rfl, rfl⟩; rw [HO.out])
        go_end0
        exact ⟨rfl, (F0.out (.inl k1) (by simp) K3.out).out⟩
      · go_enter Tryz.func92, Tryz.ntmps92
        go_wp2_with (go_at_call 66; refine (implSideOf _ _ (by omega)).mono ?_; rintro e w1 ⟨rfl, rfl⟩; rw [HO.out])
        go_end0
        exact ⟨rfl, (F1.out (.inl k1) (by simp)).out⟩
    · have K3 : Hid _ := k3
      clear k3
      cases alone
      · go_enter Tryz.func92, Tryz.ntmps92
        go_wp2_with (go_at_call 66; refine (implSideOf _ _ (by omega)).mono ?_; rintro e w1 ⟨rfl, rfl⟩; rw [HO.out])
        go_end0
        exact ⟨rfl, (F0.out (.inr (.inl K3.out)) (by simp) K3.out).out⟩
      · go_enter Tryz.func92, Tryz.ntmps92
        go_wp2_with (go_at_call 66; refine (implSideOf _ _ (by omega)).mono ?_; rintro e w1 ⟨rfl, rfl⟩; rw [HO.out])
        go_end0
        exact ⟨rfl, (F1.out (.inr (.inl K3.out)) (by simp)).out⟩
    · have K3 : Hid _ := k3
      have K5 : Hid _ := k5
      clear k3 k5
      cases alone
      · go_enter Tryz.func92, Tryz.ntmps92
        go_wp2_with (go_at_call 66; refine (implSideOf _ _ (by omega)).mono ?_; rintro e w1 ⟨rfl, rfl⟩; rw [HO.out])
        go_end0
        exact ⟨rfl, (F2.out (.inr (.inr K5.out)) (by simp) K3.out).out⟩
      · go_enter Tryz.func92, Tryz.ntmps92
        go_wp2_with (go_at_call 66; refine (implSideOf _ _ (by omega)).mono ?_; rintro e w1 ⟨rfl, rfl⟩; rw [HO.out])
        go_end0
        exact ⟨rfl, (F1.out (.inr (.inr K5.out)) (by simp)).out⟩
end Go.Proofs.YtgojdlbidjnmmaaGreat
