import Derived.Test.YtgojdlbidjnmmaaGreatLvS3
import Derived.Test.YtgojdlbidjnmmaaGreatLvI2
import Derived.Test.YtgojdlbidjnmmaaGreatMtS
namespace Go.Proofs.YtgojdlbidjnmmaaGreat
open Go.ChangeShapes Go.WideShapes Go.ChangeAt Go.RowKit Go.Deep
set_option linter.unusedSimpArgs false
set_option linter.unusedVariables false

def endP (A Z e : Nat) : Nat := if e = 0 then A else Z
def giveTo (t : Nat → Int) (n : Nat) (s : Int) (Y : List Int) (A Z : Nat) : Nat → List Int
  | 0 => Y
  | e + 1 => giveL t n s (giveTo t n s Y A Z e) (endP A Z e)
theorem sid_is {x : Nat → Int} {o bf : Int} {a : Nat} (ho : o = 1 ∨ o = 2) (hb : bf = 1 ∨ bf = 2) : sidP x o bf a false = if shA x bf a ≠ o then 3 - o else o := by
  unfold sidP
  have := shA_side (x := x) hb a
  rw [if_neg (by simp)]
  split <;> omega
set_option maxRecDepth 10000 in
set_option maxHeartbeats 8000000 in
theorem specPairs (ba oa ca bb ob cb g n cp : Nat) (Rn X x : List Int) (bf lvl o : Int) (w : World) (hRl : Rn.length = n) (hXl : X.length = n) (hn0 : 0 < n) (hn80 : n ≤ 80) (hba : ba < w.heap.size) (hbb : bb < w.heap.size) (hA : At w ba oa Rn) (hB : At w bb ob X) (hx : OwnI w 0 (.slice (some ⟨g, 0, none⟩) n cp) x) (hne : bb ≠ g) (h0 : 0 ≤ lvl) (ho : ownOf lvl = o) (hbf : bf = 1 ∨ bf = 2) :
    Calls Tryz.prog 77 #[.slice (some ⟨ba, oa, none⟩) n ca, .slice (some ⟨bb, ob, none⟩) n cb, .slice (some ⟨g, 0, none⟩) n cp, .int .i64 bf, .int .i64 lvl] w fun e w' => e = .returned (.tuple #[]) ∧ OwnI w' 0 (.slice (some ⟨g, 0, none⟩) n cp) (resTo (fn X) n o bf x (srtB (stB (fn Rn) (fn x) mate n).2)) ∧ w.grownBy w' (some g) := by
  have hxl : x.length = n := hx.len
  have hg := (hx.lt g rfl).2
  have hLgood : ∀ p ∈ srtB (stB (fn Rn) (fn x) mate n).2, p.1 < p.2 ∧ p.2 < n := fun p hp => (good_st (fn Rn) (fn x) mate n).lt2 p ((srt_perm _).mem_iff.1 hp)
  have hLlen : (srtB (stB (fn Rn) (fn x) mate n).2).length ≤ 80 := by rw [srt_len]; have := (st_len (fn Rn) (fn x) mate n).2; omega
  have hMR := specMates_row ba oa g 0 n ca cp Rn x w hRl hxl hn80 hba hg hA (fun j hj => by rw [Nat.zero_add]; exact hx.cellN j (by omega))
  obtain ⟨Ls, hLs⟩ : ∃ Ls, srtB (stB (fn Rn) (fn x) mate n).2 = Ls := ⟨_, rfl⟩
  rw [hLs] at hLgood hLlen hMR ⊢
  have HMR : Hid _ := hMR
  have HLG : Hid (∀ p ∈ Ls, p.1 < p.2 ∧ p.2 < n) := hLgood
  obtain ⟨N, hN⟩ : ∃ N, Ls.length = N := ⟨_, rfl⟩
  rw [hN] at hLlen
  have HN : Hid _ := hN
  have HB : Hid (At w bb ob X) := hB
  have HX : Hid (OwnI w 0 (.slice (some ⟨g, 0, none⟩) n cp) x) := hx
  have HXL : Hid (X.length = n) := hXl
  have ho12 : o = 1 ∨ o = 2 := by rw [← ho]; unfold ownOf; split <;> simp
  have HO : Hid (o = 1 ∨ o = 2) := ho12
  have HBF : Hid (bf = 1 ∨ bf = 2) := hbf
  have HOW : Hid (∀ V, Calls Tryz.prog 119 #[.int .i64 lvl] V fun e w' => e = .returned (.int .i64 o) ∧ w' = V) := fun V => by rw [← ho]; exact specOwn lvl V h0
  clear hMR hLs hLgood hN hB hx hXl ho ho12 hbf hA hRl hxl
  go_enter Tryz.func77, Tryz.ntmps77
  go_wp2_with fail
  refine Calls.mono HMR.out ?_
  rintro e w2 ⟨⟨v, zs, rfl, rz, hzs⟩, b2⟩
  have hzl : zs.length = N := by have := congrArg List.length hzs; rw [List.length_map, rowsP_len, HN.out] at this; exact this
  obtain ⟨av, cv, rfl⟩ := rz.slc
  rw [hzl] at rz ⊢
  have HRZ : Hid (RZ w2 w.heap.size (.slice av N cv) zs) := rz
  have HZL : Hid (zs.length = N) := hzl
  have HZS : Hid (zs.map (·.2) = rowsP Ls) := hzs
  have HB2 : Hid (Below w.heap.size w w2) := b2
  have hb2s := b2.size
  have HX2 : Hid (OwnI w2 0 (.slice (some ⟨g, 0, none⟩) n cp) x) := HX.out.below b2
  have HF : Hid (∀ V, w2.grownBy V (some g) → ∀ j, j < n → V.cell? ⟨bb, ob + j, none⟩ = some (.int .i64 (fn X j))) := fun V hV j hj => (World.cell?_of_block (hV.block bb (by omega) (fun e => hne (Option.some.inj e)))).trans ((HB.out.below b2 hbb) j (by rw [HXL.out]; exact hj))
  clear rz hzl hzs b2
  go_wp2_with (go_at_call 119; refine (HOW.out _).mono ?_; rintro e w3 ⟨rfl, hw3⟩; rw [hw3]; clear hw3 w3)
  go_loopw [12] (fun z wr => ∃ k : Nat, k ≤ N ∧ z = .int .i64 k ∧ Hid (OwnI wr 0 (.slice (some ⟨g, 0, none⟩) n cp) (resTo (fn X) n o bf x (Ls.take k))) ∧ Hid (w2.grownBy wr (some g))) (fun z _ => N - (intOf z).toNat)
  case atStart => exact ⟨0, Nat.zero_le _, rfl, HX2.out, grownB_refl _ _⟩
  case round =>
    obtain ⟨k, hk, rfl, hO, hgr⟩ := hrel
    rename World => wr
    by_cases hlt : k < N
    · have hki : (k : Int) < (N : Int) := by omega
      have hkL : k < Ls.length := by rw [HN.out]; exact hlt
      have hkz : k < zs.length := by rw [HZL.out]; exact hlt
      obtain ⟨g1, c1', e1, _⟩ := HRZ.out.own.form1 (by rw [HZL.out]; omega)
      simp only [Value.slice.injEq] at e1
      obtain ⟨rfl, hz1', rfl⟩ := e1
      clear hz1'
      have hg1 := HRZ.out.lt g1 rfl
      have q1 := HRZ.out.cellAt k hkz
      have row1 := HRZ.out.rowAt k hkz
      have hrow : (zs[k]).2 = rowP Ls[k] := by
        have e := congrArg (fun z => z[k]?) HZS.out
        simp only [rowsP, List.getElem?_map, List.getElem?_eq_getElem hkz, List.getElem?_eq_getElem hkL, Option.map_some, Option.some.injEq] at e
        exact e
      rw [hrow] at row1
      obtain ⟨gk, ck, eq0, _⟩ := OwnI.form1 row1 (by simp [rowP])
      rw [show (rowP Ls[k]).length = 2 from rfl] at eq0
      rw [eq0] at q1 row1
      have hgk := row1.lt gk rfl
      obtain ⟨p1, p2⟩ := HLG.out _ (List.getElem_mem hkL)
      obtain ⟨A, hA⟩ : ∃ A, (Ls[k]).1 = A := ⟨_, rfl⟩
      obtain ⟨Z, hZ⟩ : ∃ Z, (Ls[k]).2 = Z := ⟨_, rfl⟩
      have hpair : Ls[k] = (A, Z) := Prod.ext hA hZ
      rw [hA, hZ] at p1
      rw [hZ] at p2
      have HPC : Hid (∀ V, w2.grownBy V (some g) → V.cell? ⟨g1, k, none⟩ = some (.slice (some ⟨gk, 0, none⟩) 2 ck) ∧ V.cell? ⟨gk, 0, none⟩ = some (.int .i64 (A : Int)) ∧ V.cell? ⟨gk, 1, none⟩ = some (.int .i64 (Z : Int))) := fun V hV => by
        have f1 : ∀ j, V.cell? ⟨g1, j, none⟩ = w2.cell? ⟨g1, j, none⟩ := fun j => World.cell?_of_block (hV.block g1 hg1.2 (fun e => by simp at e; omega))
        have f2 : ∀ j, V.cell? ⟨gk, j, none⟩ = w2.cell? ⟨gk, j, none⟩ := fun j => World.cell?_of_block (hV.block gk hgk.2 (fun e => by simp at e; omega))
        refine ⟨(f1 k).trans q1, (f2 0).trans ?_, (f2 1).trans ?_⟩
        · rw [row1.cellN 0 (by omega), hpair]; rfl
        · rw [row1.cellN 1 (by omega), hpair]; rfl
      have hnext : Hid (resTo (fn X) n o bf x (Ls.take (k + 1)) = resP (fn X) n o bf (resTo (fn X) n o bf x (Ls.take k)) (A, Z)) := by
        unfold Hid; rw [resTo_take hkL, hpair]
      obtain ⟨Y, hY⟩ : ∃ Y, resTo (fn X) n o bf x (Ls.take k) = Y := ⟨_, rfl⟩
      rw [hY] at hO hnext
      have HCY : Hid (∀ q, ∀ j, j < n → (wr.drewN q).cell? ⟨g, j, none⟩ = some (.int .i64 (fn Y j))) := fun q j hj => hO.out.cellN j hj
      obtain ⟨P, hP⟩ : ∃ P, ownIn (fn Y) o A (Z - (A + 1)) = P := ⟨_, rfl⟩
      obtain ⟨Q, hQ⟩ : ∃ Q, othIn (fn Y) o A (Z - (A + 1)) = Q := ⟨_, rfl⟩
      have HIN : Hid (∀ q, Calls Tryz.prog 127 #[.slice (some ⟨g, 0, none⟩) n cp, .int .i64 (A : Int), .int .i64 (Z : Int), .int .i64 o] (wr.drewN q) fun e w' => e = .returned (.tuple #[.bool P, .bool Q]) ∧ w' = wr.drewN q) := fun q => by
        rw [← hP, ← hQ]; exact specInside g n cp A Z (fn Y) o _ (HCY.out q) (by omega) p1 (by omega) HO.out
      have HAH : Hid (∀ q, Calls Tryz.prog 128 #[.slice (some ⟨g, 0, none⟩) n cp, .int .i64 (A : Int), .int .i64 bf] (wr.drewN q) fun e w' => e = .returned (.int .i64 (shA (fn Y) bf A)) ∧ w' = wr.drewN q) := fun q => specAhead g n cp A (fn Y) bf _ (HCY.out q) (by omega) (by omega)
      have HRES : Hid (resTo (fn X) n o bf x (Ls.take (k + 1)) = if P = false ∧ Q = false then Y else giveTo (fn X) n (sidP (fn Y) o bf A P) Y A Z 2) := by
        unfold Hid; rw [hnext.out]; unfold resP; simp only [hP, hQ]; rfl
      obtain ⟨c1, c2, c3⟩ := HPC.out wr hgr.out
      clear q1 row1 hrow eq0 hA hZ hpair hnext hY hP hQ
      have HOQ : Hid (∀ q, OwnI (wr.drewN q) 0 (.slice (some ⟨g, 0, none⟩) n cp) Y) := fun q => hO.out.below (below_draws wr q)
      have HGQ : Hid (∀ q, w2.grownBy (wr.drewN q) (some g)) := fun q => grownB_tr hgr.out (grownB_draws wr q _)
      by_cases hPQ : P = false ∧ Q = false
      · obtain ⟨rfl, rfl⟩ := hPQ
        have HR2 : Hid (resTo (fn X) n o bf x (Ls.take (k + 1)) = Y) := by unfold Hid; rw [HRES.out, if_pos ⟨rfl, rfl⟩]
        clear HRES
        go_wp2_with fail
        go_quiet ((go_at_call 127; with_reducible exact Calls.quiet_of_same (HIN.out _)))
        go_wp2_with fail
        go_roundw
        case rel => exact ⟨k + 1, by omega, by go_num, by rw [HR2.out]; exact HOQ.out _, HGQ.out _⟩
        case measure => simp only [intOf]; omega
      · obtain ⟨s, hs⟩ : ∃ s, sidP (fn Y) o bf A P = s := ⟨_, rfl⟩
        have HR2 : Hid (resTo (fn X) n o bf x (Ls.take (k + 1)) = giveTo (fn X) n s Y A Z 2) := by unfold Hid; rw [HRES.out, if_neg hPQ, hs]
        have HS1 : Hid (P = true → s = o) := fun e => by rw [← hs, e]; rfl
        have HS2 : Hid (P = false → s = if shA (fn Y) bf A ≠ o then 3 - o else o) := fun e => by rw [← hs, e]; exact sid_is HO.out HBF.out
        have ho := HO.out
        clear HRES hs
        cases P
        · have hQ : Q = true := by simpa using hPQ
          subst hQ
          clear hPQ
          obtain ⟨h, hh⟩ : ∃ h, shA (fn Y) bf A = h := ⟨_, rfl⟩
          have hs2 := HS2.out rfl
          rw [hh] at hs2 HAH
          clear HS1 HS2 hh
          by_cases he : h = o
          · subst he
            have hs3 : s = h := by rw [hs2]; simp
            subst hs3
            clear hs2
            go_wp2_with fail
            go_quiet ((go_at_call 127; with_reducible exact Calls.quiet_of_same (HIN.out _)))
            go_wp2_with (go_at_call 128; refine (HAH.out _).mono ?_; rintro e w4 ⟨rfl, hw4⟩; rw [hw4]; clear hw4 w4)
            go_loopw [16] (fun z wx => ∃ e : Nat, e ≤ 2 ∧ z = .int .i64 e ∧ Hid (OwnI wx 0 (.slice (some ⟨g, 0, none⟩) n cp) (giveTo (fn X) n s Y A Z e)) ∧ Hid (w2.grownBy wx (some g))) (fun z _ => 2 - (intOf z).toNat)
            case atStart => exact ⟨0, by omega, rfl, HOQ.out _, HGQ.out _⟩
            case round =>
              obtain ⟨e, he, rfl, hOx, hgx⟩ := hrel
              rename World => wx
              by_cases he2 : e < 2
              · have hei : (e : Int) < 2 := by omega
                obtain ⟨d1, d2, d3⟩ := HPC.out wx hgx.out
                have de : wx.cell? ⟨gk, e, none⟩ = some (.int .i64 ((endP A Z e : Nat) : Int)) := by
                  by_cases h : e = 0
                  · subst h; exact d2
                  · have : e = 1 := by omega
                    subst this; exact d3
                have hat : endP A Z e < n := by unfold endP; split <;> omega
                have HSTEP : Hid (∀ u, giveTo (fn X) n s Y A Z (e + 1) = giveL (fn X) n s (giveTo (fn X) n s Y A Z e) (endP A Z e) ∨ u = e) := fun u => .inl rfl
                obtain ⟨at_, ha⟩ : ∃ at_, endP A Z e = at_ := ⟨_, rfl⟩
                obtain ⟨V, hV⟩ : ∃ V, giveTo (fn X) n s Y A Z e = V := ⟨_, rfl⟩
                have HG1 : Hid (giveTo (fn X) n s Y A Z (e + 1) = giveL (fn X) n s V at_) := by unfold Hid; rw [← ha, ← hV]; rfl
                rw [ha] at de hat
                rw [hV] at hOx
                clear HSTEP ha hV d2 d3
                have hai : (at_ : Int) < (n : Int) := by omega
                have cy0 := hOx.out.cellN at_ hat
                have fy0 : wx.frozen? ⟨g, at_, none⟩ = false := hOx.out.frozenN at_
                have hbase : Hid (OwnI (wx.setCell ⟨g, at_, none⟩ (.int .i64 s)) 0 (.slice (some ⟨g, 0, none⟩) n cp) (setSeg V s at_ (1 + 0))) := hOx.out.storedN at_ s
                have hbg : Hid (w2.grownBy (wx.setCell ⟨g, at_, none⟩ (.int .i64 s)) (some g)) := grownB_tr hgx.out (grownB_set _ _ _ _)
                go_wp2_with fail
                go_loopw [18] (fun z wy => ∃ m : Nat, z = .int .i64 ((at_ + 1 + m : Nat) : Int) ∧ at_ + 1 + m ≤ n ∧ Hid (∀ i, i < m → fn X (at_ + 1 + i) = 9) ∧ Hid (OwnI wy 0 (.slice (some ⟨g, 0, none⟩) n cp) (setSeg V s at_ (1 + m))) ∧ Hid (w2.grownBy wy (some g))) (fun z _ => n - (intOf z).toNat)
                case atStart => exact ⟨0, by go_num, by omega, fun i hi => by omega, hbase.out, hbg.out⟩
                case round =>
                  obtain ⟨m, rfl, hm, h9, hOy, hgy⟩ := hrel
                  rename World => wy
                  obtain ⟨p, hp⟩ : ∃ p, at_ + 1 + m = p := ⟨_, rfl⟩
                  rw [hp] at hm ⊢
                  have HP : Hid (at_ + 1 + m = p) := hp
                  clear hp
                  by_cases hpl : p < n
                  · have hpi : (p : Int) < (n : Int) := by omega
                    have ct := HF.out wy hgy.out p hpl
                    obtain ⟨t, ht⟩ : ∃ t, fn X p = t := ⟨_, rfl⟩
                    rw [ht] at ct
                    have HT : Hid (fn X p = t) := ht
                    clear ht
                    by_cases h : t = 9
                    · subst h
                      have cy := hOy.out.cellN p hpl
                      have fy : wy.frozen? ⟨g, p, none⟩ = false := hOy.out.frozenN p
                      have hNx : Hid (OwnI (wy.setCell ⟨g, p, none⟩ (.int .i64 s)) 0 (.slice (some ⟨g, 0, none⟩) n cp) (setSeg V s at_ (1 + (m + 1)))) := by
                        unfold Hid
                        rw [show 1 + (m + 1) = (1 + m) + 1 by omega]
                        simp only [setSeg]
                        rw [show at_ + (1 + m) = p by have := HP.out; omega]
                        exact hOy.out.storedN p s
                      go_wp2_with fail
                      go_roundw
                      case rel =>
                        refine ⟨m + 1, by rw [show at_ + 1 + (m + 1) = p + 1 by have := HP.out; omega]; go_num, by have := HP.out; omega, fun i hi => ?_, hNx.out, grownB_tr hgy.out (grownB_set _ _ _ _)⟩
                        by_cases e : i = m
                        · subst e; rw [HP.out]; exact HT.out
                        · exact h9.out i (by omega)
                      case measure => simp only [intOf]; omega
                    · have htb : (t == 9) = false := by simpa using h
                      have hfin : Hid (giveL (fn X) n s V at_ = setSeg V s at_ (1 + m)) := by
                        unfold Hid giveL
                        rw [k9F_is (n - (at_ + 1)) (at_ + 1) m (by have := HP.out; omega) h9.out (.inr (by rw [HP.out, HT.out]; exact h))]
                      go_wp2_with fail
                      go_roundw
                      case rel => exact ⟨e + 1, by omega, by go_num, by rw [HG1.out, hfin.out]; exact hOy.out, hgy.out⟩
                      case measure => simp only [intOf]; omega
                  · have hpn : p = n := by omega
                    have hfin : Hid (giveL (fn X) n s V at_ = setSeg V s at_ (1 + m)) := by
                      unfold Hid giveL
                      rw [k9F_is (n - (at_ + 1)) (at_ + 1) m (by have := HP.out; omega) h9.out (.inl (by have := HP.out; omega))]
                    subst hpn
                    go_wp2_with fail
                    go_roundw
                    case rel => exact ⟨e + 1, by omega, by go_num, by rw [HG1.out, hfin.out]; exact hOy.out, hgy.out⟩
                    case measure => simp only [intOf]; omega
              · have e2 : e = 2 := by omega
                subst e2
                go_wp2_with fail
                go_roundw
                case rel => exact ⟨k + 1, by omega, by go_num, by rw [HR2.out]; exact hOx.out, hgx.out⟩
                case measure => simp only [intOf]; omega
          · have hb : (h != o) = true := by simpa using he
            have hs3 : s = 3 - o := by rw [hs2, if_pos he]
            subst hs3
            clear hs2
            go_wp2_with fail
            go_quiet ((go_at_call 127; with_reducible exact Calls.quiet_of_same (HIN.out _)))
            go_wp2_with (go_at_call 128; refine (HAH.out _).mono ?_; rintro e w4 ⟨rfl, hw4⟩; rw [hw4]; clear hw4 w4)
            go_loopw [16] (fun z wx => ∃ e : Nat, e ≤ 2 ∧ z = .int .i64 e ∧ Hid (OwnI wx 0 (.slice (some ⟨g, 0, none⟩) n cp) (giveTo (fn X) n (3 - o) Y A Z e)) ∧ Hid (w2.grownBy wx (some g))) (fun z _ => 2 - (intOf z).toNat)
            case atStart => exact ⟨0, by omega, rfl, HOQ.out _, HGQ.out _⟩
            case round =>
              obtain ⟨e, he, rfl, hOx, hgx⟩ := hrel
              rename World => wx
              by_cases he2 : e < 2
              · have hei : (e : Int) < 2 := by omega
                obtain ⟨d1, d2, d3⟩ := HPC.out wx hgx.out
                have de : wx.cell? ⟨gk, e, none⟩ = some (.int .i64 ((endP A Z e : Nat) : Int)) := by
                  by_cases h : e = 0
                  · subst h; exact d2
                  · have : e = 1 := by omega
                    subst this; exact d3
                have hat : endP A Z e < n := by unfold endP; split <;> omega
                have HSTEP : Hid (∀ u, giveTo (fn X) n (3 - o) Y A Z (e + 1) = giveL (fn X) n (3 - o) (giveTo (fn X) n (3 - o) Y A Z e) (endP A Z e) ∨ u = e) := fun u => .inl rfl
                obtain ⟨at_, ha⟩ : ∃ at_, endP A Z e = at_ := ⟨_, rfl⟩
                obtain ⟨V, hV⟩ : ∃ V, giveTo (fn X) n (3 - o) Y A Z e = V := ⟨_, rfl⟩
                have HG1 : Hid (giveTo (fn X) n (3 - o) Y A Z (e + 1) = giveL (fn X) n (3 - o) V at_) := by unfold Hid; rw [← ha, ← hV]; rfl
                rw [ha] at de hat
                rw [hV] at hOx
                clear HSTEP ha hV d2 d3
                have hai : (at_ : Int) < (n : Int) := by omega
                have cy0 := hOx.out.cellN at_ hat
                have fy0 : wx.frozen? ⟨g, at_, none⟩ = false := hOx.out.frozenN at_
                have hbase : Hid (OwnI (wx.setCell ⟨g, at_, none⟩ (.int .i64 (3 - o))) 0 (.slice (some ⟨g, 0, none⟩) n cp) (setSeg V (3 - o) at_ (1 + 0))) := hOx.out.storedN at_ (3 - o)
                have hbg : Hid (w2.grownBy (wx.setCell ⟨g, at_, none⟩ (.int .i64 (3 - o))) (some g)) := grownB_tr hgx.out (grownB_set _ _ _ _)
                go_wp2_with fail
                go_loopw [18] (fun z wy => ∃ m : Nat, z = .int .i64 ((at_ + 1 + m : Nat) : Int) ∧ at_ + 1 + m ≤ n ∧ Hid (∀ i, i < m → fn X (at_ + 1 + i) = 9) ∧ Hid (OwnI wy 0 (.slice (some ⟨g, 0, none⟩) n cp) (setSeg V (3 - o) at_ (1 + m))) ∧ Hid (w2.grownBy wy (some g))) (fun z _ => n - (intOf z).toNat)
                case atStart => exact ⟨0, by go_num, by omega, fun i hi => by omega, hbase.out, hbg.out⟩
                case round =>
                  obtain ⟨m, rfl, hm, h9, hOy, hgy⟩ := hrel
                  rename World => wy
                  obtain ⟨p, hp⟩ : ∃ p, at_ + 1 + m = p := ⟨_, rfl⟩
                  rw [hp] at hm ⊢
                  have HP : Hid (at_ + 1 + m = p) := hp
                  clear hp
                  by_cases hpl : p < n
                  · have hpi : (p : Int) < (n : Int) := by omega
                    have ct := HF.out wy hgy.out p hpl
                    obtain ⟨t, ht⟩ : ∃ t, fn X p = t := ⟨_, rfl⟩
                    rw [ht] at ct
                    have HT : Hid (fn X p = t) := ht
                    clear ht
                    by_cases h : t = 9
                    · subst h
                      have cy := hOy.out.cellN p hpl
                      have fy : wy.frozen? ⟨g, p, none⟩ = false := hOy.out.frozenN p
                      have hNx : Hid (OwnI (wy.setCell ⟨g, p, none⟩ (.int .i64 (3 - o))) 0 (.slice (some ⟨g, 0, none⟩) n cp) (setSeg V (3 - o) at_ (1 + (m + 1)))) := by
                        unfold Hid
                        rw [show 1 + (m + 1) = (1 + m) + 1 by omega]
                        simp only [setSeg]
                        rw [show at_ + (1 + m) = p by have := HP.out; omega]
                        exact hOy.out.storedN p (3 - o)
                      go_wp2_with fail
                      go_roundw
                      case rel =>
                        refine ⟨m + 1, by rw [show at_ + 1 + (m + 1) = p + 1 by have := HP.out; omega]; go_num, by have := HP.out; omega, fun i hi => ?_, hNx.out, grownB_tr hgy.out (grownB_set _ _ _ _)⟩
                        by_cases e : i = m
                        · subst e; rw [HP.out]; exact HT.out
                        · exact h9.out i (by omega)
                      case measure => simp only [intOf]; omega
                    · have htb : (t == 9) = false := by simpa using h
                      have hfin : Hid (giveL (fn X) n (3 - o) V at_ = setSeg V (3 - o) at_ (1 + m)) := by
                        unfold Hid giveL
                        rw [k9F_is (n - (at_ + 1)) (at_ + 1) m (by have := HP.out; omega) h9.out (.inr (by rw [HP.out, HT.out]; exact h))]
                      go_wp2_with fail
                      go_roundw
                      case rel => exact ⟨e + 1, by omega, by go_num, by rw [HG1.out, hfin.out]; exact hOy.out, hgy.out⟩
                      case measure => simp only [intOf]; omega
                  · have hpn : p = n := by omega
                    have hfin : Hid (giveL (fn X) n (3 - o) V at_ = setSeg V (3 - o) at_ (1 + m)) := by
                      unfold Hid giveL
                      rw [k9F_is (n - (at_ + 1)) (at_ + 1) m (by have := HP.out; omega) h9.out (.inl (by have := HP.out; omega))]
                    subst hpn
                    go_wp2_with fail
                    go_roundw
                    case rel => exact ⟨e + 1, by omega, by go_num, by rw [HG1.out, hfin.out]; exact hOy.out, hgy.out⟩
                    case measure => simp only [intOf]; omega
              · have e2 : e = 2 := by omega
                subst e2
                go_wp2_with fail
                go_roundw
                case rel => exact ⟨k + 1, by omega, by go_num, by rw [HR2.out]; exact hOx.out, hgx.out⟩
                case measure => simp only [intOf]; omega
        · have hs3 := HS1.out rfl
          subst hs3
          clear HS1 HS2 hPQ
          go_wp2_with fail
          go_quiet ((go_at_call 127; with_reducible exact Calls.quiet_of_same (HIN.out _)))
          go_wp2_with fail
          go_loopw [16] (fun z wx => ∃ e : Nat, e ≤ 2 ∧ z = .int .i64 e ∧ Hid (OwnI wx 0 (.slice (some ⟨g, 0, none⟩) n cp) (giveTo (fn X) n s Y A Z e)) ∧ Hid (w2.grownBy wx (some g))) (fun z _ => 2 - (intOf z).toNat)
          case atStart => exact ⟨0, by omega, rfl, HOQ.out _, HGQ.out _⟩
          case round =>
            obtain ⟨e, he, rfl, hOx, hgx⟩ := hrel
            rename World => wx
            by_cases he2 : e < 2
            · have hei : (e : Int) < 2 := by omega
              obtain ⟨d1, d2, d3⟩ := HPC.out wx hgx.out
              have de : wx.cell? ⟨gk, e, none⟩ = some (.int .i64 ((endP A Z e : Nat) : Int)) := by
                by_cases h : e = 0
                · subst h; exact d2
                · have : e = 1 := by omega
                  subst this; exact d3
              have hat : endP A Z e < n := by unfold endP; split <;> omega
              have HSTEP : Hid (∀ u, giveTo (fn X) n s Y A Z (e + 1) = giveL (fn X) n s (giveTo (fn X) n s Y A Z e) (endP A Z e) ∨ u = e) := fun u => .inl rfl
              obtain ⟨at_, ha⟩ : ∃ at_, endP A Z e = at_ := ⟨_, rfl⟩
              obtain ⟨V, hV⟩ : ∃ V, giveTo (fn X) n s Y A Z e = V := ⟨_, rfl⟩
              have HG1 : Hid (giveTo (fn X) n s Y A Z (e + 1) = giveL (fn X) n s V at_) := by unfold Hid; rw [← ha, ← hV]; rfl
              rw [ha] at de hat
              rw [hV] at hOx
              clear HSTEP ha hV d2 d3
              have hai : (at_ : Int) < (n : Int) := by omega
              have cy0 := hOx.out.cellN at_ hat
              have fy0 : wx.frozen? ⟨g, at_, none⟩ = false := hOx.out.frozenN at_
              have hbase : Hid (OwnI (wx.setCell ⟨g, at_, none⟩ (.int .i64 s)) 0 (.slice (some ⟨g, 0, none⟩) n cp) (setSeg V s at_ (1 + 0))) := hOx.out.storedN at_ s
              have hbg : Hid (w2.grownBy (wx.setCell ⟨g, at_, none⟩ (.int .i64 s)) (some g)) := grownB_tr hgx.out (grownB_set _ _ _ _)
              go_wp2_with fail
              go_loopw [18] (fun z wy => ∃ m : Nat, z = .int .i64 ((at_ + 1 + m : Nat) : Int) ∧ at_ + 1 + m ≤ n ∧ Hid (∀ i, i < m → fn X (at_ + 1 + i) = 9) ∧ Hid (OwnI wy 0 (.slice (some ⟨g, 0, none⟩) n cp) (setSeg V s at_ (1 + m))) ∧ Hid (w2.grownBy wy (some g))) (fun z _ => n - (intOf z).toNat)
              case atStart => exact ⟨0, by go_num, by omega, fun i hi => by omega, hbase.out, hbg.out⟩
              case round =>
                obtain ⟨m, rfl, hm, h9, hOy, hgy⟩ := hrel
                rename World => wy
                obtain ⟨p, hp⟩ : ∃ p, at_ + 1 + m = p := ⟨_, rfl⟩
                rw [hp] at hm ⊢
                have HP : Hid (at_ + 1 + m = p) := hp
                clear hp
                by_cases hpl : p < n
                · have hpi : (p : Int) < (n : Int) := by omega
                  have ct := HF.out wy hgy.out p hpl
                  obtain ⟨t, ht⟩ : ∃ t, fn X p = t := ⟨_, rfl⟩
                  rw [ht] at ct
                  have HT : Hid (fn X p = t) := ht
                  clear ht
                  by_cases h : t = 9
                  · subst h
                    have cy := hOy.out.cellN p hpl
                    have fy : wy.frozen? ⟨g, p, none⟩ = false := hOy.out.frozenN p
                    have hNx : Hid (OwnI (wy.setCell ⟨g, p, none⟩ (.int .i64 s)) 0 (.slice (some ⟨g, 0, none⟩) n cp) (setSeg V s at_ (1 + (m + 1)))) := by
                      unfold Hid
                      rw [show 1 + (m + 1) = (1 + m) + 1 by omega]
                      simp only [setSeg]
                      rw [show at_ + (1 + m) = p by have := HP.out; omega]
                      exact hOy.out.storedN p s
                    go_wp2_with fail
                    go_roundw
                    case rel =>
                      refine ⟨m + 1, by rw [show at_ + 1 + (m + 1) = p + 1 by have := HP.out; omega]; go_num, by have := HP.out; omega, fun i hi => ?_, hNx.out, grownB_tr hgy.out (grownB_set _ _ _ _)⟩
                      by_cases e : i = m
                      · subst e; rw [HP.out]; exact HT.out
                      · exact h9.out i (by omega)
                    case measure => simp only [intOf]; omega
                  · have htb : (t == 9) = false := by simpa using h
                    have hfin : Hid (giveL (fn X) n s V at_ = setSeg V s at_ (1 + m)) := by
                      unfold Hid giveL
                      rw [k9F_is (n - (at_ + 1)) (at_ + 1) m (by have := HP.out; omega) h9.out (.inr (by rw [HP.out, HT.out]; exact h))]
                    go_wp2_with fail
                    go_roundw
                    case rel => exact ⟨e + 1, by omega, by go_num, by rw [HG1.out, hfin.out]; exact hOy.out, hgy.out⟩
                    case measure => simp only [intOf]; omega
                · have hpn : p = n := by omega
                  have hfin : Hid (giveL (fn X) n s V at_ = setSeg V s at_ (1 + m)) := by
                    unfold Hid giveL
                    rw [k9F_is (n - (at_ + 1)) (at_ + 1) m (by have := HP.out; omega) h9.out (.inl (by have := HP.out; omega))]
                  subst hpn
                  go_wp2_with fail
                  go_roundw
                  case rel => exact ⟨e + 1, by omega, by go_num, by rw [HG1.out, hfin.out]; exact hOy.out, hgy.out⟩
                  case measure => simp only [intOf]; omega
            · have e2 : e = 2 := by omega
              subst e2
              go_wp2_with fail
              go_roundw
              case rel => exact ⟨k + 1, by omega, by go_num, by rw [HR2.out]; exact hOx.out, hgx.out⟩
              case measure => simp only [intOf]; omega
    · have e : k = N := by omega
      subst e
      have hfull : Ls.take k = Ls := List.take_of_length_le (by rw [HN.out]; exact Nat.le_refl _)
      rw [hfull] at hO
      have hfin : Hid (w.grownBy wr (some g)) := grownB_tr ⟨HB2.out.os, HB2.out.tape, HB2.out.output, HB2.out.size, fun j hj _ => HB2.out.block j hj⟩ hgr.out
      go_wp2_with fail
      go_end0
      exact ⟨rfl, hO.out, hfin.out⟩
end Go.Proofs.YtgojdlbidjnmmaaGreat
