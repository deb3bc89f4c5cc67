import Derived.BigQuiet
import Derived.Test.YtgojdlbidjnmmabGreatPk12
import Derived.Test.YtgojdlbidjnmmabGreatPk13
import Derived.Test.YtgojdlbidjnmmabGreatPk10
import Derived.Test.YtgojdlbidjnmmabGreatPk21
import Derived.Test.YtgojdlbidjnmmabGreatPk11
namespace Go.Proofs.YtgojdlbidjnmmabGreat
open Go.ChangeShapes Go.WideShapes Go.ChangeAt Go.RowKit
set_option linter.unusedSimpArgs false
set_option linter.unusedVariables false

theorem rows_zs {zs : List (Value × List Int)} {L : List (Nat × Nat)} (h : zs.map (·.2) = rowsP L) {j : Nat} (hj : j < zs.length) (hj2 : j < L.length) : (zs[j]).2 = rowP L[j] := by
  have := congrArg (fun l => l[j]?) h
  simpa [rowsP, hj, hj2] using this

theorem new2 (U : World) (o : Obj) (x : Value) (T : TypeId) : ((U.alloc o).alloc (.cells #[x] T)).drew.cell? ⟨U.heap.size + 1, 0, none⟩ = some x := by
  have e : (U.alloc o).heap.size = U.heap.size + 1 := by simp
  rw [← e]; exact cell_of_row _ _ 0 _ _ (0, 0) (heap_alloc_new (U.alloc o) _)
theorem new1 (U : World) (o : Obj) (x : Value) (T : TypeId) : ((U.alloc (.cells #[x] T)).alloc o).drew.cell? ⟨U.heap.size, 0, none⟩ = some x :=
  cell_of_row _ _ 0 _ _ (0, 0) ((Below.heap_alloc _ _ _ (by simp)).trans (heap_alloc_new U _))
theorem ownE2 (U : World) (o : Obj) : OwnV 22 1 ((U.alloc o).alloc (.cells #[] 22)).drew U.heap.size (.slice (some ⟨U.heap.size + 1, 0, none⟩) 0 0) 0 [] := by
  have e : (U.alloc o).heap.size = U.heap.size + 1 := by simp
  rw [← e]
  exact OwnV.empty _ _ _ (U.alloc o) _ (by rw [e]; omega) rfl
theorem c28a {U w28 : World} {o : Obj} {x : Value} {T : TypeId} (h : ((U.alloc (.cells #[x] T)).alloc o).drew.grownBy w28 (some (U.heap.size + 1))) : w28.cell? ⟨U.heap.size, 0, none⟩ = some x :=
  (h.cell_far _ (show U.heap.size < ((U.alloc (.cells #[x] T)).alloc o).heap.size by simp; omega) (by simp)).trans (new1 U _ _ _)
theorem c28b {U w28 : World} {o : Obj} {x : Value} {T : TypeId} (h : ((U.alloc o).alloc (.cells #[x] T)).drew.grownBy w28 (some U.heap.size)) : w28.cell? ⟨U.heap.size + 1, 0, none⟩ = some x :=
  (h.cell_far _ (show U.heap.size + 1 < ((U.alloc o).alloc (.cells #[x] T)).heap.size by simp) (by simp)).trans (new2 U _ _ _)
theorem into_end {w w2 W' : World} {B k N : Nat} {v v' vp : Value} {zs : List (Value × List Int)} {L : List (Nat × Nat)} {p : Nat × Nat} (h : RZ w B v zs) (hB : B ≤ w.heap.size) (hb : Below w.heap.size w w2) (hx : OwnI w2 w.heap.size vp (rowP p)) (hL : zs.map (·.2) = rowsP L) (hN : L.length = N) (hk : k ≤ N) (hins : insP L p = L.take k ++ [p] ++ L.drop k) (hb2 : Below w2.heap.size w2 W') (ho : OwnV 22 1 W' w2.heap.size v' (0 + k + 1 + (N - k)) ([] ++ (zs.take k).map (·.1) ++ [vp] ++ (zs.drop k).map (·.1))) :
    ∃ g' c' zs', v' = .slice (some ⟨g', 0, none⟩) (N + 1) c' ∧ RZ W' B v' zs' ∧ zs'.map (·.2) = rowsP (insP L p) ∧ w2.heap.size ≤ g' ∧ zs'.Perm ((vp, rowP p) :: zs) := by
  have hzl : zs.length = N := by have := congrArg List.length hL; rw [rowsP_len] at this; simpa [hN] using this
  have e : 0 + k + 1 + (N - k) = N + 1 := by omega
  rw [e] at ho
  have hl2 : (zs.take k ++ [(vp, rowP p)] ++ zs.drop k).length = N + 1 := by simp; omega
  have hperm : (zs.take k ++ [(vp, rowP p)] ++ zs.drop k).Perm ((vp, rowP p) :: zs) := by
    have h1 : (zs.take k ++ [(vp, rowP p)] ++ zs.drop k).Perm ((vp, rowP p) :: (zs.take k ++ zs.drop k)) := by
      rw [List.append_assoc]; exact List.perm_middle
    rwa [List.take_append_drop] at h1
  have hz := RZ.anew (zs' := zs.take k ++ [(vp, rowP p)] ++ zs.drop k) (v' := v') hl2 h hB hb hx hperm hb2 (by simpa using ho)
  obtain ⟨g', c', hf, hg', _⟩ := ho.form1 (by omega)
  refine ⟨g', c', _, hf, hz, ?_, hg', hperm⟩
  rw [hins]
  simp only [List.map_append, List.map_take, List.map_drop, hL, rowsP, List.map_cons, List.map_nil]

set_option maxRecDepth 10000 in
set_option maxHeartbeats 4000000 in
theorem specInto (g N cap B gp : Nat) (zs : List (Value × List Int)) (L : List (Nat × Nat)) (p : Nat × Nat) (w w2 : World) (h : RZ w B (.slice (some ⟨g, 0, none⟩) N cap) zs) (hB : B ≤ w.heap.size) (hb : Below w.heap.size w w2) (hx : OwnI w2 w.heap.size (.slice (some ⟨gp, 0, none⟩) 2 2) (rowP p)) (hL : zs.map (·.2) = rowsP L) (hN : L.length = N) (hN80 : N ≤ 1000) :
    Calls Tryz.prog 92 #[.slice (some ⟨g, 0, none⟩) N cap, .slice (some ⟨gp, 0, none⟩) 2 2] w2 fun e w' => (∃ g' c' zs', e = .returned (.slice (some ⟨g', 0, none⟩) (N + 1) c') ∧ RZ w' B (.slice (some ⟨g', 0, none⟩) (N + 1) c') zs' ∧ zs'.map (·.2) = rowsP (insP L p) ∧ w2.heap.size ≤ g' ∧ zs'.Perm ((.slice (some ⟨gp, 0, none⟩) 2 2, rowP p) :: zs)) ∧ Below w2.heap.size w2 w' := by
  have h2 := h.below hb
  have hzl : zs.length = N := by have := congrArg List.length hL; rw [rowsP_len] at this; simpa [hN] using this
  have H : Hid (RZ w B (.slice (some ⟨g, 0, none⟩) N cap) zs) := h
  have H2 : Hid (RZ w2 B (.slice (some ⟨g, 0, none⟩) N cap) zs) := h2
  have HX : Hid (OwnI w2 w.heap.size (.slice (some ⟨gp, 0, none⟩) 2 2) (rowP p)) := hx
  have HB : Hid (Below w.heap.size w w2) := hb
  have HZ : Hid (zs.length = N) := hzl
  have HL : Hid (zs.map (·.2) = rowsP L) := hL
  have HN : Hid (L.length = N) := hN
  have hncap : N ≤ cap := by
    rcases h2.own.forms with ⟨e, _⟩ | ⟨_, _, e, _, _, e2, _⟩
    · cases e
    · simp only [Value.slice.injEq] at e
      obtain ⟨_, e3, rfl⟩ := e
      omega
  clear h h2 hx hb hzl hL hN
  go_enter Tryz.func92, Tryz.ntmps92
  go_wp2_with fail
  go_loopw [5] (fun i wr => ∃ (k : Nat), i = .int .i64 k ∧ k ≤ N ∧ Hid (∃ q, wr = w2.drewN q) ∧ Hid (∀ j, (hj : j < L.length) → j < k → (L[j]).1 < p.1)) (fun i _ => N - (intOf i).toNat)
  case atStart => exact ⟨0, rfl, Nat.zero_le _, ⟨0, rfl⟩, fun j _ hj => by omega⟩
  case round =>
    obtain ⟨k, rfl, hk, hq, hlt⟩ := hrel
    have hcell : ∀ a : Addr, wr.cell? a = w2.cell? a := fun a => by obtain ⟨q, rfl⟩ := hq.out; rfl
    have HCE : Hid (∀ a : Addr, wr.cell? a = w2.cell? a) := hcell
    have hwsz : wr.heap.size = w2.heap.size := by obtain ⟨q, rfl⟩ := hq.out; rfl
    have HWS : Hid (wr.heap.size = w2.heap.size) := hwsz
    have HBW : Hid (Below w2.heap.size w2 wr) := by obtain ⟨q, rfl⟩ := hq.out; exact below_draws w2 q
    clear hcell hwsz
    obtain ⟨P, hP⟩ : ∃ P, p.1 = P := ⟨_, rfl⟩
    have hp0 : wr.cell? ⟨gp, 0, none⟩ = some (.int .i64 (P : Int)) := by
      rw [HCE.out, HX.out.cellN 0 (by omega)]
      show some (Value.int .i64 ((p.1 : Nat) : Int)) = _
      rw [hP]
    have HRP : Hid (p.1 = P) := hP
    clear hP
    -- how it goes on from where the pair is to stand
    have hend : (∀ (hj : k < L.length), ¬ (L[k]).1 < p.1) → insP L p = L.take k ++ [p] ++ L.drop k := fun h => ins_at (by rw [HN.out]; exact hk) (fun j hj hjk => hlt.out j hj hjk) h
    have HEND : Hid _ := hend
    clear hend
    by_cases hkn : k < N
    · have hki : (k : Int) < (N : Int) := by omega
      have hc := H2.out.cellAt k (by rw [HZ.out]; exact hkn)
      have hr := H2.out.rowAt k (by rw [HZ.out]; exact hkn)
      rw [rows_zs HL.out (by rw [HZ.out]; exact hkn) (by rw [HN.out]; exact hkn)] at hr
      obtain ⟨u, hu⟩ : ∃ u, (zs[k]'(by rw [HZ.out]; exact hkn)).1 = u := ⟨_, rfl⟩
      rw [hu] at hc hr
      obtain ⟨A, hA⟩ : ∃ A, (L[k]'(by rw [HN.out]; exact hkn)).1 = A := ⟨_, rfl⟩
      obtain ⟨gu, cu, hue, _⟩ := OwnI.form1 hr (by simp [rowP])
      rw [show (rowP (L[k]'(by rw [HN.out]; exact hkn))).length = 2 from rfl] at hue
      subst hue
      have hu0 : wr.cell? ⟨gu, 0, none⟩ = some (.int .i64 (A : Int)) := by
        rw [HCE.out, hr.cellN 0 (by omega)]
        show some (Value.int .i64 (((L[k]'(by rw [HN.out]; exact hkn)).1 : Nat) : Int)) = _
        rw [hA]
      have hc2 : wr.cell? ⟨g, k, none⟩ = some (.slice (some ⟨gu, 0, none⟩) 2 cu) := by rw [HCE.out]; exact hc
      by_cases hd : A < P
      · have hdi : decide ((A : Int) < (P : Int)) = true := by simp; omega
        have hdn : decide (A < P) = true := by simpa using hd
        have hstep : Hid (∀ j, (hj : j < L.length) → j < k + 1 → (L[j]).1 < p.1) := fun j hj hjk => by
          by_cases e : j = k
          · subst e; rw [hA, HRP.out]; exact hd
          · exact hlt.out j hj (by omega)
        clear hd hA hu hc hr
        go_wp2_with fail
        go_quiet (fail)
        go_wp2_with fail
        go_roundw
        case rel => exact ⟨k + 1, by go_num, by omega, by obtain ⟨q, e⟩ := hq.out; exact ⟨q + nq, by rw [e]; simp⟩, hstep.out⟩
        case measure => simp only [intOf]; omega
      · have hdi : decide ((A : Int) < (P : Int)) = false := by simp; omega
        have hdn : decide (A < P) = false := by simpa using hd
        have HINS : Hid (insP L p = L.take k ++ [p] ++ L.drop k) := HEND.out (fun hj => by rw [hA, HRP.out]; exact hd)
        clear hd hA hu hc hr
        go_wp2_with fail
        go_quiet (fail)
        go_wp2_with fail
        obtain ⟨U, hU⟩ : ∃ U, wr.drewN nq = U := ⟨_, rfl⟩
        rw [hU]
        have HBU : Hid (Below w2.heap.size w2 U) := by rw [← hU]; exact bstep HBW.out (below_draws wr nq)
        have HUC : Hid (∀ j, (hj : j < zs.length) → U.cell? ⟨g, j, none⟩ = some (zs[j]).1) := fun j hj => by rw [← hU]; exact (HCE.out _).trans (H2.out.cellAt j hj)
        have HGU : Hid (g < U.heap.size) := Nat.lt_of_lt_of_le (H2.out.lt g rfl).2 HBU.out.size
        have HONE : Hid (∀ u ∈ zs.map (·.1), u.oneCell' = true) := by
          intro u hu
          rw [List.mem_map] at hu
          obtain ⟨q, hq, rfl⟩ := hu
          obtain ⟨a, n, c, e, _⟩ := OwnI.slicZ (H.out.row q hq)
          rw [e]; rfl
        have HTK : Hid (∀ (W : World), Below U.heap.size U W → ∀ j u, ((zs.take k).map (·.1))[j]? = some u → W.cell? ⟨g, 0 + j, none⟩ = some u) := fun W hW j u hj => by
          have hj2 : j < (zs.take k).length := by
            rcases Nat.lt_or_ge j (zs.take k).length with q | q
            · exact q
            · rw [List.getElem?_eq_none (by simpa using q)] at hj; cases hj
          rw [List.length_take] at hj2
          rw [Nat.zero_add, hW.cell (p := ⟨g, j, none⟩) HGU.out, HUC.out j (by omega)]
          simp [show j < zs.length by omega, show j < k by omega] at hj
          rw [hj]
        have HDR : Hid (∀ (W : World), Below U.heap.size U W → ∀ j u, ((zs.drop k).map (·.1))[j]? = some u → W.cell? ⟨g, k + j, none⟩ = some u) := fun W hW j u hj => by
          have hj2 : j < (zs.drop k).length := by
            rcases Nat.lt_or_ge j (zs.drop k).length with q | q
            · exact q
            · rw [List.getElem?_eq_none (by simpa using q)] at hj; cases hj
          rw [List.length_drop] at hj2
          rw [hW.cell (p := ⟨g, k + j, none⟩) HGU.out, HUC.out (k + j) (by omega)]
          simp [show k + j < zs.length by omega] at hj
          rw [hj]
        have HDN : Hid (k = N → ∀ (W : World) (off : Nat) j u, ((zs.drop k).map (·.1))[j]? = some u → W.cell? ⟨g, off + j, none⟩ = some u) := fun e W off j u hj => by
          rw [List.drop_eq_nil_of_le (by rw [HZ.out]; omega)] at hj; simp at hj
        have HTL : Hid (((zs.take k).map (·.1)).length = k) := by unfold Hid; rw [List.length_map, List.length_take, HZ.out]; omega
        have HDL : Hid (((zs.drop k).map (·.1)).length = N - k) := by unfold Hid; rw [List.length_map, List.length_drop, HZ.out]
        have hck : ¬ cap = k := by omega
        have hk0 : (0 : Int) ≤ (k : Int) := by omega
        have hkN : (k : Int) ≤ (N : Int) := by omega
        have hNc : (N : Int) ≤ (cap : Int) := by omega
        have hkc : (k : Int) ≤ (cap : Int) := by omega
        have HUZ : Hid (U.heap.size = w2.heap.size) := by rw [← hU]; exact HWS.out
        clear hU
        have BelowD : Hid (∀ {W : World}, Below U.heap.size U W → Below U.heap.size U W.drew) := fun h => h.drew
        go_region_law (first
          | (have tok31 := B31; refine step_appU (U := U) (n := 0 + k + 1) (m := N - k) (ys := (zs.drop k).map (·.1)) (.tmp 31) (.tmp 34) rfl rfl rfl rfl (show Below _ _ _ from B31.out) (show OwnV _ _ _ _ _ _ _ from O31.out) HDL.out ?_ (fun u hu => HONE.out u (List.map_subset _ (List.drop_subset _ _) hu)) (by omega) ?_; (first | exact HDR.out _ (show Below _ _ _ from B31.out) | exact HDN.out HKN.out _ _); intro v35 w35 ho35 hb35 hg35 hv35; have O35 : Hid (OwnV 22 1 w35 U.heap.size v35 (0 + k + 1 + (N - k)) ([] ++ (zs.take k).map (·.1) ++ [.slice (some ⟨gp, 0, none⟩) 2 2] ++ (zs.drop k).map (·.1))) := ho35; have B35 : Hid (Below U.heap.size U w35) := hb35; clear ho35 hb35 hg35 hv35)
          | (have tok28 := B28; refine step_appU (U := U) (n := 0 + k) (m := 1) (xs := [] ++ (zs.take k).map (·.1)) (ys := [.slice (some ⟨gp, 0, none⟩) 2 2]) (.tmp 28) (.tmp 30) rfl rfl rfl rfl ?_ ?_ rfl ?_ (fun u hu => by simp at hu; subst hu; rfl) (by omega) ?_; (first | exact B28.out | exact B28.out.alloc B28.out.size _); (first | exact O28.out | exact OwnV.alloc O28.out _); (first | exact one_src c28 | exact one_src (cell_of_row _ _ 0 _ _ (0, 0) (heap_alloc_new w28 _))); intro v31 w31 ho31 hb31 hg31 hv31; have O31 : Hid (OwnV 22 1 w31 U.heap.size v31 (0 + k + 1) ([] ++ (zs.take k).map (·.1) ++ [.slice (some ⟨gp, 0, none⟩) 2 2])) := ho31; have B31 : Hid (Below U.heap.size U w31) := hb31; clear ho31 hb31 hg31 hv31)
          | (refine step_appU (U := U) (n := 0) (m := k) (xs := []) (ys := (zs.take k).map (·.1)) (.tmp 24) (.tmp 27) rfl rfl rfl rfl ?_ ?_ HTL.out (HTK.out _ ?_) (fun u hu => HONE.out u (List.map_subset _ (List.take_subset _ _) hu)) (by omega) ?_; (first | exact ((Below.refl _ _).alloc (Nat.le_refl _) _).drew | exact (((Below.refl _ _).alloc (Nat.le_refl _) _).alloc (by simp) _).drew); (first | exact OwnV.empty _ _ _ _ _ (by simp) rfl | exact OwnV.alloc (OwnV.empty _ _ _ _ _ (by simp) rfl) _ | exact ownE2 U _); (first | exact ((Below.refl _ _).alloc (Nat.le_refl _) _).drew | exact (((Below.refl _ _).alloc (Nat.le_refl _) _).alloc (by simp) _).drew); intro v28 w28 ho28 hb28 hg28 hv28; have O28 : Hid (OwnV 22 1 w28 U.heap.size v28 (0 + k) ([] ++ (zs.take k).map (·.1))) := ho28; have B28 : Hid (Below U.heap.size U w28) := hb28; (first | have c28 := c28a hg28 | have c28 := c28b hg28 | skip); clear ho28 hb28 hg28 hv28))
        all_goals
          go_wp2_with fail
          go_ret
          obtain ⟨g', c', zs', hv, hz, hm, hgg, hpp⟩ := into_end H.out hB HB.out HX.out HL.out HN.out hk HINS.out (HBU.out.trans (B35.out.mono HBU.out.size)) (HUZ.out ▸ O35.out)
          subst hv
          exact ⟨⟨g', c', rfl, zs', hz, hm, hgg, hpp⟩, HBU.out.trans (B35.out.mono HBU.out.size)⟩
    · have e : k = N := by omega
      have HINS : Hid (insP L p = L.take k ++ [p] ++ L.drop k) := HEND.out (fun hj => by rw [HN.out] at hj; omega)
      have HKN : Hid (k = N) := e
      have hki : ¬ (k : Int) < (N : Int) := by omega
      have hkd : decide ((k : Int) < (N : Int)) = false := by simpa using hki
      clear e
      by_cases hck : cap = k
      · have hci : (cap : Int) = (k : Int) := by omega
        go_wp2_with fail
        go_quiet (fail)
        go_wp2_with fail
        obtain ⟨U, hU⟩ : ∃ U, wr.drewN nq = U := ⟨_, rfl⟩
        rw [hU]
        have HBU : Hid (Below w2.heap.size w2 U) := by rw [← hU]; exact bstep HBW.out (below_draws wr nq)
        have HUC : Hid (∀ j, (hj : j < zs.length) → U.cell? ⟨g, j, none⟩ = some (zs[j]).1) := fun j hj => by rw [← hU]; exact (HCE.out _).trans (H2.out.cellAt j hj)
        have HGU : Hid (g < U.heap.size) := Nat.lt_of_lt_of_le (H2.out.lt g rfl).2 HBU.out.size
        have HONE : Hid (∀ u ∈ zs.map (·.1), u.oneCell' = true) := by
          intro u hu
          rw [List.mem_map] at hu
          obtain ⟨q, hq, rfl⟩ := hu
          obtain ⟨a, n, c, e, _⟩ := OwnI.slicZ (H.out.row q hq)
          rw [e]; rfl
        have HTK : Hid (∀ (W : World), Below U.heap.size U W → ∀ j u, ((zs.take k).map (·.1))[j]? = some u → W.cell? ⟨g, 0 + j, none⟩ = some u) := fun W hW j u hj => by
          have hj2 : j < (zs.take k).length := by
            rcases Nat.lt_or_ge j (zs.take k).length with q | q
            · exact q
            · rw [List.getElem?_eq_none (by simpa using q)] at hj; cases hj
          rw [List.length_take] at hj2
          rw [Nat.zero_add, hW.cell (p := ⟨g, j, none⟩) HGU.out, HUC.out j (by omega)]
          simp [show j < zs.length by omega, show j < k by omega] at hj
          rw [hj]
        have HDR : Hid (∀ (W : World), Below U.heap.size U W → ∀ j u, ((zs.drop k).map (·.1))[j]? = some u → W.cell? ⟨g, k + j, none⟩ = some u) := fun W hW j u hj => by
          have hj2 : j < (zs.drop k).length := by
            rcases Nat.lt_or_ge j (zs.drop k).length with q | q
            · exact q
            · rw [List.getElem?_eq_none (by simpa using q)] at hj; cases hj
          rw [List.length_drop] at hj2
          rw [hW.cell (p := ⟨g, k + j, none⟩) HGU.out, HUC.out (k + j) (by omega)]
          simp [show k + j < zs.length by omega] at hj
          rw [hj]
        have HDN : Hid (k = N → ∀ (W : World) (off : Nat) j u, ((zs.drop k).map (·.1))[j]? = some u → W.cell? ⟨g, off + j, none⟩ = some u) := fun e W off j u hj => by
          rw [List.drop_eq_nil_of_le (by rw [HZ.out]; omega)] at hj; simp at hj
        have HTL : Hid (((zs.take k).map (·.1)).length = k) := by unfold Hid; rw [List.length_map, List.length_take, HZ.out]; omega
        have HDL : Hid (((zs.drop k).map (·.1)).length = N - k) := by unfold Hid; rw [List.length_map, List.length_drop, HZ.out]
        have hk0 : (0 : Int) ≤ (k : Int) := by omega
        have hkN : (k : Int) ≤ (N : Int) := by omega
        have hNc : (N : Int) ≤ (cap : Int) := by omega
        have hkc : (k : Int) ≤ (cap : Int) := by omega
        have HUZ : Hid (U.heap.size = w2.heap.size) := by rw [← hU]; exact HWS.out
        clear hU
        have BelowD : Hid (∀ {W : World}, Below U.heap.size U W → Below U.heap.size U W.drew) := fun h => h.drew
        go_region_law (first
          | (have tok31 := B31; refine step_appU (U := U) (n := 0 + k + 1) (m := N - k) (ys := (zs.drop k).map (·.1)) (.tmp 31) (.tmp 34) rfl rfl rfl rfl (show Below _ _ _ from B31.out) (show OwnV _ _ _ _ _ _ _ from O31.out) HDL.out ?_ (fun u hu => HONE.out u (List.map_subset _ (List.drop_subset _ _) hu)) (by omega) ?_; (first | exact HDR.out _ (show Below _ _ _ from B31.out) | exact HDN.out HKN.out _ _); intro v35 w35 ho35 hb35 hg35 hv35; have O35 : Hid (OwnV 22 1 w35 U.heap.size v35 (0 + k + 1 + (N - k)) ([] ++ (zs.take k).map (·.1) ++ [.slice (some ⟨gp, 0, none⟩) 2 2] ++ (zs.drop k).map (·.1))) := ho35; have B35 : Hid (Below U.heap.size U w35) := hb35; clear ho35 hb35 hg35 hv35)
          | (have tok28 := B28; refine step_appU (U := U) (n := 0 + k) (m := 1) (xs := [] ++ (zs.take k).map (·.1)) (ys := [.slice (some ⟨gp, 0, none⟩) 2 2]) (.tmp 28) (.tmp 30) rfl rfl rfl rfl ?_ ?_ rfl ?_ (fun u hu => by simp at hu; subst hu; rfl) (by omega) ?_; (first | exact B28.out | exact B28.out.alloc B28.out.size _); (first | exact O28.out | exact OwnV.alloc O28.out _); (first | exact one_src c28 | exact one_src (cell_of_row _ _ 0 _ _ (0, 0) (heap_alloc_new w28 _))); intro v31 w31 ho31 hb31 hg31 hv31; have O31 : Hid (OwnV 22 1 w31 U.heap.size v31 (0 + k + 1) ([] ++ (zs.take k).map (·.1) ++ [.slice (some ⟨gp, 0, none⟩) 2 2])) := ho31; have B31 : Hid (Below U.heap.size U w31) := hb31; clear ho31 hb31 hg31 hv31)
          | (refine step_appU (U := U) (n := 0) (m := k) (xs := []) (ys := (zs.take k).map (·.1)) (.tmp 24) (.tmp 27) rfl rfl rfl rfl ?_ ?_ HTL.out (HTK.out _ ?_) (fun u hu => HONE.out u (List.map_subset _ (List.take_subset _ _) hu)) (by omega) ?_; (first | exact ((Below.refl _ _).alloc (Nat.le_refl _) _).drew | exact (((Below.refl _ _).alloc (Nat.le_refl _) _).alloc (by simp) _).drew); (first | exact OwnV.empty _ _ _ _ _ (by simp) rfl | exact OwnV.alloc (OwnV.empty _ _ _ _ _ (by simp) rfl) _ | exact ownE2 U _); (first | exact ((Below.refl _ _).alloc (Nat.le_refl _) _).drew | exact (((Below.refl _ _).alloc (Nat.le_refl _) _).alloc (by simp) _).drew); intro v28 w28 ho28 hb28 hg28 hv28; have O28 : Hid (OwnV 22 1 w28 U.heap.size v28 (0 + k) ([] ++ (zs.take k).map (·.1))) := ho28; have B28 : Hid (Below U.heap.size U w28) := hb28; (first | have c28 := c28a hg28 | have c28 := c28b hg28 | skip); clear ho28 hb28 hg28 hv28))
        all_goals
          go_wp2_with fail
          go_ret
          obtain ⟨g', c', zs', hv, hz, hm, hgg, hpp⟩ := into_end H.out hB HB.out HX.out HL.out HN.out hk HINS.out (HBU.out.trans (B35.out.mono HBU.out.size)) (HUZ.out ▸ O35.out)
          subst hv
          exact ⟨⟨g', c', rfl, zs', hz, hm, hgg, hpp⟩, HBU.out.trans (B35.out.mono HBU.out.size)⟩
      · have hci : ¬ (cap : Int) = (k : Int) := by omega
        go_wp2_with fail
        go_quiet (fail)
        go_wp2_with fail
        obtain ⟨U, hU⟩ : ∃ U, wr.drewN nq = U := ⟨_, rfl⟩
        rw [hU]
        have HBU : Hid (Below w2.heap.size w2 U) := by rw [← hU]; exact bstep HBW.out (below_draws wr nq)
        have HUC : Hid (∀ j, (hj : j < zs.length) → U.cell? ⟨g, j, none⟩ = some (zs[j]).1) := fun j hj => by rw [← hU]; exact (HCE.out _).trans (H2.out.cellAt j hj)
        have HGU : Hid (g < U.heap.size) := Nat.lt_of_lt_of_le (H2.out.lt g rfl).2 HBU.out.size
        have HONE : Hid (∀ u ∈ zs.map (·.1), u.oneCell' = true) := by
          intro u hu
          rw [List.mem_map] at hu
          obtain ⟨q, hq, rfl⟩ := hu
          obtain ⟨a, n, c, e, _⟩ := OwnI.slicZ (H.out.row q hq)
          rw [e]; rfl
        have HTK : Hid (∀ (W : World), Below U.heap.size U W → ∀ j u, ((zs.take k).map (·.1))[j]? = some u → W.cell? ⟨g, 0 + j, none⟩ = some u) := fun W hW j u hj => by
          have hj2 : j < (zs.take k).length := by
            rcases Nat.lt_or_ge j (zs.take k).length with q | q
            · exact q
            · rw [List.getElem?_eq_none (by simpa using q)] at hj; cases hj
          rw [List.length_take] at hj2
          rw [Nat.zero_add, hW.cell (p := ⟨g, j, none⟩) HGU.out, HUC.out j (by omega)]
          simp [show j < zs.length by omega, show j < k by omega] at hj
          rw [hj]
        have HDR : Hid (∀ (W : World), Below U.heap.size U W → ∀ j u, ((zs.drop k).map (·.1))[j]? = some u → W.cell? ⟨g, k + j, none⟩ = some u) := fun W hW j u hj => by
          have hj2 : j < (zs.drop k).length := by
            rcases Nat.lt_or_ge j (zs.drop k).length with q | q
            · exact q
            · rw [List.getElem?_eq_none (by simpa using q)] at hj; cases hj
          rw [List.length_drop] at hj2
          rw [hW.cell (p := ⟨g, k + j, none⟩) HGU.out, HUC.out (k + j) (by omega)]
          simp [show k + j < zs.length by omega] at hj
          rw [hj]
        have HDN : Hid (k = N → ∀ (W : World) (off : Nat) j u, ((zs.drop k).map (·.1))[j]? = some u → W.cell? ⟨g, off + j, none⟩ = some u) := fun e W off j u hj => by
          rw [List.drop_eq_nil_of_le (by rw [HZ.out]; omega)] at hj; simp at hj
        have HTL : Hid (((zs.take k).map (·.1)).length = k) := by unfold Hid; rw [List.length_map, List.length_take, HZ.out]; omega
        have HDL : Hid (((zs.drop k).map (·.1)).length = N - k) := by unfold Hid; rw [List.length_map, List.length_drop, HZ.out]
        have hk0 : (0 : Int) ≤ (k : Int) := by omega
        have hkN : (k : Int) ≤ (N : Int) := by omega
        have hNc : (N : Int) ≤ (cap : Int) := by omega
        have hkc : (k : Int) ≤ (cap : Int) := by omega
        have HUZ : Hid (U.heap.size = w2.heap.size) := by rw [← hU]; exact HWS.out
        clear hU
        have BelowD : Hid (∀ {W : World}, Below U.heap.size U W → Below U.heap.size U W.drew) := fun h => h.drew
        go_region_law (first
          | (have tok31 := B31; refine step_appU (U := U) (n := 0 + k + 1) (m := N - k) (ys := (zs.drop k).map (·.1)) (.tmp 31) (.tmp 34) rfl rfl rfl rfl (show Below _ _ _ from B31.out) (show OwnV _ _ _ _ _ _ _ from O31.out) HDL.out ?_ (fun u hu => HONE.out u (List.map_subset _ (List.drop_subset _ _) hu)) (by omega) ?_; (first | exact HDR.out _ (show Below _ _ _ from B31.out) | exact HDN.out HKN.out _ _); intro v35 w35 ho35 hb35 hg35 hv35; have O35 : Hid (OwnV 22 1 w35 U.heap.size v35 (0 + k + 1 + (N - k)) ([] ++ (zs.take k).map (·.1) ++ [.slice (some ⟨gp, 0, none⟩) 2 2] ++ (zs.drop k).map (·.1))) := ho35; have B35 : Hid (Below U.heap.size U w35) := hb35; clear ho35 hb35 hg35 hv35)
          | (have tok28 := B28; refine step_appU (U := U) (n := 0 + k) (m := 1) (xs := [] ++ (zs.take k).map (·.1)) (ys := [.slice (some ⟨gp, 0, none⟩) 2 2]) (.tmp 28) (.tmp 30) rfl rfl rfl rfl ?_ ?_ rfl ?_ (fun u hu => by simp at hu; subst hu; rfl) (by omega) ?_; (first | exact B28.out | exact B28.out.alloc B28.out.size _); (first | exact O28.out | exact OwnV.alloc O28.out _); (first | exact one_src c28 | exact one_src (cell_of_row _ _ 0 _ _ (0, 0) (heap_alloc_new w28 _))); intro v31 w31 ho31 hb31 hg31 hv31; have O31 : Hid (OwnV 22 1 w31 U.heap.size v31 (0 + k + 1) ([] ++ (zs.take k).map (·.1) ++ [.slice (some ⟨gp, 0, none⟩) 2 2])) := ho31; have B31 : Hid (Below U.heap.size U w31) := hb31; clear ho31 hb31 hg31 hv31)
          | (refine step_appU (U := U) (n := 0) (m := k) (xs := []) (ys := (zs.take k).map (·.1)) (.tmp 24) (.tmp 27) rfl rfl rfl rfl ?_ ?_ HTL.out (HTK.out _ ?_) (fun u hu => HONE.out u (List.map_subset _ (List.take_subset _ _) hu)) (by omega) ?_; (first | exact ((Below.refl _ _).alloc (Nat.le_refl _) _).drew | exact (((Below.refl _ _).alloc (Nat.le_refl _) _).alloc (by simp) _).drew); (first | exact OwnV.empty _ _ _ _ _ (by simp) rfl | exact OwnV.alloc (OwnV.empty _ _ _ _ _ (by simp) rfl) _ | exact ownE2 U _); (first | exact ((Below.refl _ _).alloc (Nat.le_refl _) _).drew | exact (((Below.refl _ _).alloc (Nat.le_refl _) _).alloc (by simp) _).drew); intro v28 w28 ho28 hb28 hg28 hv28; have O28 : Hid (OwnV 22 1 w28 U.heap.size v28 (0 + k) ([] ++ (zs.take k).map (·.1))) := ho28; have B28 : Hid (Below U.heap.size U w28) := hb28; (first | have c28 := c28a hg28 | have c28 := c28b hg28 | skip); clear ho28 hb28 hg28 hv28))
        all_goals
          go_wp2_with fail
          go_ret
          obtain ⟨g', c', zs', hv, hz, hm, hgg, hpp⟩ := into_end H.out hB HB.out HX.out HL.out HN.out hk HINS.out (HBU.out.trans (B35.out.mono HBU.out.size)) (HUZ.out ▸ O35.out)
          subst hv
          exact ⟨⟨g', c', rfl, zs', hz, hm, hgg, hpp⟩, HBU.out.trans (B35.out.mono HBU.out.size)⟩
end Go.Proofs.YtgojdlbidjnmmabGreat
namespace Go.Proofs.YtgojdlbidjnmmabGreat
open Go.ChangeShapes Go.WideShapes Go.ChangeAt Go.RowKit
set_option linter.unusedSimpArgs false
set_option linter.unusedVariables false

set_option maxRecDepth 10000 in
set_option maxHeartbeats 4000000 in
theorem specMates_row (ba oa bb ob n cap cb : Nat) (L C : List Int) (w : World) (hLl : L.length = n) (hCl : C.length = n) (hn80 : n ≤ 80) (hba : ba < w.heap.size) (hbb : bb < w.heap.size) (hL : At w ba oa L) (hC : At w bb ob C) :
    Calls Tryz.prog 65 #[.slice (some ⟨ba, oa, none⟩) n cap, .slice (some ⟨bb, ob, none⟩) n cb] w fun e w' => (∃ v zs, e = .returned v ∧ RZ w' w.heap.size v zs ∧ zs.map (·.2) = rowsP (srtB (stB (fn L) (fn C) mate n).2)) ∧ Below w.heap.size w w' := by
  have HA : Hid (∀ wr, Below w.heap.size w wr → ∀ j, j < n → wr.cell? ⟨ba, oa + j, none⟩ = some (.int .i64 (fn L j))) := fun wr hb j hj => (hb.cell (p := ⟨ba, oa + j, none⟩) hba).trans (hL j (by omega))
  have HC : Hid (∀ wr, Below w.heap.size w wr → ∀ j, j < n → wr.cell? ⟨bb, ob + j, none⟩ = some (.int .i64 (fn C j))) := fun wr hb j hj => (hb.cell (p := ⟨bb, ob + j, none⟩) hbb).trans (hC j (by omega))
  clear hL hC hLl hCl hba hbb
  go_enter Tryz.func65, Tryz.ntmps65
  go_wp2_with fail
  go_loopw [5, 6, 7] (fun v vo i wr => ∃ (k g N cp : Nat) (zs : List (Value × List Int)), i = .int .i64 k ∧ k ≤ n ∧ v = .slice (some ⟨g, 0, none⟩) N cp ∧ Hid (BS wr w.heap.size v vo zs (stB (fn L) (fn C) mate k).1) ∧ Hid (zs.map (·.2) = rowsP (srtB (stB (fn L) (fn C) mate k).2)) ∧ Hid (Below w.heap.size w wr)) (fun _ _ i _ => n - (intOf i).toNat)
  case atStart =>
    refine ⟨0, w.heap.size, 0, 0, [], rfl, Nat.zero_le _, rfl, ⟨?_, ?_, ?_, fun q hq => by simp at hq⟩, rfl, ?_⟩
    · exact (RZ.empty w w.heap.size 22 (Nat.le_refl _) rfl).below ((Below.refl _ _).alloc (Nat.le_refl _) _)
    · have := own_empty (w.alloc (.cells #[] 22)) w.heap.size 3 (by simp) rfl
      show OwnI _ _ _ []
      simpa using this
    · intro k h1 h2; simp [Value.ownBlock] at h1 h2; omega
    · exact ((Below.refl _ _).alloc (Nat.le_refl _) _).alloc (by simp) _
  case round =>
    obtain ⟨k, g, N, cp, zs, rfl, hk, rfl, hBS, hzm, hbel⟩ := hrel
    obtain ⟨⟨O, P⟩, hst⟩ : ∃ s, stB (fn L) (fn C) mate k = s := ⟨_, rfl⟩
    have hOl : O.length ≤ k := by have := (st_len (fn L) (fn C) mate k).1; rw [hst] at this; exact this
    have hPl : P.length ≤ k := by have := (st_len (fn L) (fn C) mate k).2; rw [hst] at this; exact this
    rw [hst] at hBS hzm
    replace hBS : Hid (BS wr w.heap.size (.slice (some ⟨g, 0, none⟩) N cp) u6 zs O) := hBS
    replace hzm : Hid (zs.map (·.2) = rowsP (srtB P)) := hzm
    have hNl : N = P.length := by
      obtain ⟨_, _, e⟩ := hBS.out.rz.slc
      simp only [Value.slice.injEq] at e
      have h2 := congrArg List.length hzm.out
      rw [List.length_map, rowsP_len, srt_len] at h2
      omega
    have HNP : Hid (N = P.length) := hNl
    have hN80 : N ≤ 80 := by omega
    clear hNl
    by_cases hlt : k < n
    · have hki : (k : Int) < (n : Int) := by omega
      obtain ⟨x, hx⟩ : ∃ x, fn L k = x := ⟨_, rfl⟩
      obtain ⟨c, hc⟩ : ∃ c, fn C k = c := ⟨_, rfl⟩
      obtain ⟨m, hm⟩ : ∃ m, mate x = m := ⟨_, rfl⟩
      have HM : Hid (∀ W, Calls Tryz.prog 21 #[.int .i64 x] W fun e w' => e = .returned (.int .i64 m) ∧ Below W.heap.size W w') := fun W => by rw [← hm]; exact specMate x W
      have HS := stB_succ hst hm hx hc
      have hcx : wr.cell? ⟨ba, oa + k, none⟩ = some (.int .i64 x) := by rw [HA.out wr hbel.out k hlt, hx]
      have HCX : Hid (∀ W, Below w.heap.size w W → W.cell? ⟨ba, oa + k, none⟩ = some (.int .i64 x) ∧ W.cell? ⟨bb, ob + k, none⟩ = some (.int .i64 c)) := fun W hW => ⟨by rw [HA.out W hW k hlt, hx], by rw [HC.out W hW k hlt, hc]⟩
      have HST : Hid (stB (fn L) (fn C) mate k = (O, P)) := hst
      clear hst hm hx hc
      by_cases h0 : m = 0 ∨ c ≠ 13
      · rw [if_pos h0] at HS
        have HS' : Hid (stB (fn L) (fn C) mate (k + 1) = (O, P)) := HS
        clear HS
        have hnext : ∀ W, Below wr.heap.size wr W → (∃ (k' g' N' cp' : Nat) (zs' : List (Value × List Int)), Value.int .i64 ((k : Int) + 1) = .int .i64 k' ∧ k' ≤ n ∧ Value.slice (some ⟨g, 0, none⟩) N cp = .slice (some ⟨g', 0, none⟩) N' cp' ∧ Hid (BS W w.heap.size (.slice (some ⟨g, 0, none⟩) N cp) u6 zs' (stB (fn L) (fn C) mate k').1) ∧ Hid (zs'.map (·.2) = rowsP (srtB (stB (fn L) (fn C) mate k').2)) ∧ Hid (Below w.heap.size w W)) := fun W hW =>
          ⟨k + 1, g, N, cp, zs, by go_num, by omega, rfl, by rw [HS'.out]; exact hBS.out.below hW, by rw [HS'.out]; exact hzm.out, bstep hbel.out hW⟩
        have HNX : Hid _ := hnext
        clear hnext
        by_cases h1 : m = 0
        · subst h1
          clear h0
          go_wp2_with (go_at_call 21; refine (HM.out _).mono ?_; rintro e w4 ⟨rfl, b4⟩; have B4 : Hid (Below wr.heap.size wr w4) := b4; clear b4)
          go_roundw
          case rel => exact HNX.out _ B4.out
          case measure => simp only [intOf]; omega
        · have h2 : c ≠ 13 := by rcases h0 with h | h; exact absurd h h1; exact h
          have hm0 : (m == 0) = false := by simpa using h1
          have hc13 : (c == 13) = false := by simpa using h2
          clear h0
          go_wp2_with (go_at_call 21; refine (HM.out _).mono ?_; rintro e w4 ⟨rfl, b4⟩; obtain ⟨cx4, cc4⟩ := HCX.out _ (bstep hbel.out b4); have B4 : Hid (Below wr.heap.size wr w4) := b4; clear b4)
          go_roundw
          case rel => exact HNX.out _ B4.out
          case measure => simp only [intOf]; omega
      · rw [if_neg h0] at HS
        have h1 : ¬ m = 0 := fun e => h0 (.inl e)
        have h2 : c = 13 := by
          by_cases e : c = 13
          · exact e
          · exact absurd (.inr e) h0
        have hm0 : (m == 0) = false := by simpa using h1
        subst h2
        clear h0
        by_cases hxm : x < m
        · rw [if_pos hxm] at HS
          have HS' : Hid (stB (fn L) (fn C) mate (k + 1) = (O ++ [k], P)) := HS
          clear HS
          go_wp2_with (first | (go_at_call 21; refine (HM.out _).mono ?_; rintro e w4 ⟨rfl, b4⟩; obtain ⟨cx4, cc4⟩ := HCX.out _ (bstep hbel.out b4); have B4 : Hid (Below wr.heap.size wr w4) := b4; have BS4 : Hid (BS w4 w.heap.size (.slice (some ⟨g, 0, none⟩) N cp) u6 zs O) := hBS.out.below b4; clear b4) | (at_builtin; refine own_append_at (.tmp 38) (.tmp 40) BS4.out.op (by rw [natL_len]; omega) (Nat.le_trans hbel.out.size B4.out.size) rfl rfl rfl rfl ?_; intro v' w6 ho6 hg6 hv6; have HO6 : Hid (OwnI w6 w.heap.size v' (natL O ++ [(k : Int)])) := ho6; have HG6 : Hid (w4.grownBy w6 u6.ownBlock) := hg6; have HV6 : Hid (v'.ownBlock = u6.ownBlock ∨ v'.ownBlock = some (w4.heap.size + 1)) := hv6; clear ho6 hg6 hv6))
          go_roundw
          case rel =>
            refine ⟨k + 1, g, N, cp, zs, by go_num, by omega, rfl, ?_, by rw [HS'.out]; exact hzm.out, ?_⟩
            · rw [HS'.out]
              exact BS4.out.push (x := k) (by rw [natL_app]; exact HO6.out) HG6.out HV6.out
            · exact (bstep hbel.out B4.out).grown HG6.out (Nat.le_trans hbel.out.size B4.out.size) (fun b hb => (BS4.out.op.lt b hb).1)
          case measure => simp only [intOf]; omega
        · rw [if_neg hxm] at HS
          have HS' : Hid (stB (fn L) (fn C) mate (k + 1) = shutB (fn L) m k O P (scanF (fn L) O m O.length)) := HS
          clear HS
          obtain ⟨lo, hlo⟩ : ∃ lo, O.length = lo := ⟨_, rfl⟩
          obtain ⟨ao, no, co, hvo, hno⟩ := hBS.out.op.slicZ
          rw [natL_len, hlo] at hno
          subst hno
          subst hvo
          rw [hlo] at hOl
          have HLO : Hid (O.length = lo) := hlo
          clear hlo
          go_wp2_with (first | (go_at_call 21; refine (HM.out _).mono ?_; rintro e w4 ⟨rfl, b4⟩; obtain ⟨cx4, cc4⟩ := HCX.out _ (bstep hbel.out b4); have B4 : Hid (Below wr.heap.size wr w4) := b4; have BS4 : Hid (BS w4 w.heap.size (.slice (some ⟨g, 0, none⟩) N cp) (.slice ao lo co) zs O) := hBS.out.below b4; clear b4))
          go_loop [5, 6, 9] (fun v5 v6 j => v5 = .slice (some ⟨g, 0, none⟩) N cp ∧ v6 = .slice ao lo co ∧ ∃ q : Nat, j = .int .i64 ((q : Int) - 1) ∧ q ≤ lo ∧ Hid (scanF (fn L) O m lo = scanF (fn L) O m q)) (fun _ _ j => (intOf j + 1).toNat)
          case atStart => exact ⟨rfl, rfl, lo, rfl, Nat.le_refl _, rfl⟩
          case round =>
            obtain ⟨rfl, rfl, q, rfl, hq, hsc⟩ := hrel
            cases q with
            | zero =>
              have HSN : Hid (stB (fn L) (fn C) mate (k + 1) = (O, P)) := by
                unfold Hid; rw [HS'.out, HLO.out, hsc.out]; rfl
              go_wp2_with fail
              go_roundw
              case rel => exact ⟨k + 1, g, N, cp, zs, by go_num, by omega, rfl, by rw [HSN.out]; exact BS4.out, by rw [HSN.out]; exact hzm.out, bstep hbel.out B4.out⟩
              case measure => simp only [intOf]; omega
            | succ q =>
              rw [show ((q + 1 : Nat) : Int) - 1 = (q : Int) by omega]
              have hOq : q < O.length := by rw [HLO.out]; omega
              obtain ⟨go, co', e, hlc⟩ := BS4.out.op.form1 (by intro e; have := congrArg List.length e; rw [natL_len] at this; simp at this; rw [this] at hOq; simp at hOq)
              rw [natL_len, HLO.out] at hlc e
              simp only [Value.slice.injEq] at e
              obtain ⟨rfl, _, rfl⟩ := e
              obtain ⟨o, ho⟩ : ∃ o, O.getD q 0 = o := ⟨_, rfl⟩
              have ho2 : O[q] = o := by rw [← ho]; simp [hOq]
              have hok : o < k := by
                have := (good_st (fn L) (fn C) mate k).lt o
                rw [HST.out] at this
                exact this (by rw [← ho2]; exact List.getElem_mem hOq)
              have hco : w4.cell? ⟨go, q, none⟩ = some (.int .i64 (o : Int)) := by
                rw [BS4.out.op.cellN q (by omega), fn_natL hOq, ho2]
              have hcr : w4.cell? ⟨ba, oa + o, none⟩ = some (.int .i64 (fn L o)) := HA.out _ (bstep hbel.out B4.out) o (by omega)
              obtain ⟨y, hy⟩ : ∃ y, fn L o = y := ⟨_, rfl⟩
              rw [hy] at hcr
              have hqi : (q : Int) < (lo : Int) := by omega
              have hoi : (o : Int) < (n : Int) := by omega
              have hqc : (q : Int) ≤ (co : Int) := by omega
              by_cases hym : y = m
              · have hyb : (y == m) = true := by simpa using hym
                have HSC : Hid (stB (fn L) (fn C) mate (k + 1) = (O.take q, P ++ [(o, k)])) := by
                  unfold Hid; rw [HS'.out, HLO.out, hsc.out]
                  simp only [scanF, ho, hy, if_pos hym, shutB]
                have HGD : Hid (O.take q = O.take q) := rfl
                clear hym ho ho2 hy hlc
                go_wp2_with (go_at_call 92; refine (specInto g N cp w.heap.size w4.heap.size zs (srtB P) (o, k) w4 _ BS4.out.rz (Nat.le_trans hbel.out.size B4.out.size) ((Below.refl _ _).alloc (Nat.le_refl _) _) (own_lit2 w4 _ _ _ _ (Nat.le_refl _) rfl) hzm.out (by rw [srt_len, HNP.out]) (by omega)).mono ?_; rintro e w5 ⟨⟨g', c', zs', rfl, hz5, hm5, hg5, hp5⟩, b5⟩; have HZ5 : Hid (RZ w5 w.heap.size (.slice (some ⟨g', 0, none⟩) (N + 1) c') zs') := hz5; have HM5 : Hid (zs'.map (·.2) = rowsP (insP (srtB P) (o, k))) := hm5; have HG5 : Hid (w4.heap.size ≤ g') := (by simp at hg5; unfold Hid; omega); have HP5 : Hid (zs'.Perm ((.slice (some ⟨w4.heap.size, 0, none⟩) 2 2, rowP (o, k)) :: zs)) := hp5; have B5 : Hid (Below w4.heap.size w4 w5) := bstep ((Below.refl _ _).alloc (Nat.le_refl _) _) b5; clear hz5 hm5 hg5 hp5 b5)
                go_roundw
                case rel =>
                  refine ⟨k + 1, g', N + 1, c', zs', by go_num, by omega, rfl, ?_, ?_, bstep (bstep hbel.out B4.out) B5.out⟩
                  · rw [HSC.out]
                    exact (BS4.out.into B5.out HZ5.out (fun b hb => by simp [Value.ownBlock] at hb; have := HG5.out; omega) (fun b hb => by simp [Value.ownBlock] at hb; omega) HP5.out).cut (by omega)
                  · rw [HSC.out]
                    show _ = rowsP (srtB (P ++ [(o, k)]))
                    rw [srt_snoc]; exact HM5.out
                case measure => simp only [intOf]; omega
              · have hyb : (y == m) = false := by simpa using hym
                have hsc2 : Hid (scanF (fn L) O m lo = scanF (fn L) O m q) := by
                  unfold Hid; rw [hsc.out]
                  simp only [scanF, ho, hy, if_neg hym]
                clear hym ho ho2 hy hlc
                go_wp2_with fail
                go_round
                case rel => exact ⟨rfl, rfl, q, rfl, by omega, hsc2⟩
                case measure => simp only [intOf]; omega
    · have e : k = n := by omega
      subst e
      have HST : Hid (stB (fn L) (fn C) mate k = (O, P)) := hst
      clear hst
      go_wp2_with fail
      go_ret
      exact ⟨⟨_, zs, rfl, hBS.out.rz, by rw [HST.out]; exact hzm.out⟩, hbel.out⟩
theorem rrx_empty (w : World) (T : TypeId) (hT : T = 22) : RRX (w.alloc (.cells #[] T)) w.heap.size (.slice (some ⟨w.heap.size, 0, none⟩) 0 0) [] := ⟨[], RR.empty w w.heap.size T (Nat.le_refl _) hT⟩
theorem mates_none (a b : Option Addr) (ca cb : Nat) (l c : List Int) (w : World) : Calls Tryz.prog 65 #[.slice a 0 ca, .slice b 0 cb] w fun e w' => (∃ v, e = .returned v ∧ RRX w' w.heap.size v (rowsP (srtB (stB (fn l) (fn c) mate 0).2))) ∧ Below w.heap.size w w' := by
  go_enter Tryz.func65, Tryz.ntmps65
  go_wp2
  go_rounds 1
  go_ret
  exact ⟨⟨_, rfl, (rrx_empty w 22 rfl).below ((Below.refl _ _).alloc (Nat.le_refl _) _)⟩, ((Below.refl _ _).alloc (Nat.le_refl _) _).alloc (by simp) _⟩
end Go.Proofs.YtgojdlbidjnmmabGreat
namespace Go.Proofs.YtgojdlbidjnmmabGreat
open Go.ChangeShapes Go.WideShapes Go.ChangeAt Go.RowKit Go.Deep
set_option linter.unusedSimpArgs false
set_option linter.unusedVariables false

def endP (A Z e : Nat) : Nat := if e = 0 then A else Z
def giveTo (t : Nat → Int) (n : Nat) (s : Int) (Y : List Int) (A Z : Nat) : Nat → List Int
  | 0 => Y
  | e + 1 => giveL t n s (giveTo t n s Y A Z e) (endP A Z e)
theorem sid_is {x : Nat → Int} {o bf : Int} {a : Nat} (ho : o = 1 ∨ o = 2) (hb : bf = 1 ∨ bf = 2) : sidP x o bf a false = if shA x bf a ≠ o then 3 - o else o := by
  unfold sidP
  have := shA_side (x := x) hb a
  rw [if_neg (by simp)]
  split <;> omega
set_option maxRecDepth 10000 in
set_option maxHeartbeats 8000000 in
theorem specPairs (ba oa ca bb ob cb g n cp : Nat) (Rn X x : List Int) (bf lvl o : Int) (w : World) (hRl : Rn.length = n) (hXl : X.length = n) (hn0 : 0 < n) (hn80 : n ≤ 80) (hba : ba < w.heap.size) (hbb : bb < w.heap.size) (hA : At w ba oa Rn) (hB : At w bb ob X) (hx : OwnI w 0 (.slice (some ⟨g, 0, none⟩) n cp) x) (hne : bb ≠ g) (h0 : 0 ≤ lvl) (ho : ownOf lvl = o) (hbf : bf = 1 ∨ bf = 2) :
    Calls Tryz.prog 41 #[.slice (some ⟨ba, oa, none⟩) n ca, .slice (some ⟨bb, ob, none⟩) n cb, .slice (some ⟨g, 0, none⟩) n cp, .int .i64 bf, .int .i64 lvl] w fun e w' => e = .returned (.tuple #[]) ∧ OwnI w' 0 (.slice (some ⟨g, 0, none⟩) n cp) (resTo (fn X) n o bf x (srtB (stB (fn Rn) (fn x) mate n).2)) ∧ w.grownBy w' (some g) := by
  have hxl : x.length = n := hx.len
  have hg := (hx.lt g rfl).2
  have hLgood : ∀ p ∈ srtB (stB (fn Rn) (fn x) mate n).2, p.1 < p.2 ∧ p.2 < n := fun p hp => (good_st (fn Rn) (fn x) mate n).lt2 p ((srt_perm _).mem_iff.1 hp)
  have hLlen : (srtB (stB (fn Rn) (fn x) mate n).2).length ≤ 80 := by rw [srt_len]; have := (st_len (fn Rn) (fn x) mate n).2; omega
  have hMR := specMates_row ba oa g 0 n ca cp Rn x w hRl hxl hn80 hba hg hA (fun j hj => by rw [Nat.zero_add]; exact hx.cellN j (by omega))
  obtain ⟨Ls, hLs⟩ : ∃ Ls, srtB (stB (fn Rn) (fn x) mate n).2 = Ls := ⟨_, rfl⟩
  rw [hLs] at hLgood hLlen hMR ⊢
  have HMR : Hid _ := hMR
  have HLG : Hid (∀ p ∈ Ls, p.1 < p.2 ∧ p.2 < n) := hLgood
  obtain ⟨N, hN⟩ : ∃ N, Ls.length = N := ⟨_, rfl⟩
  rw [hN] at hLlen
  have HN : Hid _ := hN
  have HB : Hid (At w bb ob X) := hB
  have HX : Hid (OwnI w 0 (.slice (some ⟨g, 0, none⟩) n cp) x) := hx
  have HXL : Hid (X.length = n) := hXl
  have ho12 : o = 1 ∨ o = 2 := by rw [← ho]; unfold ownOf; split <;> simp
  have HO : Hid (o = 1 ∨ o = 2) := ho12
  have HBF : Hid (bf = 1 ∨ bf = 2) := hbf
  have HOW : Hid (∀ V, Calls Tryz.prog 58 #[.int .i64 lvl] V fun e w' => e = .returned (.int .i64 o) ∧ w' = V) := fun V => by rw [← ho]; exact specOwn lvl V h0
  clear hMR hLs hLgood hN hB hx hXl ho ho12 hbf hA hRl hxl
  go_enter Tryz.func41, Tryz.ntmps41
  go_wp2_with fail
  refine Calls.mono HMR.out ?_
  rintro e w2 ⟨⟨v, zs, rfl, rz, hzs⟩, b2⟩
  have hzl : zs.length = N := by have := congrArg List.length hzs; rw [List.length_map, rowsP_len, HN.out] at this; exact this
  obtain ⟨av, cv, rfl⟩ := rz.slc
  rw [hzl] at rz ⊢
  have HRZ : Hid (RZ w2 w.heap.size (.slice av N cv) zs) := rz
  have HZL : Hid (zs.length = N) := hzl
  have HZS : Hid (zs.map (·.2) = rowsP Ls) := hzs
  have HB2 : Hid (Below w.heap.size w w2) := b2
  have hb2s := b2.size
  have HX2 : Hid (OwnI w2 0 (.slice (some ⟨g, 0, none⟩) n cp) x) := HX.out.below b2
  have HF : Hid (∀ V, w2.grownBy V (some g) → ∀ j, j < n → V.cell? ⟨bb, ob + j, none⟩ = some (.int .i64 (fn X j))) := fun V hV j hj => (World.cell?_of_block (hV.block bb (by omega) (fun e => hne (Option.some.inj e)))).trans ((HB.out.below b2 hbb) j (by rw [HXL.out]; exact hj))
  clear rz hzl hzs b2
  go_wp2_with (go_at_call 58; refine (HOW.out _).mono ?_; rintro e w3 ⟨rfl, hw3⟩; rw [hw3]; clear hw3 w3)
  go_loopw [12] (fun z wr => ∃ k : Nat, k ≤ N ∧ z = .int .i64 k ∧ Hid (OwnI wr 0 (.slice (some ⟨g, 0, none⟩) n cp) (resTo (fn X) n o bf x (Ls.take k))) ∧ Hid (w2.grownBy wr (some g))) (fun z _ => N - (intOf z).toNat)
  case atStart => exact ⟨0, Nat.zero_le _, rfl, HX2.out, grownB_refl _ _⟩
  case round =>
    obtain ⟨k, hk, rfl, hO, hgr⟩ := hrel
    rename World => wr
    by_cases hlt : k < N
    · have hki : (k : Int) < (N : Int) := by omega
      have hkL : k < Ls.length := by rw [HN.out]; exact hlt
      have hkz : k < zs.length := by rw [HZL.out]; exact hlt
      obtain ⟨g1, c1', e1, _⟩ := HRZ.out.own.form1 (by rw [HZL.out]; omega)
      simp only [Value.slice.injEq] at e1
      obtain ⟨rfl, hz1', rfl⟩ := e1
      clear hz1'
      have hg1 := HRZ.out.lt g1 rfl
      have q1 := HRZ.out.cellAt k hkz
      have row1 := HRZ.out.rowAt k hkz
      have hrow : (zs[k]).2 = rowP Ls[k] := by
        have e := congrArg (fun z => z[k]?) HZS.out
        simp only [rowsP, List.getElem?_map, List.getElem?_eq_getElem hkz, List.getElem?_eq_getElem hkL, Option.map_some, Option.some.injEq] at e
        exact e
      rw [hrow] at row1
      obtain ⟨gk, ck, eq0, _⟩ := OwnI.form1 row1 (by simp [rowP])
      rw [show (rowP Ls[k]).length = 2 from rfl] at eq0
      rw [eq0] at q1 row1
      have hgk := row1.lt gk rfl
      obtain ⟨p1, p2⟩ := HLG.out _ (List.getElem_mem hkL)
      obtain ⟨A, hA⟩ : ∃ A, (Ls[k]).1 = A := ⟨_, rfl⟩
      obtain ⟨Z, hZ⟩ : ∃ Z, (Ls[k]).2 = Z := ⟨_, rfl⟩
      have hpair : Ls[k] = (A, Z) := Prod.ext hA hZ
      rw [hA, hZ] at p1
      rw [hZ] at p2
      have HPC : Hid (∀ V, w2.grownBy V (some g) → V.cell? ⟨g1, k, none⟩ = some (.slice (some ⟨gk, 0, none⟩) 2 ck) ∧ V.cell? ⟨gk, 0, none⟩ = some (.int .i64 (A : Int)) ∧ V.cell? ⟨gk, 1, none⟩ = some (.int .i64 (Z : Int))) := fun V hV => by
        have f1 : ∀ j, V.cell? ⟨g1, j, none⟩ = w2.cell? ⟨g1, j, none⟩ := fun j => World.cell?_of_block (hV.block g1 hg1.2 (fun e => by simp at e; omega))
        have f2 : ∀ j, V.cell? ⟨gk, j, none⟩ = w2.cell? ⟨gk, j, none⟩ := fun j => World.cell?_of_block (hV.block gk hgk.2 (fun e => by simp at e; omega))
        refine ⟨(f1 k).trans q1, (f2 0).trans ?_, (f2 1).trans ?_⟩
        · rw [row1.cellN 0 (by omega), hpair]; rfl
        · rw [row1.cellN 1 (by omega), hpair]; rfl
      have hnext : Hid (resTo (fn X) n o bf x (Ls.take (k + 1)) = resP (fn X) n o bf (resTo (fn X) n o bf x (Ls.take k)) (A, Z)) := by
        unfold Hid; rw [resTo_take hkL, hpair]
      obtain ⟨Y, hY⟩ : ∃ Y, resTo (fn X) n o bf x (Ls.take k) = Y := ⟨_, rfl⟩
      rw [hY] at hO hnext
      have HCY : Hid (∀ q, ∀ j, j < n → (wr.drewN q).cell? ⟨g, j, none⟩ = some (.int .i64 (fn Y j))) := fun q j hj => hO.out.cellN j hj
      obtain ⟨P, hP⟩ : ∃ P, ownIn (fn Y) o A (Z - (A + 1)) = P := ⟨_, rfl⟩
      obtain ⟨Q, hQ⟩ : ∃ Q, othIn (fn Y) o A (Z - (A + 1)) = Q := ⟨_, rfl⟩
      have HIN : Hid (∀ q, Calls Tryz.prog 66 #[.slice (some ⟨g, 0, none⟩) n cp, .int .i64 (A : Int), .int .i64 (Z : Int), .int .i64 o] (wr.drewN q) fun e w' => e = .returned (.tuple #[.bool P, .bool Q]) ∧ w' = wr.drewN q) := fun q => by
        rw [← hP, ← hQ]; exact specInside g n cp A Z (fn Y) o _ (HCY.out q) (by omega) p1 (by omega) HO.out
      have HAH : Hid (∀ q, Calls Tryz.prog 67 #[.slice (some ⟨g, 0, none⟩) n cp, .int .i64 (A : Int), .int .i64 bf] (wr.drewN q) fun e w' => e = .returned (.int .i64 (shA (fn Y) bf A)) ∧ w' = wr.drewN q) := fun q => specAhead g n cp A (fn Y) bf _ (HCY.out q) (by omega) (by omega)
      have HRES : Hid (resTo (fn X) n o bf x (Ls.take (k + 1)) = if P = false ∧ Q = false then Y else giveTo (fn X) n (sidP (fn Y) o bf A P) Y A Z 2) := by
        unfold Hid; rw [hnext.out]; unfold resP; simp only [hP, hQ]; rfl
      obtain ⟨c1, c2, c3⟩ := HPC.out wr hgr.out
      clear q1 row1 hrow eq0 hA hZ hpair hnext hY hP hQ
      have HOQ : Hid (∀ q, OwnI (wr.drewN q) 0 (.slice (some ⟨g, 0, none⟩) n cp) Y) := fun q => hO.out.below (below_draws wr q)
      have HGQ : Hid (∀ q, w2.grownBy (wr.drewN q) (some g)) := fun q => grownB_tr hgr.out (grownB_draws wr q _)
      by_cases hPQ : P = false ∧ Q = false
      · obtain ⟨rfl, rfl⟩ := hPQ
        have HR2 : Hid (resTo (fn X) n o bf x (Ls.take (k + 1)) = Y) := by unfold Hid; rw [HRES.out, if_pos ⟨rfl, rfl⟩]
        clear HRES
        go_wp2_with fail
        go_quiet ((go_at_call 66; with_reducible exact Calls.quiet_of_same (HIN.out _)))
        go_wp2_with fail
        go_roundw
        case rel => exact ⟨k + 1, by omega, by go_num, by rw [HR2.out]; exact HOQ.out _, HGQ.out _⟩
        case measure => simp only [intOf]; omega
      · obtain ⟨s, hs⟩ : ∃ s, sidP (fn Y) o bf A P = s := ⟨_, rfl⟩
        have HR2 : Hid (resTo (fn X) n o bf x (Ls.take (k + 1)) = giveTo (fn X) n s Y A Z 2) := by unfold Hid; rw [HRES.out, if_neg hPQ, hs]
        have HS1 : Hid (P = true → s = o) := fun e => by rw [← hs, e]; rfl
        have HS2 : Hid (P = false → s = if shA (fn Y) bf A ≠ o then 3 - o else o) := fun e => by rw [← hs, e]; exact sid_is HO.out HBF.out
        have ho := HO.out
        clear HRES hs
        cases P
        · have hQ : Q = true := by simpa using hPQ
          subst hQ
          clear hPQ
          obtain ⟨h, hh⟩ : ∃ h, shA (fn Y) bf A = h := ⟨_, rfl⟩
          have hs2 := HS2.out rfl
          rw [hh] at hs2 HAH
          clear HS1 HS2 hh
          by_cases he : h = o
          · subst he
            have hs3 : s = h := by rw [hs2]; simp
            subst hs3
            clear hs2
            go_wp2_with fail
            go_quiet ((go_at_call 66; with_reducible exact Calls.quiet_of_same (HIN.out _)))
            go_wp2_with (go_at_call 67; refine (HAH.out _).mono ?_; rintro e w4 ⟨rfl, hw4⟩; rw [hw4]; clear hw4 w4)
            go_loopw [16] (fun z wx => ∃ e : Nat, e ≤ 2 ∧ z = .int .i64 e ∧ Hid (OwnI wx 0 (.slice (some ⟨g, 0, none⟩) n cp) (giveTo (fn X) n s Y A Z e)) ∧ Hid (w2.grownBy wx (some g))) (fun z _ => 2 - (intOf z).toNat)
            case atStart => exact ⟨0, by omega, rfl, HOQ.out _, HGQ.out _⟩
            case round =>
              obtain ⟨e, he, rfl, hOx, hgx⟩ := hrel
              rename World => wx
              by_cases he2 : e < 2
              · have hei : (e : Int) < 2 := by omega
                obtain ⟨d1, d2, d3⟩ := HPC.out wx hgx.out
                have de : wx.cell? ⟨gk, e, none⟩ = some (.int .i64 ((endP A Z e : Nat) : Int)) := by
                  by_cases h : e = 0
                  · subst h; exact d2
                  · have : e = 1 := by omega
                    subst this; exact d3
                have hat : endP A Z e < n := by unfold endP; split <;> omega
                have HSTEP : Hid (∀ u, giveTo (fn X) n s Y A Z (e + 1) = giveL (fn X) n s (giveTo (fn X) n s Y A Z e) (endP A Z e) ∨ u = e) := fun u => .inl rfl
                obtain ⟨at_, ha⟩ : ∃ at_, endP A Z e = at_ := ⟨_, rfl⟩
                obtain ⟨V, hV⟩ : ∃ V, giveTo (fn X) n s Y A Z e = V := ⟨_, rfl⟩
                have HG1 : Hid (giveTo (fn X) n s Y A Z (e + 1) = giveL (fn X) n s V at_) := by unfold Hid; rw [← ha, ← hV]; rfl
                rw [ha] at de hat
                rw [hV] at hOx
                clear HSTEP ha hV d2 d3
                have hai : (at_ : Int) < (n : Int) := by omega
                have cy0 := hOx.out.cellN at_ hat
                have fy0 : wx.frozen? ⟨g, at_, none⟩ = false := hOx.out.frozenN at_
                have hbase : Hid (OwnI (wx.setCell ⟨g, at_, none⟩ (.int .i64 s)) 0 (.slice (some ⟨g, 0, none⟩) n cp) (setSeg V s at_ (1 + 0))) := hOx.out.storedN at_ s
                have hbg : Hid (w2.grownBy (wx.setCell ⟨g, at_, none⟩ (.int .i64 s)) (some g)) := grownB_tr hgx.out (grownB_set _ _ _ _)
                go_wp2_with fail
                go_loopw [18] (fun z wy => ∃ m : Nat, z = .int .i64 ((at_ + 1 + m : Nat) : Int) ∧ at_ + 1 + m ≤ n ∧ Hid (∀ i, i < m → fn X (at_ + 1 + i) = 9) ∧ Hid (OwnI wy 0 (.slice (some ⟨g, 0, none⟩) n cp) (setSeg V s at_ (1 + m))) ∧ Hid (w2.grownBy wy (some g))) (fun z _ => n - (intOf z).toNat)
                case atStart => exact ⟨0, by go_num, by omega, fun i hi => by omega, hbase.out, hbg.out⟩
                case round =>
                  obtain ⟨m, rfl, hm, h9, hOy, hgy⟩ := hrel
                  rename World => wy
                  obtain ⟨p, hp⟩ : ∃ p, at_ + 1 + m = p := ⟨_, rfl⟩
                  rw [hp] at hm ⊢
                  have HP : Hid (at_ + 1 + m = p) := hp
                  clear hp
                  by_cases hpl : p < n
                  · have hpi : (p : Int) < (n : Int) := by omega
                    have ct := HF.out wy hgy.out p hpl
                    obtain ⟨t, ht⟩ : ∃ t, fn X p = t := ⟨_, rfl⟩
                    rw [ht] at ct
                    have HT : Hid (fn X p = t) := ht
                    clear ht
                    by_cases h : t = 9
                    · subst h
                      have cy := hOy.out.cellN p hpl
                      have fy : wy.frozen? ⟨g, p, none⟩ = false := hOy.out.frozenN p
                      have hNx : Hid (OwnI (wy.setCell ⟨g, p, none⟩ (.int .i64 s)) 0 (.slice (some ⟨g, 0, none⟩) n cp) (setSeg V s at_ (1 + (m + 1)))) := by
                        unfold Hid
                        rw [show 1 + (m + 1) = (1 + m) + 1 by omega]
                        simp only [setSeg]
                        rw [show at_ + (1 + m) = p by have := HP.out; omega]
                        exact hOy.out.storedN p s
                      go_wp2_with fail
                      go_roundw
                      case rel =>
                        refine ⟨m + 1, by rw [show at_ + 1 + (m + 1) = p + 1 by have := HP.out; omega]; go_num, by have := HP.out; omega, fun i hi => ?_, hNx.out, grownB_tr hgy.out (grownB_set _ _ _ _)⟩
                        by_cases e : i = m
                        · subst e; rw [HP.out]; exact HT.out
                        · exact h9.out i (by omega)
                      case measure => simp only [intOf]; omega
                    · have htb : (t == 9) = false := by simpa using h
                      have hfin : Hid (giveL (fn X) n s V at_ = setSeg V s at_ (1 + m)) := by
                        unfold Hid giveL
                        rw [k9F_is (n - (at_ + 1)) (at_ + 1) m (by have := HP.out; omega) h9.out (.inr (by rw [HP.out, HT.out]; exact h))]
                      go_wp2_with fail
                      go_roundw
                      case rel => exact ⟨e + 1, by omega, by go_num, by rw [HG1.out, hfin.out]; exact hOy.out, hgy.out⟩
                      case measure => simp only [intOf]; omega
                  · have hpn : p = n := by omega
                    have hfin : Hid (giveL (fn X) n s V at_ = setSeg V s at_ (1 + m)) := by
                      unfold Hid giveL
                      rw [k9F_is (n - (at_ + 1)) (at_ + 1) m (by have := HP.out; omega) h9.out (.inl (by have := HP.out; omega))]
                    subst hpn
                    go_wp2_with fail
                    go_roundw
                    case rel => exact ⟨e + 1, by omega, by go_num, by rw [HG1.out, hfin.out]; exact hOy.out, hgy.out⟩
                    case measure => simp only [intOf]; omega
              · have e2 : e = 2 := by omega
                subst e2
                go_wp2_with fail
                go_roundw
                case rel => exact ⟨k + 1, by omega, by go_num, by rw [HR2.out]; exact hOx.out, hgx.out⟩
                case measure => simp only [intOf]; omega
          · have hb : (h != o) = true := by simpa using he
            have hs3 : s = 3 - o := by rw [hs2, if_pos he]
            subst hs3
            clear hs2
            go_wp2_with fail
            go_quiet ((go_at_call 66; with_reducible exact Calls.quiet_of_same (HIN.out _)))
            go_wp2_with (go_at_call 67; refine (HAH.out _).mono ?_; rintro e w4 ⟨rfl, hw4⟩; rw [hw4]; clear hw4 w4)
            go_loopw [16] (fun z wx => ∃ e : Nat, e ≤ 2 ∧ z = .int .i64 e ∧ Hid (OwnI wx 0 (.slice (some ⟨g, 0, none⟩) n cp) (giveTo (fn X) n (3 - o) Y A Z e)) ∧ Hid (w2.grownBy wx (some g))) (fun z _ => 2 - (intOf z).toNat)
            case atStart => exact ⟨0, by omega, rfl, HOQ.out _, HGQ.out _⟩
            case round =>
              obtain ⟨e, he, rfl, hOx, hgx⟩ := hrel
              rename World => wx
              by_cases he2 : e < 2
              · have hei : (e : Int) < 2 := by omega
                obtain ⟨d1, d2, d3⟩ := HPC.out wx hgx.out
                have de : wx.cell? ⟨gk, e, none⟩ = some (.int .i64 ((endP A Z e : Nat) : Int)) := by
                  by_cases h : e = 0
                  · subst h; exact d2
                  · have : e = 1 := by omega
                    subst this; exact d3
                have hat : endP A Z e < n := by unfold endP; split <;> omega
                have HSTEP : Hid (∀ u, giveTo (fn X) n (3 - o) Y A Z (e + 1) = giveL (fn X) n (3 - o) (giveTo (fn X) n (3 - o) Y A Z e) (endP A Z e) ∨ u = e) := fun u => .inl rfl
                obtain ⟨at_, ha⟩ : ∃ at_, endP A Z e = at_ := ⟨_, rfl⟩
                obtain ⟨V, hV⟩ : ∃ V, giveTo (fn X) n (3 - o) Y A Z e = V := ⟨_, rfl⟩
                have HG1 : Hid (giveTo (fn X) n (3 - o) Y A Z (e + 1) = giveL (fn X) n (3 - o) V at_) := by unfold Hid; rw [← ha, ← hV]; rfl
                rw [ha] at de hat
                rw [hV] at hOx
                clear HSTEP ha hV d2 d3
                have hai : (at_ : Int) < (n : Int) := by omega
                have cy0 := hOx.out.cellN at_ hat
                have fy0 : wx.frozen? ⟨g, at_, none⟩ = false := hOx.out.frozenN at_
                have hbase : Hid (OwnI (wx.setCell ⟨g, at_, none⟩ (.int .i64 (3 - o))) 0 (.slice (some ⟨g, 0, none⟩) n cp) (setSeg V (3 - o) at_ (1 + 0))) := hOx.out.storedN at_ (3 - o)
                have hbg : Hid (w2.grownBy (wx.setCell ⟨g, at_, none⟩ (.int .i64 (3 - o))) (some g)) := grownB_tr hgx.out (grownB_set _ _ _ _)
                go_wp2_with fail
                go_loopw [18] (fun z wy => ∃ m : Nat, z = .int .i64 ((at_ + 1 + m : Nat) : Int) ∧ at_ + 1 + m ≤ n ∧ Hid (∀ i, i < m → fn X (at_ + 1 + i) = 9) ∧ Hid (OwnI wy 0 (.slice (some ⟨g, 0, none⟩) n cp) (setSeg V (3 - o) at_ (1 + m))) ∧ Hid (w2.grownBy wy (some g))) (fun z _ => n - (intOf z).toNat)
                case atStart => exact ⟨0, by go_num, by omega, fun i hi => by omega, hbase.out, hbg.out⟩
                case round =>
                  obtain ⟨m, rfl, hm, h9, hOy, hgy⟩ := hrel
                  rename World => wy
                  obtain ⟨p, hp⟩ : ∃ p, at_ + 1 + m = p := ⟨_, rfl⟩
                  rw [hp] at hm ⊢
                  have HP : Hid (at_ + 1 + m = p) := hp
                  clear hp
                  by_cases hpl : p < n
                  · have hpi : (p : Int) < (n : Int) := by omega
                    have ct := HF.out wy hgy.out p hpl
                    obtain ⟨t, ht⟩ : ∃ t, fn X p = t := ⟨_, rfl⟩
                    rw [ht] at ct
                    have HT : Hid (fn X p = t) := ht
                    clear ht
                    by_cases h : t = 9
                    · subst h
                      have cy := hOy.out.cellN p hpl
                      have fy : wy.frozen? ⟨g, p, none⟩ = false := hOy.out.frozenN p
                      have hNx : Hid (OwnI (wy.setCell ⟨g, p, none⟩ (.int .i64 (3 - o))) 0 (.slice (some ⟨g, 0, none⟩) n cp) (setSeg V (3 - o) at_ (1 + (m + 1)))) := by
                        unfold Hid
                        rw [show 1 + (m + 1) = (1 + m) + 1 by omega]
                        simp only [setSeg]
                        rw [show at_ + (1 + m) = p by have := HP.out; omega]
                        exact hOy.out.storedN p (3 - o)
                      go_wp2_with fail
                      go_roundw
                      case rel =>
                        refine ⟨m + 1, by rw [show at_ + 1 + (m + 1) = p + 1 by have := HP.out; omega]; go_num, by have := HP.out; omega, fun i hi => ?_, hNx.out, grownB_tr hgy.out (grownB_set _ _ _ _)⟩
                        by_cases e : i = m
                        · subst e; rw [HP.out]; exact HT.out
                        · exact h9.out i (by omega)
                      case measure => simp only [intOf]; omega
                    · have htb : (t == 9) = false := by simpa using h
                      have hfin : Hid (giveL (fn X) n (3 - o) V at_ = setSeg V (3 - o) at_ (1 + m)) := by
                        unfold Hid giveL
                        rw [k9F_is (n - (at_ + 1)) (at_ + 1) m (by have := HP.out; omega) h9.out (.inr (by rw [HP.out, HT.out]; exact h))]
                      go_wp2_with fail
                      go_roundw
                      case rel => exact ⟨e + 1, by omega, by go_num, by rw [HG1.out, hfin.out]; exact hOy.out, hgy.out⟩
                      case measure => simp only [intOf]; omega
                  · have hpn : p = n := by omega
                    have hfin : Hid (giveL (fn X) n (3 - o) V at_ = setSeg V (3 - o) at_ (1 + m)) := by
                      unfold Hid giveL
                      rw [k9F_is (n - (at_ + 1)) (at_ + 1) m (by have := HP.out; omega) h9.out (.inl (by have := HP.out; omega))]
                    subst hpn
                    go_wp2_with fail
                    go_roundw
                    case rel => exact ⟨e + 1, by omega, by go_num, by rw [HG1.out, hfin.out]; exact hOy.out, hgy.out⟩
                    case measure => simp only [intOf]; omega
              · have e2 : e = 2 := by omega
                subst e2
                go_wp2_with fail
                go_roundw
                case rel => exact ⟨k + 1, by omega, by go_num, by rw [HR2.out]; exact hOx.out, hgx.out⟩
                case measure => simp only [intOf]; omega
        · have hs3 := HS1.out rfl
          subst hs3
          clear HS1 HS2 hPQ
          go_wp2_with fail
          go_quiet ((go_at_call 66; with_reducible exact Calls.quiet_of_same (HIN.out _)))
          go_wp2_with fail
          go_loopw [16] (fun z wx => ∃ e : Nat, e ≤ 2 ∧ z = .int .i64 e ∧ Hid (OwnI wx 0 (.slice (some ⟨g, 0, none⟩) n cp) (giveTo (fn X) n s Y A Z e)) ∧ Hid (w2.grownBy wx (some g))) (fun z _ => 2 - (intOf z).toNat)
          case atStart => exact ⟨0, by omega, rfl, HOQ.out _, HGQ.out _⟩
          case round =>
            obtain ⟨e, he, rfl, hOx, hgx⟩ := hrel
            rename World => wx
            by_cases he2 : e < 2
            · have hei : (e : Int) < 2 := by omega
              obtain ⟨d1, d2, d3⟩ := HPC.out wx hgx.out
              have de : wx.cell? ⟨gk, e, none⟩ = some (.int .i64 ((endP A Z e : Nat) : Int)) := by
                by_cases h : e = 0
                · subst h; exact d2
                · have : e = 1 := by omega
                  subst this; exact d3
              have hat : endP A Z e < n := by unfold endP; split <;> omega
              have HSTEP : Hid (∀ u, giveTo (fn X) n s Y A Z (e + 1) = giveL (fn X) n s (giveTo (fn X) n s Y A Z e) (endP A Z e) ∨ u = e) := fun u => .inl rfl
              obtain ⟨at_, ha⟩ : ∃ at_, endP A Z e = at_ := ⟨_, rfl⟩
              obtain ⟨V, hV⟩ : ∃ V, giveTo (fn X) n s Y A Z e = V := ⟨_, rfl⟩
              have HG1 : Hid (giveTo (fn X) n s Y A Z (e + 1) = giveL (fn X) n s V at_) := by unfold Hid; rw [← ha, ← hV]; rfl
              rw [ha] at de hat
              rw [hV] at hOx
              clear HSTEP ha hV d2 d3
              have hai : (at_ : Int) < (n : Int) := by omega
              have cy0 := hOx.out.cellN at_ hat
              have fy0 : wx.frozen? ⟨g, at_, none⟩ = false := hOx.out.frozenN at_
              have hbase : Hid (OwnI (wx.setCell ⟨g, at_, none⟩ (.int .i64 s)) 0 (.slice (some ⟨g, 0, none⟩) n cp) (setSeg V s at_ (1 + 0))) := hOx.out.storedN at_ s
              have hbg : Hid (w2.grownBy (wx.setCell ⟨g, at_, none⟩ (.int .i64 s)) (some g)) := grownB_tr hgx.out (grownB_set _ _ _ _)
              go_wp2_with fail
              go_loopw [18] (fun z wy => ∃ m : Nat, z = .int .i64 ((at_ + 1 + m : Nat) : Int) ∧ at_ + 1 + m ≤ n ∧ Hid (∀ i, i < m → fn X (at_ + 1 + i) = 9) ∧ Hid (OwnI wy 0 (.slice (some ⟨g, 0, none⟩) n cp) (setSeg V s at_ (1 + m))) ∧ Hid (w2.grownBy wy (some g))) (fun z _ => n - (intOf z).toNat)
              case atStart => exact ⟨0, by go_num, by omega, fun i hi => by omega, hbase.out, hbg.out⟩
              case round =>
                obtain ⟨m, rfl, hm, h9, hOy, hgy⟩ := hrel
                rename World => wy
                obtain ⟨p, hp⟩ : ∃ p, at_ + 1 + m = p := ⟨_, rfl⟩
                rw [hp] at hm ⊢
                have HP : Hid (at_ + 1 + m = p) := hp
                clear hp
                by_cases hpl : p < n
                · have hpi : (p : Int) < (n : Int) := by omega
                  have ct := HF.out wy hgy.out p hpl
                  obtain ⟨t, ht⟩ : ∃ t, fn X p = t := ⟨_, rfl⟩
                  rw [ht] at ct
                  have HT : Hid (fn X p = t) := ht
                  clear ht
                  by_cases h : t = 9
                  · subst h
                    have cy := hOy.out.cellN p hpl
                    have fy : wy.frozen? ⟨g, p, none⟩ = false := hOy.out.frozenN p
                    have hNx : Hid (OwnI (wy.setCell ⟨g, p, none⟩ (.int .i64 s)) 0 (.slice (some ⟨g, 0, none⟩) n cp) (setSeg V s at_ (1 + (m + 1)))) := by
                      unfold Hid
                      rw [show 1 + (m + 1) = (1 + m) + 1 by omega]
                      simp only [setSeg]
                      rw [show at_ + (1 + m) = p by have := HP.out; omega]
                      exact hOy.out.storedN p s
                    go_wp2_with fail
                    go_roundw
                    case rel =>
                      refine ⟨m + 1, by rw [show at_ + 1 + (m + 1) = p + 1 by have := HP.out; omega]; go_num, by have := HP.out; omega, fun i hi => ?_, hNx.out, grownB_tr hgy.out (grownB_set _ _ _ _)⟩
                      by_cases e : i = m
                      · subst e; rw [HP.out]; exact HT.out
                      · exact h9.out i (by omega)
                    case measure => simp only [intOf]; omega
                  · have htb : (t == 9) = false := by simpa using h
                    have hfin : Hid (giveL (fn X) n s V at_ = setSeg V s at_ (1 + m)) := by
                      unfold Hid giveL
                      rw [k9F_is (n - (at_ + 1)) (at_ + 1) m (by have := HP.out; omega) h9.out (.inr (by rw [HP.out, HT.out]; exact h))]
                    go_wp2_with fail
                    go_roundw
                    case rel => exact ⟨e + 1, by omega, by go_num, by rw [HG1.out, hfin.out]; exact hOy.out, hgy.out⟩
                    case measure => simp only [intOf]; omega
                · have hpn : p = n := by omega
                  have hfin : Hid (giveL (fn X) n s V at_ = setSeg V s at_ (1 + m)) := by
                    unfold Hid giveL
                    rw [k9F_is (n - (at_ + 1)) (at_ + 1) m (by have := HP.out; omega) h9.out (.inl (by have := HP.out; omega))]
                  subst hpn
                  go_wp2_with fail
                  go_roundw
                  case rel => exact ⟨e + 1, by omega, by go_num, by rw [HG1.out, hfin.out]; exact hOy.out, hgy.out⟩
                  case measure => simp only [intOf]; omega
            · have e2 : e = 2 := by omega
              subst e2
              go_wp2_with fail
              go_roundw
              case rel => exact ⟨k + 1, by omega, by go_num, by rw [HR2.out]; exact hOx.out, hgx.out⟩
              case measure => simp only [intOf]; omega
    · have e : k = N := by omega
      subst e
      have hfull : Ls.take k = Ls := List.take_of_length_le (by rw [HN.out]; exact Nat.le_refl _)
      rw [hfull] at hO
      have hfin : Hid (w.grownBy wr (some g)) := grownB_tr ⟨HB2.out.os, HB2.out.tape, HB2.out.output, HB2.out.size, fun j hj _ => HB2.out.block j hj⟩ hgr.out
      go_wp2_with fail
      go_end0
      exact ⟨rfl, hO.out, hfin.out⟩
end Go.Proofs.YtgojdlbidjnmmabGreat
namespace Go.Proofs.YtgojdlbidjnmmabGreat
open Go.ChangeShapes Go.WideShapes Go.ChangeAt Go.RowKit Go.Deep
set_option linter.unusedSimpArgs false
set_option linter.unusedVariables false

theorem take_pick {r : List Nat} {X : List Int} {k : Nat} (h : k < r.length) : (pickL r X).take (k + 1) = (pickL r X).take k ++ [fn X (r.getD k 0)] := by
  have hk : k < (pickL r X).length := by rw [pickL_len]; exact h
  rw [List.take_add_one, List.getElem?_eq_getElem hk]
  simp [pickL, h]
section
variable {wx wr : World} {vc vs : Value} {lc ls : List Int} {xv : Int}
theorem litB (hbx : Below wr.heap.size wr wx) : Below wr.heap.size wr ((wx.drewN 1).alloc (.cells #[.int .i64 xv] 3)) :=
  (hbx.trans ((below_draws wx 1).mono hbx.size)).alloc hbx.size _
theorem litO (hVC : OwnI wx wr.heap.size vc lc) : OwnI ((wx.drewN 1).alloc (.cells #[.int .i64 xv] 3)) wr.heap.size vc lc := World.ownsRow.alloc (hVC.drewN 1) _
theorem litA (hbx : Below wr.heap.size wr wx) (hVC : OwnI wx wr.heap.size vc lc) (hVS : OwnI wx wr.heap.size vs ls) (hap : Apart vc vs) {V : World} (hV : ((wx.drewN 1).alloc (.cells #[.int .i64 xv] 3)).grownBy V vc.ownBlock) : Below wr.heap.size wr V ∧ OwnI V wr.heap.size vs ls :=
  ⟨(litB hbx).grown hV (litB hbx).size (fun b hb => (hVC.lt b hb).1), (litO hVS).apart hV hap⟩
theorem litL (w : World) : OwnI ((w.drewN 1).alloc (.cells #[.int .i64 xv] 3)) w.heap.size (.slice (some ⟨w.heap.size, 0, none⟩) 1 1) [xv] := by
  have h := heap_alloc_new (w.drewN 1) (.cells #[.int .i64 xv] 3)
  exact ⟨by simp, .inr ⟨w.heap.size, 1, #[.int .i64 xv], rfl, Nat.le_refl _, h, by simp, by unfold maxLen; omega, by simp, by simp⟩⟩
theorem litS (w : World) : ((w.drewN 1).alloc (.cells #[.int .i64 xv] 3)).heap.size = w.heap.size + 1 := by
  show ((w.drewN 1).heap.push _).size = _
  simp
theorem litP (hVS : OwnI wx wr.heap.size vs ls) (hap : Apart vc vs) {g7 c7 n7 : Nat} (h : vc.ownBlock = some g7 ∨ g7 = wx.heap.size + 1) : Apart (.slice (some ⟨g7, 0, none⟩) n7 c7) vs := by
  intro b h1 h2
  simp [Value.ownBlock] at h1
  subst h1
  rcases h with h | h
  · exact hap _ h h2
  · have := (hVS.lt _ h2).2; omega
end
end Go.Proofs.YtgojdlbidjnmmabGreat
