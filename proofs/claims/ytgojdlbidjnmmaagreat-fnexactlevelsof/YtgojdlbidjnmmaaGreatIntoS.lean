import Derived.Test.YtgojdlbidjnmmaaGreatRZ
import Derived.Test.YtgojdlbidjnmmaaGreatMtM
import Derived.BigQuiet
namespace Go.Proofs.YtgojdlbidjnmmaaGreat
open Go.ChangeShapes Go.WideShapes Go.ChangeAt Go.RowKit
set_option linter.unusedSimpArgs false
set_option linter.unusedVariables false

theorem rows_zs {zs : List (Value × List Int)} {L : List (Nat × Nat)} (h : zs.map (·.2) = rowsP L) {j : Nat} (hj : j < zs.length) (hj2 : j < L.length) : (zs[j]).2 = rowP L[j] := by
  have := congrArg (fun l => l[j]?) h
  simpa [rowsP, hj, hj2] using this

theorem new2 (U : World) (o : Obj) (x : Value) (T : TypeId) : ((U.alloc o).alloc (.cells #[x] T)).drew.cell? ⟨U.heap.size + 1, 0, none⟩ = some x := by
  have e : (U.alloc o).heap.size = U.heap.size + 1 := by simp
  rw [← e]; exact cell_of_row _ _ 0 _ _ (0, 0) (heap_alloc_new (U.alloc o) _)
theorem new1 (U : World) (o : Obj) (x : Value) (T : TypeId) : ((U.alloc (.cells #[x] T)).alloc o).drew.cell? ⟨U.heap.size, 0, none⟩ = some x :=
  cell_of_row _ _ 0 _ _ (0, 0) ((Below.heap_alloc _ _ _ (by simp)).trans (heap_alloc_new U _))
theorem ownE2 (U : World) (o : Obj) : OwnV 23 1 ((U.alloc o).alloc (.cells #[] 23)).drew U.heap.size (.slice (some ⟨U.heap.size + 1, 0, none⟩) 0 0) 0 [] := by
  have e : (U.alloc o).heap.size = U.heap.size + 1 := by simp
  rw [← e]
  exact OwnV.empty _ _ _ (U.alloc o) _ (by rw [e]; omega) rfl
theorem c28a {U w28 : World} {o : Obj} {x : Value} {T : TypeId} (h : ((U.alloc (.cells #[x] T)).alloc o).drew.grownBy w28 (some (U.heap.size + 1))) : w28.cell? ⟨U.heap.size, 0, none⟩ = some x :=
  (h.cell_far _ (show U.heap.size < ((U.alloc (.cells #[x] T)).alloc o).heap.size by simp; omega) (by simp)).trans (new1 U _ _ _)
theorem c28b {U w28 : World} {o : Obj} {x : Value} {T : TypeId} (h : ((U.alloc o).alloc (.cells #[x] T)).drew.grownBy w28 (some U.heap.size)) : w28.cell? ⟨U.heap.size + 1, 0, none⟩ = some x :=
  (h.cell_far _ (show U.heap.size + 1 < ((U.alloc o).alloc (.cells #[x] T)).heap.size by simp) (by simp)).trans (new2 U _ _ _)
theorem into_end {w w2 W' : World} {B k N : Nat} {v v' vp : Value} {zs : List (Value × List Int)} {L : List (Nat × Nat)} {p : Nat × Nat} (h : RZ w B v zs) (hB : B ≤ w.heap.size) (hb : Below w.heap.size w w2) (hx : OwnI w2 w.heap.size vp (rowP p)) (hL : zs.map (·.2) = rowsP L) (hN : L.length = N) (hk : k ≤ N) (hins : insP L p = L.take k ++ [p] ++ L.drop k) (hb2 : Below w2.heap.size w2 W') (ho : OwnV 23 1 W' w2.heap.size v' (0 + k + 1 + (N - k)) ([] ++ (zs.take k).map (·.1) ++ [vp] ++ (zs.drop k).map (·.1))) :
    ∃ g' c' zs', v' = .slice (some ⟨g', 0, none⟩) (N + 1) c' ∧ RZ W' B v' zs' ∧ zs'.map (·.2) = rowsP (insP L p) ∧ w2.heap.size ≤ g' ∧ zs'.Perm ((vp, rowP p) :: zs) := by
  have hzl : zs.length = N := by have := congrArg List.length hL; rw [rowsP_len] at this; simpa [hN] using this
  have e : 0 + k + 1 + (N - k) = N + 1 := by omega
  rw [e] at ho
  have hl2 : (zs.take k ++ [(vp, rowP p)] ++ zs.drop k).length = N + 1 := by simp; omega
  have hperm : (zs.take k ++ [(vp, rowP p)] ++ zs.drop k).Perm ((vp, rowP p) :: zs) := by
    have h1 : (zs.take k ++ [(vp, rowP p)] ++ zs.drop k).Perm ((vp, rowP p) :: (zs.take k ++ zs.drop k)) := by
      rw [List.append_assoc]; exact List.perm_middle
    rwa [List.take_append_drop] at h1
  have hz := RZ.anew (zs' := zs.take k ++ [(vp, rowP p)] ++ zs.drop k) (v' := v') hl2 h hB hb hx hperm hb2 (by simpa using ho)
  obtain ⟨g', c', hf, hg', _⟩ := ho.form1 (by omega)
  refine ⟨g', c', _, hf, hz, ?_, hg', hperm⟩
  rw [hins]
  simp only [List.map_append, List.map_take, List.map_drop, hL, rowsP, List.map_cons, List.map_nil]

set_option maxRecDepth 10000 in
set_option maxHeartbeats 4000000 in
theorem specInto (g N cap B gp : Nat) (zs : List (Value × List Int)) (L : List (Nat × Nat)) (p : Nat × Nat) (w w2 : World) (h : RZ w B (.slice (some ⟨g, 0, none⟩) N cap) zs) (hB : B ≤ w.heap.size) (hb : Below w.heap.size w w2) (hx : OwnI w2 w.heap.size (.slice (some ⟨gp, 0, none⟩) 2 2) (rowP p)) (hL : zs.map (·.2) = rowsP L) (hN : L.length = N) (hN80 : N ≤ 1000) :
    Calls Tryz.prog 143 #[.slice (some ⟨g, 0, none⟩) N cap, .slice (some ⟨gp, 0, none⟩) 2 2] w2 fun e w' => (∃ g' c' zs', e = .returned (.slice (some ⟨g', 0, none⟩) (N + 1) c') ∧ RZ w' B (.slice (some ⟨g', 0, none⟩) (N + 1) c') zs' ∧ zs'.map (·.2) = rowsP (insP L p) ∧ w2.heap.size ≤ g' ∧ zs'.Perm ((.slice (some ⟨gp, 0, none⟩) 2 2, rowP p) :: zs)) ∧ Below w2.heap.size w2 w' := by
  have h2 := h.below hb
  have hzl : zs.length = N := by have := congrArg List.length hL; rw [rowsP_len] at this; simpa [hN] using this
  have H : Hid (RZ w B (.slice (some ⟨g, 0, none⟩) N cap) zs) := h
  have H2 : Hid (RZ w2 B (.slice (some ⟨g, 0, none⟩) N cap) zs) := h2
  have HX : Hid (OwnI w2 w.heap.size (.slice (some ⟨gp, 0, none⟩) 2 2) (rowP p)) := hx
  have HB : Hid (Below w.heap.size w w2) := hb
  have HZ : Hid (zs.length = N) := hzl
  have HL : Hid (zs.map (·.2) = rowsP L) := hL
  have HN : Hid (L.length = N) := hN
  have hncap : N ≤ cap := by
    rcases h2.own.forms with ⟨e, _⟩ | ⟨_, _, e, _, _, e2, _⟩
    · cases e
    · simp only [Value.slice.injEq] at e
      obtain ⟨_, e3, rfl⟩ := e
      omega
  clear h h2 hx hb hzl hL hN
  go_enter Tryz.func143, Tryz.ntmps143
  go_wp2_with fail
  go_loopw [5] (fun i wr => ∃ (k : Nat), i = .int .i64 k ∧ k ≤ N ∧ Hid (∃ q, wr = w2.drewN q) ∧ Hid (∀ j, (hj : j < L.length) → j < k → (L[j]).1 < p.1)) (fun i _ => N - (intOf i).toNat)
  case atStart => exact ⟨0, rfl, Nat.zero_le _, ⟨0, rfl⟩, fun j _ hj => by omega⟩
  case round =>
    obtain ⟨k, rfl, hk, hq, hlt⟩ := hrel
    have hcell : ∀ a : Addr, wr.cell? a = w2.cell? a := fun a => by obtain ⟨q, rfl⟩ := hq.out; rfl
    have HCE : Hid (∀ a : Addr, wr.cell? a = w2.cell? a) := hcell
    have hwsz : wr.heap.size = w2.heap.size := by obtain ⟨q, rfl⟩ := hq.out; rfl
    have HWS : Hid (wr.heap.size = w2.heap.size) := hwsz
    have HBW : Hid (Below w2.heap.size w2 wr) := by obtain ⟨q, rfl⟩ := hq.out; exact below_draws w2 q
    clear hcell hwsz
    obtain ⟨P, hP⟩ : ∃ P, p.1 = P := ⟨_, rfl⟩
    have hp0 : wr.cell? ⟨gp, 0, none⟩ = some (.int .i64 (P : Int)) := by
      rw [HCE.out, HX.out.cellN 0 (by omega)]
      show some (Value.int .i64 ((p.1 : Nat) : Int)) = _
      rw [hP]
    have HRP : Hid (p.1 = P) := hP
    clear hP
    -- how it goes on from where the pair is to stand
    have hend : (∀ (hj : k < L.length), ¬ (L[k]).1 < p.1) → insP L p = L.take k ++ [p] ++ L.drop k := fun h => ins_at (by rw [HN.out]; exact hk) (fun j hj hjk => hlt.out j hj hjk) h
    have HEND : Hid _ := hend
    clear hend
    by_cases hkn : k < N
    · have hki : (k : Int) < (N : Int) := by omega
      have hc := H2.out.cellAt k (by rw [HZ.out]; exact hkn)
      have hr := H2.out.rowAt k (by rw [HZ.out]; exact hkn)
      rw [rows_zs HL.out (by rw [HZ.out]; exact hkn) (by rw [HN.out]; exact hkn)] at hr
      obtain ⟨u, hu⟩ : ∃ u, (zs[k]'(by rw [HZ.out]; exact hkn)).1 = u := ⟨_, rfl⟩
      rw [hu] at hc hr
      obtain ⟨A, hA⟩ : ∃ A, (L[k]'(by rw [HN.out]; exact hkn)).1 = A := ⟨_, rfl⟩
      obtain ⟨gu, cu, hue, _⟩ := OwnI.form1 hr (by simp [rowP])
      rw [show (rowP (L[k]'(by rw [HN.out]; exact hkn))).length = 2 from rfl] at hue
      subst hue
      have hu0 : wr.cell? ⟨gu, 0, none⟩ = some (.int .i64 (A : Int)) := by
        rw [HCE.out, hr.cellN 0 (by omega)]
        show some (Value.int .i64 (((L[k]'(by rw [HN.out]; exact hkn)).1 : Nat) : Int)) = _
        rw [hA]
      have hc2 : wr.cell? ⟨g, k, none⟩ = some (.slice (some ⟨gu, 0, none⟩) 2 cu) := by rw [HCE.out]; exact hc
      by_cases hd : A < P
      · have hdi : decide ((A : Int) < (P : Int)) = true := by simp; omega
        have hdn : decide (A < P) = true := by simpa using hd
        have hstep : Hid (∀ j, (hj : j < L.length) → j < k + 1 → (L[j]).1 < p.1) := fun j hj hjk => by
          by_cases e : j = k
          · subst e; rw [hA, HRP.out]; exact hd
          · exact hlt.out j hj (by omega)
        clear hd hA hu hc hr
        go_wp2_with fail
        go_quiet (fail)
        go_wp2_with fail
        go_roundw
        case rel => exact ⟨k + 1, by go_num, by omega, by obtain ⟨q, e⟩ := hq.out; exact ⟨q + nq, by rw [e]; simp⟩, hstep.out⟩
        case measure => simp only [intOf]; omega
      · have hdi : decide ((A : Int) < (P : Int)) = false := by simp; omega
        have hdn : decide (A < P) = false := by simpa using hd
        have HINS : Hid (insP L p = L.take k ++ [p] ++ L.drop k) := HEND.out (fun hj => by rw [hA, HRP.out]; exact hd)
        clear hd hA hu hc hr
        go_wp2_with fail
        go_quiet (fail)
        go_wp2_with fail
        obtain ⟨U, hU⟩ : ∃ U, wr.drewN nq = U := ⟨_, rfl⟩
        rw [hU]
        have HBU : Hid (Below w2.heap.size w2 U) := by rw [← hU]; exact bstep HBW.out (below_draws wr nq)
        have HUC : Hid (∀ j, (hj : j < zs.length) → U.cell? ⟨g, j, none⟩ = some (zs[j]).1) := fun j hj => by rw [← hU]; exact (HCE.out _).trans (H2.out.cellAt j hj)
        have HGU : Hid (g < U.heap.size) := Nat.lt_of_lt_of_le (H2.out.lt g rfl).2 HBU.out.size
        have HONE : Hid (∀ u ∈ zs.map (·.1), u.oneCell' = true) := by
          intro u hu
          rw [List.mem_map] at hu
          obtain ⟨q, hq, rfl⟩ := hu
          obtain ⟨a, n, c, e, _⟩ := OwnI.slicZ (H.out.row q hq)
          rw [e]; rfl
        have HTK : Hid (∀ (W : World), Below U.heap.size U W → ∀ j u, ((zs.take k).map (·.1))[j]? = some u → W.cell? ⟨g, 0 + j, none⟩ = some u) := fun W hW j u hj => by
          have hj2 : j < (zs.take k).length := by
            rcases Nat.lt_or_ge j (zs.take k).length with q | q
            · exact q
            · rw [List.getElem?_eq_none (by simpa using q)] at hj; cases hj
          rw [List.length_take] at hj2
          rw [Nat.zero_add, hW.cell (p := ⟨g, j, none⟩) HGU.out, HUC.out j (by omega)]
          simp [show j < zs.length by omega, show j < k by omega] at hj
          rw [hj]
        have HDR : Hid (∀ (W : World), Below U.heap.size U W → ∀ j u, ((zs.drop k).map (·.1))[j]? = some u → W.cell? ⟨g, k + j, none⟩ = some u) := fun W hW j u hj => by
          have hj2 : j < (zs.drop k).length := by
            rcases Nat.lt_or_ge j (zs.drop k).length with q | q
            · exact q
            · rw [List.getElem?_eq_none (by simpa using q)] at hj; cases hj
          rw [List.length_drop] at hj2
          rw [hW.cell (p := ⟨g, k + j, none⟩) HGU.out, HUC.out (k + j) (by omega)]
          simp [show k + j < zs.length by omega] at hj
          rw [hj]
        have HDN : Hid (k = N → ∀ (W : World) (off : Nat) j u, ((zs.drop k).map (·.1))[j]? = some u → W.cell? ⟨g, off + j, none⟩ = some u) := fun e W off j u hj => by
          rw [List.drop_eq_nil_of_le (by rw [HZ.out]; omega)] at hj; simp at hj
        have HTL : Hid (((zs.take k).map (·.1)).length = k) := by unfold Hid; rw [List.length_map, List.length_take, HZ.out]; omega
        have HDL : Hid (((zs.drop k).map (·.1)).length = N - k) := by unfold Hid; rw [List.length_map, List.length_drop, HZ.out]
        have hck : ¬ cap = k := by omega
        have hk0 : (0 : Int) ≤ (k : Int) := by omega
        have hkN : (k : Int) ≤ (N : Int) := by omega
        have hNc : (N : Int) ≤ (cap : Int) := by omega
        have hkc : (k : Int) ≤ (cap : Int) := by omega
        have HUZ : Hid (U.heap.size = w2.heap.size) := by rw [← hU]; exact HWS.out
        clear hU
        have BelowD : Hid (∀ {W : World}, Below U.heap.size U W → Below U.heap.size U W.drew) := fun h => h.drew
        go_region_law (first
          | (have tok31 := B31; refine step_appU (U := U) (n := 0 + k + 1) (m := N - k) (ys := (zs.drop k).map (·.1)) (.tmp 31) (.tmp 34) rfl rfl rfl rfl (show Below _ _ _ from B31.out) (show OwnV _ _ _ _ _ _ _ from O31.out) HDL.out ?_ (fun u hu => HONE.out u (List.map_subset _ (List.drop_subset _ _) hu)) (by omega) ?_; (first | exact HDR.out _ (show Below _ _ _ from B31.out) | exact HDN.out HKN.out _ _); intro v35 w35 ho35 hb35 hg35 hv35; have O35 : Hid (OwnV 23 1 w35 U.heap.size v35 (0 + k + 1 + (N - k)) ([] ++ (zs.take k).map (·.1) ++ [.slice (some ⟨gp, 0, none⟩) 2 2] ++ (zs.drop k).map (·.1))) := ho35; have B35 : Hid (Below U.heap.size U w35) := hb35; clear ho35 hb35 hg35 hv35)
          | (have tok28 := B28; refine step_appU (U := U) (n := 0 + k) (m := 1) (xs := [] ++ (zs.take k).map (·.1)) (ys := [.slice (some ⟨gp, 0, none⟩) 2 2]) (.tmp 28) (.tmp 30) rfl rfl rfl rfl ?_ ?_ rfl ?_ (fun u hu => by simp at hu; subst hu; rfl) (by omega) ?_; (first | exact B28.out | exact B28.out.alloc B28.out.size _); (first | exact O28.out | exact OwnV.alloc O28.out _); (first | exact one_src c28 | exact one_src (cell_of_row _ _ 0 _ _ (0, 0) (heap_alloc_new w28 _))); intro v31 w31 ho31 hb31 hg31 hv31; have O31 : Hid (OwnV 23 1 w31 U.heap.size v31 (0 + k + 1) ([] ++ (zs.take k).map (·.1) ++ [.slice (some ⟨gp, 0, none⟩) 2 2])) := ho31; have B31 : Hid (Below U.heap.size U w31) := hb31; clear ho31 hb31 hg31 hv31)
          | (refine step_appU (U := U) (n := 0) (m := k) (xs := []) (ys := (zs.take k).map (·.1)) (.tmp 24) (.tmp 27) rfl rfl rfl rfl ?_ ?_ HTL.out (HTK.out _ ?_) (fun u hu => HONE.out u (List.map_subset _ (List.take_subset _ _) hu)) (by omega) ?_; (first | exact ((Below.refl _ _).alloc (Nat.le_refl _) _).drew | exact (((Below.refl _ _).alloc (Nat.le_refl _) _).alloc (by simp) _).drew); (first | exact OwnV.empty _ _ _ _ _ (by simp) rfl | exact OwnV.alloc (OwnV.empty _ _ _ _ _ (by simp) rfl) _ | exact ownE2 U _); (first | exact ((Below.refl _ _).alloc (Nat.le_refl _) _).drew | exact (((Below.refl _ _).alloc (Nat.le_refl _) _).alloc (by simp) _).drew); intro v28 w28 ho28 hb28 hg28 hv28; have O28 : Hid (OwnV 23 1 w28 U.heap.size v28 (0 + k) ([] ++ (zs.take k).map (·.1))) := ho28; have B28 : Hid (Below U.heap.size U w28) := hb28; (first | have c28 := c28a hg28 | have c28 := c28b hg28 | skip); clear ho28 hb28 hg28 hv28))
        all_goals
          go_wp2_with fail
          go_ret
          obtain ⟨g', c', zs', hv, hz, hm, hgg, hpp⟩ := into_end H.out hB HB.out HX.out HL.out HN.out hk HINS.out (HBU.out.trans (B35.out.mono HBU.out.size)) (HUZ.out ▸ O35.out)
          subst hv
          exact ⟨⟨g', c', rfl, zs', hz, hm, hgg, hpp⟩, HBU.out.trans (B35.out.mono HBU.out.size)⟩
    · have e : k = N := by omega
      have HINS : Hid (insP L p = L.take k ++ [p] ++ L.drop k) := HEND.out (fun hj => by rw [HN.out] at hj; omega)
      have HKN : Hid (k = N) := e
      have hki : ¬ (k : Int) < (N : Int) := by omega
      have hkd : decide ((k : Int) < (N : Int)) = false := by simpa using hki
      clear e
      by_cases hck : cap = k
      · have hci : (cap : Int) = (k : Int) := by omega
        go_wp2_with fail
        go_quiet (fail)
        go_wp2_with fail
        obtain ⟨U, hU⟩ : ∃ U, wr.drewN nq = U := ⟨_, rfl⟩
        rw [hU]
        have HBU : Hid (Below w2.heap.size w2 U) := by rw [← hU]; exact bstep HBW.out (below_draws wr nq)
        have HUC : Hid (∀ j, (hj : j < zs.length) → U.cell? ⟨g, j, none⟩ = some (zs[j]).1) := fun j hj => by rw [← hU]; exact (HCE.out _).trans (H2.out.cellAt j hj)
        have HGU : Hid (g < U.heap.size) := Nat.lt_of_lt_of_le (H2.out.lt g rfl).2 HBU.out.size
        have HONE : Hid (∀ u ∈ zs.map (·.1), u.oneCell' = true) := by
          intro u hu
          rw [List.mem_map] at hu
          obtain ⟨q, hq, rfl⟩ := hu
          obtain ⟨a, n, c, e, _⟩ := OwnI.slicZ (H.out.row q hq)
          rw [e]; rfl
        have HTK : Hid (∀ (W : World), Below U.heap.size U W → ∀ j u, ((zs.take k).map (·.1))[j]? = some u → W.cell? ⟨g, 0 + j, none⟩ = some u) := fun W hW j u hj => by
          have hj2 : j < (zs.take k).length := by
            rcases Nat.lt_or_ge j (zs.take k).length with q | q
            · exact q
            · rw [List.getElem?_eq_none (by simpa using q)] at hj; cases hj
          rw [List.length_take] at hj2
          rw [Nat.zero_add, hW.cell (p := ⟨g, j, none⟩) HGU.out, HUC.out j (by omega)]
          simp [show j < zs.length by omega, show j < k by omega] at hj
          rw [hj]
        have HDR : Hid (∀ (W : World), Below U.heap.size U W → ∀ j u, ((zs.drop k).map (·.1))[j]? = some u → W.cell? ⟨g, k + j, none⟩ = some u) := fun W hW j u hj => by
          have hj2 : j < (zs.drop k).length := by
            rcases Nat.lt_or_ge j (zs.drop k).length with q | q
            · exact q
            · rw [List.getElem?_eq_none (by simpa using q)] at hj; cases hj
          rw [List.length_drop] at hj2
          rw [hW.cell (p := ⟨g, k + j, none⟩) HGU.out, HUC.out (k + j) (by omega)]
          simp [show k + j < zs.length by omega] at hj
          rw [hj]
        have HDN : Hid (k = N → ∀ (W : World) (off : Nat) j u, ((zs.drop k).map (·.1))[j]? = some u → W.cell? ⟨g, off + j, none⟩ = some u) := fun e W off j u hj => by
          rw [List.drop_eq_nil_of_le (by rw [HZ.out]; omega)] at hj; simp at hj
        have HTL : Hid (((zs.take k).map (·.1)).length = k) := by unfold Hid; rw [List.length_map, List.length_take, HZ.out]; omega
        have HDL : Hid (((zs.drop k).map (·.1)).length = N - k) := by unfold Hid; rw [List.length_map, List.length_drop, HZ.out]
        have hk0 : (0 : Int) ≤ (k : Int) := by omega
        have hkN : (k : Int) ≤ (N : Int) := by omega
        have hNc : (N : Int) ≤ (cap : Int) := by omega
        have hkc : (k : Int) ≤ (cap : Int) := by omega
        have HUZ : Hid (U.heap.size = w2.heap.size) := by rw [← hU]; exact HWS.out
        clear hU
        have BelowD : Hid (∀ {W : World}, Below U.heap.size U W → Below U.heap.size U W.drew) := fun h => h.drew
        go_region_law (first
          | (have tok31 := B31; refine step_appU (U := U) (n := 0 + k + 1) (m := N - k) (ys := (zs.drop k).map (·.1)) (.tmp 31) (.tmp 34) rfl rfl rfl rfl (show Below _ _ _ from B31.out) (show OwnV _ _ _ _ _ _ _ from O31.out) HDL.out ?_ (fun u hu => HONE.out u (List.map_subset _ (List.drop_subset _ _) hu)) (by omega) ?_; (first | exact HDR.out _ (show Below _ _ _ from B31.out) | exact HDN.out HKN.out _ _); intro v35 w35 ho35 hb35 hg35 hv35; have O35 : Hid (OwnV 23 1 w35 U.heap.size v35 (0 + k + 1 + (N - k)) ([] ++ (zs.take k).map (·.1) ++ [.slice (some ⟨gp, 0, none⟩) 2 2] ++ (zs.drop k).map (·.1))) := ho35; have B35 : Hid (Below U.heap.size U w35) := hb35; clear ho35 hb35 hg35 hv35)
          | (have tok28 := B28; refine step_appU (U := U) (n := 0 + k) (m := 1) (xs := [] ++ (zs.take k).map (·.1)) (ys := [.slice (some ⟨gp, 0, none⟩) 2 2]) (.tmp 28) (.tmp 30) rfl rfl rfl rfl ?_ ?_ rfl ?_ (fun u hu => by simp at hu; subst hu; rfl) (by omega) ?_; (first | exact B28.out | exact B28.out.alloc B28.out.size _); (first | exact O28.out | exact OwnV.alloc O28.out _); (first | exact one_src c28 | exact one_src (cell_of_row _ _ 0 _ _ (0, 0) (heap_alloc_new w28 _))); intro v31 w31 ho31 hb31 hg31 hv31; have O31 : Hid (OwnV 23 1 w31 U.heap.size v31 (0 + k + 1) ([] ++ (zs.take k).map (·.1) ++ [.slice (some ⟨gp, 0, none⟩) 2 2])) := ho31; have B31 : Hid (Below U.heap.size U w31) := hb31; clear ho31 hb31 hg31 hv31)
          | (refine step_appU (U := U) (n := 0) (m := k) (xs := []) (ys := (zs.take k).map (·.1)) (.tmp 24) (.tmp 27) rfl rfl rfl rfl ?_ ?_ HTL.out (HTK.out _ ?_) (fun u hu => HONE.out u (List.map_subset _ (List.take_subset _ _) hu)) (by omega) ?_; (first | exact ((Below.refl _ _).alloc (Nat.le_refl _) _).drew | exact (((Below.refl _ _).alloc (Nat.le_refl _) _).alloc (by simp) _).drew); (first | exact OwnV.empty _ _ _ _ _ (by simp) rfl | exact OwnV.alloc (OwnV.empty _ _ _ _ _ (by simp) rfl) _ | exact ownE2 U _); (first | exact ((Below.refl _ _).alloc (Nat.le_refl _) _).drew | exact (((Below.refl _ _).alloc (Nat.le_refl _) _).alloc (by simp) _).drew); intro v28 w28 ho28 hb28 hg28 hv28; have O28 : Hid (OwnV 23 1 w28 U.heap.size v28 (0 + k) ([] ++ (zs.take k).map (·.1))) := ho28; have B28 : Hid (Below U.heap.size U w28) := hb28; (first | have c28 := c28a hg28 | have c28 := c28b hg28 | skip); clear ho28 hb28 hg28 hv28))
        all_goals
          go_wp2_with fail
          go_ret
          obtain ⟨g', c', zs', hv, hz, hm, hgg, hpp⟩ := into_end H.out hB HB.out HX.out HL.out HN.out hk HINS.out (HBU.out.trans (B35.out.mono HBU.out.size)) (HUZ.out ▸ O35.out)
          subst hv
          exact ⟨⟨g', c', rfl, zs', hz, hm, hgg, hpp⟩, HBU.out.trans (B35.out.mono HBU.out.size)⟩
      · have hci : ¬ (cap : Int) = (k : Int) := by omega
        go_wp2_with fail
        go_quiet (fail)
        go_wp2_with fail
        obtain ⟨U, hU⟩ : ∃ U, wr.drewN nq = U := ⟨_, rfl⟩
        rw [hU]
        have HBU : Hid (Below w2.heap.size w2 U) := by rw [← hU]; exact bstep HBW.out (below_draws wr nq)
        have HUC : Hid (∀ j, (hj : j < zs.length) → U.cell? ⟨g, j, none⟩ = some (zs[j]).1) := fun j hj => by rw [← hU]; exact (HCE.out _).trans (H2.out.cellAt j hj)
        have HGU : Hid (g < U.heap.size) := Nat.lt_of_lt_of_le (H2.out.lt g rfl).2 HBU.out.size
        have HONE : Hid (∀ u ∈ zs.map (·.1), u.oneCell' = true) := by
          intro u hu
          rw [List.mem_map] at hu
          obtain ⟨q, hq, rfl⟩ := hu
          obtain ⟨a, n, c, e, _⟩ := OwnI.slicZ (H.out.row q hq)
          rw [e]; rfl
        have HTK : Hid (∀ (W : World), Below U.heap.size U W → ∀ j u, ((zs.take k).map (·.1))[j]? = some u → W.cell? ⟨g, 0 + j, none⟩ = some u) := fun W hW j u hj => by
          have hj2 : j < (zs.take k).length := by
            rcases Nat.lt_or_ge j (zs.take k).length with q | q
            · exact q
            · rw [List.getElem?_eq_none (by simpa using q)] at hj; cases hj
          rw [List.length_take] at hj2
          rw [Nat.zero_add, hW.cell (p := ⟨g, j, none⟩) HGU.out, HUC.out j (by omega)]
          simp [show j < zs.length by omega, show j < k by omega] at hj
          rw [hj]
        have HDR : Hid (∀ (W : World), Below U.heap.size U W → ∀ j u, ((zs.drop k).map (·.1))[j]? = some u → W.cell? ⟨g, k + j, none⟩ = some u) := fun W hW j u hj => by
          have hj2 : j < (zs.drop k).length := by
            rcases Nat.lt_or_ge j (zs.drop k).length with q | q
            · exact q
            · rw [List.getElem?_eq_none (by simpa using q)] at hj; cases hj
          rw [List.length_drop] at hj2
          rw [hW.cell (p := ⟨g, k + j, none⟩) HGU.out, HUC.out (k + j) (by omega)]
          simp [show k + j < zs.length by omega] at hj
          rw [hj]
        have HDN : Hid (k = N → ∀ (W : World) (off : Nat) j u, ((zs.drop k).map (·.1))[j]? = some u → W.cell? ⟨g, off + j, none⟩ = some u) := fun e W off j u hj => by
          rw [List.drop_eq_nil_of_le (by rw [HZ.out]; omega)] at hj; simp at hj
        have HTL : Hid (((zs.take k).map (·.1)).length = k) := by unfold Hid; rw [List.length_map, List.length_take, HZ.out]; omega
        have HDL : Hid (((zs.drop k).map (·.1)).length = N - k) := by unfold Hid; rw [List.length_map, List.length_drop, HZ.out]
        have hk0 : (0 : Int) ≤ (k : Int) := by omega
        have hkN : (k : Int) ≤ (N : Int) := by omega
        have hNc : (N : Int) ≤ (cap : Int) := by omega
        have hkc : (k : Int) ≤ (cap : Int) := by omega
        have HUZ : Hid (U.heap.size = w2.heap.size) := by rw [← hU]; exact HWS.out
        clear hU
        have BelowD : Hid (∀ {W : World}, Below U.heap.size U W → Below U.heap.size U W.drew) := fun h => h.drew
        go_region_law (first
          | (have tok31 := B31; refine step_appU (U := U) (n := 0 + k + 1) (m := N - k) (ys := (zs.drop k).map (·.1)) (.tmp 31) (.tmp 34) rfl rfl rfl rfl (show Below _ _ _ from B31.out) (show OwnV _ _ _ _ _ _ _ from O31.out) HDL.out ?_ (fun u hu => HONE.out u (List.map_subset _ (List.drop_subset _ _) hu)) (by omega) ?_; (first | exact HDR.out _ (show Below _ _ _ from B31.out) | exact HDN.out HKN.out _ _); intro v35 w35 ho35 hb35 hg35 hv35; have O35 : Hid (OwnV 23 1 w35 U.heap.size v35 (0 + k + 1 + (N - k)) ([] ++ (zs.take k).map (·.1) ++ [.slice (some ⟨gp, 0, none⟩) 2 2] ++ (zs.drop k).map (·.1))) := ho35; have B35 : Hid (Below U.heap.size U w35) := hb35; clear ho35 hb35 hg35 hv35)
          | (have tok28 := B28; refine step_appU (U := U) (n := 0 + k) (m := 1) (xs := [] ++ (zs.take k).map (·.1)) (ys := [.slice (some ⟨gp, 0, none⟩) 2 2]) (.tmp 28) (.tmp 30) rfl rfl rfl rfl ?_ ?_ rfl ?_ (fun u hu => by simp at hu; subst hu; rfl) (by omega) ?_; (first | exact B28.out | exact B28.out.alloc B28.out.size _); (first | exact O28.out | exact OwnV.alloc O28.out _); (first | exact one_src c28 | exact one_src (cell_of_row _ _ 0 _ _ (0, 0) (heap_alloc_new w28 _))); intro v31 w31 ho31 hb31 hg31 hv31; have O31 : Hid (OwnV 23 1 w31 U.heap.size v31 (0 + k + 1) ([] ++ (zs.take k).map (·.1) ++ [.slice (some ⟨gp, 0, none⟩) 2 2])) := ho31; have B31 : Hid (Below U.heap.size U w31) := hb31; clear ho31 hb31 hg31 hv31)
          | (refine step_appU (U := U) (n := 0) (m := k) (xs := []) (ys := (zs.take k).map (·.1)) (.tmp 24) (.tmp 27) rfl rfl rfl rfl ?_ ?_ HTL.out (HTK.out _ ?_) (fun u hu => HONE.out u (List.map_subset _ (List.take_subset _ _) hu)) (by omega) ?_; (first | exact ((Below.refl _ _).alloc (Nat.le_refl _) _).drew | exact (((Below.refl _ _).alloc (Nat.le_refl _) _).alloc (by simp) _).drew); (first | exact OwnV.empty _ _ _ _ _ (by simp) rfl | exact OwnV.alloc (OwnV.empty _ _ _ _ _ (by simp) rfl) _ | exact ownE2 U _); (first | exact ((Below.refl _ _).alloc (Nat.le_refl _) _).drew | exact (((Below.refl _ _).alloc (Nat.le_refl _) _).alloc (by simp) _).drew); intro v28 w28 ho28 hb28 hg28 hv28; have O28 : Hid (OwnV 23 1 w28 U.heap.size v28 (0 + k) ([] ++ (zs.take k).map (·.1))) := ho28; have B28 : Hid (Below U.heap.size U w28) := hb28; (first | have c28 := c28a hg28 | have c28 := c28b hg28 | skip); clear ho28 hb28 hg28 hv28))
        all_goals
          go_wp2_with fail
          go_ret
          obtain ⟨g', c', zs', hv, hz, hm, hgg, hpp⟩ := into_end H.out hB HB.out HX.out HL.out HN.out hk HINS.out (HBU.out.trans (B35.out.mono HBU.out.size)) (HUZ.out ▸ O35.out)
          subst hv
          exact ⟨⟨g', c', rfl, zs', hz, hm, hgg, hpp⟩, HBU.out.trans (B35.out.mono HBU.out.size)⟩
end Go.Proofs.YtgojdlbidjnmmaaGreat
