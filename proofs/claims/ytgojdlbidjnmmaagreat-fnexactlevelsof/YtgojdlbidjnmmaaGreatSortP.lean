import Derived.Test.YtgojdlbidjnmmaaGreatSortW
import Derived.Test.YtgojdlbidjnmmaaGreatShelf
import Derived.Deep.QuietTactic
import Derived.BigQuiet
namespace Go.Proofs.YtgojdlbidjnmmaaGreat
open Go.ChangeShapes Go.WideShapes Go.ChangeAt Go.RowKit
set_option linter.unusedSimpArgs false
set_option linter.unusedVariables false

set_option maxHeartbeats 1000000 in
theorem cmpPair (gu cu gv cv : Nat) (x y : Int) (W : World) (hx : W.cell? ⟨gu, 0, none⟩ = some (.int .i64 x)) (hy : W.cell? ⟨gv, 0, none⟩ = some (.int .i64 y)) (h0 : 0 ≤ x) (h1 : x ≤ 1000) (h2 : 0 ≤ y) (h3 : y ≤ 1000) :
    Calls Tryz.prog 108 #[.slice (some ⟨gu, 0, none⟩) 2 cu, .slice (some ⟨gv, 0, none⟩) 2 cv] W fun e w' => e = .returned (.int .i64 (x - y)) ∧ ∃ q, w' = W.drewN q := by
  go_enter Tryz.func108, Tryz.ntmps108
  go_wp2_with fail
  go_quiet (fail)
  go_wp2_with fail
  go_ret
  exact ⟨rfl, _, rfl⟩
theorem ins_none (p : Option Addr) (cap : Nat) (fv : Value) (w : World) : Calls Tryz.prog 144 #[.slice p 0 cap, .int .i64 0, .int .i64 0, fv] w fun e w' => e = .returned (.tuple #[]) ∧ w' = w := by
  go_enter Tryz.func144, Tryz.ntmps144
  go_wp2
  go_rounds 1
  go_end0
  exact ⟨rfl, rfl⟩
theorem pdq_none (p : Option Addr) (cap : Nat) (lim : Int) (fv : Value) (w : World) : Calls Tryz.prog 136 #[.slice p 0 cap, .int .i64 0, .int .i64 0, .int .i64 lim, fv] w fun e w' => e = .returned (.tuple #[]) ∧ w' = w := by
  go_enter Tryz.func136, Tryz.ntmps136
  go_wp2
  refine wp_loop_rounds 1 ?_
  rw [rounds_succ]
  go_wp2_with (go_at_call 144; refine (ins_none _ _ _ _).mono ?_; rintro e w' ⟨rfl, rfl⟩)
  (try simp only [Exit.inBlock, Exit.then]); refine bodyPost_ret (results_none rfl _ _ _) rfl ?_
  exact ⟨rfl, rfl⟩
theorem sort_none (v : Option Addr) (c : Nat) (w : World) : Calls Tryz.prog 107 #[.slice v 0 c, .func (.func 108) #[] #[]] w fun e w' => e = .returned (.tuple #[]) ∧ w' = w := by
  have hl : ∀ W, Calls Tryz.prog 137 #[.int .u64 0] W fun e w' => e = .returned (.int .i64 (Lib.bitLen 0 : Nat)) ∧ w' = W := fun W => Tryz.bits_Len 0 W (by omega) (by omega)
  go_enter Tryz.func107, Tryz.ntmps107
  go_wp2_with (first | (go_at_call 137; refine (hl _).mono ?_; rintro e w' ⟨rfl, rfl⟩) | (go_at_call 136; refine (pdq_none _ _ _ _ _).mono ?_; rintro e w' ⟨rfl, rfl⟩))
  go_end0
  exact ⟨rfl, rfl⟩
theorem ofFn_all {β : Type} {m : Nat} {l : List β} (h : l.length = m) : (Array.ofFn (fun i : Fin m => i)).toList.map (fun i => l[i.1]'(by rw [h]; exact i.2)) = l := by
  apply List.ext_getElem
  · simp [h]
  · intro j h1 h2
    rw [List.getElem_map]
    have hv : ((Array.ofFn (fun i : Fin m => i)).toList[j]'(by simpa using h1)).1 = j := by rw [Array.getElem_toList, Array.getElem_ofFn]
    simp only [hv]
theorem ext_all {α : Type} (d : Array α) (n : Nat) (h : d.size = n) : d.extract 0 n = d := by subst h; exact Array.extract_size
set_option maxHeartbeats 1000000 in
theorem implSort (g M cap B : Nat) (zs : List (Value × List Int)) (P : List (Nat × Nat)) (w : World) (h : RZ w B (.slice (some ⟨g, 0, none⟩) (M + 1) cap) zs) (hP : zs.map (·.2) = rowsP P) (hne : P.Pairwise (fun a b => a.1 ≠ b.1)) (hb : ∀ p ∈ P, p.1 ≤ 1000) (hM : M ≤ 1000) :
    Calls Tryz.prog 107 #[.slice (some ⟨g, 0, none⟩) (M + 1) cap, .func (.func 108) #[] #[]] w fun e w' => e = .returned (.tuple #[]) ∧ (∃ zs', RZ w' B (.slice (some ⟨g, 0, none⟩) (M + 1) cap) zs' ∧ zs'.map (·.2) = rowsP (srtB P)) ∧ Below B w w' := by
  have hzl : zs.length = M + 1 := by
    obtain ⟨_, _, e⟩ := h.slc
    simp only [Value.slice.injEq] at e
    omega
  have hPl : P.length = M + 1 := by have := congrArg List.length hP; rw [rowsP_len, List.length_map] at this; omega
  have hrow : ∀ i : Fin (M + 1), (zs[i.1]'(by omega)).2 = rowP (P[i.1]'(by omega)) := fun i => by
    have := congrArg (fun l => l[i.1]?) hP
    simpa [rowsP, hzl, hPl, i.2] using this
  let _i : Inhabited (Fin (M + 1)) := ⟨⟨0, by omega⟩⟩
  let enc : Fin (M + 1) → Value := fun i => (zs[i.1]'(by omega)).1
  let a : Fin (M + 1) → Nat := fun i => (P[i.1]'(by omega)).1
  let cf : Fin (M + 1) → Fin (M + 1) → Int := fun i j => (a i : Int) - (a j : Int)
  let d : Array (Fin (M + 1)) := Array.ofFn fun i => i
  have hds : d.size = M + 1 := Array.size_ofFn
  have hdj : ∀ j, (hj : j < M + 1) → d[j]! = ⟨j, hj⟩ := fun j hj => by
    rw [getElem!_pos d j (by rw [hds]; exact hj)]; simp [d]
  have hlt : ∀ i j, ltOf cf i j = decide (a i < a j) := fun i j => by
    unfold ltOf; simp only [cf]; rw [decide_eq_decide]; omega
  have hO : Go.Sort.SWO (ltOf cf) := ⟨fun x => by rw [hlt]; simp, fun x y z h1 h2 => by rw [hlt] at *; simp at *; omega, fun x y z h1 h2 => by rw [hlt] at *; simp at *; omega⟩
  have hform : ∀ i : Fin (M + 1), ∃ gu cu, enc i = .slice (some ⟨gu, 0, none⟩) 2 cu ∧ gu < w.heap.size ∧ gu ≠ g ∧ w.cell? ⟨gu, 0, none⟩ = some (.int .i64 (a i : Int)) := fun i => by
    have hr := h.rowAt i.1 (by omega)
    have hap := h.apv _ (List.getElem_mem (l := zs) (n := i.1) (by omega))
    rw [hrow i] at hr
    obtain ⟨gu, cu, e, _⟩ := OwnI.form1 hr (by simp [rowP])
    have hl2 : (rowP (P[i.1]'(by omega))).length = 2 := rfl
    rw [hl2] at e
    rw [e] at hr hap
    refine ⟨gu, cu, e, (hr.lt gu rfl).2, fun e2 => hap g rfl (by rw [e2]; rfl), ?_⟩
    rw [hr.cellN 0 (by omega)]; rfl
  have hone : OneCell enc := fun i => by obtain ⟨gu, cu, e, _⟩ := hform i; rw [e]; rfl
  have ha : ∀ i, a i ≤ 1000 := fun i => hb _ (List.getElem_mem _)
  have hcmp : CmpReads Tryz.prog 108 #[] enc cf g 0 d.size w := fun m os dk hs x y => by
    obtain ⟨gu, cu, e1, l1, n1, c1⟩ := hform x
    obtain ⟨gv, cv, e2, l2, n2, c2⟩ := hform y
    rw [e1, e2]
    have hown := h.own
    rw [hzl] at hown
    have hkeep := (sorted_world (enc := enc) (n := m) (os := os) hown (hs.trans hds)).2.2
    exact cmpPair gu cu gv cv _ _ _ ((World.cell?_of_block (hkeep gu l1 n1)).trans c1) ((World.cell?_of_block (hkeep gv l2 n2)).trans c2) (by omega) (by have := ha x; omega) (by omega) (by have := ha y; omega)
  have hH : Go.Sort.Holds enc w g 0 d := fun j hj => by
    rw [hds] at hj
    refine ⟨?_, ?_⟩
    · rw [hdj j hj, Nat.zero_add, h.cellAt j (by omega)]
    · have := h.own; rw [hzl] at this; rw [Nat.zero_add]; exact this.frozen j
  have hcon := Tryz.slices_SortFunc enc hone cf hO 108 #[] g 0 cap d w (enters_of Tryz.func108 (by kernel_rfl) rfl) hcmp.lays hH ((h.lt g rfl).2) (by rw [hds]; omega)
  rw [hds] at hcon
  refine hcon.mono ?_
  rintro e w' ⟨rfl, d', n, os, hp, hs, rfl⟩
  obtain ⟨hp1, _, hp3⟩ := hp
  rw [hds] at hp1
  have hdf : d'.toList.Perm d.toList := by
    have e1 : d'.extract 0 (M + 1) = d' := ext_all d' _ hp1
    have e2 : d.extract 0 (M + 1) = d := ext_all d _ hds
    rwa [e1, e2] at hp3
  have hdl : d.toList.map (fun i => zs[i.1]'(by omega)) = zs := ofFn_all hzl
  have hdp : d.toList.map (fun i => P[i.1]'(by omega)) = P := ofFn_all hPl
  have hzp : (d'.toList.map (fun i => zs[i.1]'(by omega))).Perm zs := by
    have := hdf.map (fun i : Fin (M + 1) => zs[i.1]'(by omega)); rwa [hdl] at this
  have hpp : (d'.toList.map (fun i => P[i.1]'(by omega))).Perm P := by
    have := hdf.map (fun i : Fin (M + 1) => P[i.1]'(by omega)); rwa [hdp] at this
  have hsrt : d'.toList.map (fun i => P[i.1]'(by omega)) = srtB P := by
    refine srt_uniq hpp hne ?_
    rw [List.pairwise_iff_getElem]
    intro i j hi hj hij
    simp only [List.length_map, Array.length_toList] at hi hj
    have := hs i j (Nat.zero_le _) hij (by omega)
    rw [hlt, getElem!_pos d' i hi, getElem!_pos d' j hj] at this
    simpa [a] using this
  obtain ⟨ho, hsz, hkeep⟩ := sorted_world (enc := enc) (n := n) (os := os) (d' := d') (by have := h.own; rw [hzl] at this; exact this) hp1
  have hgB := h.lt g rfl
  refine ⟨rfl, ⟨_, h.perm hzp ?_ (fun b hb hne => hkeep b hb (fun e => hne (by rw [e]; rfl))), ?_⟩, rfl, rfl, rfl, hsz, fun b hb => hkeep b (by omega) (by omega)⟩
  · have e1 : (d'.toList.map (fun i => zs[i.1]'(by omega))).length = M + 1 := by simp [hp1]
    rw [e1, List.map_map]; exact ho
  · rw [← hsrt, List.map_map, rowsP, List.map_map]
    apply List.map_congr_left
    intro i _
    exact hrow i
end Go.Proofs.YtgojdlbidjnmmaaGreat
