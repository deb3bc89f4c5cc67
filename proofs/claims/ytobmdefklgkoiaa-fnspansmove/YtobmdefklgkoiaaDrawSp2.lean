import Derived.Test.YtobmdefklgkoiaaDrawSp
namespace Go.Proofs.Ytobmdefklgkoiaa
open Go.ChangeShapes Go.WideShapes Go.ChangeAt Go.RowKit
set_option linter.unusedSimpArgs false

theorem infoS4 : ∃ i z, Try.prog.info? 32 = some i ∧ i.size = 4 ∧ i.bytes = 32 ∧ i.zero = some z ∧ z.cells.size = 4 := by
  obtain ⟨i0, hi, hz1, hz2⟩ : ∃ i, Try.prog.info? 32 = some i ∧ i.size = 4 ∧ i.bytes = 32 := by
    have := infoS
    cases hh : Try.prog.info? 32 with
    | none => rw [hh] at this; cases this
    | some i => rw [hh] at this; simp at this; exact ⟨i, rfl, this⟩
  obtain ⟨z, hz0, hzc⟩ : ∃ z, i0.zero = some z ∧ z.cells.size = 4 := by
    have := infoSz
    rw [hi] at this
    cases hh : i0.zero with
    | none => simp [hh] at this
    | some z => simp [hh] at this; exact ⟨z, rfl, this⟩
  exact ⟨i0, z, hi, hz1, hz2, hz0, hzc⟩

/-- 'append(out, more...)' of spans. -/
theorem own_appendAllS {ops : Array Oper} {rest : List Oper} {o : Oper} {a : Act} {Q : Exit → Act → World → Prop} {wr : World} {v : Value} {l m : List Int} {B n b off k c : Nat} (s x : Operand) (hown : OwnS wr B v n l) (hk : m.length = k * 4) (hl : n + k ≤ 1048576) (hB : B ≤ wr.heap.size) (hat : ∀ j, j < k * 4 → wr.cell? ⟨b, off + j, none⟩ = some (.int .i64 (fn m j)))
    (hgd : o.guard = none) (ho : o.op = .call { callee := .builtin .append, args := #[s, x], argTypes := #[23, 23] }) (hs : a.eval s = v)
    (hx : a.eval x = .slice (some ⟨b, off, none⟩) k c)
    (h : ∀ v' w', OwnS w' B v' (n + k) (l ++ m) → wr.grownBy w' v.ownBlock → wpList Try.prog ops Q rest (a.put o.dst v') w') :
    wpList Try.prog ops Q (o :: rest) a wr := by
  obtain ⟨i0, z, hi, hz1, hz2, hz0, hzc⟩ := infoS4
  refine wpList_append_own _ hgd s x 23 ho B 32 i0 z 4 32 Try.underlying23 hi hz0 hz1 hz2 hzc (by decide) v n (l.map (Value.int .i64)) hs hown ⟨b, off, none⟩ k c (m.map (Value.int .i64)) hx (by simp [hk]) ?_ ?_ ?_ ?_ ?_ ?_
  · intro j u hj
    rw [List.getElem?_map] at hj
    cases hg : m[j]? with
    | none => rw [hg] at hj; cases hj
    | some y =>
      rw [hg] at hj
      simp at hj
      have hjm : j < m.length := by rcases Nat.lt_or_ge j m.length with h | h
                                    · exact h
                                    · rw [List.getElem?_eq_none h] at hg; cases hg
      have := hat j (by omega)
      have hadd : (⟨b, off, none⟩ : Addr).add j = ⟨b, off + j, none⟩ := by unfold Addr.add; split <;> simp_all
      rw [hadd, this, ← hj]
      rw [List.getElem?_eq_getElem hjm] at hg
      simp at hg
      rw [fn_get hjm, hg]
  · intro u hu; simp at hu; obtain ⟨y, _, rfl⟩ := hu; rfl
  · unfold maxLen; omega
  · omega
  · omega
  · intro v' w' h1 h2 _
    refine h v' w' ?_ h2
    unfold OwnS; rw [List.map_append]; exact h1

/-- What a draw of spans hands back. -/
def SpRes (w : World) (B : Nat) (v : Value) : Prop := ∃ n s, OwnS w B v n s ∧ n ≤ 14
theorem one_row (w : World) (o1 : Obj) (x0 x1 x2 x3 : Int) (g : Nat) (hg : g = w.heap.size + 1) : OwnS ((w.alloc o1).alloc (.cells #[.int .i64 x0, .int .i64 x1, .int .i64 x2, .int .i64 x3] 32)) w.heap.size (.slice (some ⟨g, 0, none⟩) 1 1) 1 [x0, x1, x2, x3] := by
  have h := World.ownsRow_lit (base := w.heap.size) (e := 32) (size := 4) (w.alloc o1) #[.int .i64 x0, .int .i64 x1, .int .i64 x2, .int .i64 x3] 1 (by simp) (by unfold maxLen; omega) (by simp)
  have e : (w.alloc o1).heap.size = g := by simp [hg]
  rw [e] at h
  exact h
theorem OwnS.upd {w : World} {g n cap : Nat} {l : List Int} {B : Nat} (h : OwnS w B (.slice (some ⟨g, 0, none⟩) n cap) n l) (j : Nat) (x : Int) : SpRes (w.setCell ⟨g, j, none⟩ (.int .i64 x)) B (.slice (some ⟨g, 0, none⟩) n cap) ∨ 14 < n := by
  by_cases hn : n ≤ 14
  · exact .inl ⟨n, _, h.stored j x, hn⟩
  · exact .inr (by omega)
theorem Went.set {w wr : World} {R p g j : Nat} {x : Value} (h : Went w wr R p) (hg : w.heap.size ≤ g) (hR : R < w.heap.size) : Went w (wr.setCell ⟨g, j, none⟩ x) R p := by
  have hs : wr.grownBy (wr.setCell ⟨g, j, none⟩ x) (some g) := ⟨rfl, rfl, rfl, by simp, fun k _ hne => heap_setCell_other wr ⟨g, j, none⟩ k _ (fun e => hne (by rw [e]))⟩
  exact ⟨h.rd.beside hs (fun k hk => by simp at hk; omega), ⟨h.gr.os, h.gr.tape, h.gr.output, by simpa using h.gr.size, fun i hi hne => (heap_setCell_other wr ⟨g, j, none⟩ i _ (fun e => by simp at e; omega)).trans (h.gr.block i hi hne)⟩⟩

set_option maxRecDepth 10000 in
set_option maxHeartbeats 2000000 in
theorem spoil_any (R p cnt n : Nat) (v : Value) (s : List Int) (w : World) (hr : Rd w R p) (hp : p ≤ 80000) (hc : cnt ≤ 1000) (hn : n ≤ 12) (hv : ArgS w v n s) (hsl : s.length = n * 4) :
    Calls Try.prog 47 #[.pointer (some ⟨R, 0, none⟩), v, .int .i64 cnt] w fun e w' => (∃ v', e = .returned v' ∧ SpRes w' w.heap.size v') ∧ ∃ p', p' ≤ p + 10 ∧ Went w w' R p' := by
  have hlt := hr.lt
  by_cases h0 : n = 0
  · subst h0
    have hW : ∀ o1 o2 : Obj, Went w ((w.alloc o1).alloc o2) R p := fun o1 o2 => ⟨(hr.alloc _).alloc _, grown_trans (grown_alloc _ _ _) (grown_alloc _ _ _)⟩
    have HW : Hid _ := hW
    clear hW
    rcases hv with ⟨a, cap, rfl, _⟩ | ⟨b, cap, rfl, hb, hlc, hcm, hat⟩
    · cases a with
      | none =>
        go_enter Try.func47, Try.ntmps47
        go_wp2_with fail
        go_ret
        exact ⟨⟨_, rfl, 1, _, one_row w _ _ _ _ _ _ rfl, by omega⟩, p, by omega, HW.out _ _⟩
      | some ad =>
        go_enter Try.func47, Try.ntmps47
        go_wp2_with fail
        go_ret
        exact ⟨⟨_, rfl, 1, _, one_row w _ _ _ _ _ _ rfl, by omega⟩, p, by omega, HW.out _ _⟩
    · go_enter Try.func47, Try.ntmps47
      go_wp2_with fail
      go_ret
      exact ⟨⟨_, rfl, 1, _, one_row w _ _ _ _ _ _ rfl, by omega⟩, p, by omega, HW.out _ _⟩
  · rcases hv with ⟨a, cap, _, e⟩ | ⟨b, cap, rfl, hb, hlc, hcm, hat⟩
    · exact absurd e h0
    have hat2 : ∀ j, j < n * 4 → (w.alloc (.cells #[] 32)).cell? ⟨b, 0 + j, none⟩ = some (.int .i64 (fn s j)) := fun j hj => by
      rw [Nat.zero_add]; exact ((below_new w _).cell (p := ⟨b, j, none⟩) hb).trans (hat j hj)
    have HAT : Hid _ := hat2
    have ho := own_emptyS w w.heap.size 32 (Nat.le_refl _) rfl
    have HO : Hid _ := ho
    obtain ⟨m, rfl⟩ : ∃ m, n = m + 1 := ⟨n - 1, by omega⟩
    have hnz : (((m + 1 : Nat) : Int) == 0) = false := by simp; omega
    have hnz2 : ((m : Int) + 1 == 0) = false := by simp; omega
    clear hat hat2 ho
    go_enter Try.func47, Try.ntmps47
    go_wp2_with (at_builtin; refine own_appendAllS (.tmp 9) (.tmp 10) HO.out hsl (by omega) (by simp) HAT.out rfl rfl rfl rfl ?_; intro v5 w5 hown5 hgr5; rw [Nat.zero_add] at hown5; obtain ⟨g, cp, rfl⟩ := OwnS.form1 hown5)
    have hW5 : Went w w5 R p := Went.ownS ⟨hr.alloc _, grown_alloc _ _ _⟩ hgr5 HO.out (Nat.le_refl _) hlt
    clear hgr5
    refine (pick_went R p ((m : Int) + 1) _ hW5.rd (by omega) (by omega) (by omega)).mono ?_
    rintro e w6 ⟨⟨k, rfl, hk⟩, hW6, hz6⟩
    have hV6 := hW5.trans hW6
    have hown6 := hown5.went hW6 hlt
    clear hW6 hz6 hW5 hown5
    have hkn : (k : Int) < ((m + 1 : Nat) : Int) := by omega
    go_wp2_with fail
    refine (pick_went R (p + 1) _ _ hV6.rd (by omega) (by omega) (by omega)).mono ?_
    rintro e w7 ⟨⟨q, rfl, hq⟩, hW7, hz7⟩
    have hV7 := hV6.trans hW7
    have hown7 := hown6.went hW7 hlt
    have hg7 := hown7.lt g rfl
    clear hW7 hz7 hV6 hown6
    have HV7 : Hid (Went w w7 R (p + 1 + 1)) := hV7
    have HO7 : Hid (OwnS w7 w.heap.size (.slice (some ⟨g, 0, none⟩) (m + 1) cp) (m + 1) ([] ++ s)) := hown7
    have hr7 := hV7.rd
    clear hV7 hown7
    have d0 := OwnS.cell HO7.out (k * 4) (by omega)
    rcases (show q = 0 ∨ q = 1 ∨ q = 2 ∨ q = 3 ∨ q = 4 ∨ q = 5 by omega) with rfl | rfl | rfl | rfl | rfl | rfl
    · go_wp2_with fail
      refine (one_any R (p + 1 + 1) _ _ _ _ hr7 (by omega) (by kernel_rfl) (by rfl) (by omega) (by omega)).mono ?_
      rintro e w8 ⟨⟨x, rfl⟩, hW8⟩
      have hV8 := HV7.out.trans hW8
      have hown8 := OwnS.went HO7.out hW8 hlt
      have hg8 := hown8.lt g rfl
      have hf8 := hown8.frozen (k * 4)
      have hc8 := hown8.cell (k * 4) (by omega)
      have HV8 : Hid (Went w w8 R (p + 1 + 1 + 1)) := hV8
      have HO8 : Hid (OwnS w8 w.heap.size (.slice (some ⟨g, 0, none⟩) (m + 1) cp) (m + 1) ([] ++ s)) := hown8
      clear hW8 hV8 hown8
      go_wp2_with fail
      go_ret
      exact ⟨⟨_, rfl, m + 1, _, OwnS.stored HO8.out _ _, by omega⟩, p + 1 + 1 + 1, by omega, Went.set HV8.out hg8.1 hlt⟩
    · go_wp2_with fail
      refine (one_any R (p + 1 + 1) _ _ _ _ hr7 (by omega) (by kernel_rfl) (by rfl) (by omega) (by omega)).mono ?_
      rintro e w8 ⟨⟨x, rfl⟩, hW8⟩
      have hV8 := HV7.out.trans hW8
      have hown8 := OwnS.went HO7.out hW8 hlt
      have hg8 := hown8.lt g rfl
      have hf8 := hown8.frozen (k * 4 + 1)
      have hc8 := hown8.cell (k * 4 + 1) (by omega)
      have HV8 : Hid (Went w w8 R (p + 1 + 1 + 1)) := hV8
      have HO8 : Hid (OwnS w8 w.heap.size (.slice (some ⟨g, 0, none⟩) (m + 1) cp) (m + 1) ([] ++ s)) := hown8
      clear hW8 hV8 hown8
      go_wp2_with fail
      go_ret
      exact ⟨⟨_, rfl, m + 1, _, OwnS.stored HO8.out _ _, by omega⟩, p + 1 + 1 + 1, by omega, Went.set HV8.out hg8.1 hlt⟩
    · go_wp2_with fail
      refine (one_any R (p + 1 + 1) _ _ _ _ hr7 (by omega) (by kernel_rfl) (by rfl) (by omega) (by omega)).mono ?_
      rintro e w8 ⟨⟨x, rfl⟩, hW8⟩
      have hV8 := HV7.out.trans hW8
      have hown8 := OwnS.went HO7.out hW8 hlt
      have hg8 := hown8.lt g rfl
      have hf8 := hown8.frozen (k * 4 + 2)
      have hc8 := hown8.cell (k * 4 + 2) (by omega)
      have HV8 : Hid (Went w w8 R (p + 1 + 1 + 1)) := hV8
      have HO8 : Hid (OwnS w8 w.heap.size (.slice (some ⟨g, 0, none⟩) (m + 1) cp) (m + 1) ([] ++ s)) := hown8
      clear hW8 hV8 hown8
      go_wp2_with fail
      go_ret
      exact ⟨⟨_, rfl, m + 1, _, OwnS.stored HO8.out _ _, by omega⟩, p + 1 + 1 + 1, by omega, Went.set HV8.out hg8.1 hlt⟩
    · go_wp2_with fail
      refine (one_any R (p + 1 + 1) _ _ _ _ hr7 (by omega) (by kernel_rfl) (by rfl) (by omega) (by omega)).mono ?_
      rintro e w8 ⟨⟨x, rfl⟩, hW8⟩
      have hV8 := HV7.out.trans hW8
      have hown8 := OwnS.went HO7.out hW8 hlt
      have hg8 := hown8.lt g rfl
      have hf8 := hown8.frozen (k * 4 + 3)
      have hc8 := hown8.cell (k * 4 + 3) (by omega)
      have HV8 : Hid (Went w w8 R (p + 1 + 1 + 1)) := hV8
      have HO8 : Hid (OwnS w8 w.heap.size (.slice (some ⟨g, 0, none⟩) (m + 1) cp) (m + 1) ([] ++ s)) := hown8
      clear hW8 hV8 hown8
      go_wp2_with fail
      go_ret
      exact ⟨⟨_, rfl, m + 1, _, OwnS.stored HO8.out _ _, by omega⟩, p + 1 + 1 + 1, by omega, Went.set HV8.out hg8.1 hlt⟩
    · have d1 := OwnS.cell HO7.out (k * 4 + 1) (by omega)
      have d2 := OwnS.cell HO7.out (k * 4 + 2) (by omega)
      have d3 := OwnS.cell HO7.out (k * 4 + 3) (by omega)
      have hs7 := HV7.out.gr.size
      go_wp2_with (at_builtin; refine own_appendS (.tmp 81) (.tmp 86) HO7.out (by omega) hs7 rfl rfl rfl rfl ?_; intro v9 w9 hown9 hgr9)
      go_ret
      exact ⟨⟨_, rfl, m + 1 + 1, _, hown9, by omega⟩, p + 1 + 1, by omega, Went.ownS HV7.out hgr9 HO7.out (Nat.le_refl _) hlt⟩
    · clear d0
      go_wp2_with fail
      go_loopw [7] (fun q wr => ∃ (j : Nat) (l : List Int), (∃ a cap, q = .slice (some ⟨a, 0, none⟩) (j + 1) cap) ∧ m ≤ j ∧ j + 1 ≤ 13 ∧ OwnS wr w.heap.size q (j + 1) l ∧ Went w wr R (p + 1 + 1)) (fun q _ => 13 - lenOf q)
      case atStart => exact ⟨m, _, ⟨_, _, rfl⟩, Nat.le_refl _, by omega, HO7.out, HV7.out⟩
      case round =>
        obtain ⟨j, l, ⟨ga, ca, rfl⟩, hmj, hj, hown, hwent⟩ := hrel
        by_cases hle : j + 1 ≤ 12
        · have hlei : ((j + 1 : Nat) : Int) ≤ 12 := by omega
          have d0 := hown.cell (k * 4) (by omega)
          have d1 := hown.cell (k * 4 + 1) (by omega)
          have d2 := hown.cell (k * 4 + 2) (by omega)
          have d3 := hown.cell (k * 4 + 3) (by omega)
          have hs7 := hwent.gr.size
          have hkj : (k : Int) < ((j + 1 : Nat) : Int) := by omega
          go_wp2_with (at_builtin; refine own_appendS (.tmp 28) (.tmp 33) hown (by omega) hs7 rfl rfl rfl rfl ?_; intro v9 w9 hown9 hgr9)
          obtain ⟨g9, c9, rfl⟩ := OwnS.form1 hown9
          exact ⟨⟨j + 1, _, ⟨_, _, rfl⟩, by omega, by omega, hown9, Went.ownS hwent hgr9 hown (Nat.le_refl _) hlt⟩, by simp only [lenOf]; omega⟩
        · have hlei : ¬ ((j + 1 : Nat) : Int) ≤ 12 := by omega
          go_wp2_with fail
          go_ret
          exact ⟨⟨_, rfl, j + 1, l, hown, by omega⟩, p + 1 + 1, by omega, hwent⟩

set_option maxHeartbeats 2000000 in
theorem anySpans (R p cnt : Nat) (w : World) (hr : Rd w R p) (hp : p ≤ 70000) (hc : cnt ≤ 100) :
    Calls Try.prog 31 #[.pointer (some ⟨R, 0, none⟩), .int .i64 cnt] w fun e w' => (∃ v', e = .returned v' ∧ SpRes w' w.heap.size v') ∧ ∃ p', p' ≤ p + 200 ∧ Went w w' R p' := by
  have hlt := hr.lt
  go_enter Try.func31, Try.ntmps31
  go_wp2_with fail
  refine (spans_any R p cnt w hr (by omega) hc).mono ?_
  rintro e w1 ⟨⟨v, n, s, rfl, os, hn, hsm⟩, p1, hp1, hW1⟩
  have hs1 := hW1.gr.size
  clear hsm
  go_wp2_with fail
  refine (pick_went R p1 _ _ hW1.rd (by omega) (by omega) (by omega)).mono ?_
  rintro e w2 ⟨⟨k, rfl, hk⟩, hW2, hz2⟩
  have hV2 := hW1.trans hW2
  have os2 := os.went hW2 hlt
  clear hz2
  by_cases hk0 : k = 0
  · subst hk0
    have hs2 := hV2.gr.size
    go_wp2_with fail
    refine (spoil_any R (p1 + 1) cnt n v s w2 hV2.rd (by omega) (by omega) hn os2.arg os2.len).mono ?_
    rintro e w3 ⟨⟨v3, rfl, n3, s3, o3, hn3⟩, p3, hp3, hW3⟩
    go_wp2_with fail
    go_ret
    exact ⟨⟨_, rfl, n3, s3, o3.mono hs2, hn3⟩, p3, by omega, hV2.trans hW3⟩
  · have hkb : ((k : Int) == 0) = false := by simp; omega
    go_wp2_with fail
    go_ret
    exact ⟨⟨_, rfl, n, s, os2, by omega⟩, p1 + 1, by omega, hV2⟩
end Go.Proofs.Ytobmdefklgkoiaa
