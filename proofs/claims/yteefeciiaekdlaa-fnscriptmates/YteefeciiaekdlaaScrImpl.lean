import Derived.Test.YteefeciiaekdlaaScrMath
import Derived.Test.YteefeciiaekdlaaPairRow
import Derived.Deep.DrawnRows
namespace Go.Proofs.Yteefeciiaekdlaa
open Go.ChangeShapes Go.WideShapes Go.ChangeAt Go.RowKit
set_option linter.unusedSimpArgs false

set_option maxHeartbeats 1000000 in
theorem implFirst (b off cap n : Nat) (l : List Int) (w : World) (hn : l.length = n) (hb : b < w.heap.size) (hat : At w b off l) (hl : n ≤ 4194304) :
    Calls Try.prog 36 #[.slice (some ⟨b, off, none⟩) n cap] w fun e w' => e = .returned (.int .i64 (firstS (fn l) n n)) ∧ Below w.heap.size w w' := by
  go_enter Try.func36, Try.ntmps36
  go_wp2
  go_loopw [8] (fun i wr => ∃ k : Nat, k ≤ n ∧ i = .int .i64 k ∧ Hid (firstS (fn l) n n = firstS (fn l) n (n - k)) ∧ Below w.heap.size w wr) (fun i _ => n - (intOf i).toNat)
  case atStart => exact ⟨0, Nat.zero_le _, rfl, rfl, Below.refl _ _⟩
  case round =>
    obtain ⟨k, hk, rfl, hf, hbel⟩ := hrel
    by_cases hlt : k < n
    · have hcell : wr.cell? ⟨b, off + k, none⟩ = some (.int .i64 (fn l k)) := (hat.below hbel hb) k (by omega)
      by_cases hq : scr (fn l k) = 0
      · have hs : (scr (fn l k) == 0) = true := by simpa using hq
        have HS : Hid _ := firstS_no hlt hq
        clear hq
        go_wp2_with (go_at_call 13; refine (implScr _ _).mono ?_; rintro e w' ⟨rfl, hw⟩)
        go_roundw
        case rel => exact ⟨k + 1, by omega, by go_num, hf.out.trans HS.out, bstep hbel hw⟩
        case measure => simp only [intOf]; omega
      · have hs : (scr (fn l k) == 0) = false := by simpa using hq
        have HS : Hid _ := firstS_yes hlt hq
        clear hq
        go_wp2_with (go_at_call 13; refine (implScr _ _).mono ?_; rintro e w' ⟨rfl, hw⟩)
        go_ret
        exact ⟨retInt (hf.out.trans HS.out).symm, bstep hbel hw⟩
    · have e : k = n := by omega
      subst e
      go_wp2
      go_ret
      exact ⟨retInt (by rw [hf.out]; simp [firstS]), hbel⟩

theorem pairT_impl : PairT 70 := ⟨by kernel_rfl, by kernel_rfl⟩

set_option maxHeartbeats 1000000 in
theorem closWant (M : Nat) (x y mt : Int) (w : World) (hM : w.cell? ⟨M, 0, none⟩ = some (.int .i64 mt)) :
    Calls Try.prog 55 #[.agg #[.int .i64 x, .int .i64 y], .pointer (some ⟨M, 0, none⟩)] w fun e w' => e = .returned (.bool (x == mt)) ∧ Below w.heap.size w w' := by
  have hlt := World.block_lt_of_cell? _ _ hM
  go_enter Try.func55, Try.ntmps55
  go_wp2
  go_ret
  exact ⟨rfl, by go_grown⟩

/-- What a reader of scripts holds in memory. -/
structure RS (w : World) (R : Nat) (last : Int) (v : Value) (m : Nat) (st : List Int) : Prop where
  blk : w.heap[R]? = some (.cells #[.int .i64 last, v] 51 (0, 0))
  row : OwnP 70 w (R + 1) v m st
theorem RS.lt {w : World} {R : Nat} {last : Int} {v : Value} {m : Nat} {st : List Int} (h : RS w R last v m st) : R < w.heap.size := (Array.getElem?_eq_some_iff.1 h.blk).1
theorem RS.below {w w' : World} {R : Nat} {last : Int} {v : Value} {m : Nat} {st : List Int} (h : RS w R last v m st) (hb : Below w.heap.size w w') : RS w' R last v m st :=
  ⟨(hb.block R h.lt).trans h.blk, h.row.below hb⟩
theorem rs_cells {w : World} {R : Nat} {x v : Value} {T : TypeId} (h : w.heap[R]? = some (.cells #[x, v] T (0, 0))) : w.cell? ⟨R, 0, none⟩ = some x ∧ w.cell? ⟨R, 1, none⟩ = some v ∧ w.frozen? ⟨R, 0, none⟩ = false ∧ w.frozen? ⟨R, 1, none⟩ = false := by
  refine ⟨?_, ?_, ?_, ?_⟩ <;> simp [World.cell?, World.frozen?, h]
theorem RS.c0 {w : World} {R : Nat} {last : Int} {v : Value} {m : Nat} {st : List Int} (h : RS w R last v m st) : w.cell? ⟨R, 0, none⟩ = some (.int .i64 last) := (rs_cells h.blk).1
theorem RS.c1 {w : World} {R : Nat} {last : Int} {v : Value} {m : Nat} {st : List Int} (h : RS w R last v m st) : w.cell? ⟨R, 1, none⟩ = some v := (rs_cells h.blk).2.1
theorem RS.f0 {w : World} {R : Nat} {last : Int} {v : Value} {m : Nat} {st : List Int} (h : RS w R last v m st) : w.frozen? ⟨R, 0, none⟩ = false := (rs_cells h.blk).2.2.1
theorem RS.f1 {w : World} {R : Nat} {last : Int} {v : Value} {m : Nat} {st : List Int} (h : RS w R last v m st) : w.frozen? ⟨R, 1, none⟩ = false := (rs_cells h.blk).2.2.2
theorem RS.set0 {w : World} {R : Nat} {last : Int} {v : Value} {m : Nat} {st : List Int} (h : RS w R last v m st) (x : Int) : RS (w.setCell ⟨R, 0, none⟩ (.int .i64 x)) R x v m st := by
  refine ⟨?_, h.row.kept fun k hk => heap_setCell_other w ⟨R, 0, none⟩ k _ (by have := (h.row.lt k hk).1; show k ≠ R; omega)⟩
  rw [heap_setCell_same w R 0 _ _ _ h.blk]; simp
theorem RS.set1 {w : World} {R : Nat} {last : Int} {v : Value} {m : Nat} {st : List Int} (h : RS w R last v m st) {v' : Value} {m' : Nat} {st' : List Int} (h' : OwnP 70 w (R + 1) v' m' st') : RS (w.setCell ⟨R, 1, none⟩ v') R last v' m' st' := by
  refine ⟨?_, h'.kept fun k hk => heap_setCell_other w ⟨R, 1, none⟩ k _ (by have := (h'.lt k hk).1; show k ≠ R; omega)⟩
  rw [heap_setCell_same w R 1 _ _ _ h.blk]; simp
theorem RS.far {w : World} {R : Nat} {last : Int} {v : Value} {m : Nat} {st : List Int} (h : RS w R last v m st) {P j : Nat} {x : Value} (h1 : P ≠ R) (h2 : ∀ k, v.ownBlock = some k → k ≠ P) : RS (w.setCell ⟨P, j, none⟩ x) R last v m st :=
  ⟨(heap_setCell_other w ⟨P, j, none⟩ R x (by show R ≠ P; omega)).trans h.blk, h.row.kept fun k hk => heap_setCell_other w ⟨P, j, none⟩ k x (h2 k hk)⟩

set_option maxHeartbeats 4000000 in
theorem popFrom_any (R M m : Nat) (last mt : Int) (v : Value) (st : List Int) (w : World) (h : RS w R last v m st) (hM : w.cell? ⟨M, 0, none⟩ = some (.int .i64 mt)) (hm : m ≤ 1000) :
    Calls Try.prog 54 #[.pointer (some ⟨R, 1, none⟩), .func (Fn.func 55) #[] #[.pointer (some ⟨M, 0, none⟩)]] w fun e w' =>
      (lastB (fn st) mt m = none ∧ e = .returned (.tuple #[.agg #[.int .i64 0, .int .i64 0], .bool false]) ∧ Below w.heap.size w w') ∨
      ∃ i, lastB (fn st) mt m = some i ∧ e = .returned (.tuple #[.agg #[.int .i64 (fn st (i * 2)), .int .i64 (fn st (i * 2 + 1))], .bool true]) ∧ (∃ v', RS w' R last v' i (st.take (i * 2))) ∧ Below R w w' := by
  have hR := h.lt
  have hMl : M < w.heap.size := World.block_lt_of_cell? _ _ hM
  have c1 := h.c1
  obtain ⟨av, cv, rfl⟩ := h.row.slc
  go_enter Try.func54, Try.ntmps54
  go_wp2_with fail
  go_loopw [6] (fun i wr => ∃ j : Nat, j ≤ m ∧ i = .int .i64 ((j : Int) - 1) ∧ Below (w.heap.size + 1) (w.alloc (.cells #[.int .i64 0, .int .i64 0] 70)) wr ∧ Hid (∀ i', j ≤ i' → i' < m → fn st (i' * 2) ≠ mt)) (fun i _ => (intOf i + 1).toNat)
  case atStart => exact ⟨m, Nat.le_refl _, by go_num, Below.refl _ _, fun i' h1 h2 => by omega⟩
  case round =>
    obtain ⟨j, hj, rfl, hb0, hno⟩ := hrel
    have hb : Below w.heap.size w wr := ((Below.refl _ _).alloc (Nat.le_refl _) _).trans (hb0.mono (Nat.le_succ _))
    have hs := hb.size
    have hs0 : w.heap.size + 1 ≤ wr.heap.size := by have := hb0.size; simpa using this
    have hzb : wr.heap[w.heap.size]? = some (.cells #[.int .i64 0, .int .i64 0] 70 (0, 0)) := by
      rw [hb0.block _ (by omega)]; exact heap_alloc_new w _
    have HZ : Hid _ := hzb
    have r3 := h.below hb
    have c3 := r3.c1
    have f3 := r3.f1
    have m3 := (hb.cell (p := ⟨M, 0, none⟩) hMl).trans hM
    clear hzb
    by_cases hj0 : j = 0
    · subst hj0
      have HN : Hid (lastB (fn st) mt m = none) := lastB_none fun i hi => hno.out i (by omega) hi
      have hzc : (wr.alloc (.cells #[.int .i64 0, .int .i64 0] 70)).heap[w.heap.size]? = some (.cells #[.int .i64 0, .int .i64 0] 70 (0, 0)) := by
        rw [Below.heap_alloc wr _ _ (by omega)]; exact HZ.out
      obtain ⟨z0, z1, zf0, zf1⟩ := rs_cells hzc
      clear c1 hM hzc
      go_wp2_with fail
      refine bodyPost_ret (v := .tuple #[.agg #[.int .i64 0, .int .i64 0], .bool false]) (by simp [results, Try.results54, go_sem, z0, z1]) rfl (Or.inl ⟨HN.out, rfl, ?_⟩)
      exact ((hb.alloc hb.size _).setCell (Nat.le_refl _) _).setCell (Nat.le_refl _) _
    · obtain ⟨i, rfl⟩ : ∃ i, j = i + 1 := ⟨j - 1, by omega⟩
      have him : i < m := by omega
      have row := h.row
      obtain ⟨g, rfl⟩ : ∃ g, av = some ⟨g, 0, none⟩ := by
        rcases row.forms with ⟨_, e⟩ | ⟨g, cp, e, _⟩
        · omega
        · simp only [Value.slice.injEq] at e; exact ⟨g, e.1⟩
      have hcap : m ≤ cv := by
        rcases row.forms with ⟨e, _⟩ | ⟨g, cp, e, _, _, h4, _⟩
        · cases e
        · simp only [Value.slice.injEq] at e; omega
      have hgw : g < wr.heap.size := (r3.row.lt g rfl).2
      have cy0 := r3.row.cell (i * 2) (by omega)
      have cy1 := r3.row.cell (i * 2 + 1) (by omega)
      have hii : (i : Int) < (m : Int) := by omega
      clear c1 hM
      have hMr : M < wr.heap.size := by omega
      have HCL : Hid (∀ w', w'.cell? ⟨M, 0, none⟩ = some (.int .i64 mt) → Calls Try.prog 55 #[.agg #[.int .i64 (fn st (i * 2)), .int .i64 (fn st (i * 2 + 1))], .pointer (some ⟨M, 0, none⟩)] w' fun e w'' => e = .returned (.bool (fn st (i * 2) == mt)) ∧ Below w'.heap.size w' w'') := fun w' h => closWant M _ _ mt w' h
      go_wp2_with fail
      refine (HCL.out _ (by rw [Below.cell ((Below.refl _ wr).alloc (Nat.le_refl _) _) hMr]; exact m3)).mono ?_
      rintro e w4 ⟨rfl, b4⟩
      have hb4 : Below wr.heap.size wr w4 := ((Below.refl _ wr).alloc (Nat.le_refl _) _).trans (b4.mono (by simp))
      have hitb : w4.heap[wr.heap.size]? = some (.cells #[.int .i64 (fn st (i * 2)), .int .i64 (fn st (i * 2 + 1))] 70 (0, 0)) := by
        rw [b4.block _ (by simp)]; exact heap_alloc_new wr _
      by_cases hq : fn st (i * 2) = mt
      · have HL : Hid (lastB (fn st) mt m = some i) := lastB_hit him hq (fun i' h1 h2 => hno.out i' (by omega) h2)
        have hq2 : (fn st (i * 2) == mt) = true := by simpa using hq
        have r4 := r3.below hb4
        have c4 := r4.c1
        have f4 := r4.f1
        have c40 := r4.c0
        obtain ⟨t0, t1, tf0, tf1⟩ := rs_cells hitb
        obtain ⟨y0, y1, yf0, yf1⟩ := rs_cells ((hb4.block _ (by omega)).trans HZ.out)
        have hs4 := b4.size
        have hs5 : wr.heap.size + 1 ≤ w4.heap.size := by simpa using hs4
        have hne : w.heap.size ≠ R := by omega
        have hgR := (r4.row.lt g rfl).1
        have HR4 : Hid _ := r4
        have HR5 : Hid (RS (w4.setCell ⟨R, 1, none⟩ (.slice (some ⟨g, 0, none⟩) i cv)) R last (.slice (some ⟨g, 0, none⟩) i cv) i (st.take (i * 2))) := RS.set1 r4 (r4.row.head i (by omega))
        have hgw0 := (h.row.lt g rfl).2
        have HB : Hid (Below R w w4) := (hb.mono (by omega)).trans (hb4.mono (by omega))
        clear hq cy0 cy1 m3 c3 f3 hs4 hitb
        go_wp2_with fail
        refine bodyPost_ret (v := .tuple #[.agg #[.int .i64 (fn st (i * 2)), .int .i64 (fn st (i * 2 + 1))], .bool true]) (by simp [results, Try.results54, go_sem, y0, y1, hne]) rfl (Or.inr ⟨i, HL.out, rfl, ⟨.slice (some ⟨g, 0, none⟩) i cv, ?_⟩, ?_⟩)
        · exact (HR5.out.far (by omega) (fun k hk => by simp [Value.ownBlock] at hk; omega)).far (by omega) (fun k hk => by simp [Value.ownBlock] at hk; omega)
        · exact ((HB.out.setCell (Nat.le_refl _) _).setCell (by show R ≤ w.heap.size; omega) _).setCell (by show R ≤ w.heap.size; omega) _
      · have hq2 : (fn st (i * 2) == mt) = false := by simpa using hq
        have HQ : Hid (fn st (i * 2) ≠ mt) := hq
        clear hq cy0 cy1 m3 c3 f3
        go_wp2_with fail
        go_roundw
        case rel => exact ⟨i, by omega, by go_num, hb0.trans (hb4.mono hs0), fun i' h1 h2 => by
          by_cases e : i' = i
          · subst e; exact HQ.out
          · exact hno.out i' (by omega) h2⟩
        case measure => simp only [intOf]; omega
end Go.Proofs.Yteefeciiaekdlaa
