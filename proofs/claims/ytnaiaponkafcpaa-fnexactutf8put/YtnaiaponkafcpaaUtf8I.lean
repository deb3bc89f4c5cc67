import Derived.Test.YtnaiaponkafcpaaShelf
import Derived.Test.YtnaiaponkafcpaaUtf8P
namespace Go.Proofs.Ytnaiaponkafcpaa
open Go.ChangeShapes Go.WideShapes Go.ChangeAt Go.RowKit
set_option linter.unusedSimpArgs false

theorem infoB : (Try.prog.info? 68).map (·.size) = some 2 := by kernel_rfl

set_option maxHeartbeats 1000000 in
set_option maxRecDepth 100000 in
theorem check_used (b : Nat) (w : World) (h0 : w.cell? ⟨b, 0, none⟩ = some (.pointer (some ⟨b, 0, none⟩))) :
    Calls Try.prog 96 #[.pointer (some ⟨b, 0, none⟩)] w fun e w' => e = .returned (.tuple #[]) ∧ w' = w := by
  obtain ⟨j, hj, _⟩ := Option.map_eq_some_iff.1 infoB
  go_enter Try.func96, Try.ntmps96
  go_wp2
  rw [Lib.run_neq_ptr_same w _ Try.underlying66 hj]
  go_wp2
  go_end0
  exact ⟨rfl, rfl⟩

set_option maxHeartbeats 1000000 in
set_option maxRecDepth 100000 in
theorem check_fresh (b : Nat) (w : World) (h0 : w.cell? ⟨b, 0, none⟩ = some (.pointer none)) (hsh : w.shape? b = some (68, 2)) (hfz : w.frozen? ⟨b, 0, none⟩ = false) :
    Calls Try.prog 96 #[.pointer (some ⟨b, 0, none⟩)] w fun e w' => e = .returned (.tuple #[]) ∧ w' = w.setCell ⟨b, 0, none⟩ (.pointer (some ⟨b, 0, none⟩)) := by
  obtain ⟨j, hj, hjs⟩ := Option.map_eq_some_iff.1 infoB
  go_enter Try.func96, Try.ntmps96
  go_wp2
  rw [Lib.run_to_unsafe w ⟨b, 0, none⟩ Try.underlying66 Try.underlying112 hj (by rw [hjs]; decide) hsh (Nat.zero_lt_succ 1)]
  simp only [Result.andThen]
  rw [Oper.upon_value]
  go_wp2
  rw [run_callFunc_extern Try.func107 (by kernel_rfl) (by kernel_rfl) (by kernel_rfl) (e := Extern.AbiNoEscape.same) (by kernel_rfl)]
  rw [Lib.run_noEscape]
  simp only [Result.andThen]
  rw [Oper.upon_value]
  go_wp2
  rw [Lib.run_from_unsafe w ⟨b, 0, none⟩ Try.underlying112 Try.underlying66 hj hsh (by kernel_rfl)]
  simp only [Result.andThen]
  rw [Oper.upon_value]
  go_wp2
  go_end0
  exact ⟨rfl, rfl⟩

theorem check_any (B b : Nat) (bs : List Value) (w : World) (h : Lib.IsBuilder 68 5 B b bs w) :
    Calls Try.prog 96 #[.pointer (some ⟨b, 0, none⟩)] w fun e w' => e = .returned (.tuple #[]) ∧ (Lib.BuilderAt 68 5 B b (.pointer (some ⟨b, 0, none⟩)) bs w' ∧ Below B w w') := by
  rcases h with h | h
  · refine (check_fresh b w h.cell0 h.shape h.frozen0).mono ?_
    rintro e w' ⟨rfl, rfl⟩
    exact ⟨rfl, h.used _, (Below.refl B w).setCell (p := ⟨b, 0, none⟩) h.1 _⟩
  · refine (check_used b w h.cell0).mono ?_
    rintro e w' ⟨rfl, rfl⟩
    exact ⟨rfl, h, Below.refl B _⟩

set_option maxHeartbeats 2000000 in
set_option maxRecDepth 100000 in
theorem writeRune (B b : Nat) (bs : List Value) (r : Int) (hr0 : -2147483648 ≤ r) (hr1 : r ≤ 2147483647) (w : World) (h : Lib.IsBuilder 68 5 B b bs w) (hlen : bs.length + 4 ≤ 1000000) (hBw : B ≤ w.heap.size) :
    Calls Try.prog 64 #[.pointer (some ⟨b, 0, none⟩), .int .i32 r] w fun e w' => (∃ v, e = .returned v) ∧ (Lib.BuilderAt 68 5 B b (.pointer (some ⟨b, 0, none⟩)) (bs ++ Lib.runeCells r) w' ∧ Below B w w') := by
  have hk4 := Lib.runeCells_le r
  go_enter Try.func64, Try.ntmps64
  go_wp2_with fail
  refine (check_any B b bs _ h).mono ?_
  rintro e w1 ⟨rfl, h1, hb1⟩
  obtain ⟨hB, v, hbk, hown, hne⟩ := h1
  obtain ⟨ao, cap, rfl⟩ : ∃ ao cap, v = .slice ao bs.length cap := by
    rcases hown.2 with ⟨hv, h0⟩ | ⟨g, cap, cur, hv, _⟩
    · exact ⟨none, 0, by rw [hv, h0]⟩
    · exact ⟨_, _, hv⟩
  have c0 : w1.cell? ⟨b, 0, none⟩ = some (.pointer (some ⟨b, 0, none⟩)) := by rw [Lib.cell_of_heap hbk]; rfl
  have c1 : w1.cell? ⟨b, 1, none⟩ = some (.slice ao bs.length cap) := by rw [Lib.cell_of_heap hbk]; rfl
  have HOWN : Hid (w1.ownsRow B 5 1 (.slice ao bs.length cap) bs.length bs) := hown
  have HNE : Hid _ := hne
  have HBK : Hid _ := hbk
  have hs1 := hb1.size
  clear hown hne hbk
  go_wp2_with fail
  refine (Try.utf8_AppendRune_plain B _ bs.length bs r hr0 hr1 _ HOWN.out (by omega) (by omega)).mono ?_
  rintro e w2 ⟨v', rfl, hown', ⟨o, hgrow⟩⟩
  have hlt : b < w1.heap.size := (Array.getElem?_eq_some_iff.1 HBK.out).1
  have hb2 : w2.heap[b]? = some (.cells #[.pointer (some ⟨b, 0, none⟩), .slice ao bs.length cap] 68 (0, 0)) := by
    rw [hgrow.block b (by simp; omega) (fun e => HNE.out e.symm), Lib.alloc_old w1 _ b hlt]
    exact HBK.out
  have d0 : w2.cell? ⟨b, 0, none⟩ = some (.pointer (some ⟨b, 0, none⟩)) := by rw [Lib.cell_of_heap hb2]; rfl
  have d1 : w2.cell? ⟨b, 1, none⟩ = some (.slice ao bs.length cap) := by rw [Lib.cell_of_heap hb2]; rfl
  have f1 : w2.frozen? ⟨b, 1, none⟩ = false := Lib.frozen_of_heap hb2 1
  obtain ⟨g, cap', rfl⟩ : ∃ g cap', v' = .slice (some ⟨g, 0, none⟩) (bs.length + (Lib.runeCells r).length) cap' := by
    rcases hown'.2 with ⟨_, h0⟩ | ⟨g, cap', cur, hv, _⟩
    · omega
    · exact ⟨g, cap', hv⟩
  have HOWN2 : Hid (w2.ownsRow B 5 1 (.slice (some ⟨g, 0, none⟩) (bs.length + (Lib.runeCells r).length) cap') (bs.length + (Lib.runeCells r).length) (bs ++ Lib.runeCells r)) := hown'
  have HB2 : Hid _ := hb2
  have HGR : Hid _ := hgrow
  clear hown' hb2 hgrow
  go_wp2
  go_ret2
  refine ⟨⟨_, rfl⟩, ?_, ?_⟩
  · exact Lib.BuilderAt.put (T := 68) (e := 5) hB HB2.out (bs' := bs ++ Lib.runeCells r) (by simpa using HOWN2.out) (by decide)
  · exact ((hb1.alloc (by omega) _).grown HGR.out (by simp; omega) (fun k hk => (World.ownsRow.lt HOWN.out k hk).1)).setCell (p := ⟨b, 1, none⟩) hB _

theorem bytes_enc (l : List Int) (k : Nat) (h : k < l.length) : Lib.byteCells (encL (l.take k)) ++ Lib.runeCells (fn l k) = Lib.byteCells (encL (l.take (k + 1))) := by
  rw [encL_take h, ← Lib.byteCells_encodeRune]
  simp [Lib.byteCells]
theorem bytes_len (l : List UInt8) : (Lib.byteCells l).length = l.length := by simp [Lib.byteCells]

set_option maxHeartbeats 2000000 in
theorem implPut (v : Value) (l : List Int) (w : World) (hv : Arg w v l) (hl : l.length ≤ 4194304) :
    Calls Try.prog 23 #[v] w fun e w' => e = .returned (.string (putS l)) ∧ Below w.heap.size w w' := by
  have HV : Hid (Arg w v l) := hv
  obtain ⟨n, hn⟩ : ∃ n, l.length = n := ⟨_, rfl⟩
  have HN : Hid _ := hn
  obtain ⟨av, cv, rfl⟩ : ∃ av cv, v = .slice av n cv := by
    rcases hv with ⟨a, c, rfl, rfl⟩ | ⟨b, off, c, rfl, _⟩
    · subst hn; exact ⟨_, _, rfl⟩
    · subst hn; exact ⟨_, _, rfl⟩
  rw [hn] at hl
  clear hn hv
  by_cases hok : okF (fn l) l.length = true
  · have HOK : Hid _ := hok
    have h80 : n ≤ 80 := by have := okF_len hok; rw [HN.out] at this; exact this
    have HP : Hid (putS l = strOf (encL l)) := by show _ = _; unfold putS putB; rw [if_pos hok]
    clear hok
    go_enter Try.func23, Try.ntmps23
    go_wp2_with fail
    refine (implOk _ l _ HV.out (by rw [HN.out]; omega)).mono ?_
    rintro e w1 ⟨rfl, rfl⟩
    rw [HOK.out]
    go_wp2_with fail
    go_loopw [11] (fun i wr => ∃ k : Nat, k ≤ n ∧ i = .int .i64 k ∧ Hid (Lib.IsBuilder 68 5 w1.heap.size w1.heap.size (Lib.byteCells (encL (l.take k))) wr) ∧ Below w1.heap.size w1 wr) (fun i _ => n - (intOf i).toNat)
    case atStart => exact ⟨0, Nat.zero_le _, rfl, Lib.fresh_isBuilder _ _ w1, by go_grown⟩
    case round =>
      obtain ⟨k, hk, rfl, hB, hbel⟩ := hrel
      by_cases hlt : k < n
      · obtain ⟨b, off, rfl, hbw, hat⟩ : ∃ b off, av = some ⟨b, off, none⟩ ∧ b < w1.heap.size ∧ At w1 b off l := by
          rcases HV.out with ⟨a, c, e, e2⟩ | ⟨b, off, c, e, h1, _, _, h4⟩
          · exfalso; have := HN.out; rw [e2] at this; simp at this; omega
          · simp only [Value.slice.injEq] at e; exact ⟨b, off, e.1, h1, h4⟩
        have c : wr.cell? ⟨b, off + k, none⟩ = some (.int .i64 (fn l k)) := (hbel.cell (p := ⟨b, off + k, none⟩) hbw).trans (hat k (by rw [HN.out]; exact hlt))
        have hlet : letter (fn l k) = true := okF_get HOK.out (by rw [HN.out]; exact hlt)
        have hr : 0 ≤ fn l k ∧ fn l k ≤ 1114111 ∧ ¬ (55296 ≤ fn l k ∧ fn l k ≤ 57343) := by unfold letter at hlet; exact of_decide_eq_true hlet
        obtain ⟨r0, r1, _⟩ := hr
        have HL : Hid ((Lib.byteCells (encL (l.take k))).length + 4 ≤ 1000000) := by
          show _ ≤ _
          rw [bytes_len]
          have := (encL_len (l.take k)).2
          rw [List.length_take] at this
          omega
        have hsz := hbel.size
        have HE : Hid _ := bytes_enc l k (by rw [HN.out]; exact hlt)
        clear hat hlet
        go_wp2_with fail
        refine (writeRune w1.heap.size w1.heap.size _ _ (by omega) (by omega) wr hB.out HL.out hsz).mono ?_
        rintro e w2 ⟨⟨v2, rfl⟩, hB2, b2⟩
        rw [HE.out] at hB2
        have HB2 : Hid (Lib.IsBuilder 68 5 w1.heap.size w1.heap.size (Lib.byteCells (encL (l.take (k + 1)))) w2) := .inr hB2
        clear hB2
        go_wp2_with fail
        exact ⟨⟨k + 1, by omega, by go_num, HB2, hbel.trans b2⟩, by simp only [intOf]; omega⟩
      · have e : k = n := by omega
        subst e
        have hsz := hbel.size
        have HT : Hid (l.take k = l) := List.take_of_length_le (by rw [HN.out]; exact Nat.le_refl _)
        go_wp2_with fail
        refine (Try.Builder_String_any w1.heap.size w1.heap.size (encL (l.take k)) wr hB.out hsz).mono ?_
        rintro e w2 ⟨rfl, b2⟩
        go_wp2_with fail
        go_ret
        exact ⟨retStr (by rw [HP.out, HT.out]; rfl), hbel.trans b2⟩
  · have hok' : okF (fn l) l.length = false := by simpa using hok
    have HOK : Hid _ := hok'
    have HP : Hid (putS l = ⟨#[]⟩) := by show _ = _; unfold putS putB; rw [if_neg hok]; rfl
    clear hok hok'
    go_enter Try.func23, Try.ntmps23
    go_wp2_with fail
    refine (implOk _ l _ HV.out (by rw [HN.out]; omega)).mono ?_
    rintro e w1 ⟨rfl, rfl⟩
    rw [HOK.out]
    go_wp2_with fail
    go_ret
    exact ⟨retStr HP.out.symm, Below.refl _ _⟩
end Go.Proofs.Ytnaiaponkafcpaa
