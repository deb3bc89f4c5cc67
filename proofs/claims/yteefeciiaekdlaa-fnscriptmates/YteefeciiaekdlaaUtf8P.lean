import Derived.Test.YteefeciiaekdlaaOk
import Derived.Lib.RuneBytes
import Derived.Laws.BytesString
import Derived.Laws.Concat
namespace Go.Proofs.Yteefeciiaekdlaa
open Go.ChangeShapes Go.WideShapes Go.ChangeAt Go.RowKit
set_option linter.unusedSimpArgs false

theorem fold_bytes : ∀ (ns : List Int) (r : ByteArray), ns.foldl (fun r n => r.push (UInt8.ofNat n.toNat)) r = ⟨r.data ++ (ns.map fun x => x.toNat.toUInt8).toArray⟩
  | [], r => by simp
  | n :: ns, r => by
    rw [List.foldl_cons, fold_bytes ns]
    simp [ByteArray.push]
/-- The text of letters, as bytes. -/
def strOf (l : List UInt8) : ByteArray := ⟨l.toArray⟩
theorem conv1 (w : World) (T : TypeId) (a : Int) : (convert 22 9 (.slice (some ⟨w.heap.size, 0, none⟩) 1 1)).run Try.prog (w.alloc (.cells #[.int .u8 a] T)) = .ok (.string (strOf ([a].map fun x => x.toNat.toUInt8))) (w.alloc (.cells #[.int .u8 a] T)) := by
  rw [run_convert_bytes_string _ _ _ _ _ _ _ Try.underlying22 Try.underlying5 Try.underlying9, run_bytesToString _ _ _ _ [a] (by simp [loadCells, loadCellsFrom, go_sem]), fold_bytes]
  simp [strOf]
theorem conv2 (w : World) (T : TypeId) (a b : Int) : (convert 22 9 (.slice (some ⟨w.heap.size, 0, none⟩) 2 2)).run Try.prog (w.alloc (.cells #[.int .u8 a, .int .u8 b] T)) = .ok (.string (strOf ([a, b].map fun x => x.toNat.toUInt8))) (w.alloc (.cells #[.int .u8 a, .int .u8 b] T)) := by
  rw [run_convert_bytes_string _ _ _ _ _ _ _ Try.underlying22 Try.underlying5 Try.underlying9, run_bytesToString _ _ _ _ [a, b] (by simp [loadCells, loadCellsFrom, go_sem]), fold_bytes]
  simp [strOf]
theorem conv3 (w : World) (T : TypeId) (a b c : Int) : (convert 22 9 (.slice (some ⟨w.heap.size, 0, none⟩) 3 3)).run Try.prog (w.alloc (.cells #[.int .u8 a, .int .u8 b, .int .u8 c] T)) = .ok (.string (strOf ([a, b, c].map fun x => x.toNat.toUInt8))) (w.alloc (.cells #[.int .u8 a, .int .u8 b, .int .u8 c] T)) := by
  rw [run_convert_bytes_string _ _ _ _ _ _ _ Try.underlying22 Try.underlying5 Try.underlying9, run_bytesToString _ _ _ _ [a, b, c] (by simp [loadCells, loadCellsFrom, go_sem]), fold_bytes]
  simp [strOf]
theorem conv4 (w : World) (T : TypeId) (a b c d : Int) : (convert 22 9 (.slice (some ⟨w.heap.size, 0, none⟩) 4 4)).run Try.prog (w.alloc (.cells #[.int .u8 a, .int .u8 b, .int .u8 c, .int .u8 d] T)) = .ok (.string (strOf ([a, b, c, d].map fun x => x.toNat.toUInt8))) (w.alloc (.cells #[.int .u8 a, .int .u8 b, .int .u8 c, .int .u8 d] T)) := by
  rw [run_convert_bytes_string _ _ _ _ _ _ _ Try.underlying22 Try.underlying5 Try.underlying9, run_bytesToString _ _ _ _ [a, b, c, d] (by simp [loadCells, loadCellsFrom, go_sem]), fold_bytes]
  simp [strOf]
attribute [local go_sem] conv1 conv2 conv3 conv4

theorem strOf_size (l : List UInt8) : (strOf l).size = l.length := by simp [strOf, ByteArray.size]
theorem strOf_append (l r : List UInt8) : strOf l ++ strOf r = strOf (l ++ r) := by
  simp [strOf, ByteArray.mk_append_mk]
theorem retStr {a b : ByteArray} (h : a = b) : Ending.returned (.string a) = .returned (.string b) := by rw [h]

set_option maxRecDepth 10000 in
set_option maxHeartbeats 2000000 in
theorem put1_any (r : Int) (w : World) (h : letter r = true) :
    Calls Try.prog 61 #[.int .i64 r] w fun e w' => e = .returned (.string (strOf (Lib.encodeRune r))) ∧ Below w.heap.size w w' := by
  have hl : 0 ≤ r ∧ r ≤ 1114111 ∧ ¬ (55296 ≤ r ∧ r ≤ 57343) := by unfold letter at h; exact of_decide_eq_true h
  obtain ⟨h0, h1, h2⟩ := hl
  by_cases c1 : r ≤ 127
  · have HQ : Hid (sizeF r = 1) := by show _ = _; unfold sizeF; rw [if_pos (by omega)]
    have HE : Hid _ := Lib.encodeRuneZ_one h0 c1
    go_enter Try.func61, Try.ntmps61
    go_wp2_with fail
    refine (specSize _ _).mono ?_
    rintro e w1 ⟨rfl, rfl⟩
    rw [HQ.out]
    go_wp2_with fail
    go_ret
    exact ⟨retStr (by unfold Lib.encodeRune; rw [HE.out]; rfl), by go_grown⟩
  · by_cases c2 : r ≤ 2047
    · have HQ : Hid (sizeF r = 2) := by show _ = _; unfold sizeF; rw [if_neg (by omega), if_pos (by omega)]
      have HE : Hid _ := Lib.encodeRuneZ_two (r := r) (by omega) c2
      go_enter Try.func61, Try.ntmps61
      go_wp2_with fail
      refine (specSize _ _).mono ?_
      rintro e w1 ⟨rfl, rfl⟩
      rw [HQ.out]
      go_wp2_with fail
      go_ret
      exact ⟨retStr (by unfold Lib.encodeRune; rw [HE.out]; rfl), by go_grown⟩
    · by_cases c3 : r ≤ 65535
      · have HQ : Hid (sizeF r = 3) := by show _ = _; unfold sizeF; rw [if_neg (by omega), if_neg (by omega), if_neg (by omega), if_pos (by omega)]
        have HE : Hid _ := Lib.encodeRuneZ_three (r := r) (by omega)
        go_enter Try.func61, Try.ntmps61
        go_wp2_with fail
        refine (specSize _ _).mono ?_
        rintro e w1 ⟨rfl, rfl⟩
        rw [HQ.out]
        go_wp2_with fail
        go_ret
        exact ⟨retStr (by unfold Lib.encodeRune; rw [HE.out]; rfl), by go_grown⟩
      · have HQ : Hid (sizeF r = 4) := by show _ = _; unfold sizeF; rw [if_neg (by omega), if_neg (by omega), if_neg (by omega), if_neg (by omega), if_pos (by omega)]
        have HE : Hid _ := Lib.encodeRuneZ_four (r := r) (by omega) (by omega)
        go_enter Try.func61, Try.ntmps61
        go_wp2_with fail
        refine (specSize _ _).mono ?_
        rintro e w1 ⟨rfl, rfl⟩
        rw [HQ.out]
        go_wp2_with fail
        go_ret
        exact ⟨retStr (by unfold Lib.encodeRune; rw [HE.out]; rfl), by go_grown⟩

/-- The bytes of letters. -/
def encL : List Int → List UInt8
  | [] => []
  | r :: l => Lib.encodeRune r ++ encL l
theorem encL_append (l r : List Int) : encL (l ++ r) = encL l ++ encL r := by
  induction l with
  | nil => rfl
  | cons a l ih => simp [encL, ih]
theorem encR_len (r : Int) : 1 ≤ (Lib.encodeRune r).length ∧ (Lib.encodeRune r).length ≤ 4 := by
  unfold Lib.encodeRune; rw [List.length_map]; exact Lib.encodeRuneZ_length r
theorem encL_len (l : List Int) : l.length ≤ (encL l).length ∧ (encL l).length ≤ 4 * l.length := by
  induction l with
  | nil => simp [encL]
  | cons a l ih => simp only [encL, List.length_append, List.length_cons]; have := encR_len a; omega
def putB (l : List Int) : List UInt8 := if okF (fn l) l.length = true then encL l else []
def putS (l : List Int) : ByteArray := strOf (putB l)
theorem take_one {l : List Int} {k : Nat} (h : k < l.length) : l.take (k + 1) = l.take k ++ [fn l k] := by
  rw [List.take_succ_eq_append_getElem h, fn_get h]
theorem encL_take {l : List Int} {k : Nat} (h : k < l.length) : encL (l.take (k + 1)) = encL (l.take k) ++ Lib.encodeRune (fn l k) := by
  rw [take_one h, encL_append]; simp [encL]

set_option maxHeartbeats 2000000 in
theorem specPut (v : Value) (l : List Int) (w : World) (hv : Arg w v l) (hl : l.length ≤ 4194304) :
    Calls Try.prog 43 #[v] w fun e w' => e = .returned (.string (putS l)) ∧ Below w.heap.size w w' := by
  rcases hv with ⟨a, cap, rfl, rfl⟩ | ⟨b, off, cap, rfl, hb, hlc, hcm, hat⟩
  · go_enter Try.func43, Try.ntmps43
    go_wp2
    go_rounds 1
    go_ret
    exact ⟨rfl, Below.refl _ _⟩
  · obtain ⟨n, hn⟩ : ∃ n, l.length = n := ⟨_, rfl⟩
    have HN : Hid _ := hn
    have HA : Hid _ := hat
    rw [hn]
    rw [hn] at hlc hl
    clear hn hat
    go_enter Try.func43, Try.ntmps43
    go_wp2
    go_loopw [3, 4] (fun s i wr => ∃ k : Nat, k ≤ n ∧ k ≤ 80 ∧ i = .int .i64 k ∧ s = .string (strOf (encL (l.take k))) ∧ Hid (∀ j, j < k → letter (fn l j) = true) ∧ Below w.heap.size w wr) (fun _ i _ => n - (intOf i).toNat)
    case atStart => exact ⟨0, Nat.zero_le _, by omega, rfl, rfl, fun j hj => by omega, Below.refl _ _⟩
    case round =>
      obtain ⟨k, hk, hk80, rfl, rfl, hall, hbel⟩ := hrel
      by_cases hlt : k < n
      · have c : wr.cell? ⟨b, off + k, none⟩ = some (.int .i64 (fn l k)) := (hbel.cell (p := ⟨b, off + k, none⟩) hb).trans (HA.out k (by rw [HN.out]; exact hlt))
        by_cases hz : letter (fn l k) = true
        · have hs0 : sizeF (fn l k) ≠ 0 := fun e => by rw [(sizeF_zero _).1 e] at hz; cases hz
          obtain ⟨q, hq⟩ : ∃ q, sizeF (fn l k) = q := ⟨_, rfl⟩
          rw [hq] at hs0
          have HQ : Hid _ := hq
          have g0 : (q == 0) = false := by simpa using hs0
          clear hq hs0
          by_cases h80 : k < 80
          · have hE : (encL (l.take k)).length ≤ 320 := by have := (encL_len (l.take k)).2; rw [List.length_take] at this; omega
            have HE : Hid _ := hE
            have HZ : Hid _ := hz
            have HT : Hid (encL (l.take (k + 1)) = encL (l.take k) ++ Lib.encodeRune (fn l k)) := encL_take (by rw [HN.out]; exact hlt)
            have HADD : Hid (∀ (w : World), (Op.stringOp .add (strOf (encL (l.take k))) (strOf (Lib.encodeRune (fn l k)))).run Try.prog w = .ok (.string (strOf (encL (l.take (k + 1))))) w) := fun w => by
              rw [run_string_add_sum w _ _ (by have := (encR_len (fn l k)).2; rw [strOf_size, strOf_size]; omega), strOf_append, HT.out]
            have hadd := HADD.out
            clear hE hz
            go_wp2_with (first | (go_at_call 56; refine (specSize _ _).mono ?_; rintro e w1 ⟨rfl, rfl⟩; rw [HQ.out]) | (go_at_call 61; refine (put1_any _ _ HZ.out).mono ?_; rintro e w2 ⟨rfl, b2⟩))
            refine ⟨⟨k + 1, by omega, by omega, by go_num, rfl, fun j hj => ?_, bstep hbel b2⟩, by simp only [intOf]; omega⟩
            by_cases e : j = k
            · subst e; exact HZ.out
            · exact hall.out j (by omega)
          · have h80' : (80 : Int) ≤ (k : Int) := by omega
            have HF : Hid (putS l = ⟨#[]⟩) := by
              show _ = _
              unfold putS putB
              rw [if_neg]
              · rfl
              · rw [HN.out, okF_long (by omega)]; simp
            go_wp2_with (go_at_call 56; refine (specSize _ _).mono ?_; rintro e w1 ⟨rfl, rfl⟩; rw [HQ.out])
            go_ret
            exact ⟨retStr HF.out.symm, hbel⟩
        · have hz' : letter (fn l k) = false := by simpa using hz
          have HQ : Hid (sizeF (fn l k) = 0) := (sizeF_zero _).2 hz'
          have HF : Hid (putS l = ⟨#[]⟩) := by
            show _ = _
            unfold putS putB
            rw [if_neg]
            · rfl
            · rw [HN.out, okF_no hlt hz']; simp
          clear hz hz'
          go_wp2_with (go_at_call 56; refine (specSize _ _).mono ?_; rintro e w1 ⟨rfl, rfl⟩; rw [HQ.out])
          go_ret
          exact ⟨retStr HF.out.symm, hbel⟩
      · have e : k = n := by omega
        subst e
        have HF : Hid (putS l = strOf (encL (l.take k))) := by
          show _ = _
          unfold putS putB
          rw [if_pos, List.take_of_length_le (by rw [HN.out]; exact Nat.le_refl _)]
          rw [HN.out, okF_all hall.out]
          simpa using hk80
        go_wp2
        go_ret
        exact ⟨retStr HF.out.symm, hbel⟩
end Go.Proofs.Yteefeciiaekdlaa
