import Derived.Test.YtbacfaddljjopaaSpanAtI
namespace Go.Proofs.Ytbacfaddljjopaa
open Go.ChangeShapes Go.WideShapes Go.ChangeAt Go.RowKit
set_option linter.unusedSimpArgs false

theorem specSpanAt (v : Value) (n : Nat) (l : List Int) (t : Int) (w : World) (hv : ArgS w v n l) (hbig : n ≤ 1048576) (r : Int × Int) (hr : Hid (spanAt (fn l) n t = r)) :
    Calls Try.prog 23 #[v, .int .i64 t] w fun e w' => e = .returned (.tuple #[.int .i64 r.1, .int .i64 r.2]) ∧ Below w.heap.size w w' := by
  by_cases hok : spansOk (fn l) n 80 = true
  · have HE : Hid _ := endsOk_of hok
    have HL : Hid (lookAt (fn l) n t = r) := by show _ = _; rw [← hr.out, spanAt, if_pos hok]
    have HO : Hid _ := hok
    clear hok
    go_enter Try.func23, Try.ntmps23
    go_wp2_with fail
    refine (specSpansOk v n l 80 w hv hbig).mono ?_
    rintro e w1 ⟨rfl, b1⟩
    rw [HO.out]
    go_wp2_with fail
    refine (specLookAt v n l t w1 (hv.below b1) hbig HE r HL).mono ?_
    rintro e w2 ⟨rfl, b2⟩
    go_wp2_with fail
    go_ret2
    exact ⟨rfl, bstep b1 b2⟩
  · have hok' : spansOk (fn l) n 80 = false := by simpa using hok
    have HO : Hid _ := hok'
    have HL : Hid (r = (0, 0)) := by show _ = _; rw [← hr.out, spanAt, if_neg hok]
    clear hok hok'
    go_enter Try.func23, Try.ntmps23
    go_wp2_with fail
    refine (specSpansOk v n l 80 w hv hbig).mono ?_
    rintro e w1 ⟨rfl, b1⟩
    rw [HO.out]
    go_wp2_with fail
    go_ret2
    exact ⟨retPair HL.out, b1⟩

end Go.Proofs.Ytbacfaddljjopaa
