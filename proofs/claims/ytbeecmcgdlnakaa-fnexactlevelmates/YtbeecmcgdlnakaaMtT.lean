import Derived.Test.YtbeecmcgdlnakaaMtL
import Derived.Test.YtbeecmcgdlnakaaRRLaw
import Derived.Test.YtbeecmcgdlnakaaRunsT0
namespace Go.Proofs.Ytbeecmcgdlnakaa
set_option linter.unusedSimpArgs false
set_option linter.unusedVariables false

theorem mateR_all (l c : List Int) : (mateR l c).length ≤ 80 ∧ totR (mateR l c) ≤ 6400 := by
  by_cases q : okF (fn l) l.length = true ∧ clsOk (fn c) c.length = true ∧ l.length = c.length
  · rw [mateR_yes q.1 q.2.1 q.2.2]
    have h80 := okF_len q.1
    have hl : (rowsP (srtB (stB (fn l) (fn c) mate l.length).2)).length ≤ 80 := by
      rw [rowsP_len, srt_len]; have := (st_len (fn l) (fn c) mate l.length).2; omega
    refine ⟨hl, ?_⟩
    have h1 := totTo_le (R := rowsP (srtB (stB (fn l) (fn c) mate l.length).2)) (m := 80) (rowsP (srtB (stB (fn l) (fn c) mate l.length).2)).length (fun j hj => by
      have hj2 : j < (srtB (stB (fn l) (fn c) mate l.length).2).length := by rw [rowsP_len] at hj; exact hj
      rw [rowsP_at hj2]; simp [rowP])
    unfold totR
    have h2 := Nat.mul_le_mul_right 80 hl
    omega
  · rw [mateR_no q]; simp [totR, totTo]
end Go.Proofs.Ytbeecmcgdlnakaa
