import Derived.Test.YtbeecmcgdlnakaaMateD
namespace Go.Proofs.Ytbeecmcgdlnakaa
theorem mate_inv (r : Int) (h : mate r ≠ 0) : mate (mate r) = r := by
  by_cases h1 : r = 40
  · subst h1; decide
  by_cases h2 : r = 41
  · subst h2; decide
  by_cases h3 : r = 91
  · subst h3; decide
  by_cases h4 : r = 93
  · subst h4; decide
  by_cases h5 : r = 123
  · subst h5; decide
  by_cases h6 : r = 125
  · subst h6; decide
  exfalso; apply h; simp [mate, h1, h2, h3, h4, h5, h6]
end Go.Proofs.Ytbeecmcgdlnakaa
