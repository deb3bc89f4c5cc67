import Derived.Test.YtgjhhfmhaalcnaaStandNo
import Derived.Test.YtgjhhfmhaalcnaaStandY1
namespace Go.Proofs.Ytgjhhfmhaalcnaa
open Go.ChangeShapes Go.WideShapes Go.ChangeAt Go.RowKit
set_option linter.unusedSimpArgs false

/-- The line as it stands then, in letters. -/
def StandIs (l : List Int) (f t d : Int) (n : Nat) (z : List Int) (base wide align F T D : Int) (N : Nat) (Z : List Int) : Prop :=
  keepI (standOk l f t d n (fn z) base wide align) f = F ∧ keepI (standOk l f t d n (fn z) base wide align) t = T ∧ keepI (standOk l f t d n (fn z) base wide align) d = D ∧ standN l f t d n z base wide align = N ∧ standZ l f t d n z base wide align = Z
theorem standIs_ex (l : List Int) (f t d : Int) (n : Nat) (z : List Int) (base wide align : Int) : ∃ F T D N Z, StandIs l f t d n z base wide align F T D N Z ∧ N ≤ n := by
  refine ⟨_, _, _, _, _, ⟨rfl, rfl, rfl, rfl, rfl⟩, ?_⟩
  unfold standN; split <;> omega
theorem specStandP (f t d : Int) (u : Value) (n : Nat) (z : List Int) (v : Value) (l : List Int) (base wide align : Int) (w : World) (hu : ArgG w u n z) (hv : Arg w v l) (hl : l.length ≤ 1048576) (hn : n ≤ 1048576) (F T D : Int) (N : Nat) (Z : List Int) (hs : StandIs l f t d n z base wide align F T D N Z) :
    Calls Try.prog 19 #[v, .agg #[.int .i64 f, .int .i64 t, .int .i64 d, u], .int .i64 base, .int .i64 wide, .int .i64 align] w fun e w' => (∃ v', e = .returned (.agg #[.int .i64 F, .int .i64 T, .int .i64 D, v']) ∧ OwnG w' w.heap.size v' N Z) ∧ Below w.heap.size w w' := by
  have := specStand f t d u n z v l base wide align w hu hv hl hn _ rfl
  rw [hs.1, hs.2.1, hs.2.2.1, hs.2.2.2.1, hs.2.2.2.2] at this
  exact this
theorem implStandP (f t d : Int) (u : Value) (n : Nat) (z : List Int) (v : Value) (l : List Int) (base wide align : Int) (w : World) (hu : ArgG w u n z) (hv : Arg w v l) (hl : l.length ≤ 1048576) (hn : n ≤ 1048576) (F T D : Int) (N : Nat) (Z : List Int) (hs : StandIs l f t d n z base wide align F T D N Z) :
    Calls Try.prog 22 #[v, .agg #[.int .i64 f, .int .i64 t, .int .i64 d, u], .int .i64 base, .int .i64 wide, .int .i64 align] w fun e w' => (∃ v', e = .returned (.agg #[.int .i64 F, .int .i64 T, .int .i64 D, v']) ∧ OwnG w' w.heap.size v' N Z) ∧ Below w.heap.size w w' := by
  obtain ⟨h1, h2, h3, h4, h5⟩ := hs
  cases hq : standOk l f t d n (fn z) base wide align
  · simp only [standN, standZ, keepI, hq] at h1 h2 h3 h4 h5
    refine (implStandNo f t d u n z v l base wide align w hu hv hl hn hq).mono ?_
    rintro e w' ⟨rfl, hb⟩
    refine ⟨⟨.slice none 0 0, ?_, ?_⟩, hb⟩
    · rw [← h1, ← h2, ← h3]; simp
    · rw [← h4, ← h5]; exact OwnG.nil _ _
  · simp only [standN, standZ, keepI, hq] at h1 h2 h3 h4 h5
    have hqq := hq
    unfold standOk at hqq
    simp only [Bool.and_eq_true, inB, decide_eq_true_eq] at hqq
    obtain ⟨a1, a2, a3, a4⟩ := hqq
    have hz : mvL z n (byF base wide align d (fn z) n) = Z := by simpa using h5
    have hN : n = N := by simpa using h4
    have hF : f = F := by simpa using h1
    have hT : t = T := by simpa using h2
    have hD : d = D := by simpa using h3
    rw [← hz, ← hN, ← hF, ← hT, ← hD]
    rcases (show base = 0 ∨ base = 1 by omega) with rfl | rfl
    · exact implStand0 f t d u n z v l wide align w hu hv hl hn a1 (by omega) (by omega) (by omega) (by omega)
    · exact implStand1 f t d u n z v l wide align w hu hv hl hn a1 (by omega) (by omega) (by omega) (by omega)
end Go.Proofs.Ytgjhhfmhaalcnaa
