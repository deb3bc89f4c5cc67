import Derived.Test.YtgojdlbidjnmmaaGreatLevMath2
import Derived.Test.YtgojdlbidjnmmaaGreatTogT
import Derived.Test.YtgojdlbidjnmmaaGreatClone
namespace Go.Proofs.YtgojdlbidjnmmaaGreat
open Go.ChangeShapes Go.WideShapes Go.ChangeAt Go.RowKit Go.Deep
set_option linter.unusedSimpArgs false
set_option linter.unusedVariables false

/-- The levels of letters. -/
def levsF (l : List Int) (mt : Nat → Nat) (base : Int) : List Int :=
  lvsTo (cl l) l (lvL (cl l) (fsF (cl l) mt) base l.length) (clL (cl l) (fsF (cl l) mt) base l.length) l.length mt base (runsTo (cl l) (fn (lvL (cl l) (fsF (cl l) mt) base l.length)) l.length mt l.length) (runsTo (cl l) (fn (lvL (cl l) (fsF (cl l) mt) base l.length)) l.length mt l.length).length
def levsR (l : List Int) (mt : Nat → Nat) (base : Int) : List Int := if okT l base = true then levsF l mt base else []
theorem levsF_len (l : List Int) (mt : Nat → Nat) (base : Int) : (levsF l mt base).length = l.length := by unfold levsF; rw [lvsTo_len, lvL_len]
theorem levsR_le (l : List Int) (mt : Nat → Nat) (base : Int) : (levsR l mt base).length ≤ l.length := by unfold levsR; split <;> simp [levsF_len]

/-- What is known of the runs of a text. -/
structure RunsOk (l L C : List Int) (n : Nat) (R : List (List Nat)) : Prop where
  len : R.length ≤ n
  nod : R.flatten.Nodup
  ne : ∀ r ∈ R, r ≠ []
  ok : ∀ r ∈ R, ∀ m, r.length = m + 1 → RunOk l C n m (fn L (r.headD 0)) r
  lv : ∀ r ∈ R, ∀ x ∈ r, fn L x = fn L (r.headD 0)
theorem runs_okk {l : List Int} {mt : Nat → Nat} {base : Int} {n : Nat} (hn : l.length = n) (hb : 0 ≤ base ∧ base ≤ 1) (hok : okF (fn l) n = true) (h80 : n ≤ 80) (ht : Txt (cl l) (fn (lvL (cl l) (fsF (cl l) mt) base n)) n mt) :
    RunsOk l (lvL (cl l) (fsF (cl l) mt) base n) (clL (cl l) (fsF (cl l) mt) base n) n (runsTo (cl l) (fn (lvL (cl l) (fsF (cl l) mt) base n)) n mt n) := by
  have hin : ∀ r ∈ runsTo (cl l) (fn (lvL (cl l) (fsF (cl l) mt) base n)) n mt n, ∃ b, b < n ∧ begB (fn (lvL (cl l) (fsF (cl l) mt) base n)) b = true ∧ chainN (cl l) (fn (lvL (cl l) (fsF (cl l) mt) base n)) n mt b = r := fun r hr => by
    unfold runsTo at hr
    rw [List.mem_map] at hr
    obtain ⟨b, hb1, e⟩ := hr
    rw [List.mem_filter, List.mem_range] at hb1
    exact ⟨b, hb1.1, start_beg hb1.2, e⟩
  have hne : ∀ r ∈ runsTo (cl l) (fn (lvL (cl l) (fsF (cl l) mt) base n)) n mt n, r ≠ [] := fun r hr => by
    obtain ⟨b, hbn, hbb, e⟩ := hin r hr
    rw [← e, chain_eq ht hbb hbn]
    have := piece_ne hbb hbn
    simp [this]
  refine ⟨runs_len n, runs_nodup ht, hne, fun r hr m hm => run_ok hn hb hok h80 ht hr hm, fun r hr x hx => ?_⟩
  obtain ⟨b, hbn, hbb, e⟩ := hin r hr
  have hlv := chain_lv ht (n - b) b hbb hbn (Nat.le_refl _)
  rw [e] at hlv
  have hhd : r.headD 0 ∈ r := by
    have := hne r hr
    cases r with
    | nil => exact absurd rfl this
    | cons a q => simp
  rw [(hlv x hx).2.2, (hlv _ hhd).2.2]
/-- What stands at a place before its level is put in. -/
theorem put_cur {c : Nat → Int} {l L C : List Int} {n : Nat} {mt : Nat → Nat} {base : Int} {R : List (List Nat)} (h : R.flatten.Nodup) {q k : Nat} (hq : q < R.length) (hk : k < (R.getD q []).length) (lvl : Int) (x : Nat → Int) :
    fn (putTo (lvsTo c l L C n mt base R q) (R.getD q []) lvl x k) ((R.getD q []).getD k 0) = fn L ((R.getD q []).getD k 0) := by
  have hg : R.getD q [] = R[q] := by simp [hq]
  rw [hg] at hk ⊢
  have hg2 : R[q].getD k 0 = R[q][k] := by simp [hk]
  rw [hg2]
  have htk : R.flatten = (R.take q).flatten ++ (R[q] ++ (R.drop (q + 1)).flatten) := by
    rw [← List.flatten_cons, ← List.flatten_append]
    congr 1
    rw [← List.drop_eq_getElem_cons hq, List.take_append_drop]
  rw [htk, List.nodup_append] at h
  obtain ⟨_, h2, h3⟩ := h
  rw [List.nodup_append] at h2
  have hrn := h2.1
  rw [putTo_other, lvsTo_other (by omega)]
  · intro hm
    exact h3 _ hm _ (List.mem_append_left _ (List.getElem_mem hk)) rfl
  · intro i hi e
    have hil : i < R[q].length := by omega
    rw [show R[q].getD i 0 = R[q][i] by simp [hil]] at e
    exact List.pairwise_iff_getElem.1 hrn i k hil hk hi e
/-- The level of each run is that of its first place. -/
theorem runs_lvs {c lv : Nat → Int} {n : Nat} {mt : Nat → Nat} (ht : Txt c lv n mt) : (stN c lv mt n).map lv = (runsTo c lv n mt n).map (fun r => lv (r.headD 0)) := by
  unfold runsTo stN
  rw [List.map_map]
  apply List.map_congr_left
  intro b hb
  rw [List.mem_filter, List.mem_range] at hb
  have hbb := start_beg hb.2
  simp only [Function.comp]
  obtain ⟨r, hr⟩ := piece_head hbb hb.1
  rw [chain_eq ht hbb hb.1, hr]; rfl
end Go.Proofs.YtgojdlbidjnmmaaGreat
