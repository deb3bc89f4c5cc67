import Derived.Test.YtbeecmcgdlnakaaMg6
import Derived.Test.YtbeecmcgdlnakaaMg16
import Derived.Test.YtbeecmcgdlnakaaMg18
import Derived.Deep.CutRange
import Derived.Test.YtbeecmcgdlnakaaMg17
import Derived.Maps.Range
namespace Go.Proofs.Ytbeecmcgdlnakaa
open Go.ChangeShapes Go.WideShapes Go.ChangeAt Go.RowKit Go.Deep
set_option linter.unusedSimpArgs false
set_option linter.unusedVariables false

/-- Where something begins, up to a place. -/
def begN (lv : Nat → Int) (k : Nat) : List Nat := (List.range k).filter (begB lv)
def pcsN (lv : Nat → Int) (k : Nat) : List (List Nat) := (begN lv k).map (fun b => pieceN lv b k)
theorem begN_succ (lv : Nat → Int) (k : Nat) : begN lv (k + 1) = begN lv k ++ (if begB lv k = true then [k] else []) := by
  unfold begN
  rw [List.range_succ, List.filter_append]
  congr 1
  simp only [List.filter_cons, List.filter_nil]
theorem begN_mem {lv : Nat → Int} {k b : Nat} : b ∈ begN lv k ↔ b < k ∧ begB lv b = true := by unfold begN; rw [List.mem_filter, List.mem_range]
theorem begN_len (lv : Nat → Int) (k : Nat) : (begN lv k).length ≤ k := by unfold begN; have := List.length_filter_le (begB lv) (List.range k); rwa [List.length_range] at this
/-- The last one that has begun. -/
theorem begN_last (lv : Nat → Int) (k : Nat) : (begN lv k = [] ∧ pvL lv k = -1) ∨ ∃ pre, begN lv k = pre ++ [bgL lv k] ∧ pvL lv k = lv (bgL lv k) := by
  induction k with
  | zero => exact .inl ⟨rfl, rfl⟩
  | succ k ih =>
    rw [begN_succ]
    by_cases hb : begB lv k = true
    · rw [if_pos hb]
      exact .inr ⟨begN lv k, by rw [bg_beg hb], by simp only [pvL]; rw [if_pos (beg_seen hb), bg_beg hb]⟩
    · have hb' : begB lv k = false := by simpa using hb
      rw [if_neg hb, List.append_nil, bg_stay hb']
      by_cases hs : 0 ≤ lv k
      · have e := beg_no hb' hs
        have hp : pvL lv (k + 1) = pvL lv k := by simp only [pvL]; rw [if_pos hs, e]
        rw [hp]; exact ih
      · have hp : pvL lv (k + 1) = pvL lv k := by simp only [pvL]; rw [if_neg hs]
        rw [hp]; exact ih
theorem pcs_unseen {lv : Nat → Int} {k : Nat} (h : lv k < 0) : pcsN lv (k + 1) = pcsN lv k := by
  unfold pcsN
  rw [begN_succ, if_neg (by rw [bg_unseen h]; simp), List.append_nil]
  apply List.map_congr_left
  intro b hb
  rw [piece_succ, if_neg, List.append_nil]
  simp [ofB]; intro h2; omega
theorem pcs_beg {lv : Nat → Int} {k : Nat} (h : begB lv k = true) : pcsN lv (k + 1) = pcsN lv k ++ [[k]] := by
  unfold pcsN
  rw [begN_succ, if_pos h, List.map_append]
  congr 1
  · apply List.map_congr_left
    intro b hb
    rw [piece_succ, if_neg, List.append_nil]
    rw [begN_mem] at hb
    simp [ofB, bg_beg h]; intro _; omega
  · simp only [List.map_cons, List.map_nil]
    rw [piece_succ, piece_at lv h, if_pos (of_b h)]; rfl
theorem pcs_more {lv : Nat → Int} {k : Nat} {pre : List Nat} (hs : 0 ≤ lv k) (h : begB lv k = false) (hp : begN lv k = pre ++ [bgL lv k]) :
    pcsN lv k = pre.map (fun b => pieceN lv b k) ++ [pieceN lv (bgL lv k) k] ∧ pcsN lv (k + 1) = pre.map (fun b => pieceN lv b k) ++ [pieceN lv (bgL lv k) k ++ [k]] := by
  unfold pcsN
  rw [begN_succ, if_neg (by rw [h]; simp), List.append_nil, hp, List.map_append, List.map_append]
  refine ⟨rfl, ?_⟩
  have hnd : (begN lv k).Pairwise (· < ·) := by unfold begN; exact (List.pairwise_lt_range).filter _
  rw [hp, List.pairwise_append] at hnd
  congr 1
  · apply List.map_congr_left
    intro b hb
    rw [piece_succ, if_neg, List.append_nil]
    have := hnd.2.2 b hb (bgL lv k) (by simp)
    simp [ofB, bg_stay h]; intro _; omega
  · simp only [List.map_cons, List.map_nil]
    rw [piece_succ, if_pos (of_mk hs (bg_stay h))]
/-- Which of the pieces begins at a letter. -/
def nextTo (lv : Nat → Int) (k : Nat) (N : List Int) : Prop := ∀ j, j < k → fn N j = if begB lv j = true then ((begN lv j).length : Int) else -1
def levTo (lv : Nat → Int) (k : Nat) (P : List (Value × Int)) : Prop := P.map (·.2) = (begN lv k).map lv
theorem lev_len {lv : Nat → Int} {k : Nat} {P : List (Value × Int)} (h : levTo lv k P) : P.length = (begN lv k).length := by
  have := congrArg List.length h; simpa using this

theorem lev_split {lv : Nat → Int} {k : Nat} {P : List (Value × Int)} {pre : List Nat} {b : Nat} (h : levTo lv k P) (hp : begN lv k = pre ++ [b]) : ∃ P0 u, P = P0 ++ [(u, lv b)] ∧ P0.length = pre.length := by
  unfold levTo at h
  rw [hp, List.map_append] at h
  rcases List.eq_nil_or_concat P with e | ⟨P0, y, e⟩
  · subst e; simp at h
  · rw [List.concat_eq_append] at e
    subst e
    rw [List.map_append] at h
    have hl : (P0.map (·.2)).length = (pre.map lv).length := by have := congrArg List.length h; simp at this; simpa using this
    obtain ⟨h1, h2⟩ := List.append_inj h hl
    simp at h2 hl
    exact ⟨P0, y.1, by rw [← h2], hl⟩

set_option maxRecDepth 10000 in
set_option maxHeartbeats 8000000 in
theorem implPieces {B T gm gq gl gc n : Nat} {base : Int} {cs M L cls : List Int} (w : World) (h : TT w B T gm gq gl gc n base cs M L cls) (hn80 : n ≤ 1000) :
    Calls Try.prog 56 #[.pointer (some ⟨T, 0, none⟩)] w fun e w' => (∃ v gn P N, e = .returned (.tuple #[v, .slice (some ⟨gn, 0, none⟩) n n]) ∧ gn = w.heap.size ∧ PR w' (w.heap.size + 1) v P (natR (pcsN (fn L) n)) ∧ levTo (fn L) n P ∧ OwnI w' w.heap.size (.slice (some ⟨gn, 0, none⟩) n n) N ∧ nextTo (fn L) n N) ∧ Below w.heap.size w w' := by
  have hmk := fun w => run_make_row' (P := Try.prog) 23 3 (.int .i64 0) 8 Try.underlying23 infoI rfl .i64 .i64 n (by omega) (by omega) w
  have c3 := h.c3
  have H : Hid _ := h
  have hon : OwnI (w.alloc (.cells (madeCells #[.int .i64 0] n) 3)) w.heap.size (.slice (some ⟨w.heap.size, 0, none⟩) n n) (List.replicate n 0) := made_blk (Nat.le_refl _) (heap_alloc_new _ _) (by unfold maxLen; omega)
  have hb0 : Below w.heap.size w (w.alloc (.cells (madeCells #[.int .i64 0] n) 3)) := (Below.refl _ _).alloc (Nat.le_refl _) _
  have hs0 : (w.alloc (.cells (madeCells #[.int .i64 0] n) 3)).heap.size = w.heap.size + 1 := by simp
  have hLlen : Hid (L.length = n) := h.ol.len
  have hLat : Hid (∀ w', Below w.heap.size w w' → ∀ j, j < n → w'.cell? ⟨gl, j, none⟩ = some (.int .i64 (fn L j))) := fun w' hb j hj => (hb.cell (p := ⟨gl, j, none⟩) (h.ol.lt gl rfl).2).trans (h.ol.cellN j hj)
  have HON : Hid (OwnI (w.alloc (.cells (madeCells #[.int .i64 0] n) 3)) w.heap.size (.slice (some ⟨w.heap.size, 0, none⟩) n n) (List.replicate n 0)) := hon
  have HB0 : Hid (Below w.heap.size w (w.alloc (.cells (madeCells #[.int .i64 0] n) 3))) := hb0
  have hc3a : (w.alloc (.cells (madeCells #[.int .i64 0] n) 3)).cell? ⟨T, 3, none⟩ = some (.slice (some ⟨gl, 0, none⟩) n n) := (hb0.cell (p := ⟨T, 3, none⟩) h.lt).trans c3
  have hsz0 : Hid ((w.alloc (.cells (madeCells #[.int .i64 0] n) 3)).heap.size = w.heap.size + 1) := hs0
  clear h hon hb0 hs0
  go_enter Try.func56, Try.ntmps56
  go_wp2_with fail
  clear hmk
  go_loopw [2, 18] (fun v q wr => ∃ (k : Nat) (P : List (Value × Int)) (N : List Int), k ≤ n ∧ q = .int .i64 k ∧ Hid (PR wr (w.heap.size + 1) v P (natR (pcsN (fn L) k))) ∧ Hid (levTo (fn L) k P) ∧ Hid (OwnI wr w.heap.size (.slice (some ⟨w.heap.size, 0, none⟩) n n) N) ∧ Hid (nextTo (fn L) k N) ∧ Hid (Below w.heap.size w wr) ∧ w.heap.size + 1 ≤ wr.heap.size) (fun _ q _ => n - (intOf q).toNat)
  case atStart => exact ⟨0, [], _, Nat.zero_le _, rfl, PR.nil _ _, rfl, HON.out, fun j hj => by omega, HB0.out, by rw [hsz0.out]; exact Nat.le_refl _⟩
  case round =>
    obtain ⟨k, P, N, hk, rfl, hP, hlev, hN, hnx, hbel, hsz⟩ := hrel
    obtain ⟨av, cv, rfl⟩ := hP.out.slc
    by_cases hlt : k < n
    · have hki : (k : Int) < (n : Int) := by omega
      have hck : wr.cell? ⟨gl, k, none⟩ = some (.int .i64 (fn L k)) := hLat.out wr hbel.out k hlt
      have hcn := hN.out.cellN k hlt
      have hfn := hN.out.frozenN k
      have hNl := hN.out.len
      -- next[at] = -1
      obtain ⟨w2, hw2⟩ : ∃ w2, wr.setCell ⟨w.heap.size, k, none⟩ (.int .i64 (-1)) = w2 := ⟨_, rfl⟩
      have HW2 : Hid _ := hw2
      have hN2 : Hid (OwnI w2 w.heap.size (.slice (some ⟨w.heap.size, 0, none⟩) n n) (N.set k (-1))) := by rw [← hw2]; exact hN.out.storedN k (-1)
      have hB2 : Hid (Below w.heap.size w w2) := by rw [← hw2]; exact hbel.out.setCell (Nat.le_refl _) _
      have hsz2 : w.heap.size + 1 ≤ w2.heap.size := by rw [← hw2, World.size_setCell]; exact hsz
      have hP2 : Hid (PR w2 (w.heap.size + 1) (.slice av (natR (pcsN (fn L) k)).length cv) P (natR (pcsN (fn L) k))) := by
        rw [← hw2]
        refine hP.out.kept (fun b hb => heap_setCell_other wr ⟨w.heap.size, k, none⟩ b _ (fun e => ?_))
        rcases hb with hb | ⟨j, hj, hb⟩
        · have := (hP.out.lt b hb).1; have e2 : b = w.heap.size := e; omega
        · have := ((hP.out.row j hj).lt b hb).1; have e2 : b = w.heap.size := e; omega
      clear hw2 hP hN
      have hnxn : ∀ x, x = (if begB (fn L) k = true then ((begN (fn L) k).length : Int) else -1) → ∀ N2 : List Int, fn N2 k = x → (∀ j, j < k → fn N2 j = fn N j) → nextTo (fn L) (k + 1) N2 := by
        intro x hx N2 h1 h2 j hj
        by_cases e : j = k
        · subst e; rw [h1, hx]
        · rw [h2 j (by omega)]; exact hnx.out j (by omega)
      have HNX : Hid _ := hnxn
      clear hnxn hnx
      by_cases hneg : fn L k < 0
      · have hq2 : decide (fn L k < 0) = true := by simpa using hneg
        have hpc := pcs_unseen hneg
        have hbg : begB (fn L) k = false := bg_unseen hneg
        have hbn : begN (fn L) (k + 1) = begN (fn L) k := by rw [begN_succ, if_neg (by rw [hbg]; simp), List.append_nil]
        have HPC : Hid _ := hpc
        have HBG : Hid _ := hbg
        have HBN : Hid _ := hbn
        clear hneg hpc hbg hbn
        go_wp2_with fail
        rw [HW2.out]
        go_roundw
        case rel => exact ⟨k + 1, P, N.set k (-1), by omega, by go_num, by rw [HPC.out]; exact hP2.out, by unfold Hid levTo; rw [HBN.out]; exact hlev.out, hN2.out, HNX.out (-1) (by rw [if_neg (by rw [HBG.out]; simp)]) _ (fn_set_same (by omega)) (fun j hj => fn_set_other (by omega)), hB2.out, hsz2⟩
        case measure => simp only [intOf]; omega
      · have hq2 : decide (fn L k < 0) = false := by simpa using hneg
        by_cases hbg : begB (fn L) k = true
        · have hbegin := begN_last (fn L) k
          obtain ⟨c, hc⟩ : ∃ c, (begN (fn L) k).length = c := ⟨_, rfl⟩
          have hcl : P.length = c := by rw [lev_len hlev.out, hc]
          have hc1 : c ≤ 1000 := by have := begN_len (fn L) k; omega
          obtain ⟨R0, hR0e⟩ : ∃ R0, natR (pcsN (fn L) k) = R0 := ⟨_, rfl⟩
          have hR0l : R0.length = c := by rw [← hR0e, ← hP2.out.len, hcl]
          have HR2 : Hid (natR (pcsN (fn L) (k + 1)) = R0 ++ [[(k : Int)]]) := by unfold Hid; rw [pcs_beg hbg, natR_app, hR0e]; rfl
          have hRl : (natR (pcsN (fn L) k)).length = c := by rw [hR0e, hR0l]
          rw [hRl] at hP2 ⊢
          rw [hR0e] at hP2
          have HR0 : Hid (R0.length = c) := hR0l
          have HPl : Hid (P.length = c) := hcl
          have HBG : Hid (begB (fn L) k = true) := hbg
          have HC : Hid ((begN (fn L) k).length = c) := hc
          have hlev2 : Hid (∀ z, levTo (fn L) (k + 1) (P ++ [(z, fn L k)])) := fun z => by
            have := hlev.out
            unfold levTo at this ⊢
            rw [begN_succ, if_pos hbg, List.map_append, List.map_append, this]; rfl
          obtain ⟨NN, hNN⟩ : ∃ NN, N.set k (-1) = NN := ⟨_, rfl⟩
          have HNN : Hid (N.set k (-1) = NN) := hNN
          have hNNl : k < NN.length := by rw [← hNN, List.length_set]; omega
          rw [hNN] at hN2
          have hcnk := hN2.out.cellN k hlt
          have hfnk := hN2.out.frozenN k
          obtain ⟨w3, hw3⟩ : ∃ w3, w2.setCell ⟨w.heap.size, k, none⟩ (.int .i64 c) = w3 := ⟨_, rfl⟩
          have HW3 : Hid _ := hw3
          have hN3 : Hid (OwnI w3 w.heap.size (.slice (some ⟨w.heap.size, 0, none⟩) n n) (NN.set k c)) := by rw [← hw3]; exact hN2.out.storedN k c
          have hB3 : Hid (Below w.heap.size w w3) := by rw [← hw3]; exact hB2.out.setCell (Nat.le_refl _) _
          have hsz3 : w.heap.size + 1 ≤ w3.heap.size := by rw [← hw3, World.size_setCell]; exact hsz2
          have HP3 : Hid (PR w3 (w.heap.size + 1) (.slice av c cv) P R0) := by
            rw [← hw3]
            refine hP2.out.kept (fun b hb => heap_setCell_other w2 ⟨w.heap.size, k, none⟩ b _ (fun e => ?_))
            rcases hb with hb | ⟨j, hj, hb⟩
            · have := (hP2.out.lt b hb).1; have e2 : b = w.heap.size := e; omega
            · have := ((hP2.out.row j hj).lt b hb).1; have e2 : b = w.heap.size := e; omega
          have HOW : Hid (OwnV 58 2 w3 (w.heap.size + 1) (.slice av c cv) c (pcells P)) := by have := HP3.out.own; rw [hR0l] at this; exact this
          have HBE : Hid _ := hbegin
          have HLT : Hid (k < n) := hlt
          have hpvne : Hid (pvL (fn L) k ≠ fn L k) := beg_pv hbg
          have HLV : Hid _ := hlev.out
          clear hbegin hc hcl hR0e hR0l hRl hbg hNN hw3 hlev
          by_cases hc0 : c = 0
          · have hz : ((c : Int) == 0) = true := by subst hc0; rfl
            clear hc0
            go_upto_region 6 with fail
            rw [HW2.out]
            go_upto_region 9 with fail
            rw [HW3.out]
            go_wp2_with (first | (at_builtin; refine own_appendV (k := 2) (b := 32) (T := 58) (TS := 54) (.tmp 47) (.tmp 50) rfl rowRT Try.underlying54 HOW.out (by omega) (by omega) (by omega) (by omega) rfl (by simp [Value.oneCell']) rfl rfl rfl rfl ?_; intro v4 w4 ho4 hg4 hv4; obtain ⟨g4, c4, rfl, _⟩ := ho4.form1 (by omega); have HP4 : Hid (PR w4 (w.heap.size + 1) (.slice (some ⟨g4, 0, none⟩) (c + 1) c4) (P ++ [(.slice none 0 0, fn L k)]) (R0 ++ [[]])) := PR.snocN HR0.out HP3.out (OwnI.nil _ _) (apart_nil _) (fun j hj => apart_nil _) ho4 hg4 hv4; have HG4 : Hid (World.grownBy w3 w4 (Value.ownBlock (.slice av c cv))) := hg4; obtain ⟨k4, f4⟩ := PR.lastCell HP4.out rfl HPl.out (World.grownBy.refl w4 _); have HS4 : Hid (w.heap.size + 1 ≤ w4.heap.size) := Nat.le_trans hsz3 hg4.size; clear ho4 hg4 hv4) | (at_builtin; refine own_appendV (k := 1) (b := 8) (T := 3) (TS := 56) (.tmp 61) (.tmp 63) rfl rowInt Try.underlying56 (OwnV.nil 3 1 w4 (w.heap.size + 1)) (by omega) HS4.out (by omega) (by omega) rfl (by simp [Value.oneCell']) rfl rfl rfl rfl ?_; intro v8 w8 ho8 hg8 hv8; obtain ⟨g8, c8, rfl, _⟩ := ho8.form1 (by omega); have HO8 : Hid (OwnV 3 1 w8 (w.heap.size + 1) (.slice (some ⟨g8, 0, none⟩) (0 + 1) c8) (0 + 1) ([] ++ [.int .i64 k])) := ho8; have HG8 : Hid (World.grownBy w4 w8 (Value.ownBlock (.slice none 0 0))) := hg8; have HV8 : Hid ((Value.slice (some ⟨g8, 0, none⟩) (0 + 1) c8).ownBlock = Value.ownBlock (.slice none 0 0) ∨ (Value.slice (some ⟨g8, 0, none⟩) (0 + 1) c8).ownBlock = some (w4.heap.size + 1)) := hv8; obtain ⟨k8, f8⟩ := PR.lastCell HP4.out rfl HPl.out HG8.out; clear ho8 hg8 hv8))
            have HS4' := HS4.out
            have HS8 := HG8.out.size
            go_roundw
            case rel =>
              have hfin := PR.last HP4.out rfl HPl.out (u' := .slice (some ⟨g8, 0, none⟩) (0 + 1) c8) (r' := [(k : Int)]) HO8.out HG8.out (by rcases HV8.out with e | e; exact .inl e; exact .inr ⟨_, e, by omega⟩)
              have hz := HP3.out.lt
              have hz4 := (HP4.out.lt g4 rfl).1
              have hN8 : OwnI (w8.setCell ⟨g4, c * 2, none⟩ (.slice (some ⟨g8, 0, none⟩) (0 + 1) c8)) w.heap.size (.slice (some ⟨w.heap.size, 0, none⟩) n n) (NN.set k c) := by
                refine hN3.out.kept (fun b hb => ?_)
                simp [Value.ownBlock] at hb
                subst hb
                refine (heap_setCell_other w8 ⟨g4, c * 2, none⟩ w.heap.size _ (fun e => by have e2 : w.heap.size = g4 := e; omega)).trans ((HG8.out.block _ (by omega) (by simp [Value.ownBlock])).trans (HG4.out.block _ (by omega) (fun e => by have := (hz _ e.symm).1; omega)))
              have hB8 : Below w.heap.size w (w8.setCell ⟨g4, c * 2, none⟩ (.slice (some ⟨g8, 0, none⟩) (0 + 1) c8)) :=
                ((hB3.out.grown HG4.out hB3.out.size (fun q hq => by have := (hz q hq).1; omega)).grown HG8.out (by omega) (fun q hq => by simp [Value.ownBlock] at hq)).setCell (by show w.heap.size ≤ g4; omega) _
              have hsz8 : w.heap.size + 1 ≤ (w8.setCell ⟨g4, c * 2, none⟩ (.slice (some ⟨g8, 0, none⟩) (0 + 1) c8)).heap.size := by
                rw [World.size_setCell]; omega
              refine ⟨k + 1, P ++ [(.slice (some ⟨g8, 0, none⟩) (0 + 1) c8, fn L k)], NN.set k c, by omega, by go_num, ?_, hlev2.out _, hN8, ?_, hB8, hsz8⟩
              · rw [HR2.out]; exact hfin
              · exact HNX.out ((c : Nat) : Int) (by rw [if_pos HBG.out, HC.out]) _ (fn_set_same hNNl) (fun j hj => by rw [fn_set_other (by omega), ← HNN.out, fn_set_other (by omega)])
            case measure => simp only [intOf]; omega
          · obtain ⟨m, hm⟩ : ∃ m, c = m + 1 := ⟨c - 1, by omega⟩
            obtain ⟨g, cp, hvv, _⟩ := HOW.out.form1 (by omega)
            simp only [Value.slice.injEq] at hvv
            obtain ⟨rfl, _, rfl⟩ := hvv
            subst hm
            have hz : ((m : Int) + 1 == 0) = false := by simp; omega
            obtain ⟨_, hcx⟩ := hP2.out.cellAt m (by have := HR0.out; omega)
            obtain ⟨y, hy⟩ : ∃ y, (pN P m).2 = y := ⟨_, rfl⟩
            rw [hy] at hcx
            have hyn : (y == fn L k) = false := by
              have h1 := HBE.out
              rcases h1 with ⟨e, _⟩ | ⟨pre, e, e2⟩
              · have := HC.out; rw [e] at this; simp at this
              · obtain ⟨P0, u, hPe, hP0⟩ := lev_split HLV.out e
                have : pN P m = (u, fn L (bgL (fn L) k)) := by
                  have h3 := HPl.out
                  rw [hPe, List.length_append] at h3
                  simp at h3
                  rw [hPe, ← h3]; exact pN_last _ _
                rw [this] at hy
                have h4 := hpvne.out
                rw [e2] at h4
                simp; rw [← hy]; exact h4
            clear hy hc0
            go_upto_region 6 with fail
            rw [HW2.out]
            go_upto_region 9 with fail
            rw [show w2.setCell ⟨w.heap.size, k, none⟩ (.int .i64 ((m : Int) + 1)) = w3 by have := HW3.out; rw [Int.natCast_add] at this; exact this]
            go_wp2_with (first | (at_builtin; refine own_appendV (k := 2) (b := 32) (T := 58) (TS := 54) (.tmp 47) (.tmp 50) rfl rowRT Try.underlying54 HOW.out (by omega) (by omega) (by omega) (by omega) rfl (by simp [Value.oneCell']) rfl rfl rfl rfl ?_; intro v4 w4 ho4 hg4 hv4; obtain ⟨g4, c4, rfl, _⟩ := ho4.form1 (by omega); have HP4 : Hid (PR w4 (w.heap.size + 1) (.slice (some ⟨g4, 0, none⟩) ((m + 1) + 1) c4) (P ++ [(.slice none 0 0, fn L k)]) (R0 ++ [[]])) := PR.snocN HR0.out HP3.out (OwnI.nil _ _) (apart_nil _) (fun j hj => apart_nil _) ho4 hg4 hv4; have HG4 : Hid (World.grownBy w3 w4 (Value.ownBlock (.slice (some ⟨g, 0, none⟩) (m + 1) cv))) := hg4; obtain ⟨k4, f4⟩ := PR.lastCell HP4.out rfl HPl.out (World.grownBy.refl w4 _); have HS4 : Hid (w.heap.size + 1 ≤ w4.heap.size) := Nat.le_trans hsz3 hg4.size; clear ho4 hg4 hv4) | (at_builtin; refine own_appendV (k := 1) (b := 8) (T := 3) (TS := 56) (.tmp 61) (.tmp 63) rfl rowInt Try.underlying56 (OwnV.nil 3 1 w4 (w.heap.size + 1)) (by omega) HS4.out (by omega) (by omega) rfl (by simp [Value.oneCell']) rfl rfl rfl rfl ?_; intro v8 w8 ho8 hg8 hv8; obtain ⟨g8, c8, rfl, _⟩ := ho8.form1 (by omega); have HO8 : Hid (OwnV 3 1 w8 (w.heap.size + 1) (.slice (some ⟨g8, 0, none⟩) (0 + 1) c8) (0 + 1) ([] ++ [.int .i64 k])) := ho8; have HG8 : Hid (World.grownBy w4 w8 (Value.ownBlock (.slice none 0 0))) := hg8; have HV8 : Hid ((Value.slice (some ⟨g8, 0, none⟩) (0 + 1) c8).ownBlock = Value.ownBlock (.slice none 0 0) ∨ (Value.slice (some ⟨g8, 0, none⟩) (0 + 1) c8).ownBlock = some (w4.heap.size + 1)) := hv8; obtain ⟨k8, f8⟩ := PR.lastCell HP4.out rfl HPl.out HG8.out; clear ho8 hg8 hv8))
            have HS4' := HS4.out
            have HS8 := HG8.out.size
            go_roundw
            case rel =>
              have hfin := PR.last HP4.out rfl HPl.out (u' := .slice (some ⟨g8, 0, none⟩) (0 + 1) c8) (r' := [(k : Int)]) HO8.out HG8.out (by rcases HV8.out with e | e; exact .inl e; exact .inr ⟨_, e, by omega⟩)
              have hz := HP3.out.lt
              have hz4 := (HP4.out.lt g4 rfl).1
              have hN8 : OwnI (w8.setCell ⟨g4, (m + 1) * 2, none⟩ (.slice (some ⟨g8, 0, none⟩) (0 + 1) c8)) w.heap.size (.slice (some ⟨w.heap.size, 0, none⟩) n n) (NN.set k (m + 1)) := by
                refine hN3.out.kept (fun b hb => ?_)
                simp [Value.ownBlock] at hb
                subst hb
                refine (heap_setCell_other w8 ⟨g4, (m + 1) * 2, none⟩ w.heap.size _ (fun e => by have e2 : w.heap.size = g4 := e; omega)).trans ((HG8.out.block _ (by omega) (by simp [Value.ownBlock])).trans (HG4.out.block _ (by omega) (fun e => by have := (hz _ e.symm).1; omega)))
              have hB8 : Below w.heap.size w (w8.setCell ⟨g4, (m + 1) * 2, none⟩ (.slice (some ⟨g8, 0, none⟩) (0 + 1) c8)) :=
                ((hB3.out.grown HG4.out hB3.out.size (fun q hq => by have := (hz q hq).1; omega)).grown HG8.out (by omega) (fun q hq => by simp [Value.ownBlock] at hq)).setCell (by show w.heap.size ≤ g4; omega) _
              have hsz8 : w.heap.size + 1 ≤ (w8.setCell ⟨g4, (m + 1) * 2, none⟩ (.slice (some ⟨g8, 0, none⟩) (0 + 1) c8)).heap.size := by
                rw [World.size_setCell]; omega
              refine ⟨k + 1, P ++ [(.slice (some ⟨g8, 0, none⟩) (0 + 1) c8, fn L k)], NN.set k (m + 1), by omega, by go_num, ?_, hlev2.out _, hN8, ?_, hB8, hsz8⟩
              · rw [HR2.out]; exact hfin
              · exact HNX.out (((m + 1) : Nat) : Int) (by rw [if_pos HBG.out, HC.out]) _ (fn_set_same hNNl) (fun j hj => by rw [fn_set_other (by omega), ← HNN.out, fn_set_other (by omega)])
            case measure => simp only [intOf]; omega
        · have hbg : begB (fn L) k = false := by simpa using hbg
          have hseen : 0 ≤ fn L k := by omega
          have hpv := beg_no hbg hseen
          obtain ⟨pre, hpre, hpvb⟩ : ∃ pre, begN (fn L) k = pre ++ [bgL (fn L) k] ∧ pvL (fn L) k = fn L (bgL (fn L) k) := by
            rcases begN_last (fn L) k with ⟨_, e⟩ | e
            · omega
            · exact e
          obtain ⟨hp1, hp2⟩ := pcs_more hseen hbg hpre
          obtain ⟨P0, u, hPe, hP0⟩ := lev_split hlev.out hpre
          rw [← hpvb, hpv] at hPe
          obtain ⟨m, hm⟩ : ∃ m, P0.length = m := ⟨_, rfl⟩
          obtain ⟨r, hr⟩ : ∃ r, natL (pieceN (fn L) (bgL (fn L) k) k) = r := ⟨_, rfl⟩
          obtain ⟨R0, hR0⟩ : ∃ R0, natR (pre.map (fun b => pieceN (fn L) b k)) = R0 := ⟨_, rfl⟩
          have hrows : natR (pcsN (fn L) k) = R0 ++ [r] := by rw [hp1, natR_app, hR0]; show _ ++ [natL _] = _; rw [hr]
          have hrows2 : natR (pcsN (fn L) (k + 1)) = R0 ++ [r ++ [(k : Int)]] := by rw [hp2, natR_app, hR0]; show _ ++ [natL _] = _; rw [natL_app, hr]; rfl
          have hRl : (natR (pcsN (fn L) k)).length = m + 1 := by rw [← hP2.out.len, hPe, List.length_append, hm]; rfl
          obtain ⟨g, cp, hvv, _, _, hgc, _⟩ := hP2.out.own.form1 (by omega)
          simp only [Value.slice.injEq] at hvv
          obtain ⟨rfl, _, rfl⟩ := hvv
          rw [hRl] at hP2 hgc ⊢
          rw [hrows, hPe] at hP2
          have HPZ : Hid (PR w2 (w.heap.size + 1) (.slice (some ⟨g, 0, none⟩) (m + 1) cv) (P0 ++ [(u, fn L k)]) (R0 ++ [r])) := hP2.out
          have hR0l : R0.length = m := by have := HPZ.out.len; simp at this; omega
          have hcells := HPZ.out.cellAt m (by simp; omega)
          rw [show pN (P0 ++ [(u, fn L k)]) m = (u, fn L k) by rw [← hm]; exact pN_last _ _] at hcells
          obtain ⟨hcu, hcx⟩ := hcells
          have hrowm := HPZ.out.row m (by simp; omega)
          rw [show pN (P0 ++ [(u, fn L k)]) m = (u, fn L k) by rw [← hm]; exact pN_last _ _, show rN (R0 ++ [r]) m = r by rw [← hR0l]; exact rN_last _ _] at hrowm
          obtain ⟨rl, hrl0⟩ : ∃ rl, r.length = rl := ⟨_, rfl⟩
          obtain ⟨RV, hRV0⟩ : ∃ RV, r.map (Value.int .i64) = RV := ⟨_, rfl⟩
          have HU : Hid (OwnV 3 1 w2 (w.heap.size + 1) u rl RV) := by rw [← hrl0, ← hRV0]; exact hrowm
          have hrlen : Hid (r.length = rl) := hrl0
          have hRV : Hid (r.map (Value.int .i64) = RV) := hRV0
          have hrl : rl ≤ 1048576 := by
            rw [← hrl0, ← hr, natL_len]; unfold pieceN; have := List.length_filter_le (ofB (fn L) (bgL (fn L) k)) (List.range k); rw [List.length_range] at this; omega
          have HPM : Hid (P0.length = m) := hm
          have hmk2 : m ≤ 1000 := by have := lev_len hlev.out; rw [hPe] at this; simp at this; have := begN_len (fn L) k; omega
          have hbn : begN (fn L) (k + 1) = begN (fn L) k := by rw [begN_succ, if_neg (by rw [hbg]; simp), List.append_nil]
          have hlev2 : Hid (∀ z, levTo (fn L) (k + 1) (P0 ++ [(z, fn L k)])) := fun z => by
            have := hlev.out
            unfold levTo at this ⊢
            rw [hbn, ← this, hPe]; simp
          have HR2 : Hid (natR (pcsN (fn L) (k + 1)) = R0 ++ [r ++ [(k : Int)]]) := hrows2
          have HBG : Hid (begB (fn L) k = false) := hbg
          obtain ⟨NN, hNN⟩ : ∃ NN, N.set k (-1) = NN := ⟨_, rfl⟩
          have HNN : Hid (N.set k (-1) = NN) := hNN
          rw [hNN] at hN2
          clear hbg hpv hpre hpvb hp1 hp2 hPe hP0 hm hr hR0 hrows hrows2 hRl hR0l hrowm hrl0 hRV0 hbn hP2 hNN hlev
          have hm0 : ((m : Int) + 1 == 0) = false := by simp; omega
          go_upto_region 6 with fail
          rw [HW2.out]
          go_wp2_with (at_builtin; refine own_appendV (k := 1) (b := 8) (T := 3) (TS := 56) (.tmp 61) (.tmp 63) rfl rowInt Try.underlying56 HU.out hrl (by omega) (by omega) (by omega) rfl (by simp [Value.oneCell']) rfl rfl rfl rfl ?_; intro v8 w8 ho8 hgr8 hv8; obtain ⟨g8, c8, rfl, _⟩ := ho8.form1 (by omega); have HO8 : Hid (OwnV 3 1 w8 (w.heap.size + 1) (.slice (some ⟨g8, 0, none⟩) (rl + 1) c8) (rl + 1) (RV ++ [.int .i64 k])) := ho8; have HG8 : Hid (World.grownBy w2 w8 u.ownBlock) := hgr8; have HV8 : Hid ((Value.slice (some ⟨g8, 0, none⟩) (rl + 1) c8).ownBlock = u.ownBlock ∨ (Value.slice (some ⟨g8, 0, none⟩) (rl + 1) c8).ownBlock = some (w2.heap.size + 1)) := hv8; obtain ⟨k8, f8⟩ := PR.lastCell HPZ.out rfl HPM.out HG8.out; clear ho8 hgr8 hv8)
          go_roundw
          case rel =>
            have hz := (HU.out.lt)
            have hfin := PR.last HPZ.out rfl HPM.out (u' := .slice (some ⟨g8, 0, none⟩) (rl + 1) c8) (r' := r ++ [(k : Int)]) (by
              have e : (r ++ [(k : Int)]).length = rl + 1 := by rw [List.length_append, hrlen.out]; rfl
              show World.ownsRow _ _ _ _ _ _ _
              rw [e, List.map_append, hRV.out]; exact HO8.out) HG8.out (by rcases HV8.out with e | e; exact .inl e; exact .inr ⟨_, e, by omega⟩)
            have hN8 : OwnI (w8.setCell ⟨g, m * 2, none⟩ (.slice (some ⟨g8, 0, none⟩) (rl + 1) c8)) w.heap.size (.slice (some ⟨w.heap.size, 0, none⟩) n n) NN := by
              refine hN2.out.kept (fun b hb => ?_)
              simp [Value.ownBlock] at hb
              subst hb
              refine (heap_setCell_other w8 ⟨g, m * 2, none⟩ w.heap.size _ (fun e => by have := (HPZ.out.lt g rfl).1; have e2 : w.heap.size = g := e; omega)).trans (HG8.out.block _ (by omega) (fun e => by have := (hz _ e.symm).1; omega))
            have hB8 : Below w.heap.size w (w8.setCell ⟨g, m * 2, none⟩ (.slice (some ⟨g8, 0, none⟩) (rl + 1) c8)) :=
              (hB2.out.grown HG8.out hB2.out.size (fun q hq => by have := (hz q hq).1; omega)).setCell (by have := (HPZ.out.lt g rfl).1; show w.heap.size ≤ g; omega) _
            have hsz8 : w.heap.size + 1 ≤ (w8.setCell ⟨g, m * 2, none⟩ (.slice (some ⟨g8, 0, none⟩) (rl + 1) c8)).heap.size := by
              rw [World.size_setCell]; have := HG8.out.size; omega
            refine ⟨k + 1, P0 ++ [(.slice (some ⟨g8, 0, none⟩) (rl + 1) c8, fn L k)], NN, by omega, by go_num, ?_, hlev2.out _, hN8, ?_, hB8, hsz8⟩
            · rw [HR2.out]; exact hfin
            · rw [← HNN.out]; exact HNX.out (-1) (by rw [if_neg (by rw [HBG.out]; simp)]) _ (fn_set_same (by omega)) (fun j hj => fn_set_other (by omega))
          case measure => simp only [intOf]; omega
    · have e : k = n := by omega
      subst e
      go_wp2_with fail
      go_ret2
      exact ⟨⟨_, _, P, N, rfl, rfl, hP.out, hlev.out, hN.out, hnx.out⟩, hbel.out⟩
end Go.Proofs.Ytbeecmcgdlnakaa
namespace Go.Proofs.Ytbeecmcgdlnakaa
set_option linter.unusedSimpArgs false
set_option linter.unusedVariables false

section
variable {c lv : Nat → Int} {n : Nat} {mt : Nat → Nat} {M : List Int}
theorem begN_le {k m : Nat} (h : k ≤ m) : ∃ r, begN lv m = begN lv k ++ r := by
  induction m with
  | zero => have : k = 0 := by omega
            subst this; exact ⟨[], by simp⟩
  | succ m ih =>
    by_cases e : k = m + 1
    · subst e; exact ⟨[], by simp⟩
    · obtain ⟨r, hr⟩ := ih (by omega)
      rw [begN_succ, hr, List.append_assoc]; exact ⟨_, rfl⟩
/-- What begins at b stands behind all that have begun ahead of it. -/
theorem begN_idx {b : Nat} (hb : begB lv b = true) (hbn : b < n) : ∃ r, begN lv n = begN lv b ++ b :: r := by
  obtain ⟨r, hr⟩ := begN_le (lv := lv) (show b + 1 ≤ n by omega)
  rw [begN_succ, if_pos hb, List.append_assoc] at hr
  exact ⟨r, hr⟩
theorem begN_lt {b : Nat} (hb : begB lv b = true) (hbn : b < n) : (begN lv b).length < (begN lv n).length := by
  obtain ⟨r, hr⟩ := begN_idx hb hbn
  rw [hr, List.length_append, List.length_cons]; omega
theorem begN_order {b j : Nat} (hb : begB lv b = true) (h : b < j) : (begN lv b).length < (begN lv j).length := begN_lt hb h
/-- The piece at a place of the list. -/
theorem begN_at {q : Nat} (hq : q < (begN lv n).length) : ∃ b, b < n ∧ begB lv b = true ∧ (begN lv b).length = q := by
  obtain ⟨b, hbe⟩ : ∃ b, (begN lv n)[q] = b := ⟨_, rfl⟩
  have hm : b ∈ begN lv n := by rw [← hbe]; exact List.getElem_mem hq
  obtain ⟨h1, h2⟩ := begN_mem.1 hm
  refine ⟨b, h1, h2, ?_⟩
  obtain ⟨r, hr⟩ := begN_idx h2 h1
  have hnd : (begN lv n).Pairwise (· < ·) := by unfold begN; exact (List.pairwise_lt_range).filter _
  have hlt := begN_lt h2 h1
  have hat : (begN lv n)[(begN lv b).length] = b := by
    have : (begN lv n)[(begN lv b).length]? = some b := by rw [hr]; simp
    rw [List.getElem?_eq_getElem hlt] at this
    exact Option.some.inj this
  rcases Nat.lt_trichotomy (begN lv b).length q with h | h | h
  · have := (List.pairwise_iff_getElem.1 hnd) _ _ hlt hq h; omega
  · exact h
  · have := (List.pairwise_iff_getElem.1 hnd) _ _ hq hlt h; omega
theorem pcs_at {b : Nat} (hb : begB lv b = true) (hbn : b < n) : rN (natR (pcsN lv n)) (begN lv b).length = natL (pieceN lv b n) := by
  obtain ⟨r, hr⟩ := begN_idx hb hbn
  unfold pcsN natR rN
  rw [hr, List.getD_eq_getElem?_getD]
  simp
theorem pcs_len : (natR (pcsN lv n)).length = (begN lv n).length := by unfold pcsN natR; simp
theorem lev_at {P : List (Value × Int)} (h : levTo lv n P) {b : Nat} (hb : begB lv b = true) (hbn : b < n) : (pN P (begN lv b).length).2 = lv b := by
  obtain ⟨r, hr⟩ := begN_idx hb hbn
  unfold levTo at h
  have hl : (begN lv b).length < P.length := by rw [lev_len h]; exact begN_lt hb hbn
  have : (P.map (·.2))[(begN lv b).length]? = some (lv b) := by rw [h, hr]; simp
  rw [List.getElem?_map, List.getElem?_eq_getElem hl] at this
  simp at this
  unfold pN
  rw [List.getD_eq_getElem?_getD, List.getElem?_eq_getElem hl]
  exact this
/-- Where what is read together begins, up to a place. -/
def stN (c lv : Nat → Int) (mt : Nat → Nat) (k : Nat) : List Nat := (List.range k).filter (startN c lv mt)
theorem stN_succ (k : Nat) : stN c lv mt (k + 1) = stN c lv mt k ++ (if startN c lv mt k = true then [k] else []) := by
  unfold stN
  rw [List.range_succ, List.filter_append]
  congr 1
  simp only [List.filter_cons, List.filter_nil]
theorem stN_more {k m : Nat} (h : k ≤ m) (hno : ∀ x, k ≤ x → x < m → begB lv x = false) : stN c lv mt m = stN c lv mt k := by
  induction m with
  | zero => have : k = 0 := by omega
            subst this; rfl
  | succ m ih =>
    by_cases e : k = m + 1
    · subst e; rfl
    · rw [stN_succ, if_neg (by rw [no_start (hno m (by omega) (by omega))]; simp), List.append_nil, ih (by omega) (fun x a b => hno x a (by omega))]
/-- No piece begins between two that stand side by side in the list. -/
theorem no_beg_between {b b2 : Nat} (hb : begB lv b = true) (h : (begN lv b2).length = (begN lv b).length + 1) {x : Nat} (h1 : b + 1 ≤ x) (h2 : x < b2) : begB lv x = false := by
  cases hx : begB lv x with
  | false => rfl
  | true =>
    have := begN_order hb (show b < x by omega)
    have := begN_order hx h2
    omega
theorem begN_none {b : Nat} (h : (begN lv b).length = 0) {x : Nat} (h2 : x < b) : begB lv x = false := by
  cases hx : begB lv x with
  | false => rfl
  | true => have := begN_order hx h2; omega
theorem runsTo_st (k : Nat) : runsTo c lv n mt k = (stN c lv mt k).map (chainN c lv n mt) := rfl
theorem stN_len (k : Nat) : (stN c lv mt k).length ≤ k := by unfold stN; have := List.length_filter_le (startN c lv mt) (List.range k); rwa [List.length_range] at this
theorem begN_mono {k m : Nat} (h : k ≤ m) : (begN lv k).length ≤ (begN lv m).length := by
  obtain ⟨r, hr⟩ := begN_le (lv := lv) h
  rw [hr, List.length_append]; omega
/-- Where as many have begun, the same have. -/
theorem stN_to {k m : Nat} (h : k ≤ m) (he : (begN lv m).length = (begN lv k).length) : stN c lv mt m = stN c lv mt k :=
  stN_more h fun x h1 h2 => by
    cases hx : begB lv x with
    | false => rfl
    | true => have := begN_order hx h2; have := begN_mono (lv := lv) h1; omega
/-- Behind the last piece. -/
theorem no_beg_rest {b : Nat} (hb : begB lv b = true) (hbn : b < n) (h : (begN lv n).length = (begN lv b).length + 1) {x : Nat} (h1 : b + 1 ≤ x) (h2 : x < n) : begB lv x = false := no_beg_between hb h h1 h2

/-- The mate of the last letter of a piece, as the list has it. -/
def molF (c : Nat → Int) (M : List Int) (x : Nat) : Int := if opensB (c x) = true then fn M x else -1
theorem mol_some (hs : SameMates c n mt M) {x j : Nat} (hx : x < n) (ho : opensB (c x) = true) (hm : mt x = j) (hj : j < n) : molF c M x = (j : Int) := by
  unfold molF
  rw [if_pos ho]
  rcases hs x hx ho with ⟨_, e⟩ | ⟨e, _⟩
  · rw [e, hm]
  · omega
theorem mol_none (hs : SameMates c n mt M) {b : Nat} (hb : begB lv b = true) (hbn : b < n) (h : scN c lv n mt b = none) : molF c M (lastP lv b n) = -1 := by
  obtain ⟨_, a2, _⟩ := last_spec hb hbn
  unfold scN at h
  unfold molF
  split at h
  · cases h
  · rename_i hc
    by_cases ho : opensB (c (lastP lv b n)) = true
    · rw [if_pos ho]
      rcases hs _ a2 ho with ⟨e, _⟩ | ⟨_, e⟩
      · exact absurd ⟨ho, e⟩ hc
      · exact e
    · rw [if_neg ho]
/-- What closes nothing, by the list. -/
theorem clos_ge (ht : Txt c lv n mt) (hs : SameMates c n mt M) (hcl : ClosTo c n M) {b : Nat} (hbn : b < n) (h22 : c b = 22) : decide (0 ≤ fn M b) = closN c mt b := by
  have hno : opensB (c b) = false := by rw [h22]; decide
  rcases hcl b hbn hno with ⟨i, hi, ho, hm, e⟩ | ⟨e, hn⟩
  · rw [e]
    have : mt i = b := by
      rcases ht.mates i (by omega) ho with ⟨q, _⟩ | ⟨_, q⟩
      · exact mate_unique q hm
      · exact (mate_not hm hbn q).elim
    have h1 : closN c mt b = true := by
      unfold closN; rw [List.any_eq_true]
      exact ⟨i, by rw [List.mem_range]; exact hi, by simp [ho, this]⟩
    rw [h1]; simp
  · rw [e]
    have h1 : closN c mt b = false := by
      unfold closN; rw [List.any_eq_false]
      intro i hi
      rw [List.mem_range] at hi
      intro h2
      rw [Bool.and_eq_true] at h2
      obtain ⟨ho, h3⟩ := h2
      have hmb : mt i = b := by simpa using h3
      rcases ht.mates i (by omega) ho with ⟨q, _⟩ | ⟨q, _⟩
      · exact hn i hi ho (by rw [← hmb]; exact q)
      · omega
    rw [h1]; decide
end
end Go.Proofs.Ytbeecmcgdlnakaa
namespace Go.Proofs.Ytbeecmcgdlnakaa
open Go.ChangeShapes Go.WideShapes Go.ChangeAt Go.RowKit
set_option linter.unusedSimpArgs false
set_option linter.unusedVariables false

/-- As PR, but of the rows from q on alone: those ahead may have been grown over. -/
structure PRL (w : World) (B : Nat) (v : Value) (P : List (Value × Int)) (rows : List (List Int)) (q : Nat) : Prop where
  len : P.length = rows.length
  own : OwnV 58 2 w B v rows.length (pcells P)
  row : ∀ j, q ≤ j → j < rows.length → OwnI w B (pN P j).1 (rN rows j)
  apv : ∀ j, q ≤ j → j < rows.length → Apart v (pN P j).1
  app : ∀ i j, q ≤ i → i < j → j < rows.length → Apart (pN P i).1 (pN P j).1
/-- Two lists of pieces: the one from q on, the other one made of what stood ahead. -/
structure TG (w : World) (B : Nat) (v : Value) (P : List (Value × Int)) (rows : List (List Int)) (q : Nat) (vw : Value) (Pw : List (Value × Int)) (Rw : List (List Int)) : Prop where
  ll : PRL w B v P rows q
  wh : PR w B vw Pw Rw
  vvw : Apart v vw
  vr : ∀ i, i < Rw.length → Apart v (pN Pw i).1
  wl : ∀ j, q ≤ j → j < rows.length → Apart vw (pN P j).1
  rl : ∀ i j, i < Rw.length → q ≤ j → j < rows.length → Apart (pN Pw i).1 (pN P j).1
section
variable {w w' : World} {B q : Nat} {v vw : Value} {P Pw : List (Value × Int)} {rows Rw : List (List Int)}
theorem PRL.below (h : PRL w B v P rows q) (hb : Below w.heap.size w w') : PRL w' B v P rows q :=
  ⟨h.len, h.own.below hb, fun j h1 hj => (h.row j h1 hj).below hb, h.apv, h.app⟩
theorem TG.below (h : TG w B v P rows q vw Pw Rw) (hb : Below w.heap.size w w') : TG w' B v P rows q vw Pw Rw :=
  ⟨h.ll.below hb, h.wh.below hb, h.vvw, h.vr, h.wl, h.rl⟩
theorem TG.start (h : PR w B v P rows) : TG w B v P rows 0 (.slice none 0 0) [] [] :=
  ⟨⟨h.len, h.own, fun j _ hj => h.row j hj, fun j _ hj => h.apv j hj, fun i j _ => h.app i j⟩, PR.nil _ _, apart_nil _, fun i hi => by simp at hi, fun j _ _ b hb => by simp [Value.ownBlock] at hb, fun i j hi => by simp at hi⟩
theorem TG.skip (h : TG w B v P rows q vw Pw Rw) : TG w B v P rows (q + 1) vw Pw Rw :=
  ⟨⟨h.ll.len, h.ll.own, fun j h1 hj => h.ll.row j (by omega) hj, fun j h1 hj => h.ll.apv j (by omega) hj, fun i j h1 => h.ll.app i j (by omega)⟩, h.wh, h.vvw, h.vr, fun j h1 => h.wl j (by omega), fun i j hi h1 => h.rl i j hi (by omega)⟩
/-- The piece at q has grown as it wanted: nothing else has turned. -/
theorem TG.grown (h : TG w B v P rows q vw Pw Rw) (hq : q < rows.length) (hg : w.grownBy w' (pN P q).1.ownBlock) : TG w' B v P rows (q + 1) vw Pw Rw := by
  have hne : ∀ {z : Value} {b : Nat}, Apart (pN P q).1 z → z.ownBlock = some b → some b ≠ (pN P q).1.ownBlock := fun ha hb e => ha _ e.symm hb
  refine ⟨⟨h.ll.len, h.ll.own.kept (fun b hb => hg.block b (h.ll.own.lt b hb).2 (hne (h.ll.apv q (Nat.le_refl _) hq).symm hb)), fun j h1 hj => (h.ll.row j (by omega) hj).kept (fun b hb => hg.block b ((h.ll.row j (by omega) hj).lt b hb).2 (hne (h.ll.app q j (Nat.le_refl _) (by omega) hj) hb)), fun j h1 hj => h.ll.apv j (by omega) hj, fun i j h1 => h.ll.app i j (by omega)⟩, ?_, h.vvw, h.vr, fun j h1 => h.wl j (by omega), fun i j hi h1 => h.rl i j hi (by omega)⟩
  refine h.wh.kept (fun b hb => ?_)
  rcases hb with hb | ⟨j, hj, hb⟩
  · exact hg.block b (h.wh.lt b hb).2 (hne (h.wl q (Nat.le_refl _) hq).symm hb)
  · exact hg.block b ((h.wh.row j hj).lt b hb).2 (hne (h.rl j q hj (Nat.le_refl _) hq).symm hb)
/-- .. and it is laid behind the others. -/
theorem TG.add {w3 w4 : World} {u vw' : Value} {x : Int} {r : List Int} {c S : Nat} (hc : Rw.length = c) (h : TG w B v P rows q vw Pw Rw) (hq : q < rows.length) (hS : w.heap.size = S) (hg : w.grownBy w3 (pN P q).1.ownBlock) (hu : OwnI w3 B u r) (hub : u.ownBlock = (pN P q).1.ownBlock ∨ ∃ H, u.ownBlock = some H ∧ S ≤ H)
    (ho : OwnV 58 2 w4 B vw' (c + 1) (pcells Pw ++ [u, .int .i64 x])) (hg2 : w3.grownBy w4 vw.ownBlock) (hv : vw'.ownBlock = vw.ownBlock ∨ vw'.ownBlock = some (w3.heap.size + 1)) :
    TG w4 B v P rows (q + 1) vw' (Pw ++ [(u, x)]) (Rw ++ [r]) := by
  subst hS
  subst hc
  have h3 := h.grown hq hg
  have hsz := hg.size
  -- what is apart from the piece at q is apart from it, grown
  have hapu : ∀ (z : Value), Apart z (pN P q).1 → (∀ b, z.ownBlock = some b → b < w.heap.size) → Apart z u := fun z hz hzl b h1 h2 => by
    rcases hub with e | ⟨H, e, hH⟩
    · exact hz b h1 (by rw [← e]; exact h2)
    · rw [e] at h2; simp at h2; have := hzl b h1; omega
  have hwu : Apart vw u := hapu vw (h.wl q (Nat.le_refl _) hq) (fun b hb => (h.wh.lt b hb).2)
  have hru : ∀ j, j < Rw.length → Apart (pN Pw j).1 u := fun j hj => hapu _ (h.rl j q hj (Nat.le_refl _) hq) (fun b hb => ((h.wh.row j hj).lt b hb).2)
  have hvu : Apart v u := hapu v (h.ll.apv q (Nat.le_refl _) hq) (fun b hb => (h.ll.own.lt b hb).2)
  have hlu : ∀ j, q + 1 ≤ j → j < rows.length → Apart (pN P j).1 u := fun j h1 hj => hapu _ (h.ll.app q j (Nat.le_refl _) (by omega) hj).symm (fun b hb => ((h.ll.row j (by omega) hj).lt b hb).2)
  have hwh := h3.wh.snoc hu hwu hru ho hg2 hv
  have hlen := h.wh.len
  have hnew : ∀ (z : Value), Apart vw z → (∀ b, z.ownBlock = some b → b < w3.heap.size) → Apart vw' z := fun z hz hzl b h1 h2 => by
    rcases hv with e | e
    · exact hz b (by rw [← e]; exact h1) h2
    · rw [e] at h1; simp at h1; have := hzl b h2; omega
  have hvl : ∀ b, v.ownBlock = some b → b < w3.heap.size := fun b hb => by have := (h.ll.own.lt b hb).2; omega
  have hjl : ∀ j, q + 1 ≤ j → j < rows.length → ∀ b, (pN P j).1.ownBlock = some b → b < w3.heap.size := fun j h1 hj b hb => by have := ((h.ll.row j (by omega) hj).lt b hb).2; omega
  refine ⟨⟨h.ll.len, h3.ll.own.kept (fun b hb => hg2.block b (hvl b hb) (fun e => h.vvw b hb e.symm)), fun j h1 hj => (h3.ll.row j h1 hj).kept (fun b hb => hg2.block b (hjl j h1 hj b hb) (fun e => h.wl j (by omega) hj b e.symm hb)), h3.ll.apv, h3.ll.app⟩, hwh, (hnew v h.vvw.symm hvl).symm, fun i hi => ?_, fun j h1 hj => hnew _ (h.wl j (by omega) hj) (hjl j h1 hj), fun i j hi h1 hj => ?_⟩
  · simp at hi
    by_cases e : i = Rw.length
    · subst e; rw [← hlen, pN_last]; exact hvu
    · rw [pN_left (by omega)]; exact h.vr i (by omega)
  · simp at hi
    by_cases e : i = Rw.length
    · subst e; rw [← hlen, pN_last]; exact (hlu j h1 hj).symm
    · rw [pN_left (by omega)]; exact h.rl i j (by omega) (by omega) hj
end
/-- A piece in a box of its own that takes in others. -/
structure Inn (w0 wr : World) (B Bx : Nat) (blk : Option Nat) (u : Value) (cur : List Int) (lvl : Int) : Prop where
  sz : w0.heap.size = Bx
  grow : w0.grownBy wr blk
  own : OwnI wr B u cur
  ub : u.ownBlock = blk ∨ ∃ H, u.ownBlock = some H ∧ Bx < H
  c0 : wr.cell? ⟨Bx, 0, none⟩ = some u
  c1 : wr.cell? ⟨Bx, 1, none⟩ = some (.int .i64 lvl)
  fz : wr.frozen? ⟨Bx, 0, none⟩ = false
  lt : Bx < wr.heap.size
  bl : ∀ b, blk = some b → b < Bx
theorem Inn.start {w0 : World} {B : Nat} {u : Value} {cur : List Int} {lvl : Int} {T : TypeId} (h : OwnI w0 B u cur) : Inn w0 (w0.alloc (.cells #[u, .int .i64 lvl] T)) B w0.heap.size u.ownBlock u cur lvl := by
  have hb : Below w0.heap.size w0 (w0.alloc (.cells #[u, .int .i64 lvl] T)) := (Below.refl _ _).alloc (Nat.le_refl _) _
  have hc := fun j => cell_of_row (w0.alloc (.cells #[u, .int .i64 lvl] T)) w0.heap.size j _ _ (0, 0) (heap_alloc_new w0 _)
  refine ⟨rfl, ⟨rfl, rfl, rfl, by simp, fun i hi _ => hb.block i hi⟩, h.below hb, .inl rfl, by rw [hc]; rfl, by rw [hc]; rfl, frozen_of_row _ _ _ _ _ (heap_alloc_new w0 _), by simp, fun b hb => (h.lt b hb).2⟩
theorem Inn.below {w0 wr w' : World} {B Bx : Nat} {blk : Option Nat} {u : Value} {cur : List Int} {lvl : Int} (h : Inn w0 wr B Bx blk u cur lvl) (hb : Below wr.heap.size wr w') : Inn w0 w' B Bx blk u cur lvl :=
  ⟨h.sz, h.grow.trans ⟨hb.os, hb.tape, hb.output, hb.size, fun i hi _ => hb.block i hi⟩, h.own.below hb, h.ub, (hb.cell (p := ⟨Bx, 0, none⟩) h.lt).trans h.c0, (hb.cell (p := ⟨Bx, 1, none⟩) h.lt).trans h.c1, (World.frozen?_of_block (hb.block Bx h.lt)).trans h.fz, Nat.lt_of_lt_of_le h.lt hb.size, h.bl⟩
theorem Inn.ne {w0 wr : World} {B Bx : Nat} {blk : Option Nat} {u : Value} {cur : List Int} {lvl : Int} (h : Inn w0 wr B Bx blk u cur lvl) : u.ownBlock ≠ some Bx := by
  intro e
  rcases h.ub with q | ⟨H, q, hH⟩
  · have := h.bl Bx (by rw [← q]; exact e); omega
  · rw [e] at q; simp at q; omega
/-- One more taken in. -/
theorem Inn.step {w0 wr w' : World} {B Bx : Nat} {blk : Option Nat} {u u' : Value} {cur cur' : List Int} {lvl : Int} (h : Inn w0 wr B Bx blk u cur lvl) (ho : OwnI w' B u' cur') (hg : wr.grownBy w' u.ownBlock) (hn : u'.ownBlock = u.ownBlock ∨ u'.ownBlock = some wr.heap.size) :
    Inn w0 (w'.setCell ⟨Bx, 0, none⟩ u') B Bx blk u' cur' lvl := by
  have hne := h.ne
  have hlt := h.lt
  have hsz := h.sz
  have hub : u'.ownBlock = blk ∨ ∃ H, u'.ownBlock = some H ∧ Bx < H := by
    rcases hn with e | e
    · rw [e]; exact h.ub
    · exact .inr ⟨_, e, hlt⟩
  have hne' : u'.ownBlock ≠ some Bx := by
    rcases hn with e | e
    · rw [e]; exact hne
    · rw [e]; intro q; simp at q; omega
  have hgr : w0.grownBy w' blk := by
    refine h.grow.andThen hg (fun j hj => ?_)
    rcases h.ub with e | ⟨H, e, hH⟩
    · exact .inr (by rw [← e]; exact hj)
    · rw [hj] at e; simp at e; exact .inl (by omega)
  have hkb : w'.heap[Bx]? = wr.heap[Bx]? := hg.block Bx hlt (fun e => hne e.symm)
  have hc0 : w'.cell? ⟨Bx, 0, none⟩ = some u := (World.cell?_of_block hkb).trans h.c0
  have hc1 : w'.cell? ⟨Bx, 1, none⟩ = some (.int .i64 lvl) := (World.cell?_of_block hkb).trans h.c1
  have hfz : w'.frozen? ⟨Bx, 0, none⟩ = false := (World.frozen?_of_block hkb).trans h.fz
  refine ⟨hsz, ⟨hgr.os, hgr.tape, hgr.output, by rw [World.size_setCell]; exact hgr.size, fun i hi hr => ?_⟩, ho.kept (fun k hk => heap_setCell_other w' ⟨Bx, 0, none⟩ k u' (fun e => hne' (by rw [hk]; exact congrArg some e))), hub, setI_same hc0, setI_diff (by omega) hc1, ?_, ?_, h.bl⟩
  · rw [heap_setCell_other w' ⟨Bx, 0, none⟩ i u' (fun e => by have e2 : i = Bx := e; omega)]; exact hgr.block i hi hr
  · rw [World.frozen?_setCell]; exact hfz
  · rw [World.size_setCell]; exact Nat.lt_of_lt_of_le hlt hg.size
theorem PRL.cellAt {w : World} {B g n cap q : Nat} {P : List (Value × Int)} {rows : List (List Int)} (h : PRL w B (.slice (some ⟨g, 0, none⟩) n cap) P rows q) (j : Nat) (hj : j < n) : w.cell? ⟨g, j * 2, none⟩ = some (pN P j).1 ∧ w.cell? ⟨g, j * 2 + 1, none⟩ = some (.int .i64 (pN P j).2) := by
  have hown := h.own
  obtain ⟨a, c, e⟩ := hown.slc
  simp only [Value.slice.injEq] at e
  obtain ⟨rfl, rfl, rfl⟩ := e
  have hl := h.len
  rw [hown.cell _ (by omega), hown.cell _ (by omega)]
  exact pcells_at (by omega)
end Go.Proofs.Ytbeecmcgdlnakaa
