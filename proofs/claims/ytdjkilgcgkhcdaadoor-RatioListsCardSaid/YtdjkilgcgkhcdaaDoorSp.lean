/-
  RatioSorted returns true for each list of one to 200 floats, by its walk.
-/
import Derived.Test.YtdjkilgcgkhcdaaDoorSo
namespace Go.Proofs.YtdjkilgcgkhcdaaDoor
open Go.RowKit Go.Fl Go.Sort Go.Lib
theorem Stable.all {l : List Nat} [Inhabited (Fin l.length)] {r : Array (Fin l.length)} (h : Stable l r) (j : Nat) (hj : j < l.length) : ∃ s, s < l.length ∧ (r[s]!).val = j := by
  have hp := h.perm.2.2
  have hs := h.size
  rw [ext_all r _ hs, ext_all _ _ (places_size _)] at hp
  have hp2 : (r.toList.map (·.val)).Perm (List.range l.length) := by
    rw [← places_list]
    exact List.Perm.map _ hp
  have hm := hp2.symm.subset (List.mem_range.2 hj)
  obtain ⟨s, hs1, hs2⟩ := List.getElem_of_mem hm
  simp only [List.length_map, Array.length_toList] at hs1
  refine ⟨s, by omega, ?_⟩
  rw [getElem!_pos r s (by omega)]
  simpa using hs2
/-- What the walk of the law keeps in sight. -/
structure Scene (l : List Nat) (R : Nat → Nat) (w wr : World) (bP blk off : Nat) : Prop where
  std : Std w wr
  fl : FloatsAt wr blk off l
  row : ∀ i, i < l.length → wr.cell? ⟨bP, i, none⟩ = some (.int .i64 (R i))
theorem Scene.drewN {l : List Nat} {R : Nat → Nat} {w wr : World} {bP blk off : Nat} (h : Scene l R w wr bP blk off) (n : Nat) : Scene l R w (wr.drewN n) bP blk off :=
  ⟨⟨h.std.tab, below_drewN h.std.below n⟩, ⟨h.fl.cell, h.fl.lt⟩, h.row⟩
theorem less_is (x y : Nat) (v : Bool) (hx : x < 2 ^ 64) (hy : y < 2 ^ 64) (h : lessB x y = v) (w : World) : Calls Tryd.prog 16 #[.float .f64 x, .float .f64 y] w fun e w' => e = .returned (.bool v) ∧ w' = w :=
  (less_any x y w hx hy).mono fun _ _ ⟨h1, h2⟩ => ⟨by rw [h1, h], h2.symm⟩
theorem same_is (x y : Nat) (v : Bool) (hx : x < 2 ^ 64) (hy : y < 2 ^ 64) (h : (!lessB x y && !lessB y x) = v) (w : World) : Calls Tryd.prog 10 #[.float .f64 x, .float .f64 y] w fun e w' => e = .returned (.bool v) ∧ w' = w :=
  (same_any x y w hx hy).mono fun _ _ ⟨h1, h2⟩ => ⟨by rw [h1, h], h2.symm⟩
/-- The last place, of those told so far, at which a number stands. -/
def Last (l : List Nat) (R : Nat → Nat) (la : Value) (k : Nat) : Prop :=
  (la = .int .i64 (-1) ∧ ∀ t, t < k → val (l.getD (R t) 0) = none) ∨ ∃ t, t < k ∧ la = .int .i64 (R t) ∧ val (l.getD (R t) 0) ≠ none ∧ ∀ t', t < t' → t' < k → val (l.getD (R t') 0) = none
/-- What the law's tests come to, at the places k and i. -/
structure Apart (l : List Nat) (R : Nat → Nat) : Prop where
  lt : ∀ i, i < l.length → R i < l.length
  ne : ∀ k i, k < i → i < l.length → R k ≠ R i
  less : ∀ k i, k < i → i < l.length → lessB (l.getD (R i) 0) (l.getD (R k) 0) = false
  same : ∀ k i, k < i → i < l.length → lessB (l.getD (R k) 0) (l.getD (R i) 0) = false → R k < R i
  all : ∀ j, j < l.length → ∃ s, s < l.length ∧ R s = j
theorem apart_of {l : List Nat} [Inhabited (Fin l.length)] {r : Array (Fin l.length)} (h : Stable l r) : Apart l (fun i => (r[i]!).val) where
  lt i _ := (r[i]!).isLt
  ne k i h1 h2 := h.distinct k i h1 h2
  less k i h1 h2 := by
    have := h.sorted k i (by omega) h1 h2
    unfold prF at this; rw [prI_eq, decide_eq_false_iff_not] at this
    unfold lessB; simp only [decide_eq_false_iff_not]; omega
  same k i h1 h2 h3 := by
    have h4 := h.sorted k i (by omega) h1 h2
    have h5 := h.distinct k i h1 h2
    unfold prF at h4; rw [prI_eq, decide_eq_false_iff_not] at h4
    unfold lessB at h3; simp only [decide_eq_false_iff_not] at h3
    have h6 : key (l.getD (r[i]!).val 0) = key (l.getD (r[k]!).val 0) := by omega
    show (r[k]!).val < (r[i]!).val
    omega
  all j hj := h.all j hj
set_option maxHeartbeats 8000000 in
set_option maxRecDepth 100000 in
theorem sorted_walk (l : List Nat) [Inhabited (Fin l.length)] (hl0 : 0 < l.length) (hl : l.length ≤ 200) (blk off cap : Nat) (w : World) (S : Std w w) (hblk : blk < w.heap.size) (hF : FloatsAt w blk off l) :
    Calls Tryd.prog 6 #[.slice (some ⟨blk, off, none⟩) l.length cap] w fun e w' => e = .returned (.bool true) ∧ Std w w' := by
  have ord : ∀ w1, Std w w1 → Calls Tryd.prog 21 #[.slice (some ⟨blk, off, none⟩) l.length cap] w1 fun e w' => ∃ (R : Nat → Nat) (bP : Nat), e = .returned (.slice (some ⟨bP, 0, none⟩) l.length l.length) ∧ Apart l R ∧ Scene l R w w' bP blk off := fun w1 h => by
    have hf1 : FloatsAt w1 blk off l := ⟨fun i hi => by rw [h.below.cell (p := ⟨blk, off + i, none⟩) hblk]; exact hF.cell i hi, hF.lt⟩
    have hb1 : blk < w1.heap.size := Nat.lt_of_lt_of_le hblk h.below.size
    refine (order_q l hl0 (by omega) blk off cap w1 hb1 hf1).mono fun e w' ⟨r, bP, hr, hO⟩ => ⟨fun i => (r[i]!).val, bP, hO.ret, apart_of hr, h.next hO.below, ⟨fun i hi => ?_, hF.lt⟩, fun i hi => ?_⟩
    · rw [hO.below.cell (p := ⟨blk, off + i, none⟩) hb1]; exact hf1.cell i hi
    · have := (hO.holds i (by rw [hr.size]; exact hi)).1
      rw [Nat.zero_add] at this
      exact this
  have zl : (l.length : Int) ≤ 200 := by omega
  have HL := Lib.hid hl0
  clear hl hF hblk
  go_enter Tryd.func6, Tryd.ntmps6
  go_wp2_with (first
    | (go_at_call 9; ((with_reducible refine (fixed_at w _ (by assumption)).mono ?_); rintro e w' ⟨rfl, hS⟩))
    | (go_at_call 21; ((with_reducible refine (ord _ (by assumption)).mono ?_); rintro e w' ⟨R, bP, rfl, hA, hSc⟩)))
  have HA := Lib.hid hA
  clear hA ord
  go_loopw [4, 5, 6] (fun la v _ wr => ∃ k : Nat, v = .int .i64 k ∧ k ≤ l.length ∧ Hid (Last l R la k) ∧ Hid (Scene l R w wr bP blk off)) (fun _ v _ _ => l.length - (intOf v).toNat)
  case atStart => exact ⟨0, rfl, by omega, .inl ⟨rfl, fun t h => by omega⟩, hSc⟩
  case round =>
    clear hSc
    obtain ⟨i, rfl, hi, HLA, HS⟩ := hrel
    by_cases hlt : i < l.length
    · have ci := HS.out.row i hlt
      have hri : (R i : Int) < l.length := by have := HA.out.lt i hlt; omega
      have zi : (i : Int) ≤ 200 := by omega
      go_wp2
      go_loopw [6] (fun v wr => ∃ k : Nat, v = .int .i64 k ∧ k ≤ i ∧ Hid (Scene l R w wr bP blk off)) (fun v _ => i - (intOf v).toNat)
      case atStart => exact ⟨0, rfl, by omega, HS⟩
      case round =>
        clear ci HS
        obtain ⟨k, rfl, hk, HS⟩ := hrel
        by_cases hlt2 : k < i
        · have ci := HS.out.row i hlt
          have ck := HS.out.row k (by omega)
          have hRk : R k < l.length := HA.out.lt k (by omega)
          have hrk : (R k : Int) < l.length := by omega
          have fi := HS.out.fl.cell (R i) (HA.out.lt i hlt)
          have fk := HS.out.fl.cell (R k) hRk
          have LI := Lib.hid (HS.out.fl.lt (R i))
          have LK := Lib.hid (HS.out.fl.lt (R k))
          have ne : ((R k : Int) == R i) = false := by have := HA.out.ne k i hlt2 hlt; simp; omega
          have hls := HA.out.less k i hlt2 hlt
          have hsm := HA.out.same k i hlt2 hlt
          generalize l.getD (R i) 0 = x at *
          generalize l.getD (R k) 0 = y at *
          have h1 := fun w => less_is x y false LI.out LK.out hls w
          have k1 : (k : Int) < l.length := by omega
          have i1 : (i : Int) < l.length := by omega
          cases hxy : lessB y x
          all_goals
            first
              | (have h2 := fun w => same_is x y true LI.out LK.out (by rw [hls, hxy]; rfl) w
                 have h3 : decide (R i < R k) = false := decide_eq_false (by have := hsm hxy; omega)
                 have h4 : ¬ R i < R k := by have := hsm hxy; omega)
              | (have h2 := fun w => same_is x y false LI.out LK.out (by rw [hls, hxy]; rfl) w)
            have H1 := Lib.hid h1
            have H2 := Lib.hid h2
            clear h1 h2 hls hsm hxy
            go_wp2_with fail
            go_quiet ((first | (go_at_call 16; exact Calls.quiet_of_same (H1.out _)) | (go_at_call 10; exact Calls.quiet_of_same (H2.out _))))
            simp only [Exit.then]
            have HS2 : Hid (Scene l R w (wr.drewN nq) bP blk off) := HS.out.drewN nq
            generalize wr.drewN nq = w2 at HS2 ⊢
            clear ci ck fi fk HS
            go_wp2
            go_roundw
            case rel => exact ⟨k + 1, by go_num, by omega, HS2⟩
            case measure => simp [intOf]; omega
        · have e : k = i := by omega
          subst e
          have ci := HS.out.row k hlt
          have fi := HS.out.fl.cell (R k) (HA.out.lt k hlt)
          have i1 : (k : Int) < l.length := by omega
          cases hv : (FloatKind.f64.format.order (l.getD (R k) 0) (l.getD (R k) 0) == some .eq)
          all_goals
            have HV := Lib.hid hv
            generalize l.getD (R k) 0 = x at fi hv
            go_wp2_with fail
            go_quiet (fail)
            simp only [Exit.then]
            have HS2 : Hid (Scene l R w (wr.drewN nq) bP blk off) := HS.out.drewN nq
            generalize wr.drewN nq = w2 at HS2 ⊢
            have ci := HS2.out.row k hlt
            clear fi HS hv
            go_wp2
            go_roundw
            case measure => simp [intOf]; omega
          case rel =>
            refine ⟨k + 1, by go_num, by omega, ?_, HS2⟩
            have hnn : val (l.getD (R k) 0) = none := by
              have hv := HV.out
              rw [order_val] at hv
              match h : val (l.getD (R k) 0) with
              | none => rfl
              | some v => rw [h] at hv; simp [cmpExt] at hv
            rcases HLA.out with ⟨h1, h2⟩ | ⟨t, h1, h2, h3, h4⟩
            · exact .inl ⟨h1, fun t' ht => by
                by_cases e : t' = k
                · subst e; exact hnn
                · exact h2 t' (by omega)⟩
            · exact .inr ⟨t, by omega, h2, h3, fun t' g1 g2 => by
                by_cases e : t' = k
                · subst e; exact hnn
                · exact h4 t' g1 (by omega)⟩
          case rel =>
            refine ⟨k + 1, by go_num, by omega, .inr ⟨k, by omega, rfl, ?_, fun t' g1 g2 => by omega⟩, HS2⟩
            intro hn
            have hv := HV.out
            rw [order_val, hn] at hv
            cases hv
    · have e : i = l.length := by omega
      subst e
      have hf := HS.out.fl
      have hgr := greatest_any l blk off cap wr (by omega) hf
      have hlt64 := getD_mem_lt hf.lt
      have hsp := greatL_spec l hlt64 nanC (by decide)
      have hg64 := fold_lt l hlt64 nanC (by decide)
      have hnan : val nanC = none := by have := (kind_six nanC (by decide)).1 (by kernel_rfl); exact this
      change (val (greatL l) = none → _) ∧ (val (greatL l) ≠ none → (greatL l = nanC ∨ greatL l ∈ l) ∧ _ ∧ ∀ x ∈ l, val x ≠ none → lessB (greatL l) x = false) at hsp
      change greatL l < 2 ^ 64 at hg64
      have memof : ∀ j, j < l.length → l.getD j 0 ∈ l := fun j hj => by
        rw [List.getD_eq_getElem?_getD, List.getElem?_eq_getElem hj]; exact List.getElem_mem _
      generalize greatL l = g at hgr hsp hg64
      rcases HLA.out with ⟨h1, h2⟩ | ⟨t, h1, h2, h3, h4⟩
      · subst h1
        have hgn : val g = none := Classical.byContradiction fun hne => by
          rcases (hsp.2 hne).1 with h | h
          · exact hne (h ▸ hnan)
          · obtain ⟨j, hj, e⟩ := List.getElem_of_mem h
            obtain ⟨s, hs, hsj⟩ := HA.out.all j hj
            have := h2 s hs
            rw [hsj, List.getD_eq_getElem?_getD, List.getElem?_eq_getElem hj] at this
            simp only [Option.getD_some] at this
            rw [e] at this
            exact hne this
        have hord : (FloatKind.f64.format.order g g != some .eq) = true := by rw [order_val, hgn]; rfl
        have HG := Lib.hid hgr
        clear hgr hsp h2 hf
        go_wp2_with (go_at_call 18; ((with_reducible refine HG.out.mono ?_); rintro e w' ⟨rfl, rfl⟩))
        go_ret
        exact ⟨rfl, HS.out.std⟩
      · subst h2
        have hRt := HA.out.lt t h1
        have hgv : val g ≠ none := fun h => h3 ((hsp.1 h).2 _ (memof _ hRt))
        obtain ⟨s1, _, s3⟩ := hsp.2 hgv
        have l1 := s3 _ (memof _ hRt) h3
        have l2 : lessB (l.getD (R t) 0) g = false := by
          rcases s1 with h | h
          · exact absurd (h ▸ hnan) hgv
          · obtain ⟨j, hj, e⟩ := List.getElem_of_mem h
            obtain ⟨s, hs, hsj⟩ := HA.out.all j hj
            have eg : l.getD (R s) 0 = g := by rw [hsj, List.getD_eq_getElem?_getD, List.getElem?_eq_getElem hj]; exact e
            by_cases hst : s < t
            · rw [← eg]; exact HA.out.less s t hst h1
            · by_cases hts : t < s
              · exact absurd (eg ▸ h4 s hts hs) hgv
              · have : s = t := by omega
                subst this
                rw [eg]; unfold lessB; simp
        have fi := hf.cell (R t) hRt
        have LI := Lib.hid (hf.lt (R t))
        have hrt : (R t : Int) < l.length := by omega
        generalize l.getD (R t) 0 = x at *
        have hsame := fun w => same_is g x true hg64 LI.out (by rw [l1, l2]; rfl) w
        have HG := Lib.hid hgr
        have HSM := Lib.hid hsame
        clear hgr hsp hf hsame l1 l2 s1 s3 memof
        go_wp2_with (first
          | (go_at_call 18; ((with_reducible refine HG.out.mono ?_); rintro e w' ⟨rfl, rfl⟩))
          | (go_at_call 10; ((with_reducible refine (HSM.out _).mono ?_); rintro e w' ⟨rfl, rfl⟩)))
        go_ret
        exact ⟨rfl, HS.out.std⟩
end Go.Proofs.YtdjkilgcgkhcdaaDoor
