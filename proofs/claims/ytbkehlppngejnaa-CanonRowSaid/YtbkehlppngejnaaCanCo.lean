/-
  The document's Codes.
-/
import Derived.Test.YtbkehlppngejnaaCanKd
import Derived.Deep.AppendLies
namespace Go.Proofs.Ytbkehlppngejnaa
open Go.RowKit Go.Lib Cn
set_option maxRecDepth 100000
theorem infoCode : (Try.prog.info? 42).map (fun i => (i.zero, i.size, i.bytes)) = some (some (.agg #[.int .i64 0, .int .i64 0]), 2, 16) := by kernel_rfl
theorem one_code (wr : World) (a b : Int) : ∀ j u, [Value.int .i64 a, .int .i64 b][j]? = some u → (wr.alloc (.cells #[.int .i64 a, .int .i64 b] 42)).cell? ((⟨wr.heap.size, 0, Option.none⟩ : Addr).add j) = some u := fun j u hj => by
  have e1 := heap_alloc_new wr (Obj.cells #[.int .i64 a, .int .i64 b] 42)
  rw [Addr.add_lit, Nat.zero_add, cell_of_row _ _ j _ 42 (0, 0) e1]
  simpa using hj
def lenI (x : Int) : Bool := decide (0 ≤ x) && decide (x ≤ 15)
theorem nums_len15 (L : List Int) (h : ∀ i (hi : i < L.length), 0 ≤ L[i] ∧ L[i] ≤ 15) : ∃ l : List Nat, L = nums l ∧ ∀ i, l.getD i 0 ≤ 15 := by
  refine ⟨L.map Int.toNat, ?_, fun i => ?_⟩
  · refine List.ext_getElem (by simp [nums]) fun i h1 h2 => ?_
    have := h i h1
    simp [nums]; omega
  · rw [List.getD_eq_getElem?_getD, List.getElem?_map]
    by_cases hi : i < L.length
    · have := h i hi
      rw [List.getElem?_eq_getElem hi]
      simp; omega
    · rw [List.getElem?_eq_none (by omega)]; exact Nat.zero_le _
theorem nums_inj {l m : List Nat} (h : nums l = nums m) : l = m := by
  unfold nums at h
  exact List.map_inj_right (fun a b e => by omega) |>.1 h
/-- a length that is none -/
theorem not_may {L : List Int} {i : Nat} (hi : i < L.length) (h : L[i] < 0 ∨ 15 < L[i]) : ∀ l, MayC l → L ≠ nums l := fun l hl e => by
  subst e
  rw [nums_get] at h
  have := hl.le i
  generalize l.getD i 0 = x at *
  omega
theorem own_form {w : World} {B n size : Nat} {e : TypeId} {v : Value} {xs : List Value} (h : w.ownsRow B e size v n xs) : ∃ q c, v = .slice q n c := by
  rcases h.2 with ⟨rfl, h1⟩ | ⟨g', cap', cur, h1, _⟩
  · exact ⟨none, 0, by rw [h1]⟩
  · exact ⟨_, _, h1⟩
set_option maxHeartbeats 4000000 in
theorem codes_doc (L : List Int) (n : Nat) (hn : L.length = n) (p : Option Addr) (c : Nat) (w : World) (h : IntsLie w p L c) (hl : n ≤ 281474976710656) :
    Calls Try.prog 10 #[.slice p n c] w fun e w' => Below w.heap.size w w' ∧
      ((∃ l, MayC l ∧ L = nums l ∧ ∃ q d, e = .returned (.tuple #[.slice q n d, .bool true]) ∧ CodesLie w' q (codesOf l) d) ∨
        ((∀ l, MayC l → L ≠ nums l) ∧ ∃ q d, d ≤ maxLen ∧ e = .returned (.tuple #[.slice q 0 d, .bool false]))) := by
  have HI := Lib.hid h
  have zl : (n : Int) ≤ 281474976710656 := by omega
  by_cases h3 : 300 < n
  · have HN := Lib.hid (show ∀ l, MayC l → L ≠ nums l from fun l hm e => by have := hm.len; rw [e, nums_len] at hn; omega)
    have z3 : (300 : Int) < n := by omega
    clear h h3 hl hn
    go_enter Try.func10, Try.ntmps10
    go_wp2
    go_ret2
    exact ⟨Below.refl _ _, .inr ⟨HN.out, _, 0, Nat.zero_le _, rfl⟩⟩
  have z3 : (n : Int) ≤ 300 := by omega
  have H3 := Lib.hid (show n ≤ 300 by omega)
  have Hn := Lib.hid hn
  obtain ⟨i0, hi0, hz0, hz1, hz2⟩ := info_parts infoCode
  have HR0 : Hid ((w.alloc (.cells #[] 42)).ownsRow w.heap.size 42 2 (.slice (some ⟨w.heap.size, 0, none⟩) 0 0) 0 (cv (List.replicate 0 (0, 0)))) :=
    World.ownsRow_made (base := w.heap.size) (e := 42) (size := 2) w #[] 0 (Nat.le_refl _) (by decide) rfl
  have HB0 := Lib.hid ((Below.refl w.heap.size w).alloc (Nat.le_refl _) (.cells #[] 42))
  have hcap : (n : Int) ≤ c := by have := h.len; omega
  clear h h3 hl hn
  go_enter Try.func10, Try.ntmps10
  go_wp2
  go_loopw [4, 5] (fun v i wr => ∃ k : Nat, i = .int .i64 k ∧ k ≤ n ∧ Hid (∀ j (hj : j < L.length), j < k → 0 ≤ L[j] ∧ L[j] ≤ 15) ∧ Hid (wr.ownsRow w.heap.size 42 2 v k (cv (List.replicate k (0, 0)))) ∧ Hid (Below w.heap.size w wr)) (fun _ i _ => n - (RowKit.intOf i).toNat)
  case atStart => exact ⟨0, rfl, Nat.zero_le _, fun j _ hj => by omega, HR0, HB0⟩
  case round =>
    clear HR0 HB0
    obtain ⟨k, rfl, hk, HA, HR, HB⟩ := hrel
    by_cases hlt0 : k < n
    · have hlt : k < L.length := by have := Hn.out; omega
      obtain ⟨blk, off, rfl, hc⟩ := (HI.out.below HB.out).at hlt
      have cx := hc k hlt
      have HNot := Lib.hid (not_may hlt)
      have HA2 := Lib.hid (show 0 ≤ L[k] ∧ L[k] ≤ 15 → ∀ j (hj : j < L.length), j < k + 1 → 0 ≤ L[j] ∧ L[j] ≤ 15 from fun hx j hj hj2 => by
        by_cases e : j = k
        · subst e; exact hx
        · exact HA.out j hj (by omega))
      generalize L[k] = x at cx HNot HA2
      have ii : (k : Int) < n := by omega
      clear hc
      by_cases h0 : x < 0
      · have HN := Lib.hid (HNot.out (Or.inl h0))
        clear HNot HA2 HR
        go_wp2
        go_ret2
        exact ⟨HB.out, .inr ⟨HN.out, _, 0, Nat.zero_le _, rfl⟩⟩
      · have h0' : 0 ≤ x := by omega
        by_cases h1 : 15 < x
        · have HN := Lib.hid (HNot.out (Or.inr h1))
          clear HNot HA2 HR h0
          go_wp2
          go_ret2
          exact ⟨HB.out, .inr ⟨HN.out, _, 0, Nat.zero_le _, rfl⟩⟩
        · have h1' : x ≤ 15 := by omega
          have HA3 := Lib.hid (HA2.out ⟨h0', h1'⟩)
          have o1 := fun O => (HR.out).alloc (w := wr) O
          have o2 := one_code wr 0 0
          have o3 : w.heap.size ≤ (wr.alloc (.cells #[.int .i64 0, .int .i64 0] 42)).heap.size := by have := HB.out.size; simp; omega
          have HBn := Lib.hid (fun (w3 : World) (row : Option Nat) (gr : World.grownBy (wr.alloc (.cells #[.int .i64 0, .int .i64 0] 42)) w3 row) (hr : ∀ b, row = some b → w.heap.size ≤ b) => (HB.out.alloc HB.out.size (.cells #[.int .i64 0, .int .i64 0] 42)).grown gr o3 hr)
          have HLt := Lib.hid (HR.out.lt)
          clear HNot HA2 h0 h1 HB HR HA
          go_wp2_with (first
            | (at_builtin; refine wpList_append_own _ rfl _ _ 27 rfl w.heap.size 42 i0 (.agg #[.int .i64 0, .int .i64 0]) 2 16 Try.underlying27 hi0 hz0 hz1 hz2 rfl (by decide) _ k (cv (List.replicate k (0, 0))) rfl (o1 _) ⟨wr.heap.size, 0, Option.none⟩ 1 1 [.int .i64 0, .int .i64 0] rfl rfl o2 (by simp [Value.oneCell']) (by unfold maxLen; omega) (by omega) o3 ?_)
            | go_in)
          intro v1 w3 own1 gr1 nn1
          have HB3 := Lib.hid (HBn.out w3 _ gr1 (fun b hb => (HLt.out b hb).1))
          have HR3 : Hid (w3.ownsRow w.heap.size 42 2 v1 (k + 1) (cv (List.replicate (k + 1) (0, 0)))) := by
            show World.ownsRow _ _ _ _ _ _ _
            rw [List.replicate_succ', cv_append]
            exact own1
          clear own1 gr1 nn1 o1 o2 o3 HBn HLt
          go_wp2
          go_roundw
          case measure => simp [RowKit.intOf]; omega
          case rel => exact ⟨k + 1, by go_num, by omega, HA3, HR3, HB3⟩
    · have e : k = n := by omega
      subst e
      obtain ⟨q, d, rfl⟩ := own_form HR.out
      obtain ⟨l, hL, h15⟩ := nums_len15 L (fun i hi => HA.out i hi (by rw [← Hn.out]; exact hi))
      have hll : l.length = k := by rw [← Hn.out, hL, nums_len]
      have Hll := Lib.hid hll
      have HL := Lib.hid hL
      have hI2 := HI.out.below HB.out
      rw [hL] at hI2
      have hR2 := HR.out
      have h300 : l.length ≤ 300 := by have := H3.out; omega
      have hkc := kraft_doc l p c wr h300 h15 hI2
      rw [hll] at hkc
      have HE := Lib.hid (fun (m : List Nat) (hm : MayC m) (e : L = nums m) => show Hf.kraftN l ≤ 32768 by rw [hL] at e; rw [nums_inj e]; exact hm.kraft)
      clear hL HA HR hlt0 hk
      by_cases hk2 : 32768 < Hf.kraftN l
      · have HN := Lib.hid (show ∀ m, MayC m → L ≠ nums m from fun m hm e => by have := HE.out m hm e; omega)
        generalize Hf.kraftN l = K at *
        have zk : (32768 : Int) < K := by omega
        clear hk2 HE h15 hI2 hR2 hll h300
        go_wp2_with fail
        go_at_call 17
        refine hkc.mono ?_
        rintro e w4 ⟨rfl, rfl⟩
        clear hkc
        go_wp2
        go_ret2
        exact ⟨HB.out, .inr ⟨HN.out, _, 0, Nat.zero_le _, rfl⟩⟩
      · have HM : Hid (MayC l) := ⟨h300, h15, by omega⟩
        have HR1 : Hid (wr.ownsRow w.heap.size 42 2 (.slice q k d) k (cv (filled l 1 0))) := by
          show World.ownsRow _ _ _ _ _ _ _
          rw [filled_start, hll]; exact hR2
        generalize Hf.kraftN l = K at *
        have zk : (K : Int) ≤ 32768 := by omega
        have HI2 := Lib.hid hI2
        clear hk2 HE h15 hI2 hR2 hll h300
        go_wp2_with fail
        go_at_call 17
        refine hkc.mono ?_
        rintro e w4 ⟨rfl, rfl⟩
        clear hkc
        go_wp2
        go_loopw [6, 7] (fun x m wr => ∃ m0 : Nat, m = .int .i64 ((m0 : Int) + 1) ∧ m0 ≤ 15 ∧ x = .int .i64 (topC l m0 : Nat) ∧ Hid (wr.ownsRow w.heap.size 42 2 (.slice q k d) k (cv (filled l (m0 + 1) 0))) ∧ Hid (Below w.heap.size w wr)) (fun _ m _ => 16 - (RowKit.intOf m).toNat)
        case atStart => exact ⟨0, rfl, by omega, rfl, HR1, HB⟩
        case round =>
          clear HR1 HB HI2
          obtain ⟨m0, rfl, hm0, rfl, HR, HB⟩ := hrel
          by_cases hlt : m0 < 15
          · obtain ⟨n, hn⟩ : ∃ n, n = m0 + 1 := ⟨_, rfl⟩
            have en : (m0 : Int) + 1 = (n : Int) := by omega
            have HT1 := topC_le HM.out (show m0 ≤ 15 by omega)
            have HBt : Hid (Cn.base l n = 2 * topC l m0) := by rw [hn]; exact base_top l m0
            have Hbl := Lib.hid (base_le HM.out (show n ≤ 15 by omega))
            rw [← hn] at HR
            have Hm0 := Lib.hid hn
            have zn15 : (n : Int) ≤ 15 := by omega
            have zn1 : (1 : Int) ≤ n := by omega
            rw [en]
            generalize topC l m0 = x at HT1 HBt ⊢
            clear hn en hlt hm0
            have zx : (x : Int) ≤ 33068 := by omega
            clear HT1
            go_wp2
            go_loopw [6, 8] (fun y i wr => ∃ j : Nat, i = .int .i64 j ∧ j ≤ k ∧ y = .int .i64 ((Cn.base l n + cnt l n j : Nat) : Int) ∧ Hid (wr.ownsRow w.heap.size 42 2 (.slice q k d) k (cv (filled l n j))) ∧ Hid (Below w.heap.size w wr)) (fun _ i _ => k - (RowKit.intOf i).toNat)
            case atStart => exact ⟨0, rfl, Nat.zero_le _, by rw [HBt.out]; go_num, HR, HB⟩
            case round =>
              clear HR HB
              obtain ⟨j, rfl, hj, rfl, HR, HB⟩ := hrel
              by_cases hjk : j < k
              · have hjl : j < l.length := by rw [Hll.out]; exact hjk
                obtain ⟨blk, off, rfl, hc⟩ := (HI.out.below HB.out).at (i := j) (by rw [Hn.out]; exact hjk)
                have cx : wr.cell? ⟨blk, off + j, none⟩ = some (.int .i64 (l.getD j 0 : Nat)) := by
                  have h1 := hc j (by rw [Hn.out]; exact hjk)
                  have h2 := nums_get l j (by rw [nums_len]; exact hjl)
                  rw [h1]
                  simp only [HL.out]
                  rw [h2]
                have ii : (j : Int) < k := by omega
                have hcnt := cnt_le l n j
                have zb : ((Cn.base l n + cnt l n j : Nat) : Int) ≤ 33068 := by have := Hbl.out; have := H3.out; omega
                clear hc hcnt
                by_cases hy : l.getD j 0 = n
                · obtain ⟨g, rfl, hBg⟩ : ∃ g, q = some ⟨g, 0, none⟩ ∧ w.heap.size ≤ g := by
                    rcases HR.out.2 with ⟨h1, h2⟩ | ⟨g', cap', cur, h1, h2, _⟩
                    · omega
                    · cases h1; exact ⟨_, rfl, h2⟩
                  rw [hy] at cx
                  have HF := Lib.hid (filled_set l (by omega : 1 ≤ n) hjl hy)
                  have HC := Lib.hid (cnt_step l hy)
                  have f1 := HR.out.frozenAt (j * 2)
                  have f2 := HR.out.frozenAt (j * 2 + 1)
                  obtain ⟨e1, e2⟩ := cv_at (filled l n j) j (by rw [filled_length]; exact hjl)
                  have c1 := (HR.out.cellAt (j * 2) (by omega)).trans e1
                  have c2 := (HR.out.cellAt (j * 2 + 1) (by omega)).trans e2
                  have hkc : (k : Int) ≤ d := by
                    rcases HR.out.2 with ⟨h1, _⟩ | ⟨g', cap', cur, h1, _, _, h2, _⟩
                    · cases h1
                    · cases h1; omega
                  have HR2 : Hid (((wr.setCell ⟨g, j * 2, none⟩ (.int .i64 (n : Nat))).setCell ⟨g, j * 2 + 1, none⟩ (.int .i64 ((Cn.base l n + cnt l n j : Nat) : Int))).ownsRow w.heap.size 42 2 (.slice (some ⟨g, 0, none⟩) k d) k (cv (filled l n (j + 1)))) := by
                    show World.ownsRow _ _ _ _ _ _ _
                    rw [HF.out, cv_set]
                    exact ((HR.out.stored (j * 2) (.int .i64 (n : Nat))).1.stored (j * 2 + 1) (.int .i64 ((Cn.base l n + cnt l n j : Nat) : Int))).1
                  have HB2 := Lib.hid ((HB.out.setCell (p := ⟨g, j * 2, none⟩) hBg (.int .i64 (n : Nat))).setCell (p := ⟨g, j * 2 + 1, none⟩) hBg (.int .i64 ((Cn.base l n + cnt l n j : Nat) : Int)))
                  have HC2 : Hid (Cn.base l n + cnt l n (j + 1) = Cn.base l n + cnt l n j + 1) := by show _ = _; rw [HC.out]; rfl
                  generalize Cn.base l n + cnt l n j = z at *
                  obtain ⟨v', hy'⟩ := cell?_setCell_some (w := wr) (p := ⟨g, j * 2, none⟩) (x := .int .i64 (n : Nat)) (q := ⟨g, j * 2 + 1, none⟩) c2
                  clear HR HB hy HF HC e1 e2
                  go_wp2
                  go_roundw
                  case measure => simp [RowKit.intOf]; omega
                  case rel => exact ⟨j + 1, by go_num, by omega, by rw [HC2.out]; go_num, HR2, HB2⟩
                · have HF := Lib.hid (filled_not l (n := n) (i := j) hy)
                  have HC : Hid (cnt l n (j + 1) = cnt l n j) := by
                    show cnt l n j + (if _ then 1 else 0) = _
                    rw [if_neg hy]; rfl
                  generalize l.getD j 0 = y at *
                  have hyn : ((y : Int) == (n : Int)) = false := by rw [beq_eq_false_iff_ne]; omega
                  clear hy
                  go_wp2
                  go_roundw
                  case measure => simp [RowKit.intOf]; omega
                  case rel => exact ⟨j + 1, by go_num, by omega, by rw [HC.out], by rw [HF.out]; exact HR, HB⟩
              · have e : j = k := by omega
                subst e
                have HT : Hid (Cn.base l n + cnt l n j = topC l n) := by
                  unfold topC
                  show _ = _
                  rw [if_neg (by omega), Hll.out]
                have HF : Hid (filled l n j = filled l (n + 1) 0) := by
                  show _ = _
                  rw [← Hll.out]; exact filled_next l n
                rw [HT.out]
                rw [HF.out] at HR
                clear hjk HF HT
                go_wp2
                go_roundw
                case measure => have := Hm0.out; simp [RowKit.intOf]; omega
                case rel => exact ⟨n, by go_num, by omega, rfl, HR, HB⟩
          · have e : m0 = 15 := by omega
            subst e
            rw [filled_end HM.out.le] at HR
            clear hlt hm0
            go_wp2
            go_ret2
            exact ⟨HB.out, .inl ⟨l, HM.out, HL.out, q, d, rfl, codes_own HR.out (by rw [codesOf_length]; exact Hll.out)⟩⟩
end Go.Proofs.Ytbkehlppngejnaa
